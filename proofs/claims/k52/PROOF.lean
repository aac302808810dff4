import PyProof.Rows.All
import Wide.All
import OpenK.AllK
import Wide.FinOn
import Lean
import PyProof.EqAt
import PyProof.EqKinds
import PyProof.TupleCall
import PyProof.NeKinds
import KE.KUnpack
import PySem.Challenge.RW_latticeworks_k52_no_answers
set_option Elab.async false
set_option linter.all false
set_option maxRecDepth 100000
namespace L2
open PySem PySem.Spec PyProof.Rows
abbrev Key:=Sum Int Str
def GD:Key->Value->Bool
 | .inl k,v=>Value.isInt k v
 | .inr x,v=>Value.isStrOf x v
def OU(w:World):Key->Int
 | .inl k=>hashInt k
 | .inr x=>hashStr w x
theorem fb:∀ {k:Key} {v:Value},GD k v=true->(∃i t,k=Sum.inl i/\v=Value.int i t)\/(∃x t,k=Sum.inr x/\v=Value.str x t)
 | .inl i,v,h=>by
   obtain⟨t,e⟩:=Value.isInt_shape (k:=i) (v:=v) h;exact .inl ⟨i,t,rfl,e⟩
 | .inr x,v,h=>by
   obtain⟨t,e⟩:=Value.isStrOf_shape (x:=x) (v:=v) h;exact .inr ⟨x,t,rfl,e⟩
theorem L7(a b:Int):decide ((Sum.inl a:Key)=Sum.inl b)=(a==b):=by
 by_cases e:a=b
 . subst e;simp
 . have h:¬(Sum.inl a:Key)=Sum.inl b:=fun q=>e (Sum.inl.inj q);rw[decide_eq_false h];exact(beq_eq_false_iff_ne.mpr e).symm
theorem KQ(a b:Str):decide ((Sum.inr a:Key)=Sum.inr b)=decide (a=b):=by
 by_cases e:a=b
 . subst e;simp
 . have h:¬(Sum.inr a:Key)=Sum.inr b:=fun q=>e (Sum.inr.inj q);rw[decide_eq_false h,decide_eq_false e]
theorem KN(a:Int)(b:Str):decide ((Sum.inl a:Key)=Sum.inr b)=false:=decide_eq_false (fun q=>nomatch q)
theorem LV(a:Str)(b:Int):decide ((Sum.inr a:Key)=Sum.inl b)=false:=decide_eq_false (fun q=>nomatch q)
def AG(prog:Program)(w:World):PySem.KeyKind prog w Key where
 is:=GD
 hash:=OU w
 inj:=fun v a b ha hb=>by
  rcases fb ha with⟨i,t,rfl,rfl⟩|⟨x,t,rfl,rfl⟩
  . rcases fb hb with⟨j,u,rfl,e⟩|⟨y,u,rfl,e⟩
    . injection e with e1 _;rw[e1]
    . exact nomatch e
  . rcases fb hb with⟨j,u,rfl,e⟩|⟨y,u,rfl,e⟩
    . exact nomatch e
    . injection e with e1 _;rw[e1]
 byValue:=fun k v h=>by
  rcases fb h with⟨i,t,rfl,rfl⟩|⟨x,t,rfl,rfl⟩<;>rfl
 pyHash:=fun hv h=>by
  rcases fb hv with⟨i,t,rfl,rfl⟩|⟨x,t,rfl,rfl⟩
  . exact wpAny_pyHash_int h
  . exact wpAny_pyHash_str h
 eqBool:=fun hu hv h=>by
  rcases fb hu with⟨i,t,rfl,rfl⟩|⟨x,t,rfl,rfl⟩
  . rcases fb hv with⟨j,u,rfl,rfl⟩|⟨y,u,rfl,rfl⟩
    . rw[L7]at h;exact wpAny_eqBool_int h
    . rw[KN]at h;exact SeqAt.EqAt.int_str i t y u _ _ _ _ h
  . rcases fb hv with⟨j,u,rfl,rfl⟩|⟨y,u,rfl,rfl⟩
    . rw[LV]at h;exact SeqAt.EqAt.str_int x t j u _ _ _ _ h
    . rw[KQ]at h;exact wpAny_eqBool_str h
 «strs» :=fun k x t v h=>by
  rcases fb h with⟨i,u,rfl,e⟩|⟨y,u,rfl,e⟩
  . exact nomatch e
  . injection e with e1 _;subst e1;cases v<;>rfl
inductive V where
 |aK|bl (b:Bool)|int (i:Int)|str (x:Str)|tV (b:Array UInt8)|tM (b:UInt64)|ref (a:Addr)|ty (n:String)
 deriving DecidableEq
def RelV:V->Value->Prop
 | .aK,u=>u=Value.none
 | .bl b,u=>u=Value.bool b
 | .int i,u=>∃t,u=Value.int i t
 | .str x,u=>∃t,u=Value.str x t
 | .tV b,u=>∃t,u=Value.bytes b t
 | .tM b,u=>∃t,u=Value.float b t
 | .ref a,u=>u=Value.ref a
 | .ty n,u=>u=Value.type n
abbrev Vals:List V->List Value->Prop:=Paired RelV
theorem Vals.length{xs:List V}{us:List Value}(r:Vals xs us):xs.length=us.length:=Paired.length r
theorem Vals.get:∀ {xs:List V} {us:List Value} {i:Nat} {x:V},Vals xs us->xs[i]?=some x->∃u,us[i]?=some u/\RelV x u
 |_,_,_,_,.nil,e=>by simp at e
 |_,_,0,_,.cons r _,e=>by simp at e;subst e;exact⟨_,rfl,r⟩
 |_,_,i+1,x,.cons _ t,e=>by
  obtain⟨u,h1,h2⟩:=Vals.get (i:=i) (x:=x) t (by simpa using e);exact⟨u,by simpa using h1,h2⟩
theorem Vals.set{x:V}{u:Value}(r:RelV x u):∀ {xs:List V} {us:List Value} (i:Nat),Vals xs us->Vals (xs.set i x) (us.set i u)
 |_,_,_,.nil=> .nil
 |_,_,0,.cons _ t=> .cons r t
 |_,_,i+1,.cons q t=> .cons q (Vals.set r i t)
theorem Vals.append:∀ {xs ys:List V} {us ws:List Value},Vals xs us->Vals ys ws->Vals (xs++ys) (us++ws)
 |_,_,_,_,.nil,s=>s
 |_,_,_,_,.cons r t,s=> .cons r (Vals.append t s)
theorem Vals.take:∀ {xs:List V} {us:List Value} (n:Nat),Vals xs us->Vals (xs.take n) (us.take n)
 |_,_,0,_=> .nil
 |_,_,_+1,.nil=> .nil
 |_,_,n+1,.cons r t=> .cons r (Vals.take n t)
theorem Vals.drop:∀ {xs:List V} {us:List Value} (n:Nat),Vals xs us->Vals (xs.drop n) (us.drop n)
 |_,_,0,r=>r
 |_,_,_+1,.nil=> .nil
 |_,_,n+1,.cons _ t=>Vals.drop n t
def o8:Option V->Option Value->Prop
 |some v,some u=>RelV v u
 |none,none=>True
 |_,_=>False
def KV{κ:Type}:List (κ×V)->List (κ×Value)->Prop:=Paired fun(p:κ×V) (q:κ×Value)=>p.1=q.1/\RelV p.2 q.2
def kV:Key->V
 | .inl i=> .int i
 | .inr x=> .str x
inductive HO where
 |lst (xs:List V)
 |tup (xs:List V)
 |dK (kvs:List (Key×V))|dT (kvs:List (List Key×V))
 |set (S:Int->Bool) (n:Nat)
 |ins (C dx:Addr) (fs:List (Str×V))
 |own (x:Addr)
 |xd (fs:List (Str×V))
 |met (f x:Addr)
 |KW (lo hi:Int)
 |et (o:Obj) (u:HO)
 |j7 (ps:Array Value)
 |ext (φ:Heap->Prop)
abbrev Hp:=Addr->Option HO
def upd(H:Hp)(a:Addr)(o:HO):Hp:=fun b=>if b=a then some o else H b
theorem aX{H:Hp}{a:Addr}{o:HO}:upd H a o a=some o:=by unfold upd;rw[if_pos rfl]
theorem aA{H:Hp}{a b:Addr}{o:HO}(h:b≠a):upd H a o b=H b:=by unfold upd;rw[if_neg h]
theorem Ji{H:Hp}{a:Addr}{o u:HO}:upd (upd H a o) a u=upd H a u:=by
 funext b;unfold upd;split<;>rfl
theorem dE{H:Hp}{a b:Addr}{o:HO}(h:H a=some o)(h':H b=none):a≠b:=by
 intro e;subst e;rw[h]at h';cases h'
section
variable (P:Program)(w:World)
def dz(H:Hp)(h:Heap)(a:Addr):HO->Prop
 | .lst xs=>xs.length<=sizeLine/\∃(aq:List Value) (n:Nat),Vals xs aq/\h.get? a=some {cls:= .type "list",data:= .seq aq.toArray n}
 | .tup xs=>xs.length<=sizeLine/\∃aq:List Value,Vals xs aq/\IsTup h a aq.toArray
 | .dK kvs=>kvs.length<=sizeLine/\(a==sysModules)=false/\∃vs,KV kvs vs/\h.DictOf (AG P w) a vs
 | .dT kvs=>kvs.length<=sizeLine/\(a==sysModules)=false/\∃xs:List (List Key×Addr×Value),
    Paired (fun(p:List Key×V) (q:List Key×Addr×Value)=>p.1=q.1/\H q.2.1=some (.tup (p.1.map kV))/\RelV p.2 q.2.2) kvs xs/\
    ∃o es ep,h.get? a=some o/\o.ExactDict/\o.data= .dict es ep/\es.toList=xs.map (entryOfKey (tupleKind (AG P w)))/\(xs.map (·.1)).Nodup
 | .set S n=>h.SetOf (intKind P w) a S n
 | .ins C dx fs=>H dx=some (.own a)/\fs.length<=1000/\dx≠a/\h.get? a=some (PySem.W.instObj C dx)/\
    ∃mA,h.Ns1 dx mA/\(∀f,o8 (fs.lookup f) (mA f))/\PySem.Within mA (fs.map (·.1))
 | .own _=>∃o,h.get? a=some o
 | .xd fs=>∃mA,h.Ns1 a mA/\∀f,o8 (fs.lookup f) (mA f)
 | .KW lo hi=>∃t u v,h.get? a=some {cls:= .type "range",data:= .fields #[.int lo t,.int hi u,.int 1 v]}
 | .et o u=>h.get? a=some o/\dz H h a u
 | .j7 ps=>h.get? a=some {cls:= .none,data:= .fields ps}
 | .met f x=>h.get? a=some (PySem.W.methodObj (.ref f) (.ref x))
 | .ext φ=>φ h/\(∃o,h.get? a=some o)/\∀h1 h2:Heap,φ h1->(∀o,h1.get? a=some o->h2.get? a=some o)->φ h2
def g7(H:Hp)(h:Heap):Prop:=∀a o,H a=some o->dz P w H h a o
end
section
variable {P:Program}{w:World}{H H':Hp}{h h':Heap}{a:Addr}{o:HO}
theorem dz.lt(x:dz P w H h a o):a<h.objs.size:=by
 cases o with
 |lst xs=>obtain⟨_,_,_,_,e⟩:=x;exact Heap.lt_size e
 |tup xs=>obtain⟨_,_,_,p⟩:=x;exact p.lt
 |dK kvs=>obtain⟨_,_,_,_,o,_,_,e,_⟩:=x;exact Heap.lt_size e
 |dT kvs=>obtain⟨_,_,_,_,o,_,_,e,_⟩:=x;exact Heap.lt_size e
 |set S n=>obtain⟨o,_,_,_,e,_⟩:=x;exact Heap.lt_size e
 |ins C dx fs=>obtain⟨_,_,_,e,_⟩:=x;exact Heap.lt_size e
 |own y=>obtain⟨_,e⟩:=x;exact Heap.lt_size e
 |xd fs=>obtain⟨_,⟨_,_,_,e,_⟩,_⟩:=x;exact Heap.lt_size e
 |KW lo hi=>obtain⟨_,_,_,e⟩:=x;exact Heap.lt_size e
 |et ob u=>obtain⟨e,_⟩:=x;exact Heap.lt_size e
 |j7 ps=>exact Heap.lt_size (show h.get? a=some _ from x)
 |met f y=>exact Heap.lt_size (show h.get? a=some _ from x)
 |ext φ=>obtain⟨_,⟨_,e⟩,_⟩:=x;exact Heap.lt_size e
theorem Paired.E7{α β:Type}{F G:α->β->Prop}:∀ {l₁:List α} {l₂:List β},Paired F l₁ l₂->(∀a b,F a b->G a b)->Paired G l₁ l₂
 |_,_,.nil,_=> .nil
 |_,_,.cons r t,f=> .cons (f _ _ r) (Paired.E7 t f)
theorem dz.o6(x:dz P w H h a o)(k:∀b u,(b=a\/H b=some (.own a))->h.get? b=some u->h'.get? b=some u)
 (ho:∀b,H b=some (.own a)->H' b=some (.own a)) (ht:∀b xs,H b=some (.tup xs)->H' b=some (.tup xs)):dz P w H' h' a o:=by
 induction o with
 |lst xs=>obtain⟨z,aq,n,r,e⟩:=x;exact⟨z,aq,n,r,k _ _ (.inl rfl) e⟩
 |tup xs=>obtain⟨z,aq,r,ob,e,c⟩:=x;exact⟨z,aq,r,ob,k _ _ (.inl rfl) e,c⟩
 |dK kvs=>obtain⟨z,y,vs,r,ob,es,ep,e,c⟩:=x;exact⟨z,y,vs,r,ob,es,ep,k _ _ (.inl rfl) e,c⟩
 |dT kvs=>
  obtain⟨z,y,xs,r,ob,es,ep,e,c⟩:=x;exact⟨z,y,xs,Paired.E7 r fun p q z=>⟨z.1,ht _ _ z.2.1,z.2.2⟩,ob,es,ep,k _ _ (.inl rfl) e,c⟩
 |set S n=>obtain⟨ob,es,ep,t,e,c⟩:=x;exact⟨ob,es,ep,t,k _ _ (.inl rfl) e,c⟩
 |ins C dx fs=>
  obtain⟨d,z,ne,e,mA,⟨od,es,ep,e2,c⟩,r⟩:=x;exact⟨ho _ d,z,ne,k _ _ (.inl rfl) e,mA,⟨od,es,ep,k _ _ (.inr d) e2,c⟩,r⟩
 |own y=>obtain⟨ob,e⟩:=x;exact⟨ob,k _ _ (.inl rfl) e⟩
 |xd fs=>obtain⟨mA,⟨od,es,ep,e,c⟩,r⟩:=x;exact⟨mA,⟨od,es,ep,k _ _ (.inl rfl) e,c⟩,r⟩
 |KW lo hi=>obtain⟨t,u,v,e⟩:=x;exact⟨t,u,v,k _ _ (.inl rfl) e⟩
 |et ob u ih=>obtain⟨e,q⟩:=x;exact⟨k _ _ (.inl rfl) e,ih q⟩
 |j7 ps=>
  have e:h.get? a=some {cls:= .none,data:= .fields ps}:=x;show h'.get? a=some {cls:= .none,data:= .fields ps};exact k a _ (.inl rfl) e
 |met f y=>
  have e:h.get? a=some (PySem.W.methodObj (.ref f) (.ref y)):=x;show h'.get? a=some (PySem.W.methodObj (.ref f) (.ref y));exact k a _ (.inl rfl) e
 |ext φ=>obtain⟨p,⟨o,e⟩,st⟩:=x;exact⟨st _ _ p fun o q=>k _ _ (.inl rfl) q,⟨o,k _ _ (.inl rfl) e⟩,st⟩
theorem g7.lt(x:g7 P w H h)(e:H a=some o):a<h.objs.size:=(x a o e).lt
theorem g7.fresh(x:g7 P w H h)(e:h.objs.size<=a):H a=none:=by
 cases q:H a with
 |none=>rfl
 |some u=>exact absurd (Nat.lt_of_lt_of_le (x.lt q) e) (Nat.lt_irrefl _)
theorem g7.kept(x:g7 P w H h)(k:∀b u,h.get? b=some u->h'.get? b=some u):g7 P w H h':=fun a o e=>
 (x a o e).o6 (fun b u _ q=>k b u q) (fun _ q=>q) fun _ _ q=>q
theorem g7.laid(x:g7 P w H h)(k:∀b u,h.get? b=some u->h'.get? b=some u)(hp:h.objs.size<=a)(new:dz P w (upd H a o) h' a o):g7 P w (upd H a o) h':=fun b u e=>by
 have hn:=x.fresh hp;by_cases hb:b=a
 . subst hb;rw[aX]at e;cases e;exact new
 . rw[aA hb]at e;exact(x b u e).o6 (fun c v _ q=>k c v q) (fun c q=>by rw[aA (dE q hn)];exact q) fun c xs q=>by rw[aA (dE q hn)];exact q
end
def Rd(H:Hp)(a:Addr)(u:HO):Prop:=H a=some u\/∃o,H a=some (.et o u)
theorem Rd.of{H:Hp}{a:Addr}{u:HO}(h:H a=some u):Rd H a u:= .inl h
theorem Rd.ok{P:Program}{w:World}{H:Hp}{h:Heap}{a:Addr}{u:HO}(r:Rd H a u)(x:g7 P w H h):dz P w H h a u:=by
 rcases r with r|⟨o,r⟩
 . exact x a u r
 . obtain⟨_,q⟩:=x a _ r;exact q
def G8:Option HO->Prop
 |some (.lst _)=>True
 |some (.dK _)=>True
 |some (.dT _)=>True
 |some (.set _ _)=>True
 |some (.ins _ _ _)=>True
 |some (.ext _)=>True
 |_=>False
section
variable {P:Program}{w:World}{H:Hp}{h h':Heap}{x e:Addr}{o':HO}
theorem g7.write(ok:g7 P w H h)(mu:G8 (H x))(he:e=x\/H e=some (.own x))(k:∀b u,b≠e->h.get? b=some u->h'.get? b=some u)(heo:∃u,h'.get? e=some u)
 (new:dz P w (upd H x o') h' x o'):g7 P w (upd H x o') h':=fun b u q=>by
 have nown:∀c y,H c=some (.own y)->c≠x:=fun c y r z=>by subst z;rw[r]at mu;exact mu
 have ntup:∀c xs,H c=some (.tup xs)->c≠x:=fun c xs r z=>by subst z;rw[r]at mu;exact mu
 by_cases hb:b=x
 . subst hb;rw[aX]at q;cases q;exact new
 . rw[aA hb]at q;by_cases hbe:b=e
   . have q':H b=some (.own x):=by
      rcases he with z|z
      . exact absurd (hbe.trans z) hb
      . rw[hbe];exact z
     rw[q]at q';cases q';obtain⟨v,hv⟩:=heo;exact⟨v,by rw[hbe];exact hv⟩
   . refine(ok b u q).o6 (fun c v hc r=>k c v ?_ r) (fun c r=>by rw[aA (nown c b r)];exact r) fun c xs r=>by rw[aA (ntup c xs r)];exact r
     rcases hc with rfl|hc
     . exact hbe
     . rintro rfl;rcases he with z|z
       . exact nown c b hc z
       . rw[hc]at z;cases z;exact hb rfl
end
structure Un(fs ex:List Addr)(H H':Hp)(h h':Heap):Prop where
 keep:∀b o,h.get? b=some o->H b=none->b∉fs->b∉ex->h'.get? b=some o
 slot:∀b o,h.get? b=some o->H b=none->b∈fs->b∉ex->∃sl,h'.get? b=some {o with slots:=sl}
 free:∀b o,h.get? b=some o->H b=none->b∉ex->H' b=none
 there:∀b o,h.get? b=some o->b∉ex->∃o',h'.get? b=some o'
 oS:∀b xs,H b=some (.tup xs)->H' b=some (.tup xs)
 nX:∀b o u,H b=some (.et o u)->H' b=some (.et o u)
 nR:∀b ps,H b=some (.j7 ps)->∃more,H' b=some (.j7 (ps++more))
section
variable {fs fs' ex ex':List Addr}{H H1 H2:Hp}{h h1 h2 h':Heap}{a x e:Addr}{o:HO}
theorem Un.any(u:Un fs ex H H1 h h1){b:Addr}{ob:Obj}(q:h.get? b=some ob)(n:H b=none)(hx:b∉ex):∃sl,h1.get? b=some {ob with slots:=sl}:=by
 by_cases hb:b∈fs
 . exact u.slot b ob q n hb hx
 . exact⟨ob.slots,u.keep b ob q n hb hx⟩
theorem Un.kept(k:∀b u,h.get? b=some u->h'.get? b=some u):Un fs ex H H h h':=
 ⟨fun b ob q _ _ _=>k b ob q,fun b ob q _ _ _=>⟨ob.slots,k b ob q⟩,fun _ _ _ n _=>n,fun b ob q _=>⟨ob,k b ob q⟩,fun _ _ q=>q,fun _ _ _ q=>q,fun _ ps q=>⟨#[],by rw[q];simp⟩⟩
theorem Un.refl:Un fs ex H H h h:=Un.kept fun _ _ q=>q
theorem Un.laid(k:∀b u,h.get? b=some u->h'.get? b=some u)(hp:h.objs.size<=a)(hn:H a=none):Un fs ex H (upd H a o) h h' where
 keep:=fun b u q _ _ _=>k b u q
 slot:=fun b u q _ _ _=>⟨u.slots,k b u q⟩
 free:=fun b u q n _=>by rw[aA (Nat.ne_of_lt (Nat.lt_of_lt_of_le (Heap.lt_size q) hp))];exact n
 there:=fun b u q _=>⟨u,k b u q⟩
 oS:=fun b xs q=>by rw[aA (dE q hn)];exact q
 nX:=fun b u xs q=>by rw[aA (dE q hn)];exact q
 nR:=fun b ps q=>⟨#[],by rw[aA (dE q hn),q];simp⟩
theorem Un.write(mu:G8 (H x))(he:e=x\/H e=some (.own x))(k:∀b u,b≠e->h.get? b=some u->h'.get? b=some u)(heo:∃u,h'.get? e=some u):Un fs ex H (upd H x o) h h':=by
 have hx:∀b,H b=none->b≠x:=fun b n z=>by subst z;rw[n]at mu;exact mu
 have hb:∀b,H b=none->b≠e:=fun b n z=>by
  subst z;rcases he with r|r
  . exact hx b n r
  . rw[n]at r;cases r
 have hm:∀b u,H b=some u->¬G8 (some u)->b≠x:=fun b u q nm z=>by subst z;rw[q]at mu;exact nm mu
 refine⟨fun b u q n _ _=>k b u (hb b n) q,fun b u q n _ _=>⟨u.slots,k b u (hb b n) q⟩,fun b u q n _=>by rw[aA (hx b n)];exact n,fun b u q _=>?_,
  fun b xs q=>by rw[aA (hm b _ q fun z=>z)];exact q,fun b u xs q=>by rw[aA (hm b _ q fun z=>z)];exact q,fun b ps q=>⟨#[],by rw[aA (hm b _ q fun z=>z),q];simp⟩⟩
 by_cases hbe:b=e
 . subst hbe;exact heo
 . exact⟨u,k b u hbe q⟩
end
def GF(h:Heap)(H:Hp):List Addr:=(List.range h.objs.size).filter fun a=>(H a).isSome
def oX(h:Heap)(H:Hp):Heap:=PySem.W.hideAll h (GF h H)
theorem DQ(h:Heap)(H:Hp):(oX h H).objs.size=h.objs.size:=PySem.W.hideAll_size _ _
theorem qJ{h:Heap}{H:Hp}{b:Addr}{o:Obj}(e:h.get? b=some o)(n:H b=none):(oX h H).get? b=some o:=
 PySem.W.hideAll_get _ e fun hm=>by
  have q:(H b).isSome=true:=(List.mem_filter.mp hm).2;rw[n]at q;simp at q
theorem IE{h:Heap}{H:Hp}{b:Addr}{o:Obj}(e:(oX h H).get? b=some o):h.get? b=some o/\H b=none:=by
 have e':h.get? b=some o:=PySem.W.of_hideAll (GF h H) e;refine⟨e',?_⟩;cases q:H b with
 |none=>rfl
 |some x=>
  have hm:b∈GF h H:=List.mem_filter.mpr ⟨List.mem_range.mpr (Heap.lt_size e'),by simp[q]⟩;have z:(oX h H).get? b=none:=PySem.W.hideAll_none (GF h H) hm;rw[z]at e;cases e
def Iv(g h:Heap)(L:Addr):List (Addr×Obj):=(List.range h.objs.size).filterMap fun a=>if a=L\/(g.get? a).isSome=true then none else(h.get? a).map fun o=>(a,o)
def rest(g h:Heap)(L d:Addr):List (Addr×Obj):=(Iv g h L).filter fun p=>decide (p.1≠d)
structure Mod(K:PySem.W.Frag)(mg:Str->Option Value)(base:Heap):Prop where
 Ee:K.In base
 glob:base.Ns mainGlobals mg
 blt:∃mb,base.Ns builtinsNs mb/\∀x:Str,x≠"__name__"->mb x=bootBuiltins x
 nolimit:base.NoLimit
 seer:base.NoSeer
 bmain:∃bm ob,mg "__builtins__"=some (.ref bm)/\bm≠builtinsNs/\base.get? bm=some ob/\ob.cls= .type "module"/\ob.dict=some builtinsNs/\ob.data= .plain
structure Cx where
 prog:Program
 w:World
 K:PySem.W.Frag
 mg:Str->Option Value
 base:Heap
 A:Around
 N:List Str
 s₀:Shared
 H₀:Hp
 env:Env
 outer:List Env
 stack:List Env
 ex:List Addr
 fn:Str->Bool
 calm:Bool
 pn:List (Addr×Obj)
 xe:Value->Shared->Prop
def pK(l:List Env):List Addr:=l.filterMap (·.frame)
abbrev Cx.fs(X:Cx):List Addr:=pK X.outer
def zd(sc:Scope)(x:Str):Prop:=sc.names.lookup x=some .local\/sc.names.lookup x=some .cell\/sc.names.lookup x=some .free
def Loc(sc:Scope)(x:Str):Prop:=sc.names.lookup x=some .local\/sc.names.lookup x=some .cell
def Look(env:Env)(h:Heap)(m:Str->Option Value)(x:Str)(u:Value):Prop:=
 (env.kindOf x=some .local/\m x=some u)\/((env.kindOf x=some .cell\/env.kindOf x=some .free)/\∃c,env.cells.lookup x=some c/\h.IsCell c (some u))
structure Cx.Ok(X:Cx):Prop where
 mod:Mod X.K X.mg X.base
 kind:X.env.scope.kind= .function
 glob:X.env.globals=mainGlobals
 blt:X.env.builtins=builtinsNs
 above:X.s₀.heap.objs.size<=X.env.locals
 inj:∀x y c,X.env.cells.lookup x=some c->X.env.cells.lookup y=some c->x=y
 has:∀x,(X.env.kindOf x=some .cell\/X.env.kindOf x=some .free)->∃c,X.env.cells.lookup x=some c
 yX:∀x c,X.fn x=true->X.env.cells.lookup x=some c->X.s₀.heap.objs.size<=c
 hd:X.calm=true->X.A.handled=none
 frames:X.A.frames=some X.stack
 AW:X.stack=X.outer\/(X.stack=X.env::X.outer/\X.env.frame=some X.env.locals)
 Ey:∀b∈X.ex,b≠X.env.locals/\∀x c,X.env.cells.lookup x=some c->c≠b
 bs:∀b o,X.base.get? b=some o->X.s₀.heap.get? b=some o/\X.H₀ b=none
 sj:X.base.objs.size<=X.s₀.heap.objs.size
 ur:∀b o,X.base.get? b=some o->b∉X.ex
 uh:∀b∈X.ex,b∉X.fs
 ka:X.s₀.heap.FunFrames X.base X.outer
 uR:∀b∈X.fs,X.H₀ b=none
 gt:X.prog.given.tree=none
structure Inv(X:Cx)(pins:List (Addr×Obj))(σ:List (Option V))(H:Hp)(s:Shared):Prop where
 ok:X.Ok
 os:s.os=X.s₀.os
 bare:AllBare s.gens
 base:Un X.fs X.ex X.H₀ H X.s₀.heap s.heap
 loc:∃m,s.heap.Ns X.env.locals m/\∀(i:Nat) (x:Str) (v:V),X.N[i]?=some x->σ[i]?=some (some v)->zd X.env.scope x->∃u,RelV v u/\Look X.env s.heap m x u
 cell:∀x c,X.env.cells.lookup x=some c->∃v,s.heap.IsCell c v
 free:H X.env.locals=none
 ix:∀x c,X.env.cells.lookup x=some c->H c=none
 pin:∀p∈X.pn++pins,s.heap.get? p.1=some p.2/\H p.1=none/\p.1≠X.env.locals/\p.1∉X.fs/\∀v,p.2.data≠ .cell v
 aM:g7 X.prog X.w H s.heap
 len:σ.length=X.N.length
section
variable {X:Cx}{pins:List (Addr×Obj)}{σ:List (Option V)}{H H':Hp}{s:Shared}{h':Heap}
theorem Cx.Ok.Oj(ok:X.Ok){b:Addr}{o:Obj}(e:X.base.get? b=some o):b∉X.fs:=fun hb=>by
 have:=(ok.ka.mem hb).1;rw[e]at this;cases this
theorem Inv.bs(I:Inv X pins σ H s):∀b o,X.base.get? b=some o->s.heap.get? b=some o/\H b=none:=fun b o e=>
 ⟨I.base.keep b o (I.ok.bs b o e).1 (I.ok.bs b o e).2 (I.ok.Oj e) (I.ok.ur b o e),I.base.free b o (I.ok.bs b o e).1 (I.ok.bs b o e).2 (I.ok.ur b o e)⟩
theorem Inv.bk(I:Inv X pins σ H s):∀b o,X.base.get? b=some o->s.heap.get? b=some o:=fun b o e=>(I.bs b o e).1
theorem Inv.mod(I:Inv X pins σ H s):Mod X.K X.mg X.base:=I.ok.mod
theorem Inv.gI(I:Inv X pins σ H s):X.K.In s.heap:=I.ok.mod.Ee.keeps I.bk
theorem Inv.nolimit(I:Inv X pins σ H s):s.heap.NoLimit:=I.ok.mod.nolimit.keeps I.bk
theorem Inv.lt(I:Inv X pins σ H s):X.env.locals<s.heap.objs.size:=let⟨_,hn,_⟩:=I.loc;hn.lt
theorem Inv.sz(I:Inv X pins σ H s):X.s₀.heap.objs.size<=s.heap.objs.size:=Nat.le_trans I.ok.above (Nat.le_of_lt I.lt)
theorem Inv.Mh(I:Inv X pins σ H s){a:Addr}(h:s.heap.objs.size<=a):a∉X.fs:=fun hb=>by
 obtain⟨_,o,ho,_⟩:=I.ok.ka.mem hb;exact absurd (Nat.lt_of_lt_of_le (Heap.lt_size ho) (Nat.le_trans I.sz h)) (Nat.lt_irrefl _)
theorem Inv.z9(I:Inv X pins σ H s):∀x c,X.env.cells.lookup x=some c->c≠X.env.locals:=fun x c e z=>by
 obtain⟨v,o,ho,hd⟩:=I.cell x c e;obtain⟨m,⟨o',es,ep,ho',hd',_⟩,_⟩:=I.loc;rw[z,ho']at ho;cases ho;rw[hd']at hd;cases hd
theorem Inv.ka(I:Inv X pins σ H s):s.heap.FunFrames X.base X.outer:=by
 have all:∀(l:List Env),(∀b∈pK l,b∈X.fs)->X.s₀.heap.FunFrames X.base l->s.heap.FunFrames X.base l:=by
  intro l;induction l with
  |nil=>intro _ _;trivial
  |cons env r ih=>
   intro hs hl;obtain⟨hk,⟨L,o,hf,hn,ho,hd⟩,hr⟩:=hl;have hL:L∈X.fs:=hs L (by unfold pK;rw[List.filterMap_cons,hf];exact List.mem_cons_self);obtain⟨sl,e⟩:=I.base.slot L o ho (I.ok.uR L hL) hL fun z=>I.ok.uh L z hL;exact⟨hk,⟨L,_,hf,hn,e,hd⟩,ih (fun b hb=>hs b (by unfold pK;rw[List.filterMap_cons,hf];exact List.mem_cons_of_mem _ hb)) hr⟩
 exact all X.outer (fun _ hb=>hb) I.ok.ka
theorem Inv.stack(I:Inv X pins σ H s):s.heap.FunFrames X.base X.stack:=by
 rcases I.ok.AW with e|⟨e,hf⟩
 . rw[e];exact I.ka
 . rw[e];obtain⟨m,hn,_⟩:=I.loc;refine .cons (by rw[I.ok.kind];decide) hf hn ?_ I.ka;exact Heap.get?_none_of_le (Nat.le_trans I.ok.sj I.ok.above)
theorem Inv.yT(I:Inv X pins σ H s):∀b∈pK X.stack,b∈X.env.locals::X.fs:=fun b hb=>by
 rcases I.ok.AW with e|⟨e,hf⟩
 . rw[e]at hb;exact List.mem_cons_of_mem _ hb
 . rw[e]at hb;unfold pK at hb;rw[List.filterMap_cons,hf]at hb;exact hb
theorem Inv.wg(I:Inv X pins σ H s):∀b∈pK X.stack,H b=none:=fun b hb=>by
 rcases List.mem_cons.mp (I.yT b hb)with e|hb
 . rw[e];exact I.free
 . obtain⟨_,o,ho,_⟩:=I.ok.ka.mem hb;exact I.base.free b o ho (I.ok.uR b hb) fun z=>I.ok.uh b z hb
theorem Inv.step{g':Array GenState}{t':Nat}{d':Drawn}{ch:List Addr}(I:Inv X pins σ H s)
 (hch:∀b∈ch,(b∈X.ex\/X.s₀.heap.objs.size<=b)/\b≠X.env.locals/\(∀x c,X.env.cells.lookup x=some c->c≠b)/\∀p∈X.pn++pins,p.1≠b)
 (keep:∀b o,b≠X.env.locals->b∉X.fs->b∉ch->s.heap.get? b=some o->H b=none->h'.get? b=some o)
 (slot:∀b o,b≠X.env.locals->b∈X.fs->b∉ch->s.heap.get? b=some o->H b=none->∃sl,h'.get? b=some {o with slots:=sl}) (free:∀b o,b∉ch->s.heap.get? b=some o->H b=none->H' b=none)
 (there:∀b o,b∉ch->s.heap.get? b=some o->∃o',h'.get? b=some o')
 (oS:∀b xs,H b=some (.tup xs)->H' b=some (.tup xs)) (nX:∀b o u,H b=some (.et o u)->H' b=some (.et o u)) (nR:∀b ps,H b=some (.j7 ps)->∃more,H' b=some (.j7 (ps++more)))
 (ns:∀m,s.heap.Ns X.env.locals m->h'.Ns X.env.locals m) (aM:g7 X.prog X.w H' h') (hg:AllBare g'):
 Inv X pins σ H' {s with heap:=h',gens:=g',drawn:=d',toks:=t'}:=by
 have neL:∀b o,X.s₀.heap.get? b=some o->b≠X.env.locals:=fun b o e=>Nat.ne_of_lt (Nat.lt_of_lt_of_le (Heap.lt_size e) I.ok.above)
 have neC:∀b o,X.s₀.heap.get? b=some o->b∉X.ex->b∉ch:=fun b o e hx hb=>by
  rcases(hch b hb).1 with z|z
  . exact hx z
  . exact absurd (Nat.lt_of_lt_of_le (Heap.lt_size e) z) (Nat.lt_irrefl _)
 have cellK:∀x c,X.env.cells.lookup x=some c->∀v,s.heap.IsCell c v->h'.IsCell c v:=fun x c e v ⟨o,ho,hd⟩=>by
  have nch:c∉ch:=fun z=>(hch c z).2.2.1 x c e rfl;by_cases hc:c∈X.fs
  . obtain⟨sl,q⟩:=slot c o (I.z9 x c e) hc nch ho (I.ix x c e);exact⟨_,q,hd⟩
  . exact⟨o,keep c o (I.z9 x c e) hc nch ho (I.ix x c e),hd⟩
 refine⟨I.ok,I.os,hg,⟨fun b o e n hb hx=>?_,fun b o e n hb hx=>?_,fun b o e n hx=>?_,fun b o e hx=>?_,fun b xs e=>oS b xs (I.base.oS b xs e),fun b o xs e=>nX b o xs (I.base.nX b o xs e),fun b ps e=>?_⟩,?_,fun x c e=>?_,?_,fun x c e=>?_,fun p hp=>?_,aM,I.len⟩
 . exact keep b o (neL b o e) hb (neC b o e hx) (I.base.keep b o e n hb hx) (I.base.free b o e n hx)
 . obtain⟨sl,e1⟩:=I.base.slot b o e n hb hx;obtain⟨sl',e2⟩:=slot b _ (neL b o e) hb (neC b o e hx) e1 (I.base.free b o e n hx);exact⟨sl',e2⟩
 . obtain⟨o',e1⟩:=I.base.there b o e hx;exact free b o' (neC b o e hx) e1 (I.base.free b o e n hx)
 . obtain⟨o',e1⟩:=I.base.there b o e hx;exact there b o' (neC b o e hx) e1
 . obtain⟨m1,e1⟩:=I.base.nR b ps e;obtain⟨m2,e2⟩:=nR b _ e1;exact⟨m1++m2,by rw[e2,Array.append_assoc]⟩
 . obtain⟨m,hn,hl⟩:=I.loc;refine⟨m,ns m hn,fun i x v e1 e2 e3=>?_⟩;obtain⟨u,r,l⟩:=hl i x v e1 e2 e3;refine⟨u,r,?_⟩;rcases l with l|⟨k,c,e,z⟩
   . exact .inl l
   . exact .inr ⟨k,c,e,cellK x c e _ z⟩
 . obtain⟨v,z⟩:=I.cell x c e;exact⟨v,cellK x c e v z⟩
 . obtain⟨m,⟨o,_,_,ho,_⟩,_⟩:=I.loc;exact free _ o (fun z=>(hch _ z).2.1 rfl) ho I.free
 . obtain⟨v,o,ho,hd⟩:=I.cell x c e;exact free c o (fun z=>(hch c z).2.2.1 x c e rfl) ho (I.ix x c e)
 . obtain⟨e,n,ne,nf,d⟩:=I.pin p hp;have nch:p.1∉ch:=fun z=>(hch p.1 z).2.2.2 p hp rfl;exact⟨keep p.1 p.2 ne nf nch e n,free p.1 p.2 nch e n,ne,nf,d⟩
theorem Inv.un{t':Nat}(I:Inv X pins σ H s)(u:Un X.fs [] H H' s.heap h')(aM:g7 X.prog X.w H' h'):Inv X pins σ H' {s with heap:=h',toks:=t'}:=by
 obtain⟨m,⟨o,es,ep,ho,r⟩,_⟩:=id I.loc;obtain⟨sl,hL⟩:=u.any ho I.free (by simp)
 exact I.step (g':=s.gens) (d':=s.drawn) (ch:=[]) (fun _ z=>nomatch z) (fun b o _ hb _ e n=>u.keep b o e n hb (by simp)) (fun b o _ hb _ e n=>u.slot b o e n hb (by simp)) (fun b o _ e n=>u.free b o e n (by simp)) (fun b o _ e=>u.there b o e (by simp)) u.oS u.nX u.nR (fun m' hm=>by
  obtain⟨o',es',ep',ho',r'⟩:=hm;rw[ho]at ho';cases ho';exact⟨_,es',ep',hL,r'⟩) aM I.bare
theorem Inv.call{g':Array GenState}{t':Nat}{d':Drawn}{ch:List Addr}(I:Inv X pins σ H s)(u:Un (pK X.stack) ch H H' s.heap h')(aM:g7 X.prog X.w H' h')(hg:AllBare g')
 (hch:∀b∈ch,(b∈X.ex\/X.s₀.heap.objs.size<=b)/\b≠X.env.locals/\(∀x c,X.env.cells.lookup x=some c->c≠b)/\∀p∈X.pn++pins,p.1≠b):
 Inv X pins σ H' {s with heap:=h',gens:=g',drawn:=d',toks:=t'}:=by
 obtain⟨m,⟨o,es,ep,ho,r⟩,_⟩:=id I.loc;obtain⟨sl,hL⟩:=u.any ho I.free fun z=>(hch _ z).2.1 rfl
 exact I.step (ch:=ch) hch (fun b o hL hb hc e n=>u.keep b o e n (fun z=>(List.mem_cons.mp (I.yT b z)).elim hL hb) hc) (fun b o _ _ hc e n=>u.any e n hc) (fun b o hc e n=>u.free b o e n hc) (fun b o hc e=>u.there b o e hc) u.oS u.nX u.nR (fun m' hm=>by
  obtain⟨o',es',ep',ho',r'⟩:=hm;rw[ho]at ho';cases ho';exact⟨_,es',ep',hL,r'⟩) aM hg
theorem Inv.turned{t':Nat}{it:Addr}(I:Inv X pins σ H s)(k:∀b o,b≠it->s.heap.get? b=some o->h'.get? b=some o)(hn:H it=none)(hL:it≠X.env.locals)
 (h1:it∈X.ex\/X.s₀.heap.objs.size<=it) (h2:∀x c,X.env.cells.lookup x=some c->c≠it) (h3:∀p∈X.pn++pins,p.1≠it):Inv X pins σ H {s with heap:=h',toks:=t'}:=by
 have nit:∀b u,H b=some u->b≠it:=fun b u e z=>by rw[z,hn]at e;cases e
 refine I.step (g':=s.gens) (d':=s.drawn) (ch:=[it]) (fun b hb=>?_) (fun b o _ _ hc e _=>k b o (fun z=>hc (by simp[z])) e) (fun b o _ _ hc e _=>⟨o.slots,k b o (fun z=>hc (by simp[z])) e⟩) (fun _ _ _ _ n=>n)
  (fun b o hc e=>⟨o,k b o (fun z=>hc (by simp[z])) e⟩) (fun _ _ e=>e) (fun _ _ _ e=>e) (fun b ps e=>⟨#[],by rw[e];simp⟩) (fun m hm=>?_) (fun b u e=>?_) I.bare
 . have e:b=it:=by simpa using hb
   subst e;exact⟨h1,hL,h2,h3⟩
 . obtain⟨o,es,ep,ho,r⟩:=hm;exact⟨o,es,ep,k _ o (Ne.symm hL) ho,r⟩
 . refine(I.aM b u e).o6 (fun c v hc q=>k c v ?_ q) (fun _ q=>q) fun _ _ q=>q;rcases hc with z|z
   . rw[z];exact nit b u e
   . exact nit c _ z
theorem Inv.tok(I:Inv X pins σ H s)(t:Nat):Inv X pins σ H {s with toks:=t}:=I.un (h':=s.heap) (t':=t) Un.refl I.aM
theorem Inv.kept{t':Nat}(I:Inv X pins σ H s)(k:∀b u,s.heap.get? b=some u->h'.get? b=some u):Inv X pins σ H {s with heap:=h',toks:=t'}:=I.un (Un.kept k) (I.aM.kept k)
theorem Inv.laid{a:Addr}{o:HO}{t':Nat}(I:Inv X pins σ H s)(k:∀b u,s.heap.get? b=some u->h'.get? b=some u)(hp:s.heap.objs.size<=a)(new:dz X.prog X.w (upd H a o) h' a o):
 Inv X pins σ (upd H a o) {s with heap:=h',toks:=t'}:=I.un (Un.laid k hp (I.aM.fresh hp)) (I.aM.laid k hp new)
theorem Inv.write{x e:Addr}{o:HO}{t':Nat}(I:Inv X pins σ H s)(mu:G8 (H x))(he:e=x\/H e=some (.own x))(k:∀b u,b≠e->s.heap.get? b=some u->h'.get? b=some u)(heo:∃u,h'.get? e=some u)
 (new:dz X.prog X.w (upd H x o) h' x o):Inv X pins σ (upd H x o) {s with heap:=h',toks:=t'}:=I.un (Un.write mu he k heo) (I.aM.write mu he k heo new)
theorem Inv.sL{pins':List (Addr×Obj)}(I:Inv X pins σ H s)(h:∀p∈pins',s.heap.get? p.1=some p.2/\H p.1=none/\p.1≠X.env.locals/\p.1∉X.fs/\∀v,p.2.data≠ .cell v):Inv X pins' σ H s:=
 ⟨I.ok,I.os,I.bare,I.base,I.loc,I.cell,I.free,I.ix,fun p hp=>(List.mem_append.mp hp).elim (fun z=>I.pin p (List.mem_append_left _ z)) (h p),I.aM,I.len⟩
theorem zI{N:List Str}(hN:N.Nodup){i j:Nat}{x:Str}(a:N[i]?=some x)(b:N[j]?=some x):i=j:=by
 obtain⟨h1,e1⟩:=List.getElem?_eq_some_iff.mp a;obtain⟨h2,e2⟩:=List.getElem?_eq_some_iff.mp b;exact(List.getElem_inj hN).mp (e1.trans e2.symm)
theorem wM{M:Model}{A:Around}{E:Value->Shared->Prop}{i:Nat}{x:Str}{v:V}{u:Value}{Q:Unit->Shared->Prop}(I:Inv X pins σ H s)(hN:X.N.Nodup)(hi:X.N[i]?=some x)(hx:Loc X.env.scope x)(r:RelV v u)
 (h:∀s',Inv X pins (σ.set i (some v)) H s'->(∃a,Heap.SameBut a s.heap s'.heap/\(a=X.env.locals\/X.env.cells.lookup x=some a))->Q () s') (hf:X.fn x=true\/X.env.scope.names.lookup x=some .local:=by first|exact .inl rfl|exact .inr rfl|assumption):wpAny M A (storeName X.env x u) Q E s:=by
 obtain⟨m,hn,hl⟩:=id I.loc;have hcls:(X.env.scope.kind== .class||(X.env.scope.kind== .module&&X.env.locals != X.env.globals))=false:=by rw[I.ok.kind];rfl
 have hiσ:i<σ.length:=by rw[I.len];exact(List.getElem?_eq_some_iff.mp hi).1
 have z9:=I.z9
 have tracked:∀ {a:Addr} {h':Heap},(∃o,s.heap.get? a=some o/\H a=none)->Heap.SameBut a s.heap h'->g7 X.prog X.w H h':=fun{a h'} ha hs b ob e=>by
  obtain⟨_,_,hfree⟩:=ha;refine(I.aM b ob e).o6 (fun c w' hc q=>(hs.2 c ?_).trans q) (fun _ q=>q) fun _ _ q=>q;rintro rfl;rcases hc with rfl|hc
  . rw[hfree]at e;cases e
  . rw[hfree]at hc;cases hc
 rcases hx with hk|hk
 . refine wpAny_storeName_local hk hn (fun h' hn' hs=>?_) hcls;obtain⟨oL,_,_,hoL,_⟩:=id hn;refine h _ ⟨I.ok,I.os,I.bare,⟨fun b o e n hb hx=>?_,fun b o e n hb hx=>?_,I.base.free,fun b o e hx=>?_,I.base.oS,I.base.nX,I.base.nR⟩,⟨_,hn',fun j y v' e1 e2 e3=>?_⟩,fun y c e=>?_,I.free,I.ix,fun p hp=>?_,tracked ⟨oL,hoL,I.free⟩ hs,by simpa using I.len⟩ ⟨_,hs,.inl rfl⟩
   . exact(hs.2 b (Nat.ne_of_lt (Nat.lt_of_lt_of_le (Heap.lt_size e) I.ok.above))).trans (I.base.keep b o e n hb hx)
   . obtain⟨sl,e1⟩:=I.base.slot b o e n hb hx;exact⟨sl,(hs.2 b (Nat.ne_of_lt (Nat.lt_of_lt_of_le (Heap.lt_size e) I.ok.above))).trans e1⟩
   . obtain⟨o',e1⟩:=I.base.there b o e hx;exact⟨o',(hs.2 b (Nat.ne_of_lt (Nat.lt_of_lt_of_le (Heap.lt_size e) I.ok.above))).trans e1⟩
   . by_cases hj:j=i
     . subst hj;rw[hi]at e1;cases e1;rw[List.getElem?_set_self hiσ]at e2;cases e2;exact⟨u,r,.inl ⟨hk,by simp⟩⟩
     . rw[List.getElem?_set_ne (Ne.symm hj)]at e2;obtain⟨u',r',q⟩:=hl j y v' e1 e2 e3;refine⟨u',r',?_⟩;rcases q with⟨k,e⟩|⟨k,c,e,z⟩
       . refine .inl ⟨k,?_⟩;have:y≠x:=fun e=>hj (zI hN e1 (e▸hi));simp[this,e]
       . exact .inr ⟨k,c,e,z.sameBut hs (z9 y c e)⟩
   . obtain⟨w',z⟩:=I.cell y c e;exact⟨w',z.sameBut hs (z9 y c e)⟩
   . obtain⟨e,n,ne,nf,d⟩:=I.pin p hp;exact⟨(hs.2 p.1 ne).trans e,n,ne,nf,d⟩
 . have hfn:X.fn x=true:=by
    rcases hf with z|z
    . exact z
    . rw[z]at hk;cases hk
   obtain⟨c,hc⟩:=I.ok.has x (.inl hk);obtain⟨w',z⟩:=I.cell x c hc;refine wpAny_storeName_cell I.ok.kind hk hc z (fun h' hc' hs=>?_);obtain⟨oc,hoc,hocd⟩:=id z;refine h {s with heap:=h'} ⟨I.ok,I.os,I.bare,⟨fun b o e n hb hx=>?_,fun b o e n hb hx=>?_,I.base.free,fun b o e hx=>?_,I.base.oS,I.base.nX,I.base.nR⟩,⟨m,hn.sameBut hs (Ne.symm (z9 x c hc)),fun j y v' e1 e2 e3=>?_⟩,fun y c' e=>?_,I.free,I.ix,fun p hp=>?_,tracked ⟨oc,hoc,I.ix x c hc⟩ hs,by simpa using I.len⟩ ⟨c,hs,.inr hc⟩
   . exact(hs.2 b (Nat.ne_of_lt (Nat.lt_of_lt_of_le (Heap.lt_size e) (I.ok.yX x c hfn hc)))).trans (I.base.keep b o e n hb hx)
   . obtain⟨sl,e1⟩:=I.base.slot b o e n hb hx;exact⟨sl,(hs.2 b (Nat.ne_of_lt (Nat.lt_of_lt_of_le (Heap.lt_size e) (I.ok.yX x c hfn hc)))).trans e1⟩
   . obtain⟨o',e1⟩:=I.base.there b o e hx;exact⟨o',(hs.2 b (Nat.ne_of_lt (Nat.lt_of_lt_of_le (Heap.lt_size e) (I.ok.yX x c hfn hc)))).trans e1⟩
   . by_cases hj:j=i
     . subst hj;rw[hi]at e1;cases e1;rw[List.getElem?_set_self hiσ]at e2;cases e2;exact⟨u,r,.inr ⟨.inl hk,c,hc,hc'⟩⟩
     . rw[List.getElem?_set_ne (Ne.symm hj)]at e2;obtain⟨u',r',q⟩:=hl j y v' e1 e2 e3;refine⟨u',r',?_⟩;rcases q with q|⟨k,c',e,z'⟩
       . exact .inl q
       . refine .inr ⟨k,c',e,z'.sameBut hs ?_⟩;rintro rfl;exact hj (zI hN e1 (I.ok.inj _ _ _ e hc▸hi))
   . by_cases hcc:c'=c
     . subst hcc;exact⟨_,hc'⟩
     . obtain⟨w2,z2⟩:=I.cell y c' e;exact⟨w2,z2.sameBut hs hcc⟩
   . obtain⟨e,n,ne,nf,d⟩:=I.pin p hp;refine⟨(hs.2 p.1 ?_).trans e,n,ne,nf,d⟩;intro q;rw[q,hoc]at e;have q':oc=p.2:=Option.some.inj e;exact d w' (by rw[<-q'];exact hocd)
theorem nM{M:Model}{A:Around}{E:Value->Shared->Prop}{i:Nat}{x:Str}{v:V}{u:Value}{Q:Unit->Shared->Prop}(I:Inv X pins σ H s)(hN:X.N.Nodup)(hi:X.N[i]?=some x)(hx:Loc X.env.scope x)(r:RelV v u)
 (h:∀s',Inv X pins (σ.set i (some v)) H s'->Q () s') (hf:X.fn x=true\/X.env.scope.names.lookup x=some .local:=by first|exact .inl rfl|exact .inr rfl|assumption):wpAny M A (storeName X.env x u) Q E s:=
 wM I hN hi hx r (fun s' I' _=>h s' I') hf
theorem Inv.Bw{s':Shared}{ch:List Addr}(I:Inv X pins σ H s)(ho:s'.os=s.os)(u:Un (pK X.stack) ch H H' s.heap s'.heap)(aM:g7 X.prog X.w H' s'.heap)(hg:AllBare s'.gens)
 (hch:∀b∈ch,(b∈X.ex\/X.s₀.heap.objs.size<=b)/\b≠X.env.locals/\(∀x c,X.env.cells.lookup x=some c->c≠b)/\∀p∈X.pn++pins,p.1≠b):Inv X pins σ H' s':=by
 obtain⟨h',g',d',t',o'⟩:=s';have e:o'=s.os:=ho;subst e;exact I.call (g':=g') (t':=t') (d':=d') u aM hg hch
end
abbrev XK:=Value->Option Addr->Hp->Prop
abbrev St:=List (Option V)
abbrev VK:=V->Hp->Prop
abbrev TE:=St->Hp->VK->Prop
abbrev TT:=St->Hp->(Bool->Hp->Prop)->Prop
abbrev TA:=St->Hp->(List V->Hp->Prop)->Prop
structure Ends where
 nx:St->Hp->Prop
 rt:VK
 bk:St->Hp->Prop:=fun _ _=>False
 ct:St->Hp->Prop:=fun _ _=>False
abbrev TS:=Ends->St->Hp->Prop
def EP(X:Cx)(pins:List (Addr×Obj))(σ:St)(Q:VK)(u:Value)(s':Shared):Prop:=∃v H',Inv X pins σ H' s'/\RelV v u/\Q v H'
def TP(X:Cx)(pins:List (Addr×Obj))(σ:St)(Q:Bool->Hp->Prop)(b:Bool)(s':Shared):Prop:=∃H',Inv X pins σ H' s'/\Q b H'
def AP(X:Cx)(pins:List (Addr×Obj))(σ:St)(Q:List V->Hp->Prop)(us:List Value)(s':Shared):Prop:=∃vs H',Inv X pins σ H' s'/\Vals vs us/\Q vs H'
def SP(X:Cx)(pins:List (Addr×Obj))(D:Ends)(f:Flow)(s':Shared):Prop:=
 match f with
 | .next=>∃σ' H',Inv X pins σ' H' s'/\D.nx σ' H'
 | .brk=>∃σ' H',Inv X pins σ' H' s'/\D.bk σ' H'
 | .cont=>∃σ' H',Inv X pins σ' H' s'/\D.ct σ' H'
 | .ret u=>∃v σ' H',Inv X pins σ' H' s'/\RelV v u/\D.rt v H'
def PE(X:Cx)(e:Expr)(t:TE):Prop:=
 ∀(pins:List (Addr×Obj)) (s:Shared) (σ:St) (H:Hp) (Q:VK),Inv X pins σ H s->t σ H Q->wpAny (model X.prog X.w) X.A (eval e X.env) (EP X pins σ Q) X.xe s
def PT(X:Cx)(e:Expr)(t:TT):Prop:=
 ∀(pins:List (Addr×Obj)) (s:Shared) (σ:St) (H:Hp) (Q:Bool->Hp->Prop),Inv X pins σ H s->t σ H Q->wpAny (model X.prog X.w) X.A (isTrue e X.env (eval e X.env)) (TP X pins σ Q) X.xe s
def PW(X:Cx)(e:Expr)(t:TT):Prop:=
 ∀(whole:Sem Value) (pins:List (Addr×Obj)) (s:Shared) (σ:St) (H:Hp) (Q:Bool->Hp->Prop),Inv X pins σ H s->t σ H Q->wpAny (model X.prog X.w) X.A (isTrue e X.env whole) (TP X pins σ Q) X.xe s
theorem PW.pt{X:Cx}{e:Expr}{t:TT}(h:PW X e t):PT X e t:=h _
def PA(X:Cx)(es:List Expr)(t:TA):Prop:=
 ∀(pos:Pos) (pins:List (Addr×Obj)) (s:Shared) (σ:St) (H:Hp) (Q:List V->Hp->Prop),Inv X pins σ H s->t σ H Q->wpAny (model X.prog X.w) X.A (spliced (backTo pos (starEach es X.env))) (AP X pins σ Q) X.xe s
def PS(X:Cx)(st:Stmt)(t:TS):Prop:=
 ∀(pins:List (Addr×Obj)) (s:Shared) (σ:St) (H:Hp) (D:Ends),Inv X pins σ H s->t D σ H->wpAny (model X.prog X.w) X.A (exec st X.env) (SP X pins D) X.xe s
def gJ(X:Cx)(st:List Stmt)(t:TS):Prop:=
 ∀(pins:List (Addr×Obj)) (s:Shared) (σ:St) (H:Hp) (D:Ends),Inv X pins σ H s->t D σ H->wpAny (model X.prog X.w) X.A (execs st X.env) (SP X pins D) X.xe s
theorem cu{α:Type}{t:Sem α}{Q Q':α->Shared->Prop}{M:Model}{A:Around}{E:Value->Shared->Prop}{s:Shared}(h:wpAny M A t Q E s)(hQ:∀a s,Q a s->Q' a s):wpAny M A t Q' E s:=wpAny_mono h hQ fun _ _ x=>x
section
variable {X:Cx}
def Lz(i:Nat):TE:=fun σ H Q=>∃v,σ[i]?=some (some v)/\Q v H
def tC(v:V):TE:=fun _ H Q=>Q v H
theorem La{i:Nat}{x:Str}{pos:Pos}(hN:X.N[i]?=some x)(hv:zd X.env.scope x)(hd:(x==("__debug__":Str))=false:=by decide)(hcd:(x==("__classdict__":Str))=false:=by decide):PE X (.Name x pos) (Lz i):=by
 intro pins s σ H Q I h;obtain⟨v,e,h⟩:=h;obtain⟨m,hn,hl⟩:=I.loc;obtain⟨u,r,l⟩:=hl i x v hN e hv;have fin:EP X pins σ Q u s:=⟨v,H,I,r,h⟩
 rcases l with⟨hk,hm⟩|⟨hk,c,hc,hcell⟩
 . exact wpAny_Name (wpAny_loadName_local I.ok.kind hk hn hm fin) hd
 . rcases hk with hk|hk
   . exact wpAny_Name (wpAny_loadName_cell I.ok.kind hk hc hcell fin) hd
   . exact wpAny_Name (wpAny_loadName_free I.ok.kind hk hc hcell fin hcd) hd
theorem Ma{i j pos}:PE X (.Constant (.int i) j pos) (tC (.int i)):=fun _ _ _ H _ I h=>wpAny_Constant_int ⟨.int i,H,I.tok _,⟨_,rfl⟩,h⟩
theorem Nw{b j pos}:PE X (.Constant (.bool b) j pos) (tC (.bl b)):=fun _ _ _ H _ I h=>Constant_bool ⟨.bl b,H,I,rfl,h⟩
theorem Ly{j pos}:PE X (.Constant .none j pos) (tC .aK):=fun _ _ _ H _ I h=>Constant_none ⟨.aK,H,I,rfl,h⟩
theorem LD{x j pos}:PE X (.Constant (.str x) j pos) (tC (.str x)):=fun _ _ _ H _ I h=>Calls.Constant_str ⟨.str x,H,I.tok _,⟨_,rfl⟩,h⟩
def Gl(X:Cx)(x:Str):Prop:=X.env.kindOf x=some .globalImplicit
theorem A_{E:Value->Shared->Prop}{pins:List (Addr×Obj)}{s:Shared}{σ:St}{H:Hp}{x:Str}{u:Value}{pos:Pos}{Q:Value->Shared->Prop}(I:Inv X pins σ H s)(hg:Gl X x)(hm:X.mg x=some u)(h:Q u s)
 (hd:(x==("__debug__":Str))=false:=by decide):wpAny (model X.prog X.w) X.A (eval (.Name x pos) X.env) Q E s:=
 Calls.Name_function_global I.ok.kind hg (Calls.loadGlobal_global (by rw[I.ok.glob];exact I.mod.glob.keeps I.bk) hm h) hd
theorem kL{E:Value->Shared->Prop}{pins:List (Addr×Obj)}{s:Shared}{σ:St}{H:Hp}{x:Str}{u:Value}{pos:Pos}{Q:Value->Shared->Prop}(I:Inv X pins σ H s)(hg:Gl X x)(hm:X.mg x=none)(hv:bootBuiltins x=some u)(h:Q u s)
 (hn:x≠"__name__":=by decide) (hd:(x==("__debug__":Str))=false:=by decide):wpAny (model X.prog X.w) X.A (eval (.Name x pos) X.env) Q E s:=by
 obtain⟨mb,h1,h2⟩:=I.mod.blt;exact Calls.Name_function_global I.ok.kind hg (Calls.loadGlobal_builtin (by rw[I.ok.glob];exact I.mod.glob.keeps I.bk) hm (by rw[I.ok.blt];exact h1.keeps I.bk) ((h2 x hn).trans hv) h) hd
theorem Jq{x:Str}{v:V}{u:Value}{pos:Pos}(hg:Gl X x)(hm:X.mg x=none)(hv:bootBuiltins x=some u)(r:RelV v u)(hn:x≠"__name__":=by decide)(hd:(x==("__debug__":Str))=false:=by decide):PE X (.Name x pos) (tC v):=
 fun _ _ _ H _ I h=>kL I hg hm hv ⟨v,H,I,r,h⟩ hn hd
variable {a b:Expr}{ta tb:TE}{pos:Pos}
def tB(t:TE):TT:=fun σ H Q=>t σ H fun x H1=>∃c,x= .bl c/\Q c H1
theorem L4{e:Expr}{t:TE}(h:PE X e t)(he:∀whole,isTrue e X.env whole=(do let v <-whole;standAt e.pos;holding [v] (truthy v)):=by intro _;rfl):PT X e (tB t):=by
 intro pins s σ H Q I hw;refine isTrue_plain (cu (h pins s σ H _ I hw) fun v s1 ⟨x,H1,I1,r1,q1⟩=>?_) (he _);obtain⟨d,rfl,q⟩:=q1;cases r1;exact wpAny_truthy_bool ⟨H1,I1,q⟩
variable {tA tB':TT}{rest:List Expr}
def N2(t u:TT):TT:=fun σ H Q=>t σ H fun c H1=>if c=true then Q true H1 else u σ H1 Q
def OR(t:TT):TT:=fun σ H Q=>t σ H fun c H1=>Q (!c) H1
theorem pw_or1(ha:PT X a tA):PW X (.BoolOp .Or [a] pos) tA:=by
 intro wh pins s σ H Q I h;refine isTrue_or (cu (ha pins s σ H Q I h) fun c s1 e=>?_);cases c with
 |false=>exact isTrue_or_nil e
 |true=>exact e
theorem pw_or(ha:PT X a tA)(hb:PW X (.BoolOp .Or (b::rest) pos) tB'):PW X (.BoolOp .Or (a::b::rest) pos) (N2 tA tB'):=by
 intro wh pins s σ H Q I h;refine isTrue_or (cu (ha pins s σ H _ I h) fun c s1 ⟨H1,I1,q1⟩=>?_);cases c with
 |true=>exact⟨H1,I1,q1⟩
 |false=>exact hb wh pins s1 σ H1 Q I1 q1
theorem Jz(ha:PT X a tA):PT X (.UnaryOp .Not a pos) (OR tA):=by
 intro pins s σ H Q I h;exact isTrue_not (ha pins s σ H (fun c H1=>Q (!c) H1) I h)
def Nf(ta tb:TE):TE:=fun σ H Q=>ta σ H fun x H1=>∃c,x= .bl c/\if c=true then tb σ H1 Q else Q (.bl false) H1
def M0(ta:TE):TE:=fun σ H Q=>ta σ H fun x H1=>∃c,x= .bl c/\Q (.bl (!c)) H1
theorem Lx{op}{t:TE}(h:PE X a t):PE X (.BoolOp op [a] pos) t:=fun pins s σ H Q I hw=>BoolOp_one (h pins s σ H Q I hw)
theorem KZ(ha:PE X a ta)(hb:PE X (.BoolOp .And (b::rest) pos) tb):PE X (.BoolOp .And (a::b::rest) pos) (Nf ta tb):=by
 intro pins s σ H Q I h;refine BoolOp_and (cu (ha pins s σ H _ I h) fun v s1 ⟨x,H1,I1,r1,q1⟩=>?_);obtain⟨c,rfl,q1⟩:=q1;cases r1;refine wpAny_truthy_bool ?_;cases c with
 |true=>exact hb pins s1 σ H1 Q I1 q1
 |false=>exact⟨.bl false,H1,I1,rfl,q1⟩
theorem JQ(ha:PE X a ta):PE X (.UnaryOp .Not a pos) (M0 ta):=by
 intro pins s σ H Q I h;refine UnaryOp_ (cu (ha pins s σ H _ I h) fun v s1 ⟨x,H1,I1,r1,q1⟩=>?_);obtain⟨c,rfl,q1⟩:=q1;cases r1;exact not_of (wpAny_truthy_bool ⟨.bl (!c),H1,I1,rfl,q1⟩)
def Pm(t:TT)(ta tb:TE):TE:=fun σ H Q=>t σ H fun c H1=>if c=true then ta σ H1 Q else tb σ H1 Q
theorem EY{c:Expr}(hc:PT X c tA)(ha:PE X a ta)(hb:PE X b tb):PE X (.IfExp c a b pos) (Pm tA ta tb):=by
 intro pins s σ H Q I h;refine wpAny_IfExp (cu (hc pins s σ H _ I h) fun d s1 ⟨H1,I1,q1⟩=>?_);cases d with
 |true=>exact ha pins s1 σ H1 Q I1 q1
 |false=>exact hb pins s1 σ H1 Q I1 q1
end
def md(K:PySem.W.Frag)(H:Hp)(a:Addr)(xs:List V):Prop:=
 Rd H a (.lst xs)\/
  ∃(o:Obj) (aq:Array Value) (n:Nat),K.lookup a=some o/\o.cls= .type "list"/\o.dict=none/\o.data= .seq aq n/\aq.size<=sizeLine/\Vals xs aq.toList
def iY(K:PySem.W.Frag)(H:Hp)(a:Addr)(xs:List V):Prop:=
 Rd H a (.tup xs)\/
  ∃(o:Obj) (aq:Array Value) (n:Nat),K.lookup a=some o/\o.cls= .type "tuple"/\o.data= .seq aq n/\aq.size<=sizeLine/\Vals xs aq.toList
def OO:Value->Option V
 | .none=>some .aK
 | .bool b=>some (.bl b)
 | .int i _=>some (.int i)
 | .str x _=>some (.str x)
 | .bytes b _=>some (.tV b)
 | .float b _=>some (.tM b)
 | .ref a=>some (.ref a)
 | .type n=>some (.ty n)
 |_=>none
theorem RelV.abs{x:V}{u:Value}(r:RelV x u):OO u=some x:=by
 cases x with
 |aK=>cases r;rfl
 |bl _=>cases r;rfl
 |int _=>obtain⟨t,rfl⟩:=r;rfl
 |str _=>obtain⟨t,rfl⟩:=r;rfl
 |tV _=>obtain⟨t,rfl⟩:=r;rfl
 |tM _=>obtain⟨t,rfl⟩:=r;rfl
 |ref _=>cases r;rfl
 |ty _=>cases r;rfl
theorem RelV.inj{x y:V}{u:Value}(r:RelV x u)(q:RelV y u):x=y:=Option.some.inj (r.abs.symm.trans q.abs)
theorem Vals.inj:∀ {xs ys:List V} {us:List Value},Vals xs us->Vals ys us->xs=ys
 |_,_,_,.nil,.nil=>rfl
 |_,_,_,.cons r t,.cons r' t'=>by rw[r.inj r',Vals.inj t t']
section
variable {X:Cx}{pins:List (Addr×Obj)}{σ:St}{H:Hp}{s:Shared}{a:Addr}{xs ys:List V}
theorem md.of{K:PySem.W.Frag}(h:H a=some (.lst xs)):md K H a xs:= .inl (.inl h)
theorem iY.of{K:PySem.W.Frag}(h:H a=some (.tup xs)):iY K H a xs:= .inl (.inl h)
theorem Inv.list(I:Inv X pins σ H s)(h:md X.K H a xs):∃aq:List Value,Vals xs aq/\PlainL s.heap a aq.toArray/\xs.length<=sizeLine:=by
 rcases h with h|⟨o,aq,n,hk,hc,hd,hs,hz,r⟩
 . obtain⟨z,aq,n,r,e⟩:=h.ok I.aM;exact⟨aq,r,⟨_,n,e,rfl,rfl,rfl⟩,z⟩
 . refine⟨aq.toList,r,⟨o,n,I.gI a o hk,hc,hd,by simpa using hs⟩,?_⟩;have e:=r.length;simp only[Array.length_toList]at e;omega
theorem Inv.tuple(I:Inv X pins σ H s)(h:iY X.K H a xs):∃aq:List Value,Vals xs aq/\IsTup s.heap a aq.toArray/\xs.length<=sizeLine:=by
 rcases h with h|⟨o,aq,n,hk,hc,hs,hz,r⟩
 . obtain⟨z,aq,r,p⟩:=h.ok I.aM;exact⟨aq,r,p,z⟩
 . refine⟨aq.toList,r,⟨o,I.gI a o hk,hc,n,by simpa using hs⟩,?_⟩;have e:=r.length;simp only[Array.length_toList]at e;omega
theorem Inv.ym(I:Inv X pins σ H s)(h:md X.K H a xs)(h':md X.K H a ys):xs=ys:=by
 obtain⟨aq,r,⟨o,n,e,_,_,d⟩,_⟩:=I.list h;obtain⟨its',r',⟨o',n',e',_,_,d'⟩,_⟩:=I.list h';rw[e]at e';cases e';rw[d]at d';injection d' with d1 _;have:aq=its':=by simpa using congrArg Array.toList d1
 subst this;exact r.inj r'
theorem Inv.xa(I:Inv X pins σ H s)(h:iY X.K H a xs)(h':iY X.K H a ys):xs=ys:=by
 obtain⟨aq,r,⟨o,e,_,n,d⟩,_⟩:=I.tuple h;obtain⟨its',r',⟨o',e',_,n',d'⟩,_⟩:=I.tuple h';rw[e]at e';cases e';rw[d]at d';injection d' with d1 _;have:aq=its':=by simpa using congrArg Array.toList d1
 subst this;exact r.inj r'
end
abbrev Cx.oY(X:Cx)(E:Value->Shared->Prop):Cx:={X with xe:=E}
abbrev Cx.uJ(X:Cx):Cx:=X.oY fun _ _=>False
theorem Cx.Ok.oY{X:Cx}(ok:X.Ok)(E:Value->Shared->Prop):(X.oY E).Ok:=
 ⟨ok.mod,ok.kind,ok.glob,ok.blt,ok.above,ok.inj,ok.has,ok.yX,ok.hd,ok.frames,ok.AW,ok.Ey,ok.bs,ok.sj,ok.ur,ok.uh,ok.ka,ok.uR,ok.gt⟩
theorem Cx.Ok.mx{X:Cx}{E:Value->Shared->Prop}(ok:(X.oY E).Ok):X.Ok:=
 ⟨ok.mod,ok.kind,ok.glob,ok.blt,ok.above,ok.inj,ok.has,ok.yX,ok.hd,ok.frames,ok.AW,ok.Ey,ok.bs,ok.sj,ok.ur,ok.uh,ok.ka,ok.uR,ok.gt⟩
section
variable {X:Cx}{pins:List (Addr×Obj)}{σ:St}{H:Hp}{s:Shared}{E:Value->Shared->Prop}
theorem Inv.oY(I:Inv X pins σ H s)(E:Value->Shared->Prop):Inv (X.oY E) pins σ H s:=⟨I.ok.oY E,I.os,I.bare,I.base,I.loc,I.cell,I.free,I.ix,I.pin,I.aM,I.len⟩
theorem Inv.mx(I:Inv (X.oY E) pins σ H s):Inv X pins σ H s:=⟨I.ok.mx,I.os,I.bare,I.base,I.loc,I.cell,I.free,I.ix,I.pin,I.aM,I.len⟩
theorem SP.mx{D:Ends}{f:Flow}{s':Shared}(h:SP (X.oY E) pins D f s'):SP X pins D f s':=by
 cases f with
 |next=>obtain⟨σ',H',I,q⟩:=h;exact⟨σ',H',I.mx,q⟩
 |brk=>obtain⟨σ',H',I,q⟩:=h;exact⟨σ',H',I.mx,q⟩
 |cont=>obtain⟨σ',H',I,q⟩:=h;exact⟨σ',H',I.mx,q⟩
 |ret u=>obtain⟨v,σ',H',I,r,q⟩:=h;exact⟨v,σ',H',I.mx,r,q⟩
theorem gJ.uJ{st:List Stmt}{t:TS}(h:gJ X.uJ st t):gJ X st t:=fun pins s σ H D I hw=>
 wpAny_mono (h pins s σ H D (I.oY _) hw) (fun _ _ q=>q.mx) fun _ _ z=>False.elim z
end
section
variable {X:Cx}{st:Stmt}{rest:List Stmt}{t u:TS}{e:Expr}{te:TE}{pos:Pos}
def NI:TS:=fun D σ H=>D.nx σ H
def O5(t u:TS):TS:=fun D σ H=>t {D with nx:=u D} σ H
theorem Ij:gJ X [] NI:=fun _ _ σ H _ I h=>wpAny_execs_nil ⟨σ,H,I,h⟩
theorem ET(h1:PS X st t)(h2:gJ X rest u):gJ X (st::rest) (O5 t u):=by
 intro pins s σ H D I h;refine wpAny_execs_cons (cu (h1 pins s σ H {D with nx:=u D} I h) fun f s1 q=>?_);cases f with
 |next=>
  obtain⟨σ',H',I',q⟩:=q;exact h2 pins s1 σ' H' D I' q
 |ret v=>exact q
 |brk=>exact q
 |cont=>exact q
theorem HU(h1:PS X st t):gJ X [st] t:=by
 intro pins s σ H D I h;refine wpAny_execs_cons (cu (h1 pins s σ H D I h) fun f s1 q=>?_);cases f with
 |next=>exact wpAny_execs_nil q
 |ret v=>exact q
 |brk=>exact q
 |cont=>exact q
theorem Inv.quiet{pins:List (Addr×Obj)}{σ:St}{H:Hp}{s:Shared}(I:Inv X pins σ H s):interactive X.env=false:=by simp[interactive,I.ok.kind]
def MC(te:TE):TS:=fun D σ H=>te σ H fun _ H1=>D.nx σ H1
theorem HC(he:PE X e te)(hs:swapsWith e none pos.line X.env=pure false:=by rfl):PS X (.Expr e pos) (MC te):=by
 intro pins s σ H D I h;exact wpAny_Expr_any (cu (he pins s σ H _ I h) fun v s1 ⟨x,H1,I1,r1,q1⟩=>⟨σ,H1,I1,q1⟩) I.quiet hs
def Ol(te:TE):TS:=fun D σ H=>te σ H D.rt
theorem Lo(he:PE X e te):PS X (.Return (some e) pos) (Ol te):=by
 intro pins s σ H D I h;exact wpAny_Return_some (cu (he pins s σ H _ I h) fun v s1 ⟨x,H1,I1,r1,q1⟩=>⟨x,σ,H1,I1,r1,q1⟩)
def OJ(c:TT)(t u:TS):TS:=fun D σ H=>c σ H fun b H1=>if b=true then t D σ H1 else u D σ H1
theorem Nl{c:Expr}{a b:List Stmt}{tc:TT}(hc:PT X c tc)(ha:gJ X a t)(hb:gJ X b u):PS X (.If c a b pos) (OJ tc t u):=by
 intro pins s σ H D I h;refine wpAny_If (cu (hc pins s σ H _ I h) fun d s1 ⟨H1,I1,q1⟩=>?_);cases d with
 |true=>exact ha pins s1 σ H1 D I1 q1
 |false=>exact hb pins s1 σ H1 D I1 q1
end
abbrev TG:=V->St->Hp->(St->Hp->Prop)->Prop
abbrev yx:=List V->St->Hp->(St->Hp->Prop)->Prop
def PG(X:Cx)(target:Expr)(t:TG):Prop:=
 ∀(pins:List (Addr×Obj)) (s:Shared) (σ:St) (H:Hp) (v:V) (u:Value) (Q:St->Hp->Prop),Inv X pins σ H s->RelV v u->t v σ H Q->
  wpAny (model X.prog X.w) X.A (assign target X.env u) (fun _ s'=>∃σ' H',Inv X pins σ' H' s'/\Q σ' H') X.xe s
def Gw(X:Cx)(ts:List Expr)(t:yx):Prop:=
 ∀(pins:List (Addr×Obj)) (s:Shared) (σ:St) (H:Hp) (vs:List V) (us:List Value) (Q:St->Hp->Prop),Inv X pins σ H s->Vals vs us->t vs σ H Q->
  wpAny (model X.prog X.w) X.A (assignInOrder ((assignEach ts X.env).map (·.2)) us) (fun _ s'=>∃σ' H',Inv X pins σ' H' s'/\Q σ' H') X.xe s
abbrev F2:=V->V->V->Hp->(Hp->Prop)->Prop
def Lq(X:Cx)(t:F2):Prop:=
 ∀(pins:List (Addr×Obj)) (s:Shared) (σ:St) (H:Hp) (o i v:V) (ov iv u:Value) (Q:Hp->Prop),Inv X pins σ H s->RelV o ov->RelV i iv->RelV v u->t o i v H Q->
  wpAny (model X.prog X.w) X.A (setItem ov iv u) (fun _ s'=>∃H',Inv X pins σ H' s'/\Q H') X.xe s
abbrev Hg:=V->V->Hp->VK->Prop
def K_(X:Cx)(op:Operator)(t:Hg):Prop:=
 ∀(pins:List (Addr×Obj)) (s:Shared) (σ:St) (H:Hp) (x y:V) (v u:Value) (Q:VK),Inv X pins σ H s->RelV x v->RelV y u->t x y H Q->
  wpAny (model X.prog X.w) X.A (inplaceOp op v u) (EP X pins σ Q) X.xe s
section
variable {X:Cx}{pos:Pos}
def gp(i:Nat):TG:=fun v σ H Q=>Q (σ.set i (some v)) H
theorem i5{i:Nat}{x:Str}(hN:X.N.Nodup)(hi:X.N[i]?=some x)(hx:Loc X.env.scope x)(hf:X.fn x=true\/X.env.scope.names.lookup x=some .local:=by first|exact .inl rfl|exact .inr rfl|assumption):PG X (.Name x pos) (gp i):=by
 intro pins s σ H v u Q I r h;exact wpAny_assign_Name (nM I hN hi hx r (fun s' I'=>⟨_,H,I',h⟩) hf)
def zt:yx:=fun vs σ H Q=>vs=[]/\Q σ H
def lB(t:TG)(u:yx):yx:=fun vs σ H Q=>∃v r,vs=v::r/\t v σ H fun σ' H'=>u r σ' H' Q
theorem s_:Gw X [] zt:=by
 intro pins s σ H vs us Q I r h;obtain⟨e,h⟩:=h;subst e;cases r;exact assignInOrder_nil ⟨σ,H,I,h⟩
theorem gL{e:Expr}{es:List Expr}{t:TG}{u:yx}(h1:PG X e t)(h2:Gw X es u)
 (hs:(assignEach (e::es) X.env).map (·.2)=assign e X.env::(assignEach es X.env).map (·.2):=by rfl):Gw X (e::es) (lB t u):=by
 intro pins s σ H vs us Q I r h;obtain⟨v,vr,e1,h⟩:=h;subst e1;cases r with
 |cons r rr=>
  rw[hs];refine assignInOrder_cons (cu (h1 pins s σ H _ _ _ I r h) fun _ s1 ⟨σ1,H1,I1,q1⟩=>?_);exact h2 pins s1 σ1 H1 _ _ Q I1 rr q1
def yF(K:PySem.W.Frag)(n:Nat)(t:yx):TG:=fun v σ H Q=>∃a xs,v= .ref a/\iY K H a xs/\xs.length=n/\t xs σ H Q
theorem vH{es:List Expr}{k:Nat}{t:yx}{n:Nat}(hc:X.calm=true)(h:Gw X es t)
 (hn:(assignEach es X.env).length=n:=by rfl) (hst:(assignEach es X.env).findIdx? (·.1)=none:=by rfl):PG X (.Tuple es k pos) (yF X.K n t):=by
 intro pins s σ H v u Q I r hw;obtain⟨a,xs,e1,hq,hl,hw⟩:=hw;subst e1;cases r;obtain⟨aq,rv,ht,hz⟩:=I.tuple hq;refine assign_Tuple_tuple (I.ok.hd hc) ht (by simp[hn,<-hl,rv.length]) hst fun h' hx=>?_;have I1:Inv X pins σ H {s with heap:=h'}:=I.kept (t':=s.toks) fun b o e=>hx b o (Nat.ne_of_lt (Heap.lt_size e)) e;exact h pins _ σ H xs _ Q I1 (by simpa using rv) hw
def zQ(to ti:TE)(t:F2):TG:=fun v σ H Q=>to σ H fun o H1=>ti σ H1 fun i H2=>t o i v H2 fun H3=>Q σ H3
theorem C6{o i:Expr}{to ti:TE}{t:F2}(ho:PE X o to)(hi:PE X i ti)(hs:Lq X t)
 (ha:∀v,assign (.Subscript o i pos) X.env v=(do
   let ov <-holding [v] (eval o X.env)
   let iv <-holding [v,ov] (eval i X.env)
   standAt pos
   holding [v,ov,iv] (setItem ov iv v)
   release [v,ov,iv] []):=by intro _;rfl):PG X (.Subscript o i pos) (zQ to ti t):=by
 intro pins s σ H v u Q I r h;rw[ha];refine wpAny_bind (wpAny_holding (cu (ho pins s σ H _ I h) fun ov s1 ⟨x,H1,I1,r1,q1⟩=>?_));refine wpAny_bind (wpAny_holding (cu (hi pins s1 σ H1 _ I1 q1) fun iv s2 ⟨y,H2,I2,r2,q2⟩=>?_));refine wpAny_bind (wpAny_standAt (wpAny_bind (wpAny_holding (cu (hs pins s2 σ H2 x y v ov iv u _ I2 r1 r2 r q2) fun _ s3 ⟨H3,I3,q3⟩=>?_))));exact wpAny_release ⟨σ,H3,I3,q3⟩
def mF(te:TE)(g:TG):TS:=fun D σ H=>te σ H fun x H1=>g x σ H1 D.nx
theorem yy{tg e:Expr}{te:TE}{g:TG}(he:PE X e te)(hg:PG X tg g)(hs:swapsWithSole [tg] e pos.line X.env=pure false:=by rfl)(hw:swappedStores [tg] e X.env=pure none:=by rfl)
 (h1:(assignEach [tg] X.env).map (·.2)=[assign tg X.env]:=by rfl):PS X (.Assign [tg] e pos) (mF te g):=by
 intro pins s σ H D I h;refine wpAny_Assign_stores (cu (he pins s σ H _ I h) fun v s1 ⟨x,H1,I1,r1,q1⟩=>?_) hs hw;rw[h1];exact cu (hg pins s1 σ H1 x v _ I1 r1 q1) fun _ s2 q=>q
theorem CI{i:Nat}{x:Str}{e:Expr}{te:TE}{pos':Pos}(hN:X.N.Nodup)(hi:X.N[i]?=some x)(hx:Loc X.env.scope x)(he:PE X e te)(hs:swapsWith e (some (.Name x pos')) pos.line X.env=pure false:=by rfl)(hf:X.fn x=true\/X.env.scope.names.lookup x=some .local:=by first|exact .inl rfl|exact .inr rfl|assumption):
 PS X (.Assign [.Name x pos'] e pos) (mF te (gp i)):=by
 intro pins s σ H D I h;refine wpAny_Assign_Name (cu (he pins s σ H _ I h) fun v s1 ⟨y,H1,I1,r1,q1⟩=>?_) hs;exact nM I1 hN hi hx r1 (fun s2 I2=>⟨_,H1,I2,q1⟩) hf
def KJ(i j:Nat)(ta:TA):TS:=fun D σ H=>ta σ H fun vs H1=>∃v w,vs=[v,w]/\D.nx ((σ.set i (some v)).set j (some w)) H1
theorem Kk{i j:Nat}{x y:Str}{a b:Expr}{ta:TA}{px py pt:Pos}{kt k2 pt2}(hc:X.calm=true)(hN:X.N.Nodup)(hi:X.N[i]?=some x)(hj:X.N[j]?=some y)(hij:i≠j)
 (hx:X.env.scope.names.lookup x=some .local) (hy:X.env.scope.names.lookup y=some .local) (ha:PA X [a,b] ta)
 (hw:swappedStores [.Tuple [.Name x px,.Name y py] kt pt] (.Tuple [a,b] k2 pt2) X.env=pure (some [x,y]))
 (hs:swapsWithSole [.Tuple [.Name x px,.Name y py] kt pt] (.Tuple [a,b] k2 pt2) pos.line X.env=pure false:=by rfl):
 PS X (.Assign [.Tuple [.Name x px,.Name y py] kt pt] (.Tuple [a,b] k2 pt2) pos) (KJ i j ta):=by
 intro pins s σ H D I h;rw[exec_Assign_arm];refine wpAny_bind (wpAny_standAt ?_);rw[hs];refine wpAny_bind (wpAny_pure ?_);rw[if_neg (by decide)];refine wpAny_bind (Tuple_ (cu (ha _ pins s σ H _ I h) fun us s1 ⟨vs,H1,I1,r1,q1⟩=>?_));obtain⟨v,w,e1,q1⟩:=q1;subst e1
 obtain⟨u1,u2,rfl,rv,rw'⟩:∃u1 u2,us=[u1,u2]/\RelV v u1/\RelV w u2:=by
  cases r1 with
  |cons p q=>
   cases q with
   |cons p' q'=>
    cases q';exact⟨_,_,rfl,p,p'⟩
 refine wpAny_newObj_type ?_ (by show 2<=sizeLine;decide);have I2:Inv X pins σ H1 {s1 with heap:=s1.heap.push {cls:= .type "tuple",data:= .seq [u1,u2].toArray}}:=I1.kept (t':=s1.toks) fun b o e=>Heap.get?_push_of_some _ e;rw[hw];refine wpAny_bind (wpAny_pure ?_);show wpAny (model X.prog X.w) X.A (do rule "assign.swapped-stores";let items <-unpackItems (.ref s1.heap.objs.size) 2 none;assignInOrder [fun v=>bindName X.env y v,fun v=>bindName X.env x v] items.reverse;pure Flow.next) _ _ _;refine wpAny_bind (wpAny_rule (wpAny_bind (unpackItems_tuple (items:= #[u1,u2]) (I.ok.hd hc) (IsTup.new s1.heap _) fun h' hx'=>?_)));have I3:=I2.kept (h':=h') (t':=s1.toks) fun b o e=>hx' b o (Nat.ne_of_lt (Heap.lt_size e)) e;show wpAny _ _ (assignInOrder [fun v=>bindName X.env y v,fun v=>bindName X.env x v] [u2,u1] >>= fun _=>pure Flow.next) _ _ _;refine wpAny_bind (assignInOrder_cons (wpAny_bindName (nM I3 hN hj (.inl hy) rw' (fun s2 I4=>?_) (.inr hy))));refine assignInOrder_cons (wpAny_bindName (nM I4 hN hi (.inl hx) rv (fun s3 I5=>assignInOrder_nil (wpAny_pure ?_)) (.inr hx)));rw[List.set_comm _ _ (Ne.symm hij)]at I5;exact⟨_,H1,I5,q1⟩
def LW(i:Nat)(te:TE)(ti:Hg):TS:=fun D σ H=>∃x,σ[i]?=some (some x)/\te σ H fun y H1=>ti x y H1 fun z H2=>D.nx (σ.set i (some z)) H2
theorem Kj{i:Nat}{x:Str}{e:Expr}{te:TE}{op:Operator}{ti:Hg}{pos':Pos}(hN:X.N.Nodup)(hi:X.N[i]?=some x)(hx:Loc X.env.scope x)(he:PE X e te)(ho:K_ X op ti)(hf:X.fn x=true\/X.env.scope.names.lookup x=some .local:=by first|exact .inl rfl|exact .inr rfl|assumption):
 PS X (.AugAssign (.Name x pos') op e pos) (LW i te ti):=by
 intro pins s σ H D I h;obtain⟨v,e1,h⟩:=h;obtain⟨m,hn,hl⟩:=I.loc;have vis:zd X.env.scope x:=by rcases hx with k|k;exact .inl k;exact .inr (.inl k)
 obtain⟨u,r,l⟩:=hl i x v hi e1 vis;refine wpAny_AugAssign_Name ?_
 have go:wpAny (model X.prog X.w) X.A (eval e X.env) (fun w s₂=>wpAny (model X.prog X.w) X.A (inplaceOp op u w) (fun r s₃=>wpAny (model X.prog X.w) X.A (storeName X.env x r) (fun _=>SP X pins D .next) X.xe s₃) X.xe s₂) X.xe s:=by
  refine cu (he pins s σ H _ I h) fun w s1 ⟨y,H1,I1,r1,q1⟩=>?_;refine cu (ho pins s1 σ H1 v y u w _ I1 r r1 q1) fun z s2 ⟨zv,H2,I2,r2,q2⟩=>?_;exact nM I2 hN hi hx r2 (fun s3 I3=>⟨_,H2,I3,q2⟩) hf
 rcases l with⟨hk,hm⟩|⟨hk,c,hc,hcell⟩
 . exact wpAny_loadName_local I.ok.kind hk hn hm go
 . rcases hk with hk|hk
   . exact wpAny_loadName_cell I.ok.kind hk hc hcell go
   . rcases hx with k|k
     . have:X.env.scope.names.lookup x=some .free:=hk;rw[k]at this;cases this
     . have:X.env.scope.names.lookup x=some .free:=hk;rw[k]at this;cases this
def Li(f:Int->Int->Int):Hg:=fun x y H Q=>∃i j,x= .int i/\y= .int j/\Q (.int (f i j)) H
theorem LM:K_ X .Add (Li fun i j=>i+j):=by
 intro pins s σ H x y v u Q I r1 r2 h;obtain⟨i,j,e1,e2,q⟩:=h;subst e1;subst e2;obtain⟨t,rfl⟩:=r1;obtain⟨t',rfl⟩:=r2;exact iadd_int ⟨.int _,H,I.tok _,⟨_,rfl⟩,q⟩
def D3(c:TT)(tb:TS):TS:=fun D σ H=>∃W:Nat->St->Hp->Prop,(∃m,W m σ H)/\∀m σ H,W m σ H->
 c σ H fun b H1=>if b=true then∃N:St->Hp->Prop,(∀σ' H',N σ' H'->∃m',m'<m/\W m' σ' H')/\tb {D with nx:=N,ct:=N,bk:=D.nx} σ H1 else D.nx σ H1
theorem Fs{c:Expr}{body:List Stmt}{tc:TT}{tb:TS}(hp:PassesOwn (model X.prog X.w) X.A X.env X.xe)(hc:PT X c tc)(hb:gJ X body tb):PS X (.While c body [] pos) (D3 tc tb):=by
 intro pins s σ H D I h;obtain⟨W,⟨m0,w0⟩,turn⟩:=h;refine wpAny_While (codeAny_whileLoop (fun n s'=>∃σ' H',Inv X pins σ' H' s'/\W n σ' H') ?_ m0 ⟨σ,H,I,w0⟩);rintro n s1 ⟨σ1,H1,I1,w1⟩;refine wpAny_passesOwn hp (cu (hc pins s1 σ1 H1 _ I1 (turn n σ1 H1 w1)) fun b s2 ⟨H2,I2,q2⟩=>?_);cases b with
 |true=>
  obtain⟨N,hN,q2⟩:=q2;rw[if_pos rfl];refine wpAny_passesOwn hp (cu (hb pins s2 σ1 H2 _ I2 q2) fun f s3 q3=>?_);cases f with
  |next=>
   obtain⟨σ3,H3,I3,n3⟩:=q3;obtain⟨m',hm,w3⟩:=hN σ3 H3 n3;exact⟨m',hm,σ3,H3,I3,w3⟩
  |cont=>
   obtain⟨σ3,H3,I3,n3⟩:=q3;obtain⟨m',hm,w3⟩:=hN σ3 H3 n3;exact⟨m',hm,σ3,H3,I3,w3⟩
  |brk=>exact q3
  |ret v=>exact q3
 |false=>
  rw[if_neg Bool.false_ne_true];exact wpAny_execs_nil ⟨σ1,H2,I2,q2⟩
end
structure It where
 go:Nat->Hp->Prop
 oH:Nat->Hp->V->Hp->Prop
 stop:Nat->Hp->Prop
def k_(X:Cx)(pins:List (Addr×Obj))(H:Hp)(b:Addr):Prop:=
 H b=none/\b≠X.env.locals/\b∉X.fs/\(b∈X.ex\/X.s₀.heap.objs.size<=b)/\(∀x c,X.env.cells.lookup x=some c->c≠b)/\∀p∈X.pn++pins,p.1≠b
theorem Inv.t_{X:Cx}{pins:List (Addr×Obj)}{σ:St}{H H':Hp}{s:Shared}{b:Addr}(I:Inv X pins σ H s)(hb:s.heap.objs.size<=b)(hn:H' b=none):k_ X pins H' b:=by
 refine⟨hn,Nat.ne_of_gt (Nat.lt_of_lt_of_le I.lt hb),I.Mh hb,.inr (Nat.le_trans I.sz hb),fun x c e z=>?_,fun p hp z=>?_⟩
 . obtain⟨v,q⟩:=I.cell x c e;exact absurd (Nat.lt_of_lt_of_le q.lt (by rw[z];exact hb)) (Nat.lt_irrefl _)
 . exact absurd (Nat.lt_of_lt_of_le (Heap.lt_size (I.pin p hp).1) (by rw[z];exact hb)) (Nat.lt_irrefl _)
structure Turn(P:Program)(w:World)(K:PySem.W.Frag)(tg:Expr)(J:It)(fp:List Addr)(it:Addr)(tn:Nat->Heap->Prop):Prop where
 mem:it∈fp
 obj:∀i h,tn i h->∀b∈fp,∃o,h.get? b=some o/\∀v,o.data≠ .cell v
 keep:∀i h h',tn i h->(∀b∈fp,∀o,h.get? b=some o->h'.get? b=some o)->tn i h'
 item:∀(X:Cx),X.prog=P->X.w=w->X.K=K->X.calm=true->∀(i:Nat) (pins:List (Addr×Obj)) (s:Shared) (σ:St) (H:Hp) (E:Value->Shared->Prop),Inv X pins σ H s->(∀b∈fp,k_ X pins H b)->tn i s.heap->J.go i H->
  wpAny (model P w) X.A (pyNext (.ref it)) (fun r s1=>∃u,r=some u/\
   wpAny (model P w) X.A (letOwnedTupleGo tg (.ref it) u) (fun _ s2=>∃x H',Inv X pins σ H' s2/\RelV x u/\J.oH i H x H'/\tn (i+1) s2.heap/\∀b∈fp,H' b=none) E s1) E s
 done:∀(X:Cx),X.prog=P->X.w=w->X.K=K->X.calm=true->∀(i:Nat) (pins:List (Addr×Obj)) (s:Shared) (σ:St) (H:Hp) (E:Value->Shared->Prop),Inv X pins σ H s->(∀b∈fp,k_ X pins H b)->tn i s.heap->J.stop i H->
  wpAny (model P w) X.A (pyNext (.ref it)) (fun r s1=>r=none/\Inv X pins σ H s1) E s
 self:∀(A:Around) (i:Nat) (s:Shared) (Q:Value->Shared->Prop) (E:Value->Shared->Prop),tn i s.heap->Q (.ref it) s->wpAny (model P w) A (pyIter (.ref it)) Q E s
abbrev TI:=St->Hp->(It->Hp->Prop)->Prop
def Gk(X:Cx)(pins:List (Addr×Obj))(σ:St)(tg:Expr)(R:It->Hp->Prop)(itv:Value)(s2:Shared):Prop:=
 ∃(it:Addr) (fp:List Addr) (tn:Nat->Heap->Prop) (J:It) (H':Hp),itv= .ref it/\Inv X pins σ H' s2/\Turn X.prog X.w X.K tg J fp it tn/\tn 0 s2.heap/\(∀b∈fp,k_ X pins H' b)/\R J H'
def PI(X:Cx)(tg iter:Expr)(wi:TI):Prop:=
 ∀(pins:List (Addr×Obj)) (s:Shared) (σ:St) (H:Hp) (R:It->Hp->Prop),Inv X pins σ H s->wi σ H R->
  wpAny (model X.prog X.w) X.A (eval iter X.env) (fun v s1=>wpAny (model X.prog X.w) X.A (pyIter v) (Gk X pins σ tg R) X.xe s1) X.xe s
theorem yc{M:Model}{A:Around}{E:Value->Shared->Prop}{s:Shared}{tg:Expr}{it:Addr}{u:Value}{o:Obj}{n:String}{vs:Array Value}{Q:Unit->Shared->Prop}(ho:s.heap.get? it=some o)(hc:o.cls= .type n)(hd:o.data= .fields vs)
 (hn: ["enumerate","zip","dict_itemiterator","dict_reverseitemiterator","odict_iterator","itertools.zip_longest","itertools.pairwise"].contains n=false) (hQ:Q () s):wpAny M A (letOwnedTupleGo tg (.ref it) u) Q E s:=by
 unfold letOwnedTupleGo
 cases tg<;>first
  |exact wpAny_pure hQ
  |(cases u<;>first
     |exact wpAny_pure hQ
     |(refine wpAny_bind (wpAny_load ho ?_)
       rw[hc,hd];show wpAny M A (if(["enumerate","zip","dict_itemiterator","dict_reverseitemiterator","odict_iterator","itertools.zip_longest","itertools.pairwise"].contains n&&vs[0]?==some (rawInt _))=true then _ else _) Q E s;rw[if_neg (by intro h;rw[hn,Bool.false_and]at h;cases h)];exact wpAny_pure hQ))
def JF(K:PySem.W.Frag)(a:Addr):It:=
 ⟨fun i H=>∃xs x,md K H a xs/\xs[i]?=some x,fun i H x H'=>H'=H/\∀xs,md K H a xs->xs[i]?=some x,fun i H=>∃xs,md K H a xs/\xs.length<=i⟩
def LJ(K:PySem.W.Frag)(a:Addr):It:=
 ⟨fun i H=>∃xs x,iY K H a xs/\xs[i]?=some x,fun i H x H'=>H'=H/\∀xs,iY K H a xs->xs[i]?=some x,fun i H=>∃xs,iY K H a xs/\xs.length<=i⟩
def wX(lo:Int)(n:Nat):It:=⟨fun i _=>i<n,fun i H x H'=>H'=H/\x= .int (lo+i),fun i _=>n<=i⟩
theorem Et{P:Program}{w:World}{K:PySem.W.Frag}{tg:Expr}(a it:Addr):Turn P w K tg (JF K a) [it] it (fun i h=>h.IsListIter it a i) where
 mem:=by simp
 obj:=fun i h st b hb=>by
  have e:b=it:=by simpa using hb
  subst e;obtain⟨o,e,c,d⟩:=st;exact⟨o,e,fun v z=>by rw[d]at z;cases z⟩
 keep:=fun i h h' st k=>st.at fun o e=>k it (by simp) o e
 item:=by
  intro X hP hw hK hc i pins s σ H E I hf st hg;subst hP hw hK;obtain⟨xs,x,hq,hx⟩:=hg;obtain⟨aq,rv,p,hz⟩:=I.list hq;obtain⟨u,hu,ru⟩:=rv.get hx;obtain⟨f0,f1,f2,f3,f4,f5⟩:=hf it (by simp);refine wpAny_pyNext_list_item st p.isList (x:=u) (by simpa using hu) fun h' st' sb=>?_;have I1:Inv X pins σ H {s with heap:=h'}:=I.turned (t':=s.toks) (fun b o hb e=>(sb.2 b hb).trans e) f0 f1 f3 f4 f5;obtain⟨o,e,c,d⟩:=id st';exact⟨u,rfl,yc (s:={s with heap:=h'}) e c d (by decide) ⟨x,H,I1,ru,⟨rfl,fun ys hy=>by rw[I.ym hy hq];exact hx⟩,st',fun b hb=>(hf b hb).1⟩⟩
 done:=by
  intro X hP hw hK hc i pins s σ H E I hf st hg;subst hP hw hK;obtain⟨xs,hq,hx⟩:=hg;obtain⟨aq,rv,p,hz⟩:=I.list hq;obtain⟨f0,f1,f2,f3,f4,f5⟩:=hf it (by simp);have hl:=rv.length;exact wpAny_pyNext_list_end (I.ok.hd hc) st p.isList (by simp;omega) fun h' eb=>⟨rfl,I.turned (t':=s.toks) (fun b o hb e=>eb b o hb e) f0 f1 f3 f4 f5⟩
 self:=fun _ _ _ _ _ st h=>wpAny_pyIter_listiter st h
theorem BF{P:Program}{w:World}{K:PySem.W.Frag}{tg:Expr}(a it:Addr):Turn P w K tg (LJ K a) [it] it (fun i h=>h.IsTupleIter it a i) where
 mem:=by simp
 obj:=fun i h st b hb=>by
  have e:b=it:=by simpa using hb
  subst e;obtain⟨o,e,c,d⟩:=st;exact⟨o,e,fun v z=>by rw[d]at z;cases z⟩
 keep:=fun i h h' st k=>st.at fun o e=>k it (by simp) o e
 item:=by
  intro X hP hw hK hc i pins s σ H E I hf st hg;subst hP hw hK;obtain⟨xs,x,hq,hx⟩:=hg;obtain⟨aq,rv,p,hz⟩:=I.tuple hq;obtain⟨u,hu,ru⟩:=rv.get hx;obtain⟨f0,f1,f2,f3,f4,f5⟩:=hf it (by simp);refine wpAny_pyNext_tuple_item st (show s.heap.IsTuple a aq.toArray from p) (x:=u) (by simpa using hu) fun h' st' sb=>?_;have I1:Inv X pins σ H {s with heap:=h'}:=I.turned (t':=s.toks) (fun b o hb e=>(sb.2 b hb).trans e) f0 f1 f3 f4 f5;obtain⟨o,e,c,d⟩:=id st';exact⟨u,rfl,yc (s:={s with heap:=h'}) e c d (by decide) ⟨x,H,I1,ru,⟨rfl,fun ys hy=>by rw[I.xa hy hq];exact hx⟩,st',fun b hb=>(hf b hb).1⟩⟩
 done:=by
  intro X hP hw hK hc i pins s σ H E I hf st hg;subst hP hw hK;obtain⟨xs,hq,hx⟩:=hg;obtain⟨aq,rv,p,hz⟩:=I.tuple hq;obtain⟨f0,f1,f2,f3,f4,f5⟩:=hf it (by simp);have hl:=rv.length;exact wpAny_pyNext_tuple_end (I.ok.hd hc) st (show s.heap.IsTuple a aq.toArray from p) (by simp;omega) fun h' eb=>⟨rfl,I.turned (t':=s.toks) (fun b o hb e=>eb b o hb e) f0 f1 f3 f4 f5⟩
 self:=fun _ _ _ _ _ st h=>wpAny_pyIter_tupleiter st h
theorem Cb{P:Program}{w:World}{K:PySem.W.Frag}{tg:Expr}(it:Addr)(lo:Int)(n:Nat):Turn P w K tg (wX lo n) [it] it (fun i h=>IsRangeIter h it (lo+(i:Nat)*1) ((n:Int)-(i:Nat)) 1) where
 mem:=by simp
 obj:=fun i h st b hb=>by
  have e:b=it:=by simpa using hb
  subst e
  exact⟨_,st,fun v z=>by
   have z':Data.fields _=Data.cell v:=z;cases z'⟩
 keep:=fun i h h' st k=>k it (by simp) _ st
 item:=by
  intro X hP hw hK hc i pins s σ H E I hf st hg;subst hP hw hK;obtain⟨f0,f1,f2,f3,f4,f5⟩:=hf it (by simp);have W:=Walks.range (prog:=X.prog) (w:=X.w) (I.ok.hd hc) it lo 1 n;refine W.item i s _ _ hg st fun v h' tk hv st' kk=>?_;obtain⟨t,rfl⟩:=hv;have I1:Inv X pins σ H {s with heap:=h',toks:=tk}:=I.turned (fun b o hb e=>kk b o (by simpa using hb) e) f0 f1 f3 f4 f5;refine⟨_,rfl,yc (s:={s with heap:=h',toks:=tk}) (n:="range_iterator") st' rfl rfl (by decide) ⟨.int (lo+i),H,I1,⟨t,?_⟩,⟨rfl,rfl⟩,st',fun b hb=>(hf b hb).1⟩⟩;rw[Int.mul_one]
 done:=by
  intro X hP hw hK hc i pins s σ H E I hf st hg;subst hP hw hK;obtain⟨f0,f1,f2,f3,f4,f5⟩:=hf it (by simp);exact wpAny_pyNext_range_end (I.ok.hd hc) st (by have:n<=i:=hg;omega) fun h' eb=>⟨rfl,I.turned (t':=s.toks) (fun b o hb e=>eb b o hb e) f0 f1 f3 f4 f5⟩
 self:=fun _ _ _ _ _ st h=>wpAny_pyIter_rangeiter st h
section
variable {X:Cx}{tg:Expr}
theorem zT{pins:List (Addr×Obj)}{σ:St}{H:Hp}{s:Shared}{R:It->Hp->Prop}{E:Value->Shared->Prop}{lo hi:Int}{t u v:Tok}{tk:Nat}(I:Inv X pins σ H s)(h1: -(2^62)<=lo)(h2:lo<2^62)(h3: -(2^62)<=hi)(h4:hi<2^62)
 (q:R (wX lo (hi-lo).toNat) H):wpAny (model X.prog X.w) X.A (pyIter (.ref s.heap.objs.size)) (Gk X pins σ tg R) E {s with heap:=s.heap.push {cls:= .type "range",data:= .fields #[.int lo t,.int hi u,.int 1 v]},toks:=tk}:=by
 refine wpAny_pyIter_range (IsRange.new ..) (small_one h1 h2 h3 h4) ?_;have I1:Inv X pins σ H {s with heap:=s.heap.push {cls:= .type "range",data:= .fields #[.int lo t,.int hi u,.int 1 v]},toks:=tk}:=I.kept fun b o e=>Heap.get?_push_of_some _ e
 refine⟨(s.heap.push {cls:= .type "range",data:= .fields #[.int lo t,.int hi u,.int 1 v]}).objs.size,[(s.heap.push {cls:= .type "range",data:= .fields #[.int lo t,.int hi u,.int 1 v]}).objs.size],_,_,H,rfl,
  I1.kept (t':=tk) fun b o e=>Heap.get?_push_of_some _ e,Cb _ lo (hi-lo).toNat,?_,fun b hb=>?_,q⟩
 . have e1:lo+((0:Nat):Int)*1=lo:=by simp
   have e2:(((hi-lo).toNat:Nat):Int)-((0:Nat):Int)=Builtin.Range.rangeSize lo hi 1:=by rw[rangeSize_one];split<;>omega
   show IsRangeIter _ _ (lo+((0:Nat):Int)*1) ((((hi-lo).toNat:Nat):Int)-((0:Nat):Int)) 1;rw[e1,e2];exact Heap.get?_push_size _ rfl
 . have e:b=(s.heap.push {cls:= .type "range",data:= .fields #[.int lo t,.int hi u,.int 1 v]}).objs.size:=by simpa using hb
   subst e;exact I1.t_ (Nat.le_refl _) (I1.aM.fresh (Nat.le_refl _))
def Co(ta:TA):TI:=fun σ H R=>ta σ H fun vs H1=>∃j:Int,vs=[.int j]/\ -(2^62)<=j/\j<2^62/\R (wX 0 j.toNat) H1
def Bu(ta:TA):TI:=fun σ H R=>ta σ H fun vs H1=>∃i j:Int,vs=[.int i,.int j]/\(-(2^62)<=i/\i<2^62/\ -(2^62)<=j/\j<2^62)/\R (wX i (j-i).toNat) H1
theorem Ds{a:Expr}{ta:TA}{p pos:Pos}(hg:Gl X "range")(hm:X.mg "range"=none)(ha:PA X [a] ta)(hs:starEach [a] X.env=[(false,eval a X.env)]:=by rfl):PI X tg (.Call (.Name "range" p) [a] [] pos) (Co ta):=by
 intro pins s σ H R I h;refine Call_ (kL I hg hm boot_range (PyProof.Rows.callWith_type1 (cu (ha pos pins s σ H _ I h) fun us s1 ⟨vs,H1,I1,r1,q1⟩=>?_) hs rfl));obtain⟨j,e,q1,q2,q⟩:=q1;subst e;cases r1 with
 |cons r rr=>
  cases rr;obtain⟨t,rfl⟩:=r;exact call_range_1 (zT I1 (by omega) (by omega) q1 q2 (by simpa using q))
theorem C2{a b:Expr}{ta:TA}{p pos:Pos}(hg:Gl X "range")(hm:X.mg "range"=none)(ha:PA X [a,b] ta)(hs:starEach [a,b] X.env=[(false,eval a X.env),(false,eval b X.env)]:=by rfl)(hs2:starEach [b] X.env=[(false,eval b X.env)]:=by rfl):
 PI X tg (.Call (.Name "range" p) [a,b] [] pos) (Bu ta):=by
 intro pins s σ H R I h;refine Call_ (kL I hg hm boot_range (PyProof.Rows.callWith_type1 (cu (ha pos pins s σ H _ I h) fun us s1 ⟨vs,H1,I1,r1,q1⟩=>?_) (by rw[hs,hs2]) (by rw[hs2];rfl)));obtain⟨i,j,e,⟨q1,q2,q3,q4⟩,q⟩:=q1;subst e;cases r1 with
 |cons r rr=>
  cases rr with
  |cons r' rr=>
   cases rr;obtain⟨t,rfl⟩:=r;obtain⟨t',rfl⟩:=r';exact call_range_2 (zT I1 q1 q2 q3 q4 q)
def Kg(wi:TI)(g:TG)(tb:TS):TS:=fun D σ H=>wi σ H fun J H1=>∃W:Nat->Nat->St->Hp->Prop,(∃m,W 0 m σ H1)/\∀i m σ H,W i m σ H->
 (J.stop i H/\D.nx σ H)\/(J.go i H/\∃N:St->Hp->Prop,(∀σ' H',N σ' H'->∃m',m'<m/\W (i+1) m' σ' H')/\∀x H',J.oH i H x H'->g x σ H' fun σ2 H2=>tb {D with nx:=N,ct:=N,bk:=D.nx} σ2 H2)
def rQ(fp:List Addr)(h:Heap):List (Addr×Obj):=fp.filterMap fun b=>(h.get? b).map fun o=>(b,o)
theorem mT{fp:List Addr}{h:Heap}{b:Addr}{o:Obj}(hb:b∈fp)(e:h.get? b=some o):(b,o)∈rQ fp h:=List.mem_filterMap.mpr ⟨b,hb,by rw[e];rfl⟩
theorem CL{fp:List Addr}{h:Heap}{p:Addr×Obj}(hp:p∈rQ fp h):p.1∈fp/\h.get? p.1=some p.2:=by
 obtain⟨b,hb,e⟩:=List.mem_filterMap.mp hp;cases q:h.get? b with
 |none=>rw[q]at e;cases e
 |some o=>
  rw[q]at e;have e':(b,o)=p:=Option.some.inj e;subst e';exact⟨hb,q⟩
theorem Inv.pinned{pins:List (Addr×Obj)}{σ:St}{H:Hp}{s:Shared}{fp:List Addr}(I:Inv X pins σ H s)(hf:∀b∈fp,k_ X pins H b)(ho:∀b∈fp,∃o,s.heap.get? b=some o/\∀v,o.data≠ .cell v):Inv X (pins++rQ fp s.heap) σ H s:=
 I.sL fun p hp=>(List.mem_append.mp hp).elim (fun z=>I.pin p (List.mem_append_right _ z)) fun z=>by
  obtain⟨hb,e⟩:=CL z;obtain⟨f0,f1,f2,_⟩:=hf p.1 hb;obtain⟨o,e',d⟩:=ho p.1 hb;rw[e]at e';cases e';exact⟨e,f0,f1,f2,d⟩
theorem Inv.gS{pins pl:List (Addr×Obj)}{σ:St}{H:Hp}{s:Shared}(I:Inv X (pins++pl) σ H s):Inv X pins σ H s:=I.sL fun p hp=>I.pin p (List.mem_append_right _ (List.mem_append_left _ hp))
theorem KP{iter:Expr}{body:List Stmt}{wi:TI}{g:TG}{tb:TS}{pos:Pos}(hp:PassesOwn (model X.prog X.w) X.A X.env X.xe)(hc:X.calm=true)(hi:PI X tg iter wi)(hg:PG X tg g)(hb:gJ X body tb)
 (hs:∀x,foldedSetIterable iter X.env x=pure x:=by intro _;rfl):PS X (.For tg iter body [] pos) (Kg wi g tb):=by
 intro pins s σ H D I h;refine wpAny_For (cu (hi pins s σ H _ I h) fun v s1 h1=>cu h1 fun itv s2 h2=>?_) hs;obtain⟨it,fp,tn,J,H2,e,I2,T,st2,f2,W,⟨m0,w0⟩,turn⟩:=h2;subst e;have stat:∀ {H':Hp},(∀b∈fp,H' b=none)->∀b∈fp,k_ X pins H' b:=fun hn b hb=>⟨hn b hb,(f2 b hb).2⟩
 refine codeAny_forLoop_any (fun n s'=>∃i σ' H',Inv X pins σ' H' s'/\tn i s'.heap/\(∀b∈fp,H' b=none)/\W i n σ' H') ?_ m0 ⟨0,σ,H2,I2,st2,fun b hb=>(f2 b hb).1,w0⟩;rintro n s3 ⟨i,σ3,H3,I3,st3,fr3,w3⟩;rcases turn i n σ3 H3 w3 with⟨stop,qn⟩|⟨go,N,hN,step⟩
 . refine wpAny_passesOwn hp (cu (T.done X rfl rfl rfl hc i pins s3 σ3 H3 X.xe I3 (stat fr3) st3 stop) fun r s4 ⟨hr,I4⟩=>?_);subst hr;exact wpAny_execs_nil ⟨σ3,H3,I4,qn⟩
 . refine wpAny_passesOwn hp (cu (T.item X rfl rfl rfl hc i pins s3 σ3 H3 X.xe I3 (stat fr3) st3 go) fun r s4 ⟨u,hr,h4⟩=>?_);subst hr;refine wpAny_passesOwn hp (cu h4 fun _ s5 ⟨x,H5,I5,r5,y5,st5,fr5⟩=>?_);have I5':=I5.pinned (stat fr5) (T.obj _ _ st5);refine wpAny_passesOwn hp (cu (hg _ s5 σ3 H5 x u _ I5' r5 (step x H5 y5)) fun _ s6 ⟨σ6,H6,I6,q6⟩=>?_);refine wpAny_passesOwn hp (cu (hb _ s6 σ6 H6 _ I6 q6) fun f s7 q7=>?_)
   have again:∀ {σ7:St} {H7:Hp},Inv X (pins++rQ fp s5.heap) σ7 H7 s7->N σ7 H7->∃m,m<n/\∃i σ' H',Inv X pins σ' H' s7/\tn i s7.heap/\(∀b∈fp,H' b=none)/\W i m σ' H':=fun{σ7 H7} I7 n7=>by
    obtain⟨m',hm,w7⟩:=hN σ7 H7 n7;refine⟨m',hm,i+1,σ7,H7,I7.gS,T.keep _ _ _ st5 fun b hb o e=>(I7.pin (b,o) (List.mem_append_right _ (List.mem_append_right _ (mT hb e)))).1,fun b hb=>?_,w7⟩;obtain⟨o,e,d⟩:=T.obj _ _ st5 b hb;exact(I7.pin (b,o) (List.mem_append_right _ (List.mem_append_right _ (mT hb e)))).2.1
   cases f with
   |next=>obtain⟨σ7,H7,I7,n7⟩:=q7;exact again I7 n7
   |cont=>obtain⟨σ7,H7,I7,n7⟩:=q7;exact again I7 n7
   |brk=>obtain⟨σ7,H7,I7,q7⟩:=q7;exact⟨σ7,H7,I7.gS,q7⟩
   |ret v=>obtain⟨x7,σ7,H7,I7,r7,q7⟩:=q7;exact⟨x7,σ7,H7,I7.gS,r7,q7⟩
end
theorem mn{lo:Int}{n:Nat}{g:TG}{tb:TS}{D:Ends}{σ:St}{H:Hp}(Pv:Nat->St->Hp->Prop)(h0:Pv 0 σ H)
 (hs:∀i σ H,i<n->Pv i σ H->g (.int (lo+i)) σ H fun σ2 H2=>tb {D with nx:=Pv (i+1),ct:=Pv (i+1),bk:=D.nx} σ2 H2) (hd:∀σ H,Pv n σ H->D.nx σ H):
 ∃W:Nat->Nat->St->Hp->Prop,(∃m,W 0 m σ H)/\∀i m σ H,W i m σ H->
  ((wX lo n).stop i H/\D.nx σ H)\/((wX lo n).go i H/\∃N:St->Hp->Prop,(∀σ' H',N σ' H'->∃m',m'<m/\W (i+1) m' σ' H')/\∀x H',(wX lo n).oH i H x H'->g x σ H' fun σ2 H2=>tb {D with nx:=N,ct:=N,bk:=D.nx} σ2 H2):=by
 refine⟨fun i m σ H=>m=n-i/\i<=n/\Pv i σ H,⟨n,by simp,Nat.zero_le _,h0⟩,?_⟩;rintro i m σ H ⟨rfl,hi,p⟩;by_cases hlt:i<n
 . refine .inr ⟨hlt,Pv (i+1),fun σ' H' p'=>⟨n-(i+1),by omega,rfl,hlt,p'⟩,fun x H' y=>?_⟩;obtain⟨e,y⟩:=y;subst e y;exact hs i σ _ hlt p
 . have e:i=n:=by omega
   subst e;exact .inl ⟨Nat.le_refl _,hd σ H p⟩
abbrev R2:=V->V->Hp->VK->Prop
def cw(X:Cx)(f:Value->Value->Sem Value)(r:R2):Prop:=
 ∀(pins:List (Addr×Obj)) (s:Shared) (σ:St) (H:Hp) (x y:V) (v u:Value) (Q:VK),Inv X pins σ H s->RelV x v->RelV y u->r x y H Q->
  wpAny (model X.prog X.w) X.A (f v u) (EP X pins σ Q) X.xe s
def AX(X:Cx)(f:Value->Sem Value)(r:V->Hp->VK->Prop):Prop:=
 ∀(pins:List (Addr×Obj)) (s:Shared) (σ:St) (H:Hp) (x:V) (v:Value) (Q:VK),Inv X pins σ H s->RelV x v->r x H Q->
  wpAny (model X.prog X.w) X.A (f v) (EP X pins σ Q) X.xe s
def bI(X:Cx)(f:Value)(r:List V->Hp->VK->Prop):Prop:=
 ∀(pins:List (Addr×Obj)) (s:Shared) (σ:St) (H:Hp) (xs:List V) (us:List Value) (Q:VK),Inv X pins σ H s->Vals xs us->r xs H Q->
  wpAny (model X.prog X.w) X.A (call f us) (EP X pins σ Q) X.xe s
def DN(r:R2)(ta tb:TE):TE:=fun σ H Q=>ta σ H fun x H1=>tb σ H1 fun y H2=>r x y H2 Q
def N_(r:V->Hp->VK->Prop)(ta:TE):TE:=fun σ H Q=>ta σ H fun x H1=>r x H1 Q
def rI(C:Int->Int->Prop)(g:Int->Int->V):R2:=fun x y H Q=>∃i j,x= .int i/\y= .int j/\C i j/\Q (g i j) H
def w9(g:Int->Int->V):R2:=fun x y H Q=>∃i j,x= .int i/\y= .int j/\Q (g i j) H
def rU(g:Int->V):V->Hp->VK->Prop:=fun x H Q=>∃i,x= .int i/\Q (g i) H
section
variable {X:Cx}{a b c:Expr}{ta tb tc:TE}{pos:Pos}
theorem Fl(ha:PE X a ta)(hb:PE X b tb){pins:List (Addr×Obj)}{s:Shared}{σ:St}{H:Hp}{R:V->V->Hp->Prop}(I:Inv X pins σ H s)
 (h:ta σ H fun x H1=>tb σ H1 fun y H2=>R x y H2) {Q:Value->Shared->Prop} {f:Value->Value->Sem Value}
 (hf:∀v u s2 x y H2,Inv X pins σ H2 s2->RelV x v->RelV y u->R x y H2->wpAny (model X.prog X.w) X.A (f v u) Q X.xe s2):
 wpAny (model X.prog X.w) X.A (eval a X.env) (fun v s₁=>wpAny (model X.prog X.w) X.A (eval b X.env) (fun u s₂=>wpAny (model X.prog X.w) X.A (f v u) Q X.xe s₂) X.xe s₁) X.xe s:=by
 refine cu (ha pins s σ H _ I h) fun v s1 ⟨x,H1,I1,r1,q1⟩=>?_;refine cu (hb pins s1 σ H1 _ I1 q1) fun u s2 ⟨y,H2,I2,r2,q2⟩=>?_;exact hf v u s2 x y H2 I2 r1 r2 q2
theorem MH{op:Operator}{r:R2}(ho:cw X (binaryOp op) r)(ha:PE X a ta)(hb:PE X b tb):PE X (.BinOp a op b pos) (DN r ta tb):=by
 intro pins s σ H Q I h;exact wpAny_BinOp (Fl ha hb I h fun v u s2 x y H2 I2 rx ry q=>ho pins s2 σ H2 x y v u Q I2 rx ry q)
theorem Ni{op:UnaryOp}{r:V->Hp->VK->Prop}(ho:AX X (unaryOp op) r)(ha:PE X a ta):PE X (.UnaryOp op a pos) (N_ r ta):=by
 intro pins s σ H Q I h;exact UnaryOp_ (cu (ha pins s σ H _ I h) fun v s1 ⟨x,H1,I1,r1,q1⟩=>ho pins s1 σ H1 x v Q I1 r1 q1)
theorem Ga{f:Value->Value->Sem Value}{C:Int->Int->Prop}{g:Int->Int->Int}
 (rule:∀(i j:Int) (t u:Tok) (s:Shared) (Q:Value->Shared->Prop) (E:Value->Shared->Prop),C i j->Q (.int (g i j) s.toks) {s with toks:=s.toks+1}->wpAny (model X.prog X.w) X.A (f (.int i t) (.int j u)) Q E s):
 cw X f (rI C fun i j=> .int (g i j)):=by
 intro pins s σ H x y v u Q I rx ry h;obtain⟨i,j,rfl,rfl,hc,q⟩:=h;obtain⟨t,rfl⟩:=rx;obtain⟨t',rfl⟩:=ry;exact rule i j t t' s _ _ hc ⟨.int (g i j),H,I.tok _,⟨_,rfl⟩,q⟩
theorem KO{f:Value->Value->Sem Value}{g:Int->Int->Int}
 (rule:∀(i j:Int) (t u:Tok) (s:Shared) (Q:Value->Shared->Prop) (E:Value->Shared->Prop),Q (.int (g i j) s.toks) {s with toks:=s.toks+1}->wpAny (model X.prog X.w) X.A (f (.int i t) (.int j u)) Q E s):
 cw X f (w9 fun i j=> .int (g i j)):=by
 intro pins s σ H x y v u Q I rx ry h;obtain⟨i,j,rfl,rfl,q⟩:=h;obtain⟨t,rfl⟩:=rx;obtain⟨t',rfl⟩:=ry;exact rule i j t t' s _ _ ⟨.int (g i j),H,I.tok _,⟨_,rfl⟩,q⟩
theorem FN{f:Value->Value->Sem Value}{g:Int->Int->Bool}
 (rule:∀(i j:Int) (t u:Tok) (s:Shared) (Q:Value->Shared->Prop) (E:Value->Shared->Prop),Q (.bool (g i j)) s->wpAny (model X.prog X.w) X.A (f (.int i t) (.int j u)) Q E s):
 cw X f (w9 fun i j=> .bl (g i j)):=by
 intro pins s σ H x y v u Q I rx ry h;obtain⟨i,j,rfl,rfl,q⟩:=h;obtain⟨t,rfl⟩:=rx;obtain⟨t',rfl⟩:=ry;exact rule i j t t' s _ _ ⟨.bl (g i j),H,I,rfl,q⟩
def Fu(i j:Int):Prop:=0<=j/\j<=1000000/\i.natAbs<2^64
theorem KD:cw X (binaryOp .Add) (w9 fun i j=> .int (i+j)):=KO fun _ _ _ _ _ _ _ q=>add_int q
theorem Kb:cw X (binaryOp .Sub) (w9 fun i j=> .int (i-j)):=KO fun _ _ _ _ _ _ _ q=>sub_int q
theorem Hu:cw X (binaryOp .Mod) (rI (fun _ j=>j≠0) fun i j=> .int (i.fmod j)):=Ga fun _ _ _ _ _ _ _ hc q=>mod_int' hc q
theorem Lj:cw X (binaryOp .Pow) (rI Fu fun i j=> .int (i^j.toNat)):=Ga fun _ _ _ _ _ _ _ hc q=>pow_int_small hc.1 hc.2.1 hc.2.2 q
theorem Pz{f:Value->Sem Value}{g:Int->Int}
 (rule:∀(i:Int) (t:Tok) (s:Shared) (Q:Value->Shared->Prop) (E:Value->Shared->Prop),Q (.int (g i) s.toks) {s with toks:=s.toks+1}->wpAny (model X.prog X.w) X.A (f (.int i t)) Q E s):
 AX X f (rU fun i=> .int (g i)):=by
 intro pins s σ H x v Q I rx h;obtain⟨i,rfl,q⟩:=h;obtain⟨t,rfl⟩:=rx;exact rule i t s _ _ ⟨.int (g i),H,I.tok _,⟨_,rfl⟩,q⟩
theorem JN:AX X (unaryOp .USub) (rU fun i=> .int (-i)):=Pz fun _ _ _ _ _ q=>neg_int q
end
def OM:V->V->Bool
 | .aK,.aK=>true| .aK,.int _=>true| .int _,.aK=>true| .aK,.bl _=>true| .bl _,.aK=>true| .aK,.str _=>true| .str _,.aK=>true
 | .int _,.int _=>true| .bl _,.bl _=>true| .str _,.str _=>true| .tV _,.tV _=>true
 | .int _,.str _=>true| .str _,.int _=>true| .bl _,.str _=>true| .str _,.bl _=>true
 |_,_=>false
def Pa:R2:=fun x y H Q=>OM x y=true/\Q (.bl (!decide (x=y))) H
theorem Iy{i j:Int}:decide (V.int i=V.int j)=(i==j):=by
 rw[Bool.eq_iff_iff];simp
theorem J4{i j:Bool}:decide (V.bl i=V.bl j)=(i==j):=by
 rw[Bool.eq_iff_iff];simp
theorem IK{i j:Str}:decide (V.str i=V.str j)=(i==j):=by
 rw[Bool.eq_iff_iff];simp
theorem IX{i j:Array UInt8}:decide (V.tV i=V.tV j)=(i.toList==j.toList):=by
 rw[Bool.eq_iff_iff];cases i;cases j;simp
section
variable {X:Cx}{a b c:Expr}{ta tb tc:TE}{pos:Pos}
theorem fy{pins:List (Addr×Obj)}{σ:St}{H:Hp}{s:Shared}{Q:VK}{k k':Bool}(I:Inv X pins σ H s)(q:Q (.bl k) H)(e:k=k'):EP X pins σ Q (.bool k') s:=by
 subst e;exact⟨.bl k,H,I,rfl,q⟩
theorem Nm:cw X (compareOp .NotEq) Pa:=by
 intro pins s σ H x y v u Q I rx ry h;obtain⟨hs,q⟩:=h;cases x with
 |aK=>
  cases rx;cases y with
  |aK=>cases ry;exact PySem.EqNone.ne_none_none (fy I q (by simp))
  |bl j=>cases ry;exact PySem.EqNone.ne_none_bool (fy I q (by simp))
  |int j=>obtain⟨t',rfl⟩:=ry;exact PySem.EqNone.ne_none_int (fy I q (by simp))
  |str j=>obtain⟨t',rfl⟩:=ry;exact PySem.EqNone.ne_none_str (fy I q (by simp))
  |_=>exact absurd (show false=true from hs) Bool.false_ne_true
 |bl i=>
  cases rx;cases y with
  |aK=>cases ry;exact PySem.EqNone.ne_bool_none (fy I q (by simp))
  |bl j=>cases ry;exact ne_bool (fy I q (congrArg not J4))
  |str j=>obtain⟨t',rfl⟩:=ry;exact PySem.EqMixed.ne_bool_str (fy I q (by simp))
  |_=>exact absurd (show false=true from hs) Bool.false_ne_true
 |int i=>
  obtain⟨t,rfl⟩:=rx;cases y with
  |aK=>cases ry;exact PySem.EqNone.ne_int_none (fy I q (by simp))
  |int j=>obtain⟨t',rfl⟩:=ry;exact ne_int (fy I q (congrArg not Iy))
  |str j=>obtain⟨t',rfl⟩:=ry;exact PySem.EqMixed.ne_int_str (fy I q (by simp))
  |_=>exact absurd (show false=true from hs) Bool.false_ne_true
 |str i=>
  obtain⟨t,rfl⟩:=rx;cases y with
  |aK=>cases ry;exact PySem.EqNone.ne_str_none (fy I q (by simp))
  |bl j=>cases ry;exact PySem.EqMixed.ne_str_bool (fy I q (by simp))
  |int j=>obtain⟨t',rfl⟩:=ry;exact PySem.EqMixed.ne_str_int (fy I q (by simp))
  |str j=>obtain⟨t',rfl⟩:=ry;exact ne_str (fy I q (congrArg not IK))
  |_=>exact absurd (show false=true from hs) Bool.false_ne_true
 |tV i=>
  obtain⟨t,rfl⟩:=rx;cases y with
  |tV j=>obtain⟨t',rfl⟩:=ry;exact PySem.W.ne_bytes (fy I q (congrArg not IX))
  |_=>exact absurd (show false=true from hs) Bool.false_ne_true
 |_=>cases y<;>exact absurd (show false=true from hs) Bool.false_ne_true
theorem MT:cw X (compareOp .Lt) (w9 fun i j=> .bl (decide (i<j))):=FN fun _ _ _ _ _ _ _ q=>lt_int q
theorem M3:cw X (compareOp .Gt) (w9 fun i j=> .bl (decide (j<i))):=FN fun _ _ _ _ _ _ _ q=>gt_int q
theorem MG:cw X (compareOp .GtE) (w9 fun i j=> .bl (decide (j<=i))):=FN fun _ _ _ _ _ _ _ q=>ge_int q
theorem IB:cw X (compareOp .IsNot) (fun x y H Q=>y= .aK/\Q (.bl (!decide (x= .aK))) H):=by
 intro pins s σ H x y v u Q I rx ry h;obtain⟨rfl,q⟩:=h;cases ry;refine isnot_none_gen (fy I q ?_)
 cases x<;>first
  |(cases rx;rfl)
  |(obtain⟨t,rfl⟩:=rx;rfl)
theorem cC(b:Expr){op:CmpOp}(h:op≠ .In:=by decide)(h2:op≠ .NotIn:=by decide):behindInMarks op b=false:=by
 have e1:(op==CmpOp.In)=false:=by cases op<;>first|rfl|exact absurd rfl h
 have e2:(op==CmpOp.NotIn)=false:=by cases op<;>first|rfl|exact absurd rfl h2
 cases b<;>simp[behindInMarks,e1,e2]
theorem ID{op:CmpOp}{r:R2}(ho:cw X (compareOp op) r)(ha:PE X a ta)(hb:PE X b tb)(hm:behindInMarks op b=false):PE X (.Compare a [op] [b] pos) (DN r ta tb):=by
 intro pins s σ H Q I h;exact wpAny_Compare1 (Fl ha hb I h fun v u s2 x y H2 I2 rx ry q=>ho pins s2 σ H2 x y v u Q I2 rx ry q) hm
def Mz(t:TE):TT:=fun σ H Q=>t σ H fun x H'=>∃k,x= .bl k/\Q k H'
theorem Jo{op:CmpOp}{r:R2}(ho:cw X (compareOp op) r)(ha:PE X a ta)(hb:PE X b tb)(hm:behindInMarks op b=false):PT X (.Compare a [op] [b] pos) (Mz (DN r ta tb)):=by
 intro pins s σ H Q I h
 refine wpAny_isTrue_Compare1 (cu (ha pins s σ H _ I h) fun v s1 ⟨x,H1,I1,r1,q1⟩=>cu (hb pins s1 σ H1 _ I1 q1) fun u s2 ⟨y,H2,I2,r2,q2⟩=>
  cu (ho pins s2 σ H2 x y v u _ I2 r1 r2 q2) fun c s3 ⟨z,H3,I3,r3,k,e,q3⟩=>?_) hm
 subst e;cases r3;exact wpAny_truthy_bool ⟨H3,I3,q3⟩
theorem rE:(sizeLine:Nat)<2^63:=by rw[sizeLine_eq];decide
theorem BV:cw X (binaryOp .Add) (fun x y H Q=>∃i j,x= .str i/\y= .str j/\i.length+j.length<=sizeLine/\Q (.str (i++j)) H):=by
 intro pins s σ H x y v u Q I rx ry h;obtain⟨i,j,rfl,rfl,hz,q⟩:=h;obtain⟨t,rfl⟩:=rx;obtain⟨t',rfl⟩:=ry;exact add_str (fun t' tk=>⟨.str (i++j),H,I.tok _,⟨_,rfl⟩,q⟩) hz
theorem vals1{x:V}{us:List Value}(r:Vals [x] us):∃u,us=[u]/\RelV x u:=by
 cases r with
 |cons r1 r2=>cases r2;exact⟨_,rfl,r1⟩
theorem vals2{x y:V}{us:List Value}(r:Vals [x,y] us):∃u w',us=[u,w']/\RelV x u/\RelV y w':=by
 cases r with
 |cons r1 r2=>
  cases r2 with
  |cons r3 r4=>cases r4;exact⟨_,_,rfl,r1,r3⟩
theorem FZ:bI X (.builtin "abs") (fun xs H Q=>∃i,xs=[.int i]/\Q (.int (if i<0 then-i else i)) H):=by
 intro pins s σ H xs us Q I r h;obtain⟨i,rfl,q⟩:=h;obtain⟨u,rfl,t,rfl⟩:=vals1 r;exact call_abs_int fun u tk=>⟨.int (if i<0 then-i else i),H,I.tok _,⟨_,rfl⟩,q⟩
theorem Dr(hc:X.calm=true):bI X (.builtin "max") (fun xs H Q=>∃i j,xs=[.int i,.int j]/\Q (.int (if j>i then j else i)) H):=by
 intro pins s σ H xs us Q I r h;obtain⟨i,j,rfl,q⟩:=h;obtain⟨u,w',rfl,⟨t,rfl⟩,⟨t',rfl⟩⟩:=vals2 r;refine max_two_ints (I.ok.hd hc) fun h' tk k=>⟨_,H,I.kept k,?_,q⟩
 by_cases hj:j>i
 . rw[if_pos hj,if_pos hj];exact⟨_,rfl⟩
 . rw[if_neg hj,if_neg hj];exact⟨_,rfl⟩
theorem CY(hc:X.calm=true):bI X (.builtin "min") (fun xs H Q=>∃i j,xs=[.int i,.int j]/\Q (.int (if j<i then j else i)) H):=by
 intro pins s σ H xs us Q I r h;obtain⟨i,j,rfl,q⟩:=h;obtain⟨u,w',rfl,⟨t,rfl⟩,⟨t',rfl⟩⟩:=vals2 r;refine min_two_ints (I.ok.hd hc) fun h' tk k=>⟨_,H,I.kept k,?_,q⟩
 by_cases hj:j<i
 . rw[if_pos hj,if_pos hj];exact⟨_,rfl⟩
 . rw[if_neg hj,if_neg hj];exact⟨_,rfl⟩
theorem C5:bI X (.type "int") (fun xs H Q=>(∃i,xs=[.int i]/\Q (.int i) H)\/∃k,xs=[.bl k]/\Q (.int (if k then 1 else 0)) H):=by
 intro pins s σ H xs us Q I r h;rcases h with⟨i,rfl,q⟩|⟨k,rfl,q⟩
 . obtain⟨u,rfl,t,rfl⟩:=vals1 r;exact call_int_int ⟨.int i,H,I,⟨_,rfl⟩,q⟩
 . obtain⟨u,rfl,r1⟩:=vals1 r;cases r1;exact call_int_bool ⟨.int (if k then 1 else 0),H,I.tok _,⟨_,rfl⟩,q⟩
end
structure t5(h:Heap)(x dx C:Addr)(mA:Str->Option Value):Prop where
 obj:h.get? x=some (PySem.W.instObj C dx)
 ns:h.Ns1 dx mA
 ne:dx≠x
theorem DL{h:Heap}{dx:Addr}{mA:Str->Option Value}(n:h.Ns1 dx mA):∃od,h.get? dx=some od/\∀name,PySem.W.lookIn name od=some (mA name):=by
 obtain⟨o,es,ep,ho,hd,hk,_,hm⟩:=n;refine⟨o,ho,fun name=>?_⟩;have e:=hm name;unfold nsFind findBy at e;rw[<-Array.find?_toList]at e;unfold PySem.W.lookIn;rw[hd];dsimp only;split
 . rename_i y q;rw[q]at e;exact congrArg some e
 . rename_i q;rw[q]at e
   have a:es.toList.any (·.refKey)=false:=by
    rw[List.any_eq_false];intro y hy;obtain⟨z,t,hkey⟩:=hk y (Array.mem_toList_iff.mp hy);simp[DictEntry.refKey,hkey]
   have a':¬es.toList.any (·.refKey)=true:=by rw[a];exact Bool.false_ne_true
   rw[if_neg a'];exact congrArg some e
theorem t5.look{h:Heap}{x dx C:Addr}{mA:Str->Option Value}(I:t5 h x dx C mA):∃od,PySem.W.InstAt h x (PySem.W.instObj C dx) C (some od)/\∀name,PySem.W.lookIn name od=some (mA name):=
 let⟨od,ho,hl⟩:=DL I.ns
 ⟨od,⟨I.obj,rfl,rfl,ho⟩,hl⟩
section
variable {prog:Program}{w:World}{A:Around}{E:Value->Shared->Prop}{s:Shared}{K:PySem.W.Frag}{x dx C f:Addr}{mA:Str->Option Value}{name:Str}{v:Value}
theorem get_map{expr:Bool}{Q:Value->Shared->Prop}(X:K.In s.heap)(I:t5 s.heap x dx C mA)(hg:PySem.W.plainGet K C name=true)(hh:PySem.W.hasDictIn K C=true)
 (ha:PySem.W.findIn K (.ref C) name=some none) (hv:mA name=some v) (hv':PySem.W.handedIn v=true) (h:Q v {s with toks:=s.toks+1}):
 wpAny (model prog w) A (getAttr (.ref x) name expr) Q E s:=by
 obtain⟨od,J,hl⟩:=I.look;exact PySem.W.get_value X J (PySem.W.plainGet_of hg).1 (PySem.W.findObj_own hh ha rfl (by rw[hl,hv])) hv' h
theorem F1{pl:Sem Bool}{Q:Value×List Value->Shared->Prop}(X:K.In s.heap)(I:t5 s.heap x dx C mA)(hg:PySem.W.plainGet K C name=true)
 (hf:PySem.W.findIn K (.ref C) name=some (some (.ref f))) (ht:PySem.W.isFn K (.ref f)=true) (hv:mA name=none) (h:Q (.ref f,[.ref x]) s):
 wpAny (model prog w) A (getMethod (.ref x) name pl) Q E s:=by
 obtain⟨od,J,hl⟩:=I.look;exact PySem.W.method_fn X J (PySem.W.plainGet_of hg).1 (PySem.W.plainGet_of hg).2 hf (beq_iff_eq.mp ht) (by show(PySem.W.lookIn name od).map (·.isSome)=some false;rw[hl,hv];rfl) h
theorem h_{ns:List Str}{Q:Unit->Shared->Prop}(X:K.In s.heap)(I:t5 s.heap x dx C mA)
 (hs:PySem.W.findIn K (.ref C) "__setattr__"=some (some (.builtin "object.__setattr__"))) (hp:PySem.W.plainOver K C=true) (ht:PySem.W.takerIn K C name=some none) (hh:PySem.W.hasDictIn K C=true)
 (hw:PySem.Within mA ns) (hsz:ns.length<=sizeLine)
 (h:∀h',t5 h' x dx C (fun y=>if y=name then some v else mA y)->Heap.SameBut dx s.heap h'->Q () {s with heap:=h',toks:=s.toks+2}):
 wpAny (model prog w) A (setAttr (.ref x) name v) Q E s:=by
 obtain⟨od,J,hl⟩:=I.look;refine PySem.W.set_plain X J hs (PySem.W.osa_open (s:={s with toks:=s.toks+1}) (r:=none) X J hp ht fun b=>?_);obtain⟨cd,hc,hd'⟩:=PySem.W.any_some hh;have hx:s.heap.get? x=some ⟨.ref C,some dx,.plain,#[]⟩:=I.obj;refine wpAny_bind (wpAny_pure (wpAny_bind (wpAny_bind (wpAny_loadPart hx (wpAny_bind (PySem.W.Looks.here (s:={s with toks:=s.toks+1}) (PySem.W.looks_clsIn X hc) ?_))))));rw[hd'];refine wpAny_pure (a:=some dx) (wpAny_bind (wpAny_pure (wpAny_bind ?_)));refine wpAny_nsSet1 (s:={s with toks:=s.toks+1}) I.ns fun h' hn2 hs2=>?_;obtain⟨oD,esD,epD,hoD,hdD,hcD⟩:=hn2.count (PySem.Within.cons name v hw);refine wpAny_bind (wpAny_lookBehind hoD (by rw[hdD];exact pastItsLine_dict (Nat.le_trans hcD (by rw[List.length_cons];omega))) ?_);exact wpAny_pure (h _ ⟨(hs2.2 _ (Ne.symm I.ne)).trans I.obj,hn2,I.ne⟩ hs2)
theorem Fh{R:Result->Shared->Prop}{vs:List Value}{kw:List (Str×Value)}(X:K.In s.heap)(hm:PySem.W.makesIn K C=true)
 (hi:PySem.W.findIn K (.ref C) "__init__"=some (some (.ref f))) (hf:PySem.W.typeIn K (.ref f)=some (.type "function"))
 (h:codeAny (model prog w) (A.under (.builtin "type.__call__" ⟨.ref C::vs,kw⟩)) (.call (.ref f) ⟨.ref (s.heap.objs.size+1)::vs,kw⟩) (PySem.W.InitBack (s.heap.objs.size+1) R)
   {s with heap:=(s.heap.push PySem.W.emptyDict).push (PySem.W.instObj C s.heap.objs.size)}):
 codeAny (model prog w) A (.call (.ref C) ⟨vs,kw⟩) R s:=by
 obtain⟨hh,g,d,t,os⟩:=s;exact PySem.W.make_core (PySem.W.makes_of X hm) (PySem.W.looks_findIn X hi) (fun self=>PySem.W.bind_fn X self hf) (.inl rfl) h
end
def gw(f:Str)(v:V):List (Str×V)->List (Str×V)
 | []=>[(f,v)]
 |(g,x)::r=>if g=f then(g,v)::r else(g,x)::gw f v r
theorem tS(f g:Str)(v:V):∀fs:List (Str×V),(gw f v fs).lookup g=if g=f then some v else fs.lookup g
 | []=>by
   show List.lookup g [(f,v)]=_;by_cases h:g=f
   . have hb:(g==f)=true:=beq_iff_eq.mpr h;simp only[List.lookup,hb,if_pos h]
   . have hb:(g==f)=false:=beq_eq_false_iff_ne.mpr h;simp only[List.lookup,hb,if_neg h]
 |(k,x)::r=>by
  have ih:=tS f g v r;rw[show gw f v ((k,x)::r)=(if k=f then(k,v)::r else(k,x)::gw f v r)from rfl];by_cases hk:k=f
  . rw[if_pos hk];by_cases h:g=k
    . have hb:(g==k)=true:=beq_iff_eq.mpr h;simp only[List.lookup,hb,if_pos (h.trans hk)]
    . have hb:(g==k)=false:=beq_eq_false_iff_ne.mpr h;simp only[List.lookup,hb,if_neg (fun e:g=f=>h (e.trans hk.symm))]
  . rw[if_neg hk];by_cases h:g=k
    . have hb:(g==k)=true:=beq_iff_eq.mpr h;simp only[List.lookup,hb,if_neg (fun e:g=f=>hk (h.symm.trans e))]
    . have hb:(g==k)=false:=beq_eq_false_iff_ne.mpr h;simp only[List.lookup,hb];exact ih
theorem qY(f:Str)(v:V):∀fs:List (Str×V),f∈(gw f v fs).map (·.1)/\∀g,g∈fs.map (·.1)->g∈(gw f v fs).map (·.1)
 | []=>⟨by simp[gw],fun g h=>by simp at h⟩
 |(k,x)::r=>by
  obtain⟨i1,i2⟩:=qY f v r;rw[show gw f v ((k,x)::r)=(if k=f then(k,v)::r else(k,x)::gw f v r)from rfl];by_cases hk:k=f
  . rw[if_pos hk];subst hk;exact⟨by simp,fun g h=>by simpa using h⟩
  . rw[if_neg hk];refine⟨?_,fun g h=>?_⟩
    . rw[List.map_cons];exact List.mem_cons_of_mem _ i1
    . rw[List.map_cons]at h⊢;rcases List.mem_cons.mp h with e|e
      . exact List.mem_cons.mpr (.inl e)
      . exact List.mem_cons_of_mem _ (i2 g e)
theorem tF(f:Str)(v:V):∀fs:List (Str×V),(gw f v fs).length<=fs.length+1
 | []=>by simp[gw]
 |(k,x)::r=>by
  have ih:=tF f v r;rw[show gw f v ((k,x)::r)=(if k=f then(k,v)::r else(k,x)::gw f v r)from rfl];by_cases hk:k=f
  . rw[if_pos hk,List.length_cons,List.length_cons];omega
  . rw[if_neg hk,List.length_cons,List.length_cons];omega
theorem o8.some_of{v:V}{o:Option Value}(r:o8 (some v) o):∃u,o=some u/\RelV v u:=by
 cases o with
 |none=>exact(show False from r).elim
 |some u=>exact⟨u,rfl,r⟩
theorem o8.none_of{o:Option Value}(r:o8 none o):o=none:=by
 cases o with
 |none=>rfl
 |some u=>exact(show False from r).elim
theorem Dt{v:V}{u:Value}(r:RelV v u):PySem.W.handedIn u=true:=by
 cases v with
 |aK=>cases (show u=Value.none from r);rfl
 |bl b=>cases (show u=Value.bool b from r);rfl
 |int i=>obtain⟨t,e⟩:=(show∃t,u=Value.int i t from r);cases e;rfl
 |str x=>obtain⟨t,e⟩:=(show∃t,u=Value.str x t from r);cases e;rfl
 |tV b=>obtain⟨t,e⟩:=(show∃t,u=Value.bytes b t from r);cases e;rfl
 |tM b=>obtain⟨t,e⟩:=(show∃t,u=Value.float b t from r);cases e;rfl
 |ref a=>cases (show u=Value.ref a from r);rfl
 |ty n=>cases (show u=Value.type n from r);rfl
section
variable {P:Program}{w:World}{H H':Hp}{h h':Heap}{a C dx:Addr}{fs fs':List (Str×V)}
theorem pJ(aM:g7 P w H h)(e:H a=some (.ins C dx fs)):∃mA,t5 h a dx C mA/\(∀f,o8 (fs.lookup f) (mA f))/\PySem.Within mA (fs.map (·.1))/\fs.length<=1000/\H dx=some (.own a):=by
 obtain⟨d,z,ne,ob,mA,n,r,q⟩:=(show dz P w H h a (.ins C dx fs)from aM a _ e)
 exact⟨mA,⟨ob,n,ne⟩,r,q,z,d⟩
end
structure nV(K:PySem.W.Frag)(C:Addr):Prop where
 pg:PySem.W.plainGet K C Str.empty=true
 hd:PySem.W.hasDictIn K C=true
 po:PySem.W.plainOver K C=true
 sa:PySem.W.findIn K (.ref C) "__setattr__"=some (some (.builtin "object.__setattr__"))
theorem nV.get{K:PySem.W.Frag}{C:Addr}(c:nV K C)(f:Str):PySem.W.plainGet K C f=true:=c.pg
def f_(K:PySem.W.Frag)(C:Addr)(f:Str):Prop:=PySem.W.findIn K (.ref C) f=some none
theorem f_.M6{K:PySem.W.Frag}{C:Addr}{f:Str}(n:f_ K C f):PySem.W.takerIn K C f=some none:=by
 unfold PySem.W.takerIn;rw[show PySem.W.findIn K (.ref C) f=some none from n];rfl
structure Meth(K:PySem.W.Frag)(C:Addr)(m:Str)(f:Addr):Prop where
 at_:PySem.W.findIn K (.ref C) m=some (some (.ref f))
 fn:PySem.W.isFn K (.ref f)=true
 kp:PySem.W.keepIn K (.ref f)=true
section
variable {X:Cx}{pins:List (Addr×Obj)}{σ:St}{H:Hp}{s:Shared}{a C dx:Addr}{fs:List (Str×V)}{f:Str}{v:V}{A:Around}{E:Value->Shared->Prop}
theorem Cw{b:Bool}{Q:Value->Shared->Prop}(I:Inv X pins σ H s)(e:H a=some (.ins C dx fs))(c:nV X.K C)(n:f_ X.K C f)(l:fs.lookup f=some v)
 (h:∀u s',Inv X pins σ H s'->RelV v u->Q u s'):wpAny (model X.prog X.w) A (getAttr (.ref a) f b) Q E s:=by
 obtain⟨mA,O,r,_,_,_⟩:=pJ I.aM e;obtain⟨u,hu,ru⟩:=o8.some_of (v:=v) (o:=mA f) (by rw[<-l];exact r f);exact get_map I.gI O (c.get f) c.hd n hu (Dt ru) (h u _ (I.tok _) ru)
theorem B0{m:Str}{g:Addr}{pl:Sem Bool}{Q:Value×List Value->Shared->Prop}(I:Inv X pins σ H s)(e:H a=some (.ins C dx fs))(c:nV X.K C)(k:Meth X.K C m g)(l:fs.lookup m=none)
 (h:Q (.ref g,[.ref a]) s):wpAny (model X.prog X.w) A (getMethod (.ref a) m pl) Q E s:=by
 obtain⟨mA,O,r,_,_,_⟩:=pJ I.aM e;have hn:mA m=none:=o8.none_of (by rw[<-l];exact r m);exact F1 I.gI O (c.get m) k.at_ k.fn hn h
theorem BN{y:V}{u:Value}{Q:Unit->Shared->Prop}(I:Inv X pins σ H s)(e:H a=some (.ins C dx fs))(c:nV X.K C)(n:f_ X.K C f)(hl:fs.length<1000)(ry:RelV y u)
 (h:∀s',Inv X pins σ (upd H a (.ins C dx (gw f y fs))) s'->Q () s'):wpAny (model X.prog X.w) A (setAttr (.ref a) f u) Q E s:=by
 obtain⟨mA,O,r,wi,_,ho⟩:=pJ I.aM e;have hz:(fs.map (·.1)).length<=sizeLine:=by rw[List.length_map,sizeLine_eq];omega
 refine h_ I.gI O c.sa c.po n.M6 c.hd wi hz fun h' O' sb=>h _ ?_;have hd:∃o,h'.get? dx=some o:=let⟨o,_,_,e',_⟩:=O'.ns;⟨o,e'⟩
 refine I.write (x:=a) (e:=dx) (by rw[e];exact True.intro) (.inr ho) (fun b q hb z=>(sb.2 b hb).trans z) hd ?_;refine⟨by rw[aA O.ne];exact ho,?_,O.ne,O'.obj,_,O'.ns,fun g=>?_,fun g hg=>?_⟩
 . have:=tF f y fs;omega
 . show o8 ((gw f y fs).lookup g) (if g=f then some u else mA g);rw[tS];by_cases q:g=f
   . rw[if_pos q,if_pos q];exact ry
   . rw[if_neg q,if_neg q];exact r g
 . by_cases q:g=f
   . rw[q];exact(qY f y fs).1
   . refine(qY f y fs).2 g (wi g fun z=>hg ?_);show(if g=f then some u else mA g)=none;rw[if_neg q];exact z
theorem Inv.made(I:Inv X pins σ H s):Inv X pins σ (upd (upd H s.heap.objs.size (.own (s.heap.objs.size+1))) (s.heap.objs.size+1) (.ins C s.heap.objs.size []))
 {s with heap:=(s.heap.push PySem.W.emptyDict).push (PySem.W.instObj C s.heap.objs.size)}:=by
 have e1:(s.heap.push PySem.W.emptyDict).get? s.heap.objs.size=some PySem.W.emptyDict:=Heap.get?_push_size s.heap rfl
 have e2:((s.heap.push PySem.W.emptyDict).push (PySem.W.instObj C s.heap.objs.size)).get? (s.heap.objs.size+1)=some (PySem.W.instObj C s.heap.objs.size):=by
  have:=Heap.get?_push_size (s.heap.push PySem.W.emptyDict) (o:=PySem.W.instObj C s.heap.objs.size) rfl;rwa [Heap.size_push]at this
 have e3:(s.heap.push PySem.W.emptyDict).Ns s.heap.objs.size (fun _=>none):=⟨PySem.W.emptyDict,#[],_,e1,rfl,(fun e he=>absurd he (by simp)),fun _=>rfl⟩
 have I1:=I.laid (a:=s.heap.objs.size) (o:= .own (s.heap.objs.size+1)) (h':=s.heap.push PySem.W.emptyDict) (t':=s.toks) (fun b u q=>Heap.get?_push_of_some _ q) (Nat.le_refl _) ⟨_,e1⟩;refine I1.laid (a:=s.heap.objs.size+1) (o:= .ins C s.heap.objs.size []) (t':=s.toks) (fun b u q=>Heap.get?_push_of_some _ q) (Nat.le_of_eq (Heap.size_push _ _)) ?_;have ne:s.heap.objs.size≠s.heap.objs.size+1:=Nat.ne_of_lt (Nat.lt_succ_self _);refine⟨by rw[aA ne,aX],Nat.zero_le _,ne,e2,fun _=>none,(Heap.Ns1.of_empty e3).at fun o q=>Heap.get?_push_of_some _ q,fun _=>True.intro,fun y hy=>absurd rfl hy⟩
theorem Ja{prog:Program}{w:World}{env:Env}{e:Expr}{f:Str}{pos:Pos}{s:Shared}{Q:Value->Shared->Prop}(hb:attributeBase e f env (eval e env)=eval e env)
 (h:wpAny (model prog w) A (eval e env) (fun o s₁=>wpAny (model prog w) A (getAttr o f true) Q E s₁) E s):wpAny (model prog w) A (eval (.Attribute e f pos) env) Q E s:=
 Attribute_any_ h (by rw[arm_eval_Attribute,hb])
end
def O6(K:PySem.W.Frag)(ta:TE)(f:Str):TE:=fun σ H Q=>ta σ H fun x H1=>∃a C dx fs v,x= .ref a/\H1 a=some (.ins C dx fs)/\nV K C/\f_ K C f/\fs.lookup f=some v/\Q v H1
def OI(K:PySem.W.Frag)(ta tv:TE)(f:Str):TS:=fun D σ H=>tv σ H fun y H1=>ta σ H1 fun x H2=>∃a C dx fs,x= .ref a/\H2 a=some (.ins C dx fs)/\nV K C/\f_ K C f/\fs.length<1000/\
 D.nx σ (upd H2 a (.ins C dx (gw f y fs)))
section
variable {X:Cx}{o e value:Expr}{f:Str}{pos pos' tpos:Pos}{ta tv:TE}
theorem Kf(he:PE X e ta)(hb:attributeBase e f X.env (eval e X.env)=eval e X.env):PE X (.Attribute e f pos) (O6 X.K ta f):=by
 intro pins s σ H Q I h;refine Ja hb (cu (he pins s σ H _ I h) fun u s1 ⟨x,H1,I1,rx,a,C,dx,fs,v,ex,ea,c,n,l,q⟩=>?_);subst ex;obtain rfl:u=Value.ref a:=rx;exact Cw I1 ea c n l fun u' s2 I2 ru=>⟨v,H1,I2,ru,q⟩
theorem JD(ha:PE X o ta)(hv:PE X value tv)(hs:swapsWith value (some (.Attribute o f pos')) pos.line X.env=pure false):PS X (.Assign [.Attribute o f pos'] value pos) (OI X.K ta tv f):=by
 intro pins s σ H D I h;refine plainObj_wpAny_Assign_Attribute (cu (hv pins s σ H _ I h) fun u s1 ⟨y,H1,I1,ry,q⟩=>cu (ha pins s1 σ H1 _ I1 q) fun ov s2 ⟨x,H2,I2,rx,a,C,dx,fs,ex,ea,c,n,l,q2⟩=>?_) hs;subst ex;obtain rfl:ov=Value.ref a:=rx;exact BN I2 ea c n l ry fun s3 I3=>⟨σ,_,I3,q2⟩
end
section
variable {X:Cx}{pins:List (Addr×Obj)}{σ:St}{H:Hp}{s:Shared}{A:Around}{E:Value->Shared->Prop}{Q:Value->Shared->Prop}{c:Value}{b:Bool}
inductive jm(K:PySem.W.Frag)(H:Hp):V->Value->Prop where
 |aK:jm K H .aK (.type "NoneType")
 |bl (x:Bool):jm K H (.bl x) (.type "bool")
 |int (i:Int):jm K H (.int i) (.type "int")
 |str (x:Str):jm K H (.str x) (.type "str")
 |tM (x:UInt64):jm K H (.tM x) (.type "float")
 |lst {a:Addr} {xs:List V} (e:H a=some (.lst xs)):jm K H (.ref a) (.type "list")
 |et {a:Addr} {o:Obj} {xs:List V} (e:H a=some (.et o (.lst xs))):jm K H (.ref a) (.type "list")
 |tup {a:Addr} {xs:List V} (e:H a=some (.tup xs)):jm K H (.ref a) (.type "tuple")
 |dK {a:Addr} {kvs:List (Key×V)} (e:H a=some (.dK kvs)):jm K H (.ref a) (.type "dict")
 |dT {a:Addr} {kvs:List (List Key×V)} (e:H a=some (.dT kvs)):jm K H (.ref a) (.type "dict")
 |ins {a C dx:Addr} {fs:List (Str×V)} (e:H a=some (.ins C dx fs)) (cl:nV K C) (ha:PySem.W.findIn K (.ref C) "__class__"=some (some (.builtin "object.__class__")))
   (hn:PySem.W.specialIn K (.builtin "object.__class__") "__get__"=some (some (.builtin "getset_descriptor.__get__"))) (htk:PySem.W.takesIn K (.builtin "object.__class__")=some true)
   (hm:PySem.W.mroIn K C (.type "object")=some true):jm K H (.ref a) (.ref C)
theorem Ek{x:V}{u t:Value}(I:Inv X pins σ H s)(rx:RelV x u)(ty:jm X.K H x t)(e:PySem.W.kitOne X.K t c=some b)(h:∀tk,Q (.bool b) {s with toks:=tk}):
 wpAny (model X.prog X.w) A (call (.builtin "isinstance") [u,c]) Q E s:=by
 cases ty with
 |aK=>cases (show u=Value.none from rx);exact PySem.W.kia_one PySem.W.kitx_none I.gI True.intro e (fun z=>nomatch z) h
 |bl y=>cases (show u=Value.bool y from rx);exact PySem.W.kia_one PySem.W.kitx_bool I.gI True.intro e (fun z=>nomatch z) h
 |int i=>obtain⟨t,q⟩:=(show∃t,u=Value.int i t from rx);cases q;exact PySem.W.kia_one PySem.W.kitx_int I.gI True.intro e (fun z=>nomatch z) h
 |str y=>obtain⟨t,q⟩:=(show∃t,u=Value.str y t from rx);cases q;exact PySem.W.kia_one PySem.W.kitx_str I.gI True.intro e (fun z=>nomatch z) h
 |tM y=>obtain⟨t,q⟩:=(show∃t,u=Value.float y t from rx);cases q;exact PySem.W.kia_one PySem.W.kitx_float I.gI True.intro e (fun z=>nomatch z) h
 | @lst a xs ea=>
   cases (show u=Value.ref a from rx);obtain⟨_,_,n,_,h1⟩:=(show dz X.prog X.w H s.heap a (.lst xs)from I.aM a _ ea)
   exact PySem.W.kia_one PySem.W.kitx_list I.gI ⟨_,h1,rfl⟩ e (fun z=>nomatch z) h
 | @et a ob xs ea=>
   cases (show u=Value.ref a from rx);obtain⟨_,_,_,n,_,h1⟩:=(show dz X.prog X.w H s.heap a (.et ob (.lst xs))from I.aM a _ ea)
   exact PySem.W.kia_one PySem.W.kitx_list I.gI ⟨_,h1,rfl⟩ e (fun z=>nomatch z) h
 | @tup a xs ea=>
   cases (show u=Value.ref a from rx);obtain⟨_,_,_,p⟩:=(show dz X.prog X.w H s.heap a (.tup xs)from I.aM a _ ea)
   obtain⟨o,h1,h2,_⟩:=p;exact PySem.W.kia_one PySem.W.kitx_tuple I.gI ⟨o,h1,h2⟩ e (fun z=>nomatch z) h
 | @dK a kvs ea=>
   cases (show u=Value.ref a from rx);obtain⟨_,_,vs,_,p⟩:=(show dz X.prog X.w H s.heap a (.dK kvs)from I.aM a _ ea)
   obtain⟨o,es,ep,h1,h2,_⟩:=p;exact PySem.W.kia_one PySem.W.kitx_dict I.gI ⟨o,h1,h2.1⟩ e (fun z=>nomatch z) h
 | @dT a kvs ea=>
   cases (show u=Value.ref a from rx);obtain⟨_,_,xs,_,o,es,ep,h1,h2,_⟩:=(show dz X.prog X.w H s.heap a (.dT kvs)from I.aM a _ ea)
   exact PySem.W.kia_one PySem.W.kitx_dict I.gI ⟨o,h1,h2.1⟩ e (fun z=>nomatch z) h
 | @ins a C dx fs ea cl ha hn htk hm=>
   cases (show u=Value.ref a from rx);obtain⟨mA,O,_⟩:=pJ I.aM ea;obtain⟨od,J,_⟩:=O.look;exact PySem.W.kia_one (PySem.W.kitx_own (cl.get _) cl.hd ha hn htk hm) I.gI J e (fun z=>nomatch z) h
end
structure cT(k:Nat)(A:Around):Prop where
 hd:A.handled=none
 dp:A.depth+3*k+105<recursionLimit
 un:A.units+16*k+200<cLine
theorem cT.mono{j k:Nat}{A:Around}(r:cT k A)(h:j<=k):cT j A:=⟨r.hd,by have:=r.dp;omega,by have:=r.un;omega⟩
theorem cT.deeper{k:Nat}{A:Around}(r:cT (k+1) A)(env:Env):cT k (A.deeper env):=
 ⟨r.hd,by have:=r.dp;show A.depth+1+3*k+105<_;omega,by have:=r.un;show A.units+3+16*k+200<_;omega⟩
theorem Cv{A:Around}{C:Addr}{us:List Value}{kw:List (Str×Value)}:(A.under (.builtin "type.__call__" ⟨.ref C::us,kw⟩)).depth=A.depth+1:=by
 first|rfl|simp[Around.under,Code.weight,Code.isCreation,Code.isGuard,Code.isCaller,Code.frames,Code.isFrame,guardIds]
theorem BK{A:Around}{C:Addr}{us:List Value}{kw:List (Str×Value)}:(A.under (.builtin "type.__call__" ⟨.ref C::us,kw⟩)).units=A.units+1:=by
 first|rfl|simp[Around.under,Code.cUnits,Code.frames,Code.isFrame]
theorem cT.make{k:Nat}{A:Around}(r:cT (k+1) A)(C:Addr)(us:List Value)(kw:List (Str×Value)):cT k (A.under (.builtin "type.__call__" ⟨.ref C::us,kw⟩)):=
 ⟨r.hd,by have:=r.dp;rw[Cv];omega,by have:=r.un;rw[BK];omega⟩
theorem cT.depth{k:Nat}{A:Around}(r:cT k A):A.depth<recursionLimit:=by have:=r.dp;omega
theorem cT.units{k:Nat}{A:Around}(r:cT k A):A.units+64<cLine:=by have:=r.un;omega
def OL:TA:=fun _ H Q=>Q [] H
def M4(ta:TE)(tr:TA):TA:=fun σ H Q=>ta σ H fun x H1=>tr σ H1 fun xs H2=>Q (x::xs) H2
section
variable {X:Cx}{e:Expr}{es:List Expr}{te:TE}{t:TA}{pos:Pos}
theorem JY:PA X [] OL:=fun _ _ _ _ H Q I h=>Calls.spliced_nil ⟨[],H,I,.nil,h⟩
theorem Iz(ha:PE X e te)(hr:PA X es t)(hs:starEach (e::es) X.env=(false,eval e X.env)::starEach es X.env:=by rfl):PA X (e::es) (M4 te t):=by
 intro pos pins s σ H Q I h;rw[hs];show wpAny _ _ (spliced ((false,eval e X.env)::backTo pos (starEach es X.env))) _ _ s;refine Calls.spliced_cons (cu (ha pins s σ H _ I h) fun u s1 ⟨x,H1,I1,r1,q1⟩=>?_);exact cu (hr pos pins s1 σ H1 _ I1 q1) fun us s2 ⟨xs,H2,I2,r2,q2⟩=>⟨x::xs,H2,I2,.cons r1 r2,q2⟩
def Ow(t:TA):TE:=fun σ H Q=>t σ H fun xs H1=>xs.length<=sizeLine/\∀p,H1 p=none->Q (.ref p) (upd H1 p (.tup xs))
def OT(t:TA):TE:=fun σ H Q=>t σ H fun xs H1=>xs.length<=sizeLine/\∀p,H1 p=none->Q (.ref p) (upd H1 p (.lst xs))
theorem Kx{x1}(h:PA X es t):PE X (.Tuple es x1 pos) (Ow t):=by
 intro pins s σ H Q I hq;refine wpAny_Tuple_spliced (cu (h pos pins s σ H _ I hq) fun us s1 ⟨xs,H1,I1,r,z,q⟩=>⟨by rw[<-r.length];exact z,?_⟩);have hf:H1 s1.heap.objs.size=none:=I1.aM.fresh (Nat.le_refl _);refine⟨.ref s1.heap.objs.size,upd H1 s1.heap.objs.size (.tup xs),I1.laid (t':=s1.toks) (fun b u e=>Heap.get?_push_of_some _ e) (Nat.le_refl _) ?_,rfl,q _ hf⟩;exact⟨z,us,r,⟨_,Heap.get?_push_size _ rfl,rfl,_,rfl⟩⟩
theorem CZ(h:PA X es t):PE X (.List es pos) (OT t):=by
 intro pins s σ H Q I hq;refine wpAny_List_spliced (cu (h pos pins s σ H _ I hq) fun us s1 ⟨xs,H1,I1,r,z,q⟩=>⟨by rw[<-r.length];exact z,?_⟩);have hf:H1 s1.heap.objs.size=none:=I1.aM.fresh (Nat.le_refl _);refine⟨.ref s1.heap.objs.size,upd H1 s1.heap.objs.size (.lst xs),I1.laid (t':=s1.toks) (fun b u e=>Heap.get?_push_of_some _ e) (Nat.le_refl _) ?_,rfl,q _ hf⟩;exact⟨z,us,0,r,Heap.get?_push_size _ rfl⟩
end
abbrev Sp:=List V->Hp->VK->XK->Prop
abbrev tW:=List Env->Hp->Shared->XK->Value->Shared->Prop
structure uk(P:Program)(w:World)(K:PySem.W.Frag)(mg:Str->Option Value)(base:Heap)(A:Around)(outer:List Env)(s:Shared)(H:Hp):Prop where
 frames:A.frames=some outer
 mod:Mod K mg base
 bs:∀b o,base.get? b=some o->s.heap.get? b=some o/\H b=none
 sj:base.objs.size<=s.heap.objs.size
 ka:s.heap.FunFrames base outer
 uR:∀b∈pK outer,H b=none
 aM:g7 P w H s.heap
 bare:AllBare s.gens
 gt:P.given.tree=none
def CE(outer:List Env)(P:Program)(w:World)(H:Hp)(s:Shared)(Q:VK)(u:Value)(s':Shared):Prop:=
 ∃v H',s'.os=s.os/\AllBare s'.gens/\Un (pK outer) [] H H' s.heap s'.heap/\g7 P w H' s'.heap/\RelV v u/\Q v H'
def CR(CX:tW)(outer:List Env)(P:Program)(w:World)(H:Hp)(s:Shared)(Q:VK)(E:XK)(r:Result)(s':Shared):Prop:=
 match r with
 | .ok (.ret u)=>CE outer P w H s Q u s'
 | .ok _=>False
 | .error e=>CX outer H s E e s'
structure bE(P:Program)(w:World)(K:PySem.W.Frag)(mg:Str->Option Value)(base:Heap)(CX:tW)(k:Nat)(f:Addr)(fd:FuncData)(ps:List Str)(sp:Sp):Prop where
 len:∀vs H Q E,sp vs H Q E->vs.length=ps.length
 run:∀(A:Around) (outer:List Env) (s:Shared) (H:Hp) (args:Args) (us:List Value) (vs:List V) (Q:VK) (E:XK),cT k A->uk P w K mg base A outer s H->BindsTo s fd args (ps.zip us)->Vals vs us->sp vs H Q E->
  codeAny (model P w) A (.call (.ref f) args) (CR CX outer P w H s Q E) s
theorem bE.imp{P:Program}{w:World}{K:PySem.W.Frag}{mg:Str->Option Value}{base:Heap}{CX:tW}{k:Nat}{f:Addr}{fd:FuncData}{ps:List Str}{sp sp':Sp}(F:bE P w K mg base CX k f fd ps sp)
 (h:∀vs H Q E,sp' vs H Q E->sp vs H Q E):bE P w K mg base CX k f fd ps sp':=
 ⟨fun vs H Q E q=>F.len vs H Q E (h _ _ _ _ q),fun A outer s H args us vs Q E hr he hb hv hs=>F.run A outer s H args us vs Q E hr he hb hv (h _ _ _ _ hs)⟩
theorem uk.make{P:Program}{w:World}{K:PySem.W.Frag}{mg:Str->Option Value}{base:Heap}{A:Around}{outer:List Env}{s:Shared}{H:Hp}(e:uk P w K mg base A outer s H)(C:Addr)(us:List Value)(kw:List (Str×Value)):
 uk P w K mg base (A.under (.builtin "type.__call__" ⟨.ref C::us,kw⟩)) outer s H:=⟨by first|exact e.frames|(simpa[Around.under,Code.envs,Code.isFrame,pushEnvs]using e.frames),e.mod,e.bs,e.sj,e.ka,e.uR,e.aM,e.bare,e.gt⟩
section
variable {X:Cx}{pins:List (Addr×Obj)}{σ:St}{H:Hp}{s s':Shared}
theorem Inv.Mi(I:Inv X pins σ H s):uk X.prog X.w X.K X.mg X.base X.A X.stack s H:=
 ⟨I.ok.frames,I.ok.mod,I.bs,Nat.le_trans I.ok.sj I.sz,I.stack,I.wg,I.aM,I.bare,I.ok.gt⟩
theorem Inv.after{Q:VK}{u:Value}(I:Inv X pins σ H s)(h:CE X.stack X.prog X.w H s Q u s'):EP X pins σ Q u s':=by
 obtain⟨v,H',os,bare,un,aM,r,q⟩:=h;obtain⟨hh,g,d,t,os'⟩:=s';obtain rfl:os'=s.os:=os;exact⟨v,H',I.call (h':=hh) (g':=g) (d':=d) (t':=t) (ch:=[]) un aM bare (fun b z=>absurd z (by simp)),r,q⟩
end
def GQ(sp:Sp)(dvs:List V)(E:XK)(t:TA):TE:=fun σ H Q=>t σ H fun vs H1=>sp (vs++dvs) H1 Q E
def G0(C:Addr)(m:Str)(sp:Sp)(dvs:List V)(E:XK)(ta:TE)(t:TA):TE:=fun σ H Q=>ta σ H fun x H1=>∃a dx fs,x= .ref a/\H1 a=some (.ins C dx fs)/\fs.lookup m=none/\
 t σ H1 fun vs H2=>sp (x::(vs++dvs)) H2 Q E
def F_(C:Addr)(sp:Sp)(dvs:List V)(E:XK)(t:TA):TE:=fun σ H Q=>t σ H fun vs H1=>∀x dx,H1 x=none->H1 dx=none->dx≠x->
 sp (.ref x::(vs++dvs)) (upd (upd H1 dx (.own x)) x (.ins C dx [])) (fun v H2=>v= .aK/\Q (.ref x) H2) E
def Binds(K:PySem.W.Frag)(fd:FuncData)(ps:List Str)(ds:List Value):Prop:=
 ∀(s:Shared) (us:List Value),K.In s.heap->(us++ds).length=ps.length->BindsTo s fd ⟨us,[]⟩ (ps.zip (us++ds))
theorem Binds.all{K:PySem.W.Frag}{fd:FuncData}{ps:List Str}(h:∀us:List Value,us.length=ps.length->bindArgs fd ⟨us,[]⟩=pure (ps.zip us)):Binds K fd ps []:=fun s us _ hl=>by
 rw[List.append_nil]at hl⊢;exact .of_eq (h us hl)
def Passes(CX:tW)(X:Cx)(E:XK):Prop:=∀(pins:List (Addr×Obj)) (σ:St) (H:Hp) (s:Shared) (e:Value) (s':Shared),Inv X pins σ H s->CX X.stack H s E e s'->X.xe e s'
section
variable {X:Cx}{CX:tW}{k:Nat}{f C:Addr}{fd:FuncData}{ps:List Str}{sp:Sp}{dvs:List V}{ds:List Value}{E:XK}{x m:Str}{p pos apos:Pos}{e o:Expr}{es:List Expr}{ta:TE}{t:TA}
theorem EH{pins:List (Addr×Obj)}{σ:St}{H:Hp}{s:Shared}{Q:VK}{us:List Value}{vs:List V}(F:bE X.prog X.w X.K X.mg X.base CX k f fd ps sp)(hr:cT k X.A)(hb:Binds X.K fd ps ds)(hd:Vals dvs ds)(hx:Passes CX X E)
 (I:Inv X pins σ H s) (r:Vals vs us) (h:sp (vs++dvs) H Q E):wpAny (model X.prog X.w) X.A (call (.ref f) us) (EP X pins σ Q) X.xe s:=by
 have r2:Vals (vs++dvs) (us++ds):=r.append hd;have hl:(us++ds).length=ps.length:=by rw[<-r2.length];exact F.len _ _ _ _ h
 refine wpAny_call (codeAny_mono (F.run X.A X.stack s H ⟨us,[]⟩ (us++ds) (vs++dvs) Q E hr I.Mi (hb s us I.gI hl) r2 h) fun r s' hq=>?_);cases r with
 |error e=>exact hx pins σ H s e s' I hq
 |ok fl=>
  cases fl with
  |ret u=>exact I.after hq
  |next=>exact False.elim hq
  |brk=>exact False.elim hq
  |cont=>exact False.elim hq
theorem Hv(F:bE X.prog X.w X.K X.mg X.base CX k f fd ps sp)(hr:cT k X.A)(hg:Gl X x)(hm:X.mg x=some (.ref f))(hk:PySem.W.keepIn X.K (.ref f)=true)(hb:Binds X.K fd ps ds)(hd:Vals dvs ds)(hx:Passes CX X E)
 (ha:PA X (e::es) t) (hdb:(x==("__debug__":Str))=false:=by decide) (he:starEach (e::es) X.env=(false,eval e X.env)::starEach es X.env:=by rfl) (hpl:(backTo pos (starEach es X.env)).any (·.1)=false:=by rfl):
 PE X (.Call (.Name x p) (e::es) [] pos) (GQ sp dvs E t):=by
 intro pins s σ H Q I h;refine wpAny_Call_Name_kw (A_ I hg hm ?_ hdb);refine PySem.W.callWith_K (h₀:=X.base) I.ok.mod.Ee hk (cu (ha pos pins s σ H _ I h) fun us s1 ⟨vs,H1,I1,r,q⟩=>⟨I1.gI,?_⟩) he hpl;exact EH F hr hb hd hx I1 r q
theorem Im{pl:Sem Bool}(he:PE X o ta)(c:nV X.K C)(hm:Meth X.K C m f)(F:bE X.prog X.w X.K X.mg X.base CX k f fd ps sp)(hr:cT k X.A)(hb:Binds X.K fd ps ds)(hd:Vals dvs ds)(hx:Passes CX X E)(ha:PA X (e::es) t)
 (hst:starEach (e::es) X.env=(false,eval e X.env)::starEach es X.env:=by rfl) (hpl:(backTo pos (starEach es X.env)).any (·.1)=false:=by rfl)
 (ht:eval (.Call (.Attribute o m apos) (e::es) [] pos) X.env=(do
   let ov <-eval o X.env
   standAt apos.atName
   let(f,first) <-holding [ov] (getMethod ov m pl)
   callWith pos f first (backTo pos (starEach (e::es) X.env)) (backToKw pos (keywordEach [] X.env))):=by rfl):
 PE X (.Call (.Attribute o m apos) (e::es) [] pos) (G0 C m sp dvs E ta t):=by
 intro pins s σ H Q I h;refine PySem.W.methodCall_KW (pl:=pl) (cu (he pins s σ H _ I h) fun u s1 ⟨x,H1,I1,rx,a,dx,fs,ex,ea,l,q⟩=>?_) ht;subst ex;obtain rfl:u=Value.ref a:=rx;refine B0 I1 ea c hm l ?_;refine PySem.W.callWith_K (first:=[.ref a]) (h₀:=X.base) I.ok.mod.Ee hm.kp (cu (ha pos pins s1 σ H1 _ I1 q) fun us s2 ⟨vs,H2,I2,r,q2⟩=>⟨I2.gI,?_⟩) hst hpl;exact EH (us:= .ref a::us) (vs:= .ref a::vs) F hr hb hd hx I2 (.cons rfl r) q2
structure Mk(K:PySem.W.Frag)(C f:Addr):Prop where
 makes:PySem.W.makesIn K C=true
 init:PySem.W.findIn K (.ref C) "__init__"=some (some (.ref f))
 fn:PySem.W.isFn K (.ref f)=true
 kp:PySem.W.keepIn K (.ref C)=true
theorem Fi{pins:List (Addr×Obj)}{σ:St}{H:Hp}{s:Shared}{Q:VK}{us:List Value}{vs:List V}(M:Mk X.K C f)(F:bE X.prog X.w X.K X.mg X.base CX k f fd ps sp)(hr:cT (k+1) X.A)(hb:Binds X.K fd ps ds)(hd:Vals dvs ds)
 (hx:Passes CX X E) (I:Inv X pins σ H s) (r:Vals vs us)
 (h:∀x dx,H x=none->H dx=none->dx≠x->sp (.ref x::(vs++dvs)) (upd (upd H dx (.own x)) x (.ins C dx [])) (fun v H2=>v= .aK/\Q (.ref x) H2) E):
 wpAny (model X.prog X.w) X.A (call (.ref C) us) (EP X pins σ Q) X.xe s:=by
 have hq:=h (s.heap.objs.size+1) s.heap.objs.size (I.aM.fresh (Nat.le_succ _)) (I.aM.fresh (Nat.le_refl _)) (Nat.ne_of_lt (Nat.lt_succ_self _));have I2:=Inv.made (C:=C) I;have r2:Vals (V.ref (s.heap.objs.size+1)::(vs++dvs)) (Value.ref (s.heap.objs.size+1)::(us++ds)):= .cons rfl (r.append hd)
 have hl:(Value.ref (s.heap.objs.size+1)::us++ds).length=ps.length:=by
  have e:=r2.length;rw[F.len _ _ _ _ hq]at e;exact e.symm
 refine wpAny_call (Fh (f:=f) I.gI M.makes M.init (beq_iff_eq.mp M.fn) (codeAny_mono (F.run _ X.stack _ _ ⟨Value.ref (s.heap.objs.size+1)::us,[]⟩ (Value.ref (s.heap.objs.size+1)::(us++ds)) _ _ E (hr.make C us [])
  (I2.Mi.make C us []) (hb _ (Value.ref (s.heap.objs.size+1)::us) I2.gI hl) r2 hq) fun r s' hq'=>?_))
 cases r with
 |error e=>exact hx pins σ _ _ e s' I2 hq'
 |ok fl=>
  cases fl with
  |ret u=>
   obtain⟨v,H',I3,rv,ev,q3⟩:=I2.after hq';subst ev;exact⟨rv,⟨V.ref (s.heap.objs.size+1),H',I3,rfl,q3⟩⟩
  |next=>exact False.elim hq'
  |brk=>exact False.elim hq'
  |cont=>exact False.elim hq'
theorem Jl(M:Mk X.K C f)(F:bE X.prog X.w X.K X.mg X.base CX k f fd ps sp)(hr:cT (k+1) X.A)(hg:Gl X x)(hm:X.mg x=some (.ref C))(hb:Binds X.K fd ps ds)(hd:Vals dvs ds)(hx:Passes CX X E)
 (ha:PA X (e::es) t) (hdb:(x==("__debug__":Str))=false:=by decide) (he:starEach (e::es) X.env=(false,eval e X.env)::starEach es X.env:=by rfl) (hpl:(backTo pos (starEach es X.env)).any (·.1)=false:=by rfl):
 PE X (.Call (.Name x p) (e::es) [] pos) (F_ C sp dvs E t):=by
 intro pins s σ H Q I h;refine wpAny_Call_Name_kw (A_ I hg hm ?_ hdb);refine PySem.W.callWith_K (h₀:=X.base) I.ok.mod.Ee M.kp (cu (ha pos pins s σ H _ I h) fun us s1 ⟨vs,H1,I1,r,q⟩=>⟨I1.gI,?_⟩) he hpl;exact Fi M F hr hb hd hx I1 r q
end
section
variable {X:Cx}{CX:tW}{k:Nat}{f C:Addr}{fd:FuncData}{ps ks:List Str}{sp:Sp}{E:XK}{x m:Str}{p pos apos kpos:Pos}{e o:Expr}{es:List Expr}{kws:List Keyword}{te ta:TE}{t tk:TA}{nm:Option Str}
variable {g:List Value->List Value->List Value}{gV:List V->List V->List V}
end
structure aU(N P:List Str)(sc:Scope):Prop where
 kind:sc.kind= .function
 co:sc.isCoroutine=false
 gen:sc.isGenerator=false
 nd:N.Nodup
 pre:N.take P.length=P
 par:∀x∈P,sc.names.lookup x=some .local\/sc.names.lookup x=some .cell
 KR:∀y∈sc.names,y.2≠ .free
theorem wN{kindOf:Str->Option NameKind}{x:Str}:∀ {binds:List (Str×Value)} {m:Str->Option Value},(∀v,(x,v)∉binds)->bindL kindOf binds m x=m x
 | [],_,_=>rfl
 |(n,v)::r,m,h=>by
  unfold bindL;rw[wN fun w hw=>h w (List.mem_cons_of_mem _ hw)];split
  . have:x≠n:=by rintro rfl;exact h v List.mem_cons_self
    simp[this]
  . rfl
theorem wR{kindOf:Str->Option NameKind}{x:Str}:∀ {binds:List (Str×Value)} {m:Str->Option Value},(∀v,(x,v)∉binds)->bindC kindOf binds m x=m x
 | [],_,_=>rfl
 |(n,v)::r,m,h=>by
  unfold bindC;rw[wR fun w hw=>h w (List.mem_cons_of_mem _ hw)];split
  . rfl
  . have:x≠n:=by rintro rfl;exact h v List.mem_cons_self
    simp[this]
theorem xo{kindOf:Str->Option NameKind}{x:Str}{v:Value}:∀ {P:List Str} {vs:List Value} {i:Nat} {m:Str->Option Value},P.Nodup->P[i]?=some x->vs[i]?=some v->kindOf x=some .local->
 bindL kindOf (P.zip vs) m x=some v
 | [],_,_,_,_,h,_,_=>by simp at h
 |_::_,[],_,_,_,_,h,_=>by simp at h
 |p::P,w::vs,0,m,nd,h1,h2,hk=>by
  simp at h1 h2;subst h1;subst h2;show bindL kindOf ((p,w)::P.zip vs) m p=_;unfold bindL;rw[wN fun v hv=>(List.nodup_cons.mp nd).1 (List.of_mem_zip hv).1,if_pos hk];simp
 |p::P,w::vs,i+1,m,nd,h1,h2,hk=>by
  show bindL kindOf ((p,w)::P.zip vs) m x=_;unfold bindL;exact xo (i:=i) (List.nodup_cons.mp nd).2 (by simpa using h1) (by simpa using h2) hk
theorem wW{kindOf:Str->Option NameKind}{x:Str}{v:Value}:∀ {P:List Str} {vs:List Value} {i:Nat} {m:Str->Option Value},P.Nodup->P[i]?=some x->vs[i]?=some v->kindOf x≠some .local->
 bindC kindOf (P.zip vs) m x=some v
 | [],_,_,_,_,h,_,_=>by simp at h
 |_::_,[],_,_,_,_,h,_=>by simp at h
 |p::P,w::vs,0,m,nd,h1,h2,hk=>by
  simp at h1 h2;subst h1;subst h2;show bindC kindOf ((p,w)::P.zip vs) m p=_;unfold bindC;rw[wR fun v hv=>(List.nodup_cons.mp nd).1 (List.of_mem_zip hv).1,if_neg hk];simp
 |p::P,w::vs,i+1,m,nd,h1,h2,hk=>by
  show bindC kindOf ((p,w)::P.zip vs) m x=_;unfold bindC;exact wW (i:=i) (List.nodup_cons.mp nd).2 (by simpa using h1) (by simpa using h2) hk
def start(N:List Str)(vs:List V):St:=vs.map some++List.replicate (N.length-vs.length) none
def qA(CX:tW)(P:Program)(w:World)(K:PySem.W.Frag)(mg:Str->Option Value)(base:Heap)(N:List Str)(qual:Str)(scope:Scope)(f:Addr)(cd:Value)(A:Around)(outer:List Env)(s:Shared)(H:Hp)(E:XK):Cx where
 prog:=P
 w:=w
 K:=K
 mg:=mg
 base:=base
 A:=A.deeper (envOfC qual scope s.heap.objs.size f cd)
 N:=N
 s₀:=s
 H₀:=H
 env:=envOfC qual scope s.heap.objs.size f cd
 outer:=outer
 stack:=envOfC qual scope s.heap.objs.size f cd::outer
 ex:=[]
 calm:=true
 fn:=fun _=>true
 pn:=[]
 xe:=fun e s'=>wpAny (model P w) (A.deeper (envOfC qual scope s.heap.objs.size f cd)) (leaving (envOfC qual scope s.heap.objs.size f cd) e) (fun _ s''=>CX outer H s E e s'') (fun e' s''=>CX outer H s E e' s'') s'
theorem yP{sc:Scope}{n:Nat}{x:Str}(h:sc.names.lookup x=some .cell):∃c,(cellsFrom n sc.names []).lookup x=some c:=by
 have q:=PySem.W.cellsFrom_some sc.names n [] (.inl h);exact Option.isSome_iff_exists.mp q
theorem En{CX:tW}{P:Program}{w:World}{K:PySem.W.Frag}{mg:Str->Option Value}{base:Heap}{N ps:List Str}{qual:Str}{scope:Scope}{f:Addr}{cd:Value}{A:Around}{outer:List Env}{s s1:Shared}{H:Hp}{E:XK}{us:List Value}{vs:List V}
 (S:aU N ps scope) (hd:A.handled=none) (e0:uk P w K mg base A outer s H) (hl:vs.length=ps.length) (r:Vals vs us)
 (x:InCallC s s.heap.objs.size (bindL (envOfC qual scope s.heap.objs.size f cd).kindOf (ps.zip us) fun _=>none) (cellsFrom (s.heap.objs.size+1) scope.names []) (bindC (envOfC qual scope s.heap.objs.size f cd).kindOf (ps.zip us) fun _=>none) s1):
 Inv (qA CX P w K mg base N qual scope f cd A outer s H E) [] (start N vs) H s1:=by
 have hpl:ps.length<=N.length:=by have:=congrArg List.length S.pre;rw[List.length_take]at this;omega
 obtain⟨h1,tk,rfl,hk⟩:=x.done;have noA:∀b:Addr,b∉(qA CX P w K mg base N qual scope f cd A outer s H E).ex:=fun b z=>absurd (show b∈([]:List Addr)from z) (by simp)
 refine⟨⟨e0.mod,S.kind,rfl,rfl,Nat.le_refl _,fun y z c h1 h2=>?_,fun y hy=>?_,fun y c _ h=>?_,fun _=>hd,Around.frames_deeper e0.frames,.inr ⟨rfl,rfl⟩,fun b z=>absurd z (noA b),e0.bs,e0.sj,fun b _ _=>noA b,fun b z=>absurd z (noA b),e0.ka,e0.uR,e0.gt⟩,
  rfl,e0.bare,Un.kept hk,⟨_,x.toInCall.ns,fun i y v h1 h2 h3=>?_⟩,fun y c h=>⟨_,x.cell y c h⟩,e0.aM.fresh (Nat.le_refl _),fun y c h=>?_,fun p hp=>absurd (show p∈([]:List (Addr×Obj))from hp) (by simp),e0.aM.kept hk,?_⟩
 . exact name_of_addr x.apart (PySem.mem_of_lookup h1) (PySem.mem_of_lookup h2)
 . have hy:scope.names.lookup y=some .cell\/scope.names.lookup y=some .free:=hy;rcases hy with hy|hy
   . exact yP hy
   . exact absurd rfl (S.KR _ (PySem.mem_of_lookup hy))
 . exact Nat.le_of_lt (x.above y c (PySem.mem_of_lookup h))
 . have hi:i<vs.length:=by
    unfold start at h2;by_cases hi:i<vs.length
    . exact hi
    . rw[List.getElem?_append_right (by simpa using hi)]at h2;rw[List.getElem?_replicate]at h2;split at h2<;>cases h2
   have ha:vs[i]?=some v:=by
    unfold start at h2;rw[List.getElem?_append_left (by simpa using hi),List.getElem?_map]at h2;cases e:vs[i]? with
    |none=>rw[e]at h2;cases h2
    |some a=>rw[e]at h2;cases h2;rfl
   obtain⟨u,hu,rv⟩:=r.get ha
   have hp:ps[i]?=some y:=by
    rw[<-S.pre,List.getElem?_take_of_lt (by omega)];exact h1
   have ndP:ps.Nodup:=by rw[<-S.pre];exact S.nd.sublist (List.take_sublist _ _)
   refine⟨u,rv,?_⟩;rcases S.par y (List.mem_of_getElem? hp)with k|k
   . exact .inl ⟨k,xo ndP hp hu k⟩
   . obtain⟨c,e⟩:=yP (n:=s.heap.objs.size+1) k;refine .inr ⟨.inl k,c,e,?_⟩;have q:=x.cell y c e;rw[wW ndP hp hu (by show scope.names.lookup y≠_;rw[k];decide)]at q;exact q
 . exact e0.aM.fresh (Nat.le_of_lt (x.above y c (PySem.mem_of_lookup h)))
 . unfold start;show _=N.length;rw[List.length_append,List.length_map,List.length_replicate];omega
theorem Gn{CX:tW}{P:Program}{w:World}{K:PySem.W.Frag}{mg:Str->Option Value}{base:Heap}{k:Nat}{f:Addr}{name qual:Str}{params:Arguments}{body:List Stmt}{scope:Scope}{dV kV doc pm cdv ct oc:Value}{an od:Option Addr}
 {osl:Array (Option Value)} {N ps:List Str} {sp:Sp} (lk:K.lookup f=some ⟨oc,od,.func (PySem.W.fnOf name qual params body scope dV kV doc pm an cdv ct),osl⟩) (hcd:PySem.W.codeIn K cdv qual=true) (S:aU N ps scope)
 (len:∀vs H Q E,sp vs H Q E->vs.length=ps.length)
 (hbody:∀(A:Around) (outer:List Env) (s:Shared) (H:Hp) (vs:List V) (Q:VK) (E:XK),cT k (A.deeper (envOfC qual scope s.heap.objs.size f cdv))->sp vs H Q E->
   ∃t,gJ (qA CX P w K mg base N qual scope f cdv A outer s H E) body t/\t {nx:=fun _ H'=>Q .aK H',rt:=Q} (start N vs) H):
 bE P w K mg base CX (k+1) f (PySem.W.fnOf name qual params body scope dV kV doc pm an cdv ct) ps sp:=by
 refine⟨len,fun A outer s H args us vs Q E hr e0 hb r hsp=>?_⟩;have hl:=len _ _ _ _ hsp;have KX:K.In s.heap:=e0.mod.Ee.keeps fun b o e=>(e0.bs b o e).1;have lim:s.heap.NoLimit:=e0.mod.nolimit.keeps fun b o e=>(e0.bs b o e).1
 have hkind:∀y∈ps.zip us,scope.names.lookup y.1=some .local\/(scope.names.lookup y.1=some .cell/\((cellsFrom (s.heap.objs.size+1) scope.names []).lookup y.1).isSome=true):=fun⟨n,v⟩ hy=>by
  rcases S.par n (List.of_mem_zip hy).1 with q|q
  . exact .inl q
  . exact .inr ⟨q,PySem.W.cellsFrom_some _ _ _ (.inl q)⟩
 refine codeAny_call_function hr.depth (KX _ _ lk) rfl S.co S.gen rfl (PySem.W.codeRec_of KX hcd) (hb _ _ _ _ ?_);refine wpAny_newFunctionEnv_cells S.kind hkind fun env he s1 x=>?_;subst he;refine⟨lim.keeps x.toInCall.keep,codeAny_func ?_⟩;obtain⟨t,ht,hq⟩:=hbody A outer s H vs Q E (hr.deeper _) hsp;have I:Inv (qA CX P w K mg base N qual scope f cdv A outer s H E) [] (start N vs) H s1:=En S hr.hd e0 hl r x;refine wpAny_mono (ht [] s1 (start N vs) H _ I hq) (fun fl s' hs=>?_) fun e s' hs=>hs
 have fin:∀ {σ':St} {H':Hp} {v:V} {u:Value},Inv (qA CX P w K mg base N qual scope f cdv A outer s H E) [] σ' H' s'->RelV v u->Q v H'->CE outer P w H s Q u s':=
  fun{σ' H' v u} J rv q=>⟨v,H',J.os,J.bare,J.base,J.aM,rv,q⟩
 cases fl with
 |ret u=>
  obtain⟨v,σ',H',J,rv,q⟩:=hs;exact fin J rv q
 |next=>
  obtain⟨σ',H',J,q⟩:=hs;exact fin (v:=V.aK) (u:=Value.none) J rfl q
 |brk=>
  obtain⟨_,_,_,q⟩:=hs;exact False.elim q
 |cont=>
  obtain⟨_,_,_,q⟩:=hs;exact False.elim q
section
variable {X:Cx}{x:Str}{p pos:Pos}{e:Expr}{es:List Expr}{t:TA}{id T:String}{r:List V->Hp->VK->Prop}
def LH(r:List V->Hp->VK->Prop)(t:TA):TE:=fun σ H Q=>t σ H fun vs H1=>r vs H1 Q
theorem FY(hc:bI X (.builtin id) r)(hg:Gl X x)(hm:X.mg x=none)(hv:bootBuiltins x=some (.builtin id))(ha:PA X (e::es) t)(hn:x≠"__name__":=by decide)(hdb:(x==("__debug__":Str))=false:=by decide)
 (he:starEach (e::es) X.env=(false,eval e X.env)::starEach es X.env:=by rfl) (hpl:(backTo pos (starEach es X.env)).any (·.1)=false:=by rfl):PE X (.Call (.Name x p) (e::es) [] pos) (LH r t):=by
 intro pins s σ H Q I h;refine wpAny_Call_Name_kw (kL I hg hm hv ?_ hn hdb);exact PyProof.Rows.callWith_builtin1 (cu (ha pos pins s σ H _ I h) fun us s1 ⟨vs,H1,I1,r1,q1⟩=>hc pins s1 σ H1 vs us Q I1 r1 q1) he hpl
theorem C4(hc:bI X (.type T) r)(hg:Gl X x)(hm:X.mg x=none)(hv:bootBuiltins x=some (.type T))(ha:PA X (e::es) t)(hn:x≠"__name__":=by decide)(hdb:(x==("__debug__":Str))=false:=by decide)
 (he:starEach (e::es) X.env=(false,eval e X.env)::starEach es X.env:=by rfl) (hpl:(backTo pos (starEach es X.env)).any (·.1)=false:=by rfl):PE X (.Call (.Name x p) (e::es) [] pos) (LH r t):=by
 intro pins s σ H Q I h;refine wpAny_Call_Name_kw (kL I hg hm hv ?_ hn hdb);exact PyProof.Rows.callWith_type1 (cu (ha pos pins s σ H _ I h) fun us s1 ⟨vs,H1,I1,r1,q1⟩=>hc pins s1 σ H1 vs us Q I1 r1 q1) he hpl
end
end L2
namespace HT
open PySem PyProof.Rows
section
open PySem.SeqAt
open PySem.AutoSeq1 (wpAny_loadPart')
open PySem.MeetsSeq PySem.MeetsSeq2 PySem.MeetsSeq3
end
section
variable {prog:Program}{w:World}{A:Around}{E:Value->Shared->Prop}{s:Shared}
theorem I_{t b:Addr}{vs ws:List Value}{Q:Value->Shared->Prop}(ht:IsTup s.heap t vs.toArray)(hb:IsTup s.heap b ws.toArray)(hv:vs≠ [])
 (h1:ws=[]->Q (.ref t) s) (h2:ws≠ []->Q (.ref s.heap.objs.size) {s with heap:=s.heap.push {cls:= .type "tuple",data:= .seq (vs++ws).toArray}})
 (hsz:vs.length+ws.length<=sizeLine):wpAny (model prog w) A (binaryOp .Add (.ref t) (.ref b)) Q E s:=by
 obtain⟨⟨cls,dd,data,sl⟩,ho,hc,n,hd⟩:=id ht;obtain⟨⟨cls2,dd2,data2,sl2⟩,ho2,hc2,n2,hd2⟩:=id hb;simp only at hc hd hc2 hd2;subst hc hd hc2 hd2;have e:vs.toArray++ws.toArray=(vs++ws).toArray:=by simp
 by_cases hw:ws=[]
 . exact concat_meets ⟨_,ho,rfl⟩ ⟨_,ho2,rfl⟩ noFill_tuple_add seq_tuple_add PySem.F.slot_tuple_add PySem.F.entry_tuple_add (PySem.F.args_tuple_add_2 _ _)
    (tuple_addW1 t b vs.toArray ws.toArray n n2 dd dd2 sl sl2 (by simpa using hv) (by simp[hw])) ⟨ho,ho2,h1 hw⟩
 . refine concat_meets ⟨_,ho,rfl⟩ ⟨_,ho2,rfl⟩ noFill_tuple_add seq_tuple_add PySem.F.slot_tuple_add PySem.F.entry_tuple_add (PySem.F.args_tuple_add_2 _ _)
    (tuple_addW2 t b vs.toArray ws.toArray n n2 dd dd2 sl sl2 (by simpa using hv) (by simpa using hw) (by rw[List.size_toArray,List.size_toArray];exact hsz)) ⟨ho,ho2,?_⟩
   rw[e];exact h2 hw
def cp(n d:Nat):Option Int->Nat
 |none=>d
 |some v=>if v<0 then(v+(n:Int)).toNat else min v.toNat n
theorem zh(n d:Nat):cp n d none=d:=rfl
theorem AO(n d k:Nat):cp n d (some (k:Int))=min k n:=by
 show(if(k:Int)<0 then((k:Int)+(n:Int)).toNat else min (k:Int).toNat n)=min k n;rw[if_neg (by omega),Int.toNat_natCast]
theorem Md(n d:Nat)(hd:d<=n)(o:Option Int):cp n d o<=n:=by
 cases o with
 |none=>exact hd
 |some v=>
  show(if v<0 then(v+(n:Int)).toNat else min v.toNat n)<=n;by_cases hv:v<0
  . rw[if_pos hv];omega
  . rw[if_neg hv];exact Nat.min_le_right _ _
theorem AQ(v:Int)(n d:Nat):(if v<0 then max (v+(n:Int)) 0 else min v (n:Int))=((cp n d (some v):Nat):Int):=by
 show(if v<0 then max (v+(n:Int)) 0 else min v (n:Int))=(((if v<0 then(v+(n:Int)).toNat else min v.toNat n):Nat):Int)
 by_cases hv:v<0
 . simp only[if_pos hv];omega
 . simp only[if_neg hv];omega
theorem BU(lo hi:Option Int)(n:Nat):Builtin.Slice.sliceAdjust lo hi 1 (n:Int)=(((cp n 0 lo:Nat):Int),((cp n n hi:Nat):Int)):=by
 have h1:¬((1:Int)<0):=by omega
 unfold Builtin.Slice.sliceAdjust;simp only[h1,if_false];refine Prod.ext ?_ ?_
 . cases lo with
   |none=>rfl
   |some v=>exact AQ v n 0
 . cases hi with
   |none=>rfl
   |some v=>exact AQ v n n
theorem B_(i j:Nat):Builtin.Slice.slicePlaces (i:Int) (j:Int) 1=j-i:=by
 unfold Builtin.Slice.slicePlaces;have h1:(1:Int)>0:=by omega
 simp only[h1,if_true,Int.ediv_one];split<;>omega
theorem vo{v:Value}{o:Option Int}{Q:Option Int->Shared->Prop}(p:IsPart v o)(h:Q o s):wpAny (model prog w) A (Builtin.Slice.slicePartIndex v) Q E s:=by
 cases p with
 |none=>exact slicePart_none h
 |int i t=>exact slicePart_int h
theorem n_{sl:Addr}{vl vu:Value}{lo hi:Option Int}{n:Nat}{Q:Int×Int×Nat->Shared->Prop}(hs:s.heap.IsSliceOf sl vl vu .none)(pl:IsPart vl lo)(pu:IsPart vu hi)
 (h:Q (((cp n 0 lo:Nat):Int),1,cp n n hi-cp n 0 lo) s):wpAny (model prog w) A (Builtin.Slice.sliceApplied (.ref sl) (pure (n:Int))) Q E s:=by
 obtain⟨os,hos,hcs,hds⟩:=id hs;unfold Builtin.Slice.sliceApplied Builtin.Slice.sliceFields;refine wpAny_bind (wpAny_bind (wpAny_field hos hds (x:=vl) rfl (wpAny_bind (wpAny_field hos hds (x:=vu) rfl (wpAny_bind (wpAny_field hos hds (x:= .none) rfl (wpAny_pure ?_)))))));refine wpAny_bind (slicePart_none ?_);show wpAny _ _ (if((1:Int)==0)=true then _ else _) _ _ s;rw[if_neg (by decide)];refine wpAny_bind (vo pl (wpAny_bind (vo pu (wpAny_bind (wpAny_pure ?_)))));show wpAny _ _ (match Builtin.Slice.sliceAdjust lo hi 1 (n:Int)with|(lo,hi)=>pure (lo,(1:Int),Builtin.Slice.slicePlaces lo hi 1)) _ _ s;rw[BU lo hi n];show wpAny _ _ (pure (((cp n 0 lo:Nat):Int),(1:Int),Builtin.Slice.slicePlaces ((cp n 0 lo:Nat):Int) ((cp n n hi:Nat):Int) 1)) _ _ s;rw[B_];exact wpAny_pure h
theorem Fy(xs:Array Value)(i k:Nat):((List.range k).filterMap fun(m:Nat)=>xs[((i:Int)+(m:Int)*1).toNat]?).toArray=((xs.toList.drop i).take k).toArray:=by
 have e:(fun(m:Nat)=>xs[((i:Int)+(m:Int)*1).toNat]?)=fun m=>xs[i+m]?:=by
  funext m;have:((i:Int)+(m:Int)*1).toNat=i+m:=by omega
  rw[this]
 rw[e];have:=pick_run xs i k;rw[List.filterMap_map]at this;have e2:((fun x=>xs[x]?)∘fun x=>i+x)=fun m=>xs[i+m]?:=rfl;rw[e2]at this;rw[this]
theorem tu{t sl:Addr}{items:Array Value}{vl vu:Value}{lo hi:Option Int}{Q:Value->Shared->Prop}(ht:IsTup s.heap t items)(hs:s.heap.IsSliceOf sl vl vu .none)(pl:IsPart vl lo)(pu:IsPart vu hi)
 (hw:¬(cp items.size 0 lo=0/\cp items.size items.size hi=items.size))
 (h:Q (.ref s.heap.objs.size) {s with heap:=s.heap.push {cls:= .type "tuple",data:= .seq ((items.toList.drop (cp items.size 0 lo)).take (cp items.size items.size hi-cp items.size 0 lo)).toArray}})
 (hsz:items.size<=sizeLine):wpAny (model prog w) A (getItem (.ref t) (.ref sl)) Q E s:=by
 have htake:sizeOk (.seq ((items.toList.drop (cp items.size 0 lo)).take (cp items.size items.size hi-cp items.size 0 lo)).toArray):=by
  show((items.toList.drop (cp items.size 0 lo)).take (cp items.size items.size hi-cp items.size 0 lo)).toArray.size<=sizeLine;rw[List.size_toArray,List.length_take,List.length_drop,Array.length_toList];omega
 have hj:cp items.size items.size hi<=items.size:=Md _ _ (Nat.le_refl _) hi;obtain⟨os,hos,hcs,hds⟩:=id hs;have hTs:s.TypeIs (.ref sl) "slice":=⟨os,hos,hcs⟩
 unfold getItem;try with_reducible refine wpAny_holding ?_
 first|refine wpAny_bind (wpAny_pure ?_)|skip
 refine wpAny_bind (wpAny_sequenceKey ht.typeIs (by decide) ?_)
 refine wpAny_bind (wpAny_callSpecial?_slot (name:=Str.ofString "__getitem__") ht.typeIs PyProof.Rows.slot_tuple_getitem
  (wpAny_call_entry PyProof.Rows.slot_tuple_getitem ht.typeIs entry_tuple_getitem ?_ (args_tuple_getitem _ _)))
 show wpAny _ _ (Builtin.Tuple.tupleItemsOf (.ref t) >>= _) _ _ s;refine wpAny_bind (tupleItemsOf_ ht ?_);refine wpAny_bind (wpAny_typeOf hTs ?_);rw[if_pos (by decide)];refine wpAny_bind (n_ hs pl pu ?_)
 have hno:¬((((cp items.size 0 lo:Nat):Int)==0&&(1:Int)==1&&(cp items.size items.size hi-cp items.size 0 lo)==items.size)=true):=by
  intro q;rw[Bool.and_eq_true,Bool.and_eq_true]at q;have q1:((cp items.size 0 lo:Nat):Int)=0:=eq_of_beq q.1.1;have q2:cp items.size items.size hi-cp items.size 0 lo=items.size:=eq_of_beq q.2;exact hw ⟨by omega,by omega⟩
 show wpAny _ _ (if(((cp items.size 0 lo:Nat):Int)==0&&(1:Int)==1&&(cp items.size items.size hi-cp items.size 0 lo)==items.size)=true then _ else _) _ _ s;rw[if_neg hno,Fy]
 first
  |exact wpAny_bind (m:=Builtin.Tuple.tupleExact _) (wpAny_newObj_type (wpAny_pure ⟨_,rfl,wpAny_pure h⟩) htake)
  |exact wpAny_bind (m:=Builtin.Tuple.tupleExact _) (wpAny_newObj_type (wpAny_bind (wpAny_pure (wpAny_pure ⟨_,rfl,wpAny_pure h⟩))) htake)
  |exact wpAny_bind (wpAny_bind (m:=Builtin.Tuple.tupleExact _) (wpAny_newObj_type (wpAny_pure (wpAny_pure ⟨_,rfl,wpAny_pure h⟩)) htake))
  |exact wpAny_bind (wpAny_bind (m:=Builtin.Tuple.tupleExact _) (wpAny_newObj_type (wpAny_pure ⟨_,rfl,wpAny_pure h⟩) htake))
end
end HT
namespace L2
open PySem PySem.Spec PyProof.Rows
abbrev TO:=St->Hp->(Option Int->Hp->Prop)->Prop
def PO(X:Cx)(e:Option Expr)(t:TO):Prop:=
 ∀(pins:List (Addr×Obj)) (s:Shared) (σ:St) (H:Hp) (Q:Option Int->Hp->Prop),Inv X pins σ H s->t σ H Q->
  wpAny (model X.prog X.w) X.A (evalPart e X.env) (fun u s'=>∃o H',Inv X pins σ H' s'/\IsPart u o/\Q o H') X.xe s
def Jm:TO:=fun _ H Q=>Q none H
def Mq(t:TE):TO:=fun σ H Q=>t σ H fun x H1=>∃i,x= .int i/\Q (some i) H1
section
variable {X:Cx}{e:Expr}{te:TE}{lo hi:Option Expr}{tl th:TO}{pos p2:Pos}
theorem IP:PO X none Jm:=by
 intro pins s σ H Q I h;rw[evalPart_none];exact wpAny_pure ⟨none,H,I,.none,h⟩
theorem IC(h:PE X e te):PO X (some e) (Mq te):=by
 intro pins s σ H Q I hw;rw[evalPart_some];refine cu (h pins s σ H _ I hw) fun u s1 ⟨x,H1,I1,r1,q1⟩=>?_;obtain⟨i,rfl,q⟩:=q1;obtain⟨t,rfl⟩:=r1;exact⟨some i,H1,I1,.int i t,q⟩
def DP(X:Cx)(r:V->Option Int->Option Int->Hp->VK->Prop):Prop:=
 ∀(pins:List (Addr×Obj)) (s:Shared) (σ:St) (H:Hp) (x:V) (v vl vu:Value) (lo hi:Option Int) (sl:Addr) (Q:VK),Inv X pins σ H s->RelV x v->s.heap.IsSliceOf sl vl vu .none->IsPart vl lo->IsPart vu hi->r x lo hi H Q->
  ∃T id,typeLookup (.type T) "__getitem__"=pure (some (.builtin id))/\s.TypeIs v T/\wpAny (model X.prog X.w) X.A (getItem v (.ref sl)) (EP X pins σ Q) X.xe s
def PB(r:V->Option Int->Option Int->Hp->VK->Prop)(te:TE)(tl th:TO):TE:=fun σ H Q=>te σ H fun x H1=>tl σ H1 fun l H2=>th σ H2 fun u H3=>r x l u H3 Q
theorem E6{r:V->Option Int->Option Int->Hp->VK->Prop}(hr:DP X r)(he:PE X e te)(hl:PO X lo tl)(hu:PO X hi th):PE X (.Subscript e (.Slice lo hi none p2) pos) (PB r te tl th):=by
 intro pins s σ H Q I h;refine Subscript_ (cu (he pins s σ H _ I h) fun v s1 ⟨x,H1,I1,r1,q1⟩=>?_);refine wpAny_Slice (cu (hl pins s1 σ H1 _ I1 q1) fun vl s2 ⟨l,H2,I2,pl,q2⟩=>cu (hu pins s2 σ H2 _ I2 q2) fun vu s3 ⟨u,H3,I3,pu,q3⟩=>?_);rw[evalPart_none];refine wpAny_pure ?_;have I4:Inv X pins σ H3 {s3 with heap:=s3.heap.push {cls:= .type "slice",data:= .fields #[vl,vu,.none]}}:=I3.kept (t':=s3.toks) fun b ob q=>Heap.get?_push_of_some _ q;obtain⟨T,id,hT,ht,hg⟩:=hr pins {s3 with heap:=s3.heap.push {cls:= .type "slice",data:= .fields #[vl,vu,.none]}} σ H3 x v vl vu l u s3.heap.objs.size Q I4 r1 (Heap.IsSliceOf.new ..) pl pu q3;show wpAny (model X.prog X.w) X.A (subscriptTail e (.Slice lo hi none p2) v (.ref s3.heap.objs.size)) (EP X pins σ Q) X.xe {s3 with heap:=s3.heap.push {cls:= .type "slice",data:= .fields #[vl,vu,.none]}};exact tail_any (ops:=[.ref s3.heap.objs.size,v]) ht hT hg (by with_unfolding_all rfl)
def qr(xs:List V)(lo hi:Option Int):List V:=(xs.drop (HT.cp xs.length 0 lo)).take (HT.cp xs.length xs.length hi-HT.cp xs.length 0 lo)
theorem tT(xs:List V)(lo hi:Option Int):(qr xs lo hi).length<=xs.length:=by
 unfold qr;rw[List.length_take,List.length_drop];omega
def OV(K:PySem.W.Frag):V->Option Int->Option Int->Hp->VK->Prop:=fun x lo hi H Q=>∃a xs,x= .ref a/\iY K H a xs/\
 ¬(HT.cp xs.length 0 lo=0/\HT.cp xs.length xs.length hi=xs.length)/\∀p,H p=none->Q (.ref p) (upd H p (.tup (qr xs lo hi)))
theorem KS:DP X (OV X.K):=by
 intro pins s σ H x v vl vu lo hi sl Q I rx hs pl pu h;obtain⟨a,xs,rfl,hx,hw,q⟩:=h;cases rx;obtain⟨aq,r,ht,hz⟩:=I.tuple hx;have hlen:aq.toArray.size=xs.length:=by rw[List.size_toArray];exact r.length.symm
 refine⟨"tuple",_,PyProof.Rows.slot_tuple_getitem.lookup,ht.typeIs,?_⟩;refine HT.tu ht hs pl pu (by rw[hlen];exact hw) ?_ (by rw[hlen];exact hz);rw[hlen];refine⟨.ref s.heap.objs.size,_,I.laid (t':=s.toks) (o:= .tup (qr xs lo hi)) (fun b ob q=>Heap.get?_push_of_some _ q) (Nat.le_refl _) ?_,rfl,q _ (I.aM.fresh (Nat.le_refl _))⟩;exact⟨Nat.le_trans (tT xs lo hi) hz,_,(r.drop (HT.cp xs.length 0 lo)).take (HT.cp xs.length xs.length hi-HT.cp xs.length 0 lo),IsTup.new _ _⟩
def MX(K:PySem.W.Frag):R2:=fun x y H Q=>∃a b xs ys,x= .ref a/\y= .ref b/\iY K H a xs/\iY K H b ys/\xs≠ []/\xs.length+ys.length<=sizeLine/\
 (ys=[]->Q (.ref a) H)/\(ys≠ []->∀p,H p=none->Q (.ref p) (upd H p (.tup (xs++ys))))
theorem Vals.sF{xs:List V}{us:List Value}(r:Vals xs us):us=[]↔xs=[]:=by
 cases r with
 |nil=>simp
 |cons _ _=>simp
theorem Ii:cw X (binaryOp .Add) (MX X.K):=by
 intro pins s σ H x y v u Q I rx ry h;obtain⟨a,b,xs,ys,rfl,rfl,ha,hb,hx,hz,q1,q2⟩:=h;cases rx;cases ry;obtain⟨aq,r1,p1,_⟩:=I.tuple ha;obtain⟨its2,r2,p2,_⟩:=I.tuple hb;refine HT.I_ p1 p2 (fun z=>hx (r1.sF.mp z)) (fun z=>⟨.ref a,H,I,rfl,q1 (r2.sF.mp z)⟩) (fun z=>?_) (by rw[<-r1.length,<-r2.length];exact hz);refine⟨.ref s.heap.objs.size,_,I.laid (t':=s.toks) (o:= .tup (xs++ys)) (fun b ob q=>Heap.get?_push_of_some _ q) (Nat.le_refl _) ?_,rfl,q2 (fun w=>z (r2.sF.mpr w)) _ (I.aM.fresh (Nat.le_refl _))⟩;exact⟨by rw[List.length_append];exact hz,_,r1.append r2,IsTup.new _ _⟩
end
def jl(n:Nat)(i:Int):Option Nat:=if 0<=i then(if i<n then some i.toNat else none)else if-(n:Int)<=i then some (i+n).toNat else none
def eQ{α:Type}(xs:List α)(i:Int):Option α:=(jl xs.length i).bind fun j=>xs[j]?
theorem wy{n:Nat}{i:Int}{j:Nat}(h:jl n i=some j):seqIndex? i n=some j/\j<n/\ -(n:Int)<=i/\i<n:=by
 unfold jl at h;by_cases h0:0<=i
 . rw[if_pos h0]at h;by_cases h1:i<n
   . rw[if_pos h1]at h;have e:i.toNat=j:=Option.some.inj h;exact⟨by rw[seqIndex_of h0 h1,e],by omega,by omega,h1⟩
   . rw[if_neg h1]at h;cases h
 . rw[if_neg h0]at h;by_cases h1: -(n:Int)<=i
   . rw[if_pos h1]at h;have e:(i+n).toNat=j:=Option.some.inj h;exact⟨by rw[seqIndex_neg (by omega) h1,e],by omega,h1,by omega⟩
   . rw[if_neg h1]at h;cases h
theorem wu{α:Type}{xs:List α}{i:Int}{v:α}(h:eQ xs i=some v):∃j,seqIndex? i xs.length=some j/\xs[j]?=some v/\j<xs.length/\ -(xs.length:Int)<=i/\i<xs.length:=by
 unfold eQ at h;cases e:jl xs.length i with
 |none=>rw[e]at h;cases h
 |some j=>
  rw[e]at h;obtain⟨h1,h2,h3,h4⟩:=wy e;exact⟨j,h1,h,h2,h3,h4⟩
theorem je{α:Type}{xs:List α}{j:Nat}{v:α}(h:xs[j]?=some v):eQ xs (j:Int)=some v:=by
 have hj:j<xs.length:=(List.getElem?_eq_some_iff.mp h).1
 have e:jl xs.length (j:Int)=some j:=by
  unfold jl;rw[if_pos (by omega),if_pos (by omega)];simp
 unfold eQ;rw[e];exact h
def sx(b:Expr):Prop:=∀o i,subscripted b false o i=operate [o,i] (getItem o i)
def Ge(X:Cx)(r:R2):Prop:=
 ∀(value slice:Expr) (pins:List (Addr×Obj)) (s:Shared) (σ:St) (H:Hp) (x y:V) (v u:Value) (Q:VK),Inv X pins σ H s->RelV x v->RelV y u->r x y H Q->
  subscripted slice false v u=operate [v,u] (getItem v u)->wpAny (model X.prog X.w) X.A (subscriptTail value slice v u) (EP X pins σ Q) X.xe s
def K2(X:Cx)(id:String)(r:V->List V->Hp->VK->Prop):Prop:=
 ∀(pins:List (Addr×Obj)) (s:Shared) (σ:St) (H:Hp) (x:V) (xs:List V) (v:Value) (us:List Value) (Q:VK),Inv X pins σ H s->RelV x v->Vals xs us->r x xs H Q->
  wpAny (model X.prog X.w) X.A (call (.builtin id) (v::us)) (EP X pins σ Q) X.xe s
section
variable {X:Cx}{a b:Expr}{ta tb:TE}{pos:Pos}
theorem Nv{r:R2}(hr:Ge X r)(ha:PE X a ta)(hb:PE X b tb)(hs:sx b):PE X (.Subscript a b pos) (DN r ta tb):=by
 intro pins s σ H Q I h;exact Subscript_ (Fl ha hb I h fun v u s2 x y H2 I2 rx ry q=>hr a b pins s2 σ H2 x y v u Q I2 rx ry q (hs _ _))
def OK(K:PySem.W.Frag):R2:=fun x y H Q=>∃p xs i v,x= .ref p/\y= .int i/\md K H p xs/\eQ xs i=some v/\Q v H
def Ou(K:PySem.W.Frag):R2:=fun x y H Q=>∃p xs i v,x= .ref p/\y= .int i/\iY K H p xs/\eQ xs i=some v/\Q v H
theorem A5:Ge X (OK X.K):=by
 intro value slice pins s σ H x y v u Q I rx ry h hs;obtain⟨p,xs,i,z,rfl,rfl,hq,he,q⟩:=h;cases rx;obtain⟨t,rfl⟩:=ry;obtain⟨aq,r,pl,hz⟩:=I.list hq;obtain⟨j,h1,h2,h3,h4,h5⟩:=wu he;obtain⟨w,ew,rw'⟩:=r.get h2;have hl:=r.length;have hn:=rE;have fin:EP X pins σ Q w s:=⟨z,H,I,rw',q⟩
 by_cases h0:0<=i
 . have hj:i.toNat=j:=by
    rw[seqIndex_of h0 h5]at h1;exact Option.some.inj h1
   exact item_listR pl.isList h0 (by omega) (by rw[hj];simpa using ew) fin hs
 . have hj:(i+(aq.toArray.size:Int)).toNat=j:=by
    rw[seqIndex_neg (by omega) h4]at h1;rw[List.size_toArray,<-hl];exact Option.some.inj h1
   exact subscriptTail_builtinR (x:=w) pl.isList.typeIs slot_list_getitem.lookup
    (wpAny_getItem_list_neg (Q:=fun r s'=>r=w/\EP X pins σ Q r s') pl.isList (by omega) (by rw[List.size_toArray]<;>omega) (by omega) (by rw[hj];simpa using ew) ⟨rfl,fin⟩) hs
theorem Kh:Ge X (Ou X.K):=by
 intro value slice pins s σ H x y v u Q I rx ry h hs;obtain⟨p,xs,i,z,rfl,rfl,hq,he,q⟩:=h;cases rx;obtain⟨t,rfl⟩:=ry;obtain⟨aq,r,pl,hz⟩:=I.tuple hq;obtain⟨j,h1,h2,h3,h4,h5⟩:=wu he;obtain⟨w,ew,rw'⟩:=r.get h2;have hl:=r.length;have hn:=rE;have fin:EP X pins σ Q w s:=⟨z,H,I,rw',q⟩
 exact subscriptTail_builtinR (x:=w) pl.typeIs slot_tuple_getitem.lookup
  (getItem_tuple (j:=j) (Q:=fun r s'=>r=w/\EP X pins σ Q r s') pl (by omega) (by omega) (by rw[List.size_toArray,<-hl];exact h1) (by simpa using ew) ⟨rfl,fin⟩) hs
theorem Bx(aq:List Value)(n j:Nat)(u:Value):Obj.mapSeq (·.setIfInBounds j u) {cls:= .type "list",data:= .seq aq.toArray n}= {cls:= .type "list",data:= .seq (aq.set j u).toArray n}:=by
 simp[Obj.mapSeq]
theorem Inv.lst{pins:List (Addr×Obj)}{σ:St}{H:Hp}{s:Shared}{p:Addr}{xs:List V}(I:Inv X pins σ H s)(h:H p=some (.lst xs)):
 ∃(aq:List Value) (n:Nat),Vals xs aq/\s.heap.get? p=some {cls:= .type "list",data:= .seq aq.toArray n}/\xs.length<=sizeLine:=by
 obtain⟨z,aq,n,r,e⟩:=I.aM p _ h;exact⟨aq,n,r,e,z⟩
theorem Inv.LF{pins:List (Addr×Obj)}{σ:St}{H:Hp}{s:Shared}{p:Addr}{xs ys:List V}{aq its':List Value}{n n':Nat}{f:Obj->Obj}(I:Inv X pins σ H s)(h:H p=some (.lst xs))
 (ho:s.heap.get? p=some {cls:= .type "list",data:= .seq aq.toArray n}) (hf:f {cls:= .type "list",data:= .seq aq.toArray n}= {cls:= .type "list",data:= .seq its'.toArray n'}) (r:Vals ys its') (hz:ys.length<=sizeLine) (t:Nat):
 Inv X pins σ (upd H p (.lst ys)) {s with heap:=s.heap.update p f,toks:=t}:=by
 have e:(s.heap.update p f).get? p=some {cls:= .type "list",data:= .seq its'.toArray n'}:=by
  rw[Heap.get?_update_self f ho (by rw[hf]<;>rfl),hf]
 refine I.write (x:=p) (e:=p) (by rw[h];trivial) (.inl rfl) (fun b u hb q=>(Heap.get?_update_other _ _ (Ne.symm hb)).trans q) ⟨_,e⟩ ?_;exact⟨hz,its',n',r,e⟩
def vd:V->V->V->Hp->(Hp->Prop)->Prop:=fun o i v H Q=>∃p xs k j,o= .ref p/\i= .int k/\H p=some (.lst xs)/\jl xs.length k=some j/\Q (upd H p (.lst (xs.set j v)))
theorem set_list:Lq X vd:=by
 intro pins s σ H o i v ov iv u Q I ro ri rv h;obtain⟨p,xs,k,j,rfl,rfl,hp,hj,q⟩:=h;cases ro;obtain⟨t,rfl⟩:=ri;obtain⟨aq,n,r,ho,hz⟩:=I.lst hp;obtain⟨h1,h2,h3,h4⟩:=wy hj;have hl:=r.length;have hn:=rE
 have I':Inv X pins σ (upd H p (.lst (xs.set j v))) {s with heap:=s.heap.update p (Obj.mapSeq (·.setIfInBounds j u))}:=
  I.LF hp ho (Bx aq n j u) (r.set rv j) (by rw[List.length_set];exact hz) s.toks
 by_cases h0:0<=k
 . have hk:k.toNat=j:=by
    rw[seqIndex_of h0 h4]at h1;exact Option.some.inj h1
   exact PySem.W.ki_setAt ho h0 (by omega) (by rw[List.size_toArray,<-hl];exact h4) (by rw[hk];exact⟨_,I',q⟩)
 . have hk:(k+(aq.toArray.size:Int)).toNat=j:=by
    rw[seqIndex_neg (by omega) h3]at h1;rw[List.size_toArray,<-hl];exact Option.some.inj h1
   exact PySem.W.ki_setBack ho (by omega) (by rw[List.size_toArray,<-hl];exact h3) (by omega) (by rw[hk];exact⟨_,I',q⟩)
theorem Ad(lo hi:Option Int)(n:Nat):(sliceBounds lo hi none n).1=((HT.cp n 0 lo:Nat):Int)/\(sliceBounds lo hi none n).2.1=((HT.cp n n hi:Nat):Int)/\(sliceBounds lo hi none n).2.2=1:=by
 refine⟨?_,?_,rfl⟩
 . cases lo with
   |none=>simp[sliceBounds,HT.cp]
   |some i=>
    simp only[sliceBounds,HT.cp,Option.getD_none,show(1:Int)>0 by decide,if_true];by_cases h:i<0
    . simp only[h,if_true]<;>omega
    . simp only[h,if_false]<;>omega
 . cases hi with
   |none=>simp[sliceBounds,HT.cp]
   |some i=>
    simp only[sliceBounds,HT.cp,Option.getD_none,show(1:Int)>0 by decide,if_true];by_cases h:i<0
    . simp only[h,if_true]<;>omega
    . simp only[h,if_false]<;>omega
theorem xH(aq:List Value)(lo hi:Option Int):slicePick aq.toArray lo hi none=((aq.drop (HT.cp aq.length 0 lo)).take (HT.cp aq.length aq.length hi-HT.cp aq.length 0 lo)).toArray:=by
 obtain⟨h1,h2,h3⟩:=Ad lo hi aq.toArray.size;unfold slicePick;rw[h1,h2,h3];simp only[sliceRange_one,pick_run,List.size_toArray]<;>rfl
def OW(K:PySem.W.Frag):V->Option Int->Option Int->Hp->VK->Prop:=fun x lo hi H Q=>∃a xs,x= .ref a/\md K H a xs/\∀p,H p=none->Q (.ref p) (upd H p (.lst (qr xs lo hi)))
theorem Bc:DP X (OW X.K):=by
 intro pins s σ H x v vl vu lo hi sl Q I rx hs pl pu h;obtain⟨a,xs,rfl,hx,q⟩:=h;cases rx;obtain⟨aq,r,ht,hz⟩:=I.list hx;have hlen:=r.length;refine⟨"list",_,slot_list_getitem.lookup,ht.isList.typeIs,?_⟩;refine wpAny_getItem_list_slice ht.isList hs pl pu .none (by simp) ?_ (by rw[List.size_toArray]<;>omega);rw[xH,<-hlen];refine⟨.ref s.heap.objs.size,_,I.laid (t':=s.toks) (o:= .lst (qr xs lo hi)) (fun b ob q=>Heap.get?_push_of_some _ q) (Nat.le_refl _) ?_,rfl,q _ (I.aM.fresh (Nat.le_refl _))⟩;exact⟨Nat.le_trans (tT xs lo hi) hz,_,0,(r.drop (HT.cp xs.length 0 lo)).take (HT.cp xs.length xs.length hi-HT.cp xs.length 0 lo),Heap.get?_push_size _ rfl⟩
theorem zf:bI X (.builtin "len") (fun xs H Q=>∃p ys,xs=[.ref p]/\(md X.K H p ys\/iY X.K H p ys)/\Q (.int ys.length) H):=by
 intro pins s σ H xs us Q I r h;obtain⟨p,ys,rfl,hq,q⟩:=h;obtain⟨u,rfl,rx⟩:=vals1 r;cases rx;have hn:=rE;rcases hq with hq|hq
 . obtain⟨aq,r',pl,hz⟩:=I.list hq;have hlen:=r'.length;exact Calls.call_len_list pl.isList (by simp only[List.size_toArray]<;>omega) ⟨.int ys.length,H,I.tok _,⟨s.toks+1,by rw[List.size_toArray,hlen]⟩,q⟩
 . obtain⟨aq,r',pl,hz⟩:=I.tuple hq;have hlen:=r'.length;exact len_tuple pl (by simp only[List.size_toArray]<;>omega) ⟨.int ys.length,H,I.tok _,⟨s.toks+1,by rw[List.size_toArray,hlen]⟩,q⟩
theorem yl:bI X (.builtin "len") (fun xs H Q=>∃z,xs=[.str z]/\z.length<=sizeLine/\Q (.int z.length) H):=by
 intro pins s σ H xs us Q I r h;obtain⟨z,rfl,hz,q⟩:=h;obtain⟨u,rfl,t,rfl⟩:=vals1 r;have hn:=rE;exact len_str (by omega) ⟨.int z.length,H,I.tok _,⟨_,rfl⟩,q⟩
theorem sf:bI X (.type "list") (fun xs H Q=>∃p ys,xs=[.ref p]/\(md X.K H p ys\/iY X.K H p ys)/\∀l,H l=none->Q (.ref l) (upd H l (.lst ys))):=by
 intro pins s σ H xs us Q I r h;obtain⟨p,ys,rfl,hq,q⟩:=h;obtain⟨u,rfl,rx⟩:=vals1 r;cases rx
 have fin:∀(aq:List Value),Vals ys aq->ys.length<=sizeLine->∀(h':Heap) (c':Nat),(∀b o',s.heap.get? b=some o'->h'.get? b=some o')->
  h'.get? s.heap.objs.size=some {cls:= .type "list",dict:=none,data:= .seq aq.toArray c',slots:= #[]}->EP X pins σ Q (.ref s.heap.objs.size) {s with heap:=h'}:=fun aq r' hz h' c' kp e=>
  ⟨.ref s.heap.objs.size,_,I.laid (t':=s.toks) kp (Nat.le_refl _) (show dz X.prog X.w _ h' _ (.lst ys)from⟨hz,aq,c',r',e⟩),rfl,q _ (I.aM.fresh (Nat.le_refl _))⟩
 rcases hq with hq|hq
 . obtain⟨aq,r',pl,hz⟩:=I.list hq;have hlen:=r'.length;obtain⟨o,ho,hc,n,hd⟩:=pl.isList;exact call_list_seq p (.inl rfl) ho hc hd (fun h' c' kp e=>fin aq r' hz h' c' kp e) (by simp only[List.size_toArray]<;>omega)
 . obtain⟨aq,r',pl,hz⟩:=I.tuple hq;have hlen:=r'.length;obtain⟨o,ho,hc,n,hd⟩:=pl;exact call_list_seq p (.inr rfl) ho hc hd (fun h' c' kp e=>fin aq r' hz h' c' kp e) (by simp only[List.size_toArray]<;>omega)
theorem xS:bI X (.type "tuple") (fun xs H Q=>∃p ys,xs=[.ref p]/\((md X.K H p ys/\∀l,H l=none->Q (.ref l) (upd H l (.tup ys)))\/(iY X.K H p ys/\Q (.ref p) H))):=by
 intro pins s σ H xs us Q I r h;obtain⟨p,ys,rfl,h⟩:=h;obtain⟨u,rfl,rx⟩:=vals1 r;cases rx;rcases h with⟨hq,q⟩|⟨hq,q⟩
 . obtain⟨aq,r',pl,hz⟩:=I.list hq;have hlen:=r'.length;refine call_tuple_list pl.isList (fun h' kp=>?_) (by simp only[List.size_toArray]<;>omega);have I1:Inv X pins σ H {s with heap:=h'}:=I.kept (t':=s.toks) kp
   have I2:Inv X pins σ (upd H h'.objs.size (.tup ys)) {s with heap:=h'.push {cls:= .type "tuple",data:= .seq aq.toArray}}:=
    I1.laid (t':=s.toks) (fun b o e=>Heap.get?_push_of_some _ e) (Nat.le_refl _) (show dz X.prog X.w _ _ _ (.tup ys)from⟨hz,aq,r',IsTup.new _ _⟩)
   exact⟨.ref h'.objs.size,_,I2,rfl,q _ (I1.aM.fresh (Nat.le_refl _))⟩
 . obtain⟨aq,r',pl,hz⟩:=I.tuple hq;exact call_tuple_same pl ⟨.ref p,H,I,rfl,q⟩
def Oa(K:PySem.W.Frag)(T:String)(x:V)(H:Hp):Prop:=match x with
 | .str _=>T="str"
 | .int _=>T="int"
 | .ref p=>(T="list"/\∃xs,md K H p xs)\/(T="tuple"/\∃o,K.lookup p=some o/\o.cls= .type "tuple"/\o.dict=none)\/
    (T="dict"/\((∃kvs,H p=some (.dK kvs))\/∃kvs,H p=some (.dT kvs)))\/(T="set"/\∃S n,H p=some (.set S n))
 |_=>False
theorem J8{pins:List (Addr×Obj)}{σ:St}{H:Hp}{s:Shared}{T:String}{x:V}{v:Value}(I:Inv X pins σ H s)(r:RelV x v)(ty:Oa X.K T x H):
 s.TypeIs v T/\∀a,v= .ref a->∃ob,s.heap.get? a=some ob/\ob.dict=none:=by
 cases x with
 |str z=>
  obtain⟨t,rfl⟩:=r;cases (show T="str" from ty);exact⟨typeIs_str s z t,fun _ e=>nomatch e⟩
 |int i=>
  obtain⟨t,rfl⟩:=r;cases (show T="int" from ty);exact⟨typeIs_int s i t,fun _ e=>nomatch e⟩
 |ref p=>
  cases r;rcases ty with⟨rfl,xs,hq⟩|⟨rfl,o,hk,hc,hd⟩|⟨rfl,hk⟩|⟨rfl,S,n,hk⟩
  . obtain⟨aq,_,pl,_⟩:=I.list hq;refine⟨pl.isList.typeIs,fun a e=>?_⟩;cases e;obtain⟨o,n,e,c,hd,_⟩:=pl;exact⟨o,e,hd⟩
  . refine⟨⟨o,I.gI p o hk,hc⟩,fun a e=>?_⟩;cases e;exact⟨o,I.gI _ o hk,hd⟩
  . have z:∃o,s.heap.get? p=some o/\o.ExactDict:=by
     rcases hk with⟨kvs,hk⟩|⟨kvs,hk⟩
     . obtain⟨_,_,_,_,o,_,_,e,ex,_⟩:=I.aM p _ hk;exact⟨o,e,ex⟩
     . obtain⟨_,_,_,_,o,_,_,e,ex,_⟩:=I.aM p _ hk;exact⟨o,e,ex⟩
    obtain⟨o,e,ex⟩:=z;refine⟨⟨o,e,ex.1⟩,fun a e2=>?_⟩;cases e2;exact⟨o,e,ex.2.1⟩
  . obtain⟨o,_,_,_,e,ex,_⟩:=I.aM p _ hk;refine⟨⟨o,e,ex.1⟩,fun a e2=>?_⟩;cases e2;exact⟨o,e,ex.2.1⟩
 |_=>exact False.elim ty
def KC(K:PySem.W.Frag)(T:String)(r:V->List V->Hp->VK->Prop)(to:TE)(t:TA):TE:=fun σ H Q=>to σ H fun x H1=>Oa K T x H1/\t σ H1 fun xs H2=>r x xs H2 Q
variable {o e:Expr}{es:List Expr}{to:TE}{t:TA}{name:Str}{apos cpos:Pos}{T id:String}{r:V->List V->Hp->VK->Prop}
theorem Gb(pa:PlainAttrs T)(slot:Slot T name id)(hty:typeOf (.builtin id)=pure (.type "method_descriptor"))(hm:K2 X id r)(ho:PE X o to)(ha:PA X (e::es) t)
 (hbase:attributeBase o name X.env (eval o X.env)=eval o X.env:=by rfl)
 (hfew:((backTo cpos (starEach (e::es) X.env)).all (fun x=> !x.1)&&(backToKw cpos (keywordEach [] X.env)).all (fun x=>x.1.isSome)
   &&decide ((e::es).length+([]:List Keyword).length+(if([]:List Keyword).isEmpty then 0 else 1)<30))=true:=by rfl)
 (hline:(apos.endLine==cpos.line)=true:=by rfl) (hs:starEach (e::es) X.env=(false,eval e X.env)::starEach es X.env:=by rfl) (hplain:(backTo cpos (starEach es X.env)).any (·.1)=false:=by rfl):
 PE X (.Call (.Attribute o name apos) (e::es) [] cpos) (KC X.K T r to t):=by
 intro pins s σ H Q I h;refine wpAny_Call_method_late hbase hfew hline rfl (cu (ho pins s σ H _ I h) fun v s1 ⟨x,H1,I1,r1,ty,q1⟩=>?_);obtain⟨h1,h2⟩:=J8 I1 r1 ty;refine⟨T,id,pa,slot,hty,h1,h2,?_⟩;have hA:=ha cpos pins s1 σ H1 _ I1 q1;rw[hs]at hA⊢;refine Calls.callWith_builtin (by show(false||(backTo cpos (starEach es X.env)).any (·.1))=false;rw[hplain]<;>rfl) (Calls.evalArgs_plain ?_);exact cu hA fun us s2 ⟨vs,H2,I2,r2,q2⟩=>hm pins s2 σ H2 x vs v us Q I2 r1 r2 q2
/-xs.append(e),list.index on a module's tuple .. are K2 facts of 06m-/
end
def NR(X:Cx)(id:String)(r:V->List V->Hp->VK->Prop):Prop:=
 ∀(pins:List (Addr×Obj)) (s:Shared) (σ:St) (H:Hp) (x:V) (xs:List V) (v:Value) (us:List Value) (Q:VK),Inv X pins σ H s->RelV x v->Vals xs us->r x xs H Q->
  wpAny (model X.prog X.w) X.A (call (.builtin id) (v::us)) (EP X pins σ Q) X.xe s
theorem Vals.one:∀ {x:V} {us:List Value},Vals [x] us->∃u,us=[u]/\RelV x u
 |_,_,.cons r .nil=>⟨_,rfl,r⟩
theorem Vals.eraseIdx:∀ {xs:List V} {us:List Value} (i:Nat),Vals xs us->Vals (xs.eraseIdx i) (us.eraseIdx i)
 |_,_,_,.nil=> .nil
 |_,_,0,.cons _ t=>t
 |_,_,i+1,.cons r t=> .cons r (Vals.eraseIdx i t)
theorem Vals.rep{xs:List V}{us:List Value}(h:Vals xs us):∀k:Nat,Vals (List.replicate k xs).flatten (List.replicate k us).flatten
 |0=> .nil
 |k+1=>by
  rw[List.replicate_succ,List.replicate_succ,List.flatten_cons,List.flatten_cons];exact Vals.append h (Vals.rep h k)
theorem wQ{α:Type}:∀(l:List α) (i:Nat),(l.eraseIdx i).length<=l.length
 | [],_=>Nat.le_refl _
 |_::_,0=>Nat.le_succ _
 |_::r,i+1=>Nat.succ_le_succ (wQ r i)
theorem foldl_rep(aq:List Value):∀(k:Nat) (acc:List Value),
 List.foldl (fun x1 x2=>x1++x2) acc.toArray (List.replicate k aq.toArray)=(acc++(List.replicate k aq).flatten).toArray
 |0,acc=>by simp
 |k+1,acc=>by
  have e:acc.toArray++aq.toArray=(acc++aq).toArray:=by simp
  have e2:(acc++aq)++(List.replicate k aq).flatten=acc++(List.replicate (k+1) aq).flatten:=by
   rw[List.replicate_succ,List.flatten_cons,List.append_assoc]
  rw[<-e2,<-foldl_rep aq k (acc++aq),<-e,List.replicate_succ,List.foldl_cons]
section
variable {X:Cx}{pins:List (Addr×Obj)}{σ:St}{H:Hp}{s:Shared}{l b:Addr}{xs ys zs:List V}
theorem Inv.K3{aq its':List Value}{n:Nat}{f:Array Value->Array Value}{t':Nat}(I:Inv X pins σ H s)(hH:H l=some (.lst xs))
 (e:s.heap.get? l=some {cls:= .type "list",data:= .seq aq.toArray n}) (hf:f aq.toArray=its'.toArray) (hv:Vals ys its') (hz:ys.length<=sizeLine):
 Inv X pins σ (upd H l (.lst ys)) {s with heap:=s.heap.update l (Obj.mapSeq f),toks:=t'}:=by
 have q:=PySem.IsL.update e f;rw[hf]at q;refine I.write (x:=l) (e:=l) (by rw[hH];exact trivial) (.inl rfl) (fun b' u hb hu=>(Heap.get?_update_other s.heap (Obj.mapSeq f) (Ne.symm hb)).trans hu) ⟨_,q⟩ ?_;exact⟨hz,its',_,hv,q⟩
theorem Inv.ER{aq:List Value}{t':Nat}(I:Inv X pins σ H s)(hv:Vals ys aq)(hz:ys.length<=sizeLine):
 Inv X pins σ (upd H s.heap.objs.size (.lst ys)) {s with heap:=s.heap.push {cls:= .type "list",data:= .seq aq.toArray},toks:=t'}:=
 I.laid (fun _ _ q=>Heap.get?_push_of_some _ q) (Nat.le_refl _) ⟨hz,aq,0,hv,Heap.get?_push_size _ rfl⟩
theorem Inv.fresh(I:Inv X pins σ H s):H s.heap.objs.size=none:=I.aM.fresh (Nat.le_refl _)
theorem Inv.Mc(I:Inv X pins σ H s)(hH:H l=some (.lst xs)):xs.length<=sizeLine/\∃(aq:List Value) (n:Nat),Vals xs aq/\xs.length=aq.length/\s.heap.get? l=some {cls:= .type "list",data:= .seq aq.toArray n}:=by
 obtain⟨z,aq,n,r,e⟩:=I.aM l _ hH;exact⟨z,aq,n,r,r.length,e⟩
theorem FA{n:Nat}(h:n<=sizeLine):Builtin.List.listTooLong n=false:=by
 unfold Builtin.List.listTooLong;exact decide_eq_false (by omega)
end
section
variable {X:Cx}
def Az:V->List V->Hp->VK->Prop:=fun x vs H Q=>∃l xs y,x= .ref l/\vs=[y]/\H l=some (.lst xs)/\xs.length<sizeLine/\Q .aK (upd H l (.lst (xs++[y])))
theorem wL:NR X "list.append" Az:=by
 intro pins s σ H x vs v us Q I rx rv h;obtain⟨l,xs,y,rfl,rfl,hH,hz,q⟩:=h;cases rx;obtain⟨u,rfl,ru⟩:=rv.one;obtain⟨z,aq,n,r,hl,e⟩:=I.Mc hH;refine call_meets F.slot_list_append ⟨_,e,rfl⟩ F.entry_list_append (F.args_list_append_2 _ _) (PySem.list_append l aq.toArray n u (by rw[List.size_toArray];omega)) ⟨e,?_⟩;refine⟨.aK,_,I.K3 (its':=aq++[u]) hH e (by simp) (r.append (.cons ru .nil)) ?_,rfl,q⟩;rw[List.length_append,List.length_singleton];omega
def Df:V->List V->Hp->VK->Prop:=fun x vs H Q=>∃l xs i k y,x= .ref l/\vs=[.int i]/\H l=some (.lst xs)/\ -(2^63)<=i/\i<2^63/\seqIndex? i xs.length=some k/\xs[k]?=some y/\Q y (upd H l (.lst (xs.eraseIdx k)))
theorem E5:NR X "list.pop" Df:=by
 intro pins s σ H x vs v us Q I rx rv h;obtain⟨l,xs,i,k,y,rfl,rfl,hH,h1,h2,hk,hy,q⟩:=h;cases rx;obtain⟨u,rfl,ru⟩:=rv.one;obtain⟨t,rfl⟩:=ru;obtain⟨z,aq,n,r,hl,e⟩:=I.Mc hH;obtain⟨w,hw,rw'⟩:=r.get hy
 refine call_meets F.slot_list_pop ⟨_,e,rfl⟩ F.entry_list_pop (F.args_list_pop_2 _ _)
  (MeetsSeq.list_pop_at l aq.toArray n i t k w (fitsIndex_both h1 h2) (by rw[List.size_toArray,<-hl];exact hk) (by rw[<-Array.getElem?_toList];exact hw) (by rw[List.size_toArray];omega)) ⟨e,?_⟩
 refine⟨y,_,I.K3 (its':=aq.eraseIdx k) hH e ?_ (r.eraseIdx k) ?_,rw',q⟩
 . show aq.toArray.eraseIdxIfInBounds k=(aq.eraseIdx k).toArray;rw[List.eraseIdxIfInBounds_toArray]
 . have:=wQ xs k;omega
theorem len_rep{α:Type}(xs:List α)(k:Nat):(List.replicate k xs).flatten.length=k*xs.length:=by
 induction k with
 |zero=>simp
 |succ k ih=>rw[List.replicate_succ,List.flatten_cons,List.length_append,ih,Nat.succ_mul,Nat.add_comm]
end
section
variable {prog:Program}{w:World}{A:Around}{E:Value->Shared->Prop}{s:Shared}
set_option maxRecDepth 100000 in
end
section
variable {X:Cx}
end
end L2
namespace Att
open PySem PySem.W PySem.Calls PyProof.Rows
theorem vC{P:Params}{h:Heap}:∀(ns:List Int) (vs:List Value),WellAll P h vs (ns.map WData.int)->IntsAre vs ns:=by
 intro ns;induction ns with
 |nil=>
  intro vs w;rw[List.map_nil]at w;cases w;exact .nil
 |cons n ns ih=>
  intro vs w;rw[List.map_cons]at w;cases w with
  |cons a b=>
   cases a;exact .cons _ _ (ih _ b)
theorem C1{l:OpenLaw}{n:Nat}(hn:l.most=some n){P:Params}{h:Heap}{args:List WData}{vals:List Value}
 (hpre:l.row.toRowW.claim.pre args=true) (hwl:WellAll P h vals args):
 ∃a vs ns,vals=[Value.ref a]/\args=[WData.list (ns.map WData.int)]/\h.get? a=some {cls:= .type "list",data:= .seq vs.toArray}/\IntsAre vs ns/\ns.length<=n:=by
 have hsh:WShape.hasAll [] args [.list .int]=true:=(pre_splitW hpre).1;have hc:l.pre.holds [] {args:=args}=true:=(pre_splitW hpre).2;obtain⟨d,r,rfl,h1,h2⟩:=hasAllW_cons hsh;obtain rfl:=hasAllW_nil h2;obtain⟨xs,rfl,h3⟩:=hasW_list h1;obtain⟨ns,rfl⟩:=items_int h3
 have hlen:ns.length<=n:=by
  unfold OpenLaw.pre at hc
  have h4:(WTm.not (.lt (.lit (.int (n:Int))) (.len (.arg 0)))).holds [] {args:=[.list (ns.map .int)]}=true:=by
   have h4:=(holds_andW hc).1;rw[hn]at h4;exact h4
  have h5:=condW_of h4 (w_not (w_lt w_lit (w_len_list (w_arg rfl))));rw[List.length_map]at h5;refine Nat.le_of_not_lt fun q=>?_;have q':(n:Int)<((ns.length:Nat):Int):=by omega
  first
   |(rw[decide_eq_true q']at h5;exact absurd h5 (by decide))
   |(simp at h5;omega)
 cases hwl with
 |cons w1 w2=>
  cases w2;cases w1 with
  |list ho hall=>exact⟨_,_,ns,rfl,rfl,ho,vC ns _ hall,hlen⟩
theorem C_(l:OpenLaw)(args:List WData):l.row.toRowW.claim.post args (.bool true) args=true:=
 postW_of (r:=l.row.toRowW) (X:=(true==true))
  (show WShape.has [] (.bool true) .bool=true by first|rfl|decide|simp[WShape.has,WShape.arms,WShape.armsAll])
  (show(WTm.eq .res (.lit (.bool true))).value [] {args:=args,res:=some (.bool true),after:=args}=some (.bool (true==true))from w_eq_bool (w_res rfl) w_lit) rfl
theorem Ap{l:OpenLaw}{n:Nat}{q:Program}{loose:List Str}{XP:(Str->Option Value)->Heap->Prop}{YP:World->Heap->Prop}{d:DefRec}
 (hn:l.most=some n) (hdf:d.params.defaults=[])
 (call:∀(w:World) (s₀ s₁:Shared) (mg mb:Str->Option Value) (fa:Addr) (o:Obj) (pm cd doc:Value) (a:Addr) (vs:List Value) (ns:List Int),
   Ground q loose [] XP w s₀ mg mb s₁.heap->YP w s₁.heap->
   s₁.heap.get? fa=some o->o.data= .func (docDef d.name d.params d.body d.scope pm cd doc)->s₁.heap.CodeRec cd d.name->mg d.name=some (.ref fa)->
   s₁.heap.get? a=some {cls:= .type "list",data:= .seq vs.toArray}->IntsAre vs ns->ns.length<=n->s₁.gens= #[]->
   codeAny (model l.prog w) callerA (.call (.ref fa) ⟨[.ref a],[]⟩) (fun r s'=>r= .ok (.ret (.bool true))/\OldK s₁.heap s'.heap/\s'.os=s₁.os/\AllBare s'.gens) s₁):
 WalkO q loose XP YP l.row.toRowW d [] (fun f vs=>PySem.call f vs):=by
 intro w s₀ s₁ mg mb G Y fa o pm cd doc dV kV ho hd hcd hD hmg hg args vals as hpre hlay hrd hwl hlo;obtain rfl:dV= .none:=Dflts.none hD hdf;obtain rfl:kV= .none:=Dflts.noKw hD;obtain⟨a,vs,ns,rfl,rfl,hobj,hints,hlen⟩:=C1 hn hpre hwl;refine enter_call (codeAny_mono (call w s₀ s₁ mg mb fa o pm cd doc a vs ns G Y ho (fd_plain hd) hcd hmg hobj hints hlen hg) fun r s' hq=>?_);obtain⟨rfl,h2,h3,h4⟩:=hq;exact⟨.inl ⟨.bool true,.bool true,[],rfl,fun _=>rfl,.bool true,C_ l _,fun _=>⟨List.Pairwise.nil,fun _ hm=>(nomatch hm)⟩⟩,h2,h3,h4⟩
section
variable {prog:Program}{w:World}{A:Around}{E:Value->Shared->Prop}{s:Shared}{K:Frag}
end
end Att
namespace L2
open PySem PySem.Spec PyProof.Rows
theorem mv:∀ {vs:List Value} {ns:List Int},IntsAre vs ns->Vals (ns.map V.int) vs
 |_,_,.nil=> .nil
 |_,_,.cons n t h=> .cons ⟨t,rfl⟩ (mv h)
end L2
/-THE LAST THEOREM (shape;LID,My.*are yours):
 My.Adr:a structure of the addresses that your layer names (classes,functions);My.Txt K t:a structure (Prop) of the equations over K;
 My.txt_mk:{K} {implicit addresses ..} (e1:nsIn K mainGlobals "law"=some (some (.ref f))) (e2:K.lookup f=some ⟨oc,od,.func (fnOf "law" "law" params body scope dV kV doc pm an cdv ct),sl⟩) (e3:codeIn K cdv "law"=true) .. :∃t,My.Txt K t
set_option maxRecDepth 100000 in
set_option maxHeartbeats 0 in
(the tactic k_is has no namespace:write k_is)-/
namespace L2
open PySem PySem.Spec PyProof.Rows
def inClass(s:Stmt)(j:Nat):Stmt:=match s with
 | .ClassDef _ _ _ body _ _ _ _ _ _ _=>body.getD j (.Pass ⟨0,0,0,0⟩)
 |_=> .Pass ⟨0,0,0,0⟩
def j0(s:Stmt):Arguments:=match s with
 | .FunctionDef _ a _ _ _ _ _ _ _ _=>a
 |_=>{posonlyargs:=[],args:=[],vararg:=none,kwonlyargs:=[],kw_defaults:=[],kwarg:=none,defaults:=[]}
def gF(s:Stmt):List Stmt:=match s with
 | .FunctionDef _ _ b _ _ _ _ _ _ _=>b
 |_=>[]
def ai(s:Stmt):Scope:=match s with
 | .FunctionDef _ _ _ _ _ _ sc _ _ _=>sc
 |_=>{kind:= .function,names:=[],isGenerator:=false,isCoroutine:=false}
abbrev cL:tW:=fun _ _ _ _ _ _=>False
abbrev E0:XK:=fun _ _ _=>False
theorem BW{X:Cx}:Passes cL X E0:=fun _ _ _ _ _ _ _ h=>h.elim
structure oj(K:PySem.W.Frag)(x qual:Str)(st:Stmt)(f:Addr)(fd:FuncData):Prop where
 ex:∃(oc:Value) (od:Option Addr) (kV doc pm:Value) (an:Option Addr) (cdv ct:Value) (osl:Array (Option Value)),
  fd=PySem.W.fnOf x qual (j0 st) (gF st) (ai st) .none kV doc pm an cdv ct/\K.lookup f=some ⟨oc,od,.func fd,osl⟩/\PySem.W.codeIn K cdv qual=true
 kp:PySem.W.keepIn K (.ref f)=true
section
variable {P:Program}{w:World}{K:PySem.W.Frag}{mg:Str->Option Value}{base:Heap}
theorem oj.ok{x qual:Str}{st:Stmt}{f:Addr}{fd:FuncData}{N ps:List Str}{k:Nat}{sp:Sp}(F:oj K x qual st f fd)(S:aU N ps (ai st))(len:∀vs H Q E,sp vs H Q E->vs.length=ps.length)
 (hbody:∀(cdv:Value) (A:Around) (outer:List Env) (s:Shared) (H:Hp) (vs:List V) (Q:VK) (E:XK),cT k (A.deeper (envOfC qual (ai st) s.heap.objs.size f cdv))->sp vs H Q E->
   ∃t,gJ (qA cL P w K mg base N qual (ai st) f cdv A outer s H E).uJ (gF st) t/\t {nx:=fun _ H'=>Q .aK H',rt:=Q} (start N vs) H):bE P w K mg base cL (k+1) f fd ps sp:=by
 obtain⟨oc,od,kV,doc,pm,an,cdv,ct,osl,rfl,lk,hcd⟩:=F.ex;refine Gn lk hcd S len fun A outer s H vs Q E hr hsp=>?_;obtain⟨t,h,q⟩:=hbody cdv A outer s H vs Q E hr hsp;exact⟨t,h.uJ,q⟩
theorem oj.binds{x qual:Str}{st:Stmt}{f:Addr}{fd:FuncData}{ps:List Str}(F:oj K x qual st f fd)
 (h:∀(kV doc pm:Value) (an:Option Addr) (cdv ct:Value) (us:List Value),us.length=ps.length->bindArgs (PySem.W.fnOf x qual (j0 st) (gF st) (ai st) .none kV doc pm an cdv ct) ⟨us,[]⟩=pure (ps.zip us)):Binds K fd ps []:=by
 obtain⟨oc,od,kV,doc,pm,an,cdv,ct,osl,rfl,lk,hcd⟩:=F.ex;exact .all (h kV doc pm an cdv ct)
theorem Es{x qual:Str}{st:Stmt}{f:Addr}{oc:Value}{od an:Option Addr}{osl:Array (Option Value)}{kV doc pm cdv ct:Value}(l:K.lookup f=some ⟨oc,od,.func (PySem.W.fnOf x qual (j0 st) (gF st) (ai st) .none kV doc pm an cdv ct),osl⟩)
 (c:PySem.W.codeIn K cdv qual=true) (k:PySem.W.keepIn K (.ref f)=true):oj K x qual st f (PySem.W.fnOf x qual (j0 st) (gF st) (ai st) .none kV doc pm an cdv ct):=⟨⟨oc,od,kV,doc,pm,an,cdv,ct,osl,rfl,l,c⟩,k⟩
end
section
variable {X:Cx}
end
theorem gW{A B:Prop}(h:A):if true=true then A else B:=by
 rw[if_pos rfl];exact h
def Fg(H H':Hp):Prop:=∀b o,H b=some o->H' b=some o
end L2
set_option maxHeartbeats 4000000
namespace Hd
open PySem PySem.W PySem.Calls PyProof.Rows
noncomputable def bt (P:Params):BT:=(.node (boot_o_0 P) (.node (boot_o_1 P) (.node (boot_o_3 P) (.node (boot_o_7 P) .nil .nil) .nil) (.node (boot_o_5 P) (.node (boot_o_9 P) .nil .nil) .nil)) (.node (boot_o_2 P) (.node (boot_o_4 P) (.node (boot_o_8 P) .nil .nil) .nil) (.node (boot_o_6 P) (.node (boot_o_10 P) .nil .nil) .nil)))
theorem Mf(P:Params):absHeap (bt P) 11 (boot_heap P).life=boot_heap P:=by kernel_rfl
noncomputable def run (p:Program) (w:World) (n:Nat) (ann:Option Value):Nat->SharedT->Thread->Option SharedT
 |0,_,_=>none
 |k+1,s,t=>match through t with
  |true=>some s
  |false=>match Fast.tw6613529449190102663 n ann t with
   |false=>none
   |true=>match Fast.tw10156331382660048174 (Fast.tw11892475500146522536 Fast.tw14364793385576792824) p w s t with
    |some (s',t')=>run p w n ann k s' t'
    |none=>none
theorem Dc{p:Program}{w:World}{n:Nat}{ann:Option Value}:∀ {k:Nat} {s s':SharedT} {t:Thread},run p w n ann k s t=some s'->topRun treeTable p w n ann k s.abs t=some s'.abs
 |0,_,_,_,h=>by cases h
 |k+1,s,s',t,h=>by
  unfold run at h;unfold topRun;cases he:through t with
  |true=>rw[he]at h;cases h;rfl
  |false=>
   rw[he]at h;rw[<-Fast.te6613529449190102663,<-Fast.te10156331382660048174,<-Fast.te11892475500146522536,<-Fast.te14364793385576792824]at h;cases hk:stepOk n ann t with
   |false=>simp only[hk]at h;cases h
   |true=>
    simp only[hk]at h;cases hs:stepT (denote treeTable) p w s t with
    |none=>rw[hs]at h;cases h
    |some r=>obtain⟨s2,t2⟩:=r;rw[hs]at h;rw[stepT_spec hs];exact Dc h
noncomputable def b0 (w:World) (os:OsState):SharedT:=⟨bt w.params,11,(boot_heap w.params).life,⟨[]⟩,boot_drawn,boot_toks,os⟩
theorem LN(w:World)(os:OsState):(b0 w os).abs=⟨boot_heap w.params,⟨[]⟩,boot_drawn,boot_toks,os⟩:=by
 unfold b0 SharedT.abs;dsimp only;rw[Mf]
theorem left{p q:Program}{loose:List Str}{α:Type}{Yf:Shared->α}{Ya:World->α}{N:Nat}
 (e:opening p=plainProg p.main.scope.names) (f:∀s,fenceModules? p s=some s) (hN:Nat.ble 600 N=true)
 (h:∀(w:World) (os:OsState),(run p w 11 (some (.ref 6)) N (b0 w os) (topStub p)).bind (fun s=>match staticsOk (importedModules p.main.body) (boot_heap w.params) s.abs.heap&&namesBound p s.abs.heap&&gensDone s.abs&&laidKept (boot_heap w.params) s.abs.heap with
   |true=>some (Fast.tw4187177175401517315 q loose (importedModules p.main.body) (fun _=>true) true s.abs,Yf s.abs)
   |false=>none)=some (openGood q loose,Ya w)):LeftO p q loose (fun _=>true) Yf Ya N:=fun w=>by
 obtain⟨⟨hp,gs,d,k,os⟩,e1,e2⟩:=Option.map_eq_some_iff.mp (boot_open e hN f w);obtain⟨rfl,rfl,rfl,rfl⟩:hp=boot_heap w.params/\gs=⟨[]⟩/\d=boot_drawn/\k=boot_toks:=by simpa using e2
 obtain⟨s,r1,r2⟩:=Option.bind_eq_some_iff.mp (h w os);have r3:=Dc r1;rw[LN]at r3;rw[<-Fast.te4187177175401517315]at r2;unfold openEnds;rw[e1];show(topFrom treeTable p w N _).map _=_;unfold topFrom;rw[show((boot_heap w.params).isNs mainGlobals&&(⟨[]⟩:Array GenState).size==0)=true from by kernel_rfl];dsimp only;rw[show(boot_heap w.params).objs.size=11 from by kernel_rfl,show(boot_heap w.params).nsMap mainGlobals "__annotations__"=some (.ref 6)from by kernel_rfl,r3];show((match staticsOk (importedModules p.main.body) (boot_heap w.params) s.abs.heap&&namesBound p s.abs.heap&&gensDone s.abs&&laidKept (boot_heap w.params) s.abs.heap with|true=>some s.abs|false=>none):Option Shared).map _=_;cases z:(staticsOk (importedModules p.main.body) (boot_heap w.params) s.abs.heap&&namesBound p s.abs.heap&&gensDone s.abs&&laidKept (boot_heap w.params) s.abs.heap)with
 |false=>rw[z]at r2;cases r2
 |true=>rw[z]at r2;exact r2
abbrev e(x:Str)(t:Nat)(v:Value):Str×Nat×Value:=(x,t,v)
abbrev k(a:Addr)(o:Obj):Addr×Obj:=(a,o)
def no(P:Params)(n:Nat)(l:List (Str×Nat×Value)):Obj:=⟨.type "dict",none,.dict (l.map fun e=>⟨PyData.keyHash P e.1,.str e.1 e.2.1,e.2.2⟩).toArray n,#[]⟩
def fd(st:Stmt)(x q:Str)(pm:Value)(c:Addr):FuncData:=fnOf x q (L2.j0 st) (L2.gF st) (L2.ai st) .none .none .none pm none (.ref c) .none
def fq(st:Stmt)(x q:Str)(pm:Value)(c:Addr):Obj:=⟨.type "function",none,.func (fd st x q pm c),#[]⟩
def co(x q:Str)(t:Nat)(line argc:Int)(a b:Addr)(u v:Value)(d:Addr)(i:Int)(z:Nat):Obj:=⟨.type "code",none,.fields #[.str x t,.str q (t+1),.str "/claim/cut.py" (t+2),.int line 0,.int argc 0,.int 0 0,.int 0 0,.int 3 0,.ref a,.bool true,.int 181 0,.ref b,.none,u,v,.ref d,.int i 0,.int line 0,.str "/claim/cut.py" z],#[]⟩
end Hd
namespace Row
open PySem L2
open PySem.Spec hiding items?
open PyProof.Rows hiding St
def top(i:Nat):Stmt:=PySem.Challenge.pw_latticeworks_k52_no_answers.main.body.getD i (.Pass ⟨0,0,0,0⟩)
abbrev PW:Program:=PySem.Challenge.pw_latticeworks_k52_no_answers
abbrev kZ:Stmt:=top 1
abbrev pN:Stmt:=top 2
abbrev pe:Stmt:=top 3
abbrev nB:Stmt:=top 4
abbrev ni:Stmt:=top 5
abbrev pd:Stmt:=top 6
abbrev nk:Stmt:=top 7
abbrev iF:Stmt:=top 9
abbrev lh:Stmt:=top 10
abbrev F0:Stmt:=top 11
abbrev jK:Stmt:=top 12
abbrev fw:Stmt:=top 13
abbrev gQ:Stmt:=top 14
abbrev gg:Stmt:=top 15
abbrev j4:Stmt:=top 17
abbrev d_:Stmt:=top 18
abbrev h7:Stmt:=top 19
abbrev iH:Stmt:=top 20
abbrev cY:Stmt:=inClass (top 21) 0
abbrev gz:Stmt:=inClass (top 21) 1
abbrev eU:Stmt:=inClass (top 21) 2
abbrev dN:Stmt:=inClass (top 21) 3
abbrev c9:Stmt:=inClass (top 21) 4
abbrev fG:Stmt:=inClass (top 21) 5
abbrev dQ:Stmt:=inClass (top 21) 6
abbrev ja:Stmt:=top 22
abbrev jW:Stmt:=top 23
abbrev hO:Stmt:=top 26
abbrev ia:Stmt:=top 27
abbrev fu:Stmt:=top 28
abbrev jV:Stmt:=top 31
abbrev i9:Stmt:=top 33
abbrev jf:Stmt:=top 34
abbrev iZ:Stmt:=top 35
abbrev h8:Stmt:=top 40
abbrev gM:Stmt:=top 43
abbrev fA:Stmt:=top 44
abbrev gD:Stmt:=top 45
abbrev fM:Stmt:=top 46
abbrev fJ:Stmt:=top 47
abbrev gE:Stmt:=top 48
abbrev dc:Stmt:=top 49
abbrev eK:Stmt:=top 50
abbrev dv:Stmt:=top 51
abbrev dY:Stmt:=top 52
abbrev kM:Stmt:=top 53
def jq:Value:=(.str "latticeworks.fractions" 187)
def kq:Value:=(.str "latticeworks.rows" 248)
def eB:Value:=(.str "latticeworks.standing" 298)
def uH:Value:=(.str "latticeworks.inside" 449)
def Lm:Value:=(.str "latticeworks.answers" 485)
def dy:Value:=(.str "law_latticeworks_k52_no_answers" 510)
def KX(P:Params):PySem.W.Frag:=[Hd.k 3 (Hd.no P 57 [Hd.e "__name__" 165 (.str "law_latticeworks_k52_no_answers" 510),Hd.e "__doc__" 166 .none,Hd.e "__package__" 167 .none,Hd.e "__loader__" 168 (.builtin "__main__.__loader__#opaque"),Hd.e "__spec__" 169 .none,Hd.e "__annotations__" 170 (.ref 6),Hd.e "__builtins__" 171 (.ref 4),Hd.e "__file__" 173 (.str "/claim/cut.py" 172),Hd.e "__cached__" 174 .none,Hd.e "common" 199 (.ref 21),Hd.e "part" 208 (.ref 28),Hd.e "plus" 216 (.ref 35),Hd.e "minus" 224 (.ref 42),Hd.e "times" 232 (.ref 49),Hd.e "over" 240 (.ref 56),Hd.e "whole" 247 (.ref 63),Hd.e "as_rows" 255 (.ref 68),Hd.e "added" 261 (.ref 73),Hd.e "sum_by" 273 (.ref 80),Hd.e "column" 279 (.ref 85),Hd.e "turned_over" 285 (.ref 90),Hd.e "unit_row" 291 (.ref 95),Hd.e "unit_rows" 297 (.ref 100),Hd.e "lead_of" 308 (.ref 107),Hd.e "nearest_quotient" 316 (.ref 114),Hd.e "exchanged" 326 (.ref 121),Hd.e "negated" 332 (.ref 126),Hd.e "Bench" 416 (.ref 181),Hd.e "standing" 427 (.ref 192),Hd.e "weighed" 440 (.ref 199),Hd.e "falls" 448 (.ref 206),Hd.e "parts_dot" 461 (.ref 213),Hd.e "bottom_at" 471 (.ref 220),Hd.e "parts_against" 484 (.ref 227),Hd.e "steps_behind" 494 (.ref 234),Hd.e "answers" 509 (.ref 241),Hd.e "_law_hand" 520 (.ref 248),Hd.e "_law_take" 531 (.ref 255),Hd.e "_law_dot" 537 (.ref 260),Hd.e "_law_less" 543 (.ref 265),Hd.e "_law_led" 549 (.ref 270),Hd.e "_law_standing" 555 (.ref 275),Hd.e "_law_rest" 561 (.ref 280),Hd.e "_law_whole" 568 (.ref 287),Hd.e "_law_are_rows" 574 (.ref 292),Hd.e "_law_product" 580 (.ref 297),Hd.e "_law_over" 586 (.ref 302),Hd.e "_law_turn" 592 (.ref 307),Hd.e "_law_bounds" 601 (.ref 314),Hd.e "_law_fixing" 607 (.ref 319),Hd.e "_law_shuffled" 617 (.ref 326),Hd.e "_law_number" 625 (.ref 333),Hd.e "_law_equations" 631 (.ref 338),Hd.e "_law_spoilt" 637 (.ref 343),Hd.e "_law_is_part" 646 (.ref 350),Hd.e "_law_sums_whole" 652 (.ref 355),Hd.e "law" 658 (.ref 360)]),
 Hd.k 20 (Hd.co "common" "common" 189 2 2 15 16 (.ref 17) (.ref 18) 19 197 198),
 Hd.k 21 (Hd.fq kZ "common" "common" jq 20),
 Hd.k 27 (Hd.co "part" "part" 200 10 2 22 23 (.ref 24) (.ref 25) 26 206 207),
 Hd.k 28 (Hd.fq pN "part" "part" jq 27),
 Hd.k 34 (Hd.co "plus" "plus" 209 15 2 29 30 (.ref 31) (.ref 32) 33 214 215),
 Hd.k 35 (Hd.fq pe "plus" "plus" jq 34),
 Hd.k 41 (Hd.co "minus" "minus" 217 17 2 36 37 (.ref 38) (.ref 39) 40 222 223),
 Hd.k 42 (Hd.fq nB "minus" "minus" jq 41),
 Hd.k 48 (Hd.co "times" "times" 225 19 2 43 44 (.ref 45) (.ref 46) 47 230 231),
 Hd.k 49 (Hd.fq ni "times" "times" jq 48),
 Hd.k 55 (Hd.co "over" "over" 233 21 2 50 51 (.ref 52) (.ref 53) 54 238 239),
 Hd.k 56 (Hd.fq pd "over" "over" jq 55),
 Hd.k 62 (Hd.co "whole" "whole" 241 23 1 57 58 (.ref 59) (.ref 60) 61 245 246),
 Hd.k 63 (Hd.fq nk "whole" "whole" jq 62),
 Hd.k 67 (Hd.co "as_rows" "as_rows" 250 26 1 64 65 .none .none 66 253 254),
 Hd.k 68 (Hd.fq iF "as_rows" "as_rows" kq 67),
 Hd.k 72 (Hd.co "added" "added" 256 28 3 69 70 .none .none 71 259 260),
 Hd.k 73 (Hd.fq lh "added" "added" kq 72),
 Hd.k 79 (Hd.co "sum_by" "sum_by" 262 30 3 74 75 (.ref 76) (.ref 77) 78 271 272),
 Hd.k 80 (Hd.fq F0 "sum_by" "sum_by" kq 79),
 Hd.k 84 (Hd.co "column" "column" 274 35 2 81 82 .none .none 83 277 278),
 Hd.k 85 (Hd.fq jK "column" "column" kq 84),
 Hd.k 89 (Hd.co "turned_over" "turned_over" 280 37 2 86 87 .none .none 88 283 284),
 Hd.k 90 (Hd.fq fw "turned_over" "turned_over" kq 89),
 Hd.k 94 (Hd.co "unit_row" "unit_row" 286 39 2 91 92 .none .none 93 289 290),
 Hd.k 95 (Hd.fq gQ "unit_row" "unit_row" kq 94),
 Hd.k 99 (Hd.co "unit_rows" "unit_rows" 292 41 1 96 97 .none .none 98 295 296),
 Hd.k 100 (Hd.fq gg "unit_rows" "unit_rows" kq 99),
 Hd.k 106 (Hd.co "lead_of" "lead_of" 300 44 1 101 102 (.ref 103) (.ref 104) 105 306 307),
 Hd.k 107 (Hd.fq j4 "lead_of" "lead_of" eB 106),
 Hd.k 113 (Hd.co "nearest_quotient" "nearest_quotient" 309 49 2 108 109 (.ref 110) (.ref 111) 112 314 315),
 Hd.k 114 (Hd.fq d_ "nearest_quotient" "nearest_quotient" eB 113),
 Hd.k 120 (Hd.co "exchanged" "exchanged" 317 51 3 115 116 (.ref 117) (.ref 118) 119 324 325),
 Hd.k 121 (Hd.fq h7 "exchanged" "exchanged" eB 120),
 Hd.k 125 (Hd.co "negated" "negated" 327 56 1 122 123 .none .none 124 330 331),
 Hd.k 126 (Hd.fq iH "negated" "negated" eB 125),
 Hd.k 137 (Hd.co "__init__" "Bench.__init__" 345 60 2 134 135 .none .none 136 348 349),
 Hd.k 138 (Hd.fq cY "__init__" "Bench.__init__" eB 137),
 Hd.k 144 (Hd.co "take" "Bench.take" 351 65 4 139 140 (.ref 141) (.ref 142) 143 358 359),
 Hd.k 145 (Hd.fq gz "take" "Bench.take" eB 144),
 Hd.k 151 (Hd.co "exchange" "Bench.exchange" 361 70 3 146 147 (.ref 148) (.ref 149) 150 367 368),
 Hd.k 152 (Hd.fq eU "exchange" "Bench.exchange" eB 151),
 Hd.k 158 (Hd.co "change_sign" "Bench.change_sign" 370 75 2 153 154 (.ref 155) (.ref 156) 157 375 376),
 Hd.k 159 (Hd.fq dN "change_sign" "Bench.change_sign" eB 158),
 Hd.k 163 (Hd.co "live_rows" "Bench.live_rows" 378 80 3 160 161 .none .none 162 381 382),
 Hd.k 164 (Hd.fq c9 "live_rows" "Bench.live_rows" eB 163),
 Hd.k 170 (Hd.co "gather" "Bench.gather" 384 84 3 165 166 (.ref 167) (.ref 168) 169 393 394),
 Hd.k 171 (Hd.fq fG "gather" "Bench.gather" eB 170),
 Hd.k 177 (Hd.co "lower_above" "Bench.lower_above" 396 98 3 172 173 (.ref 174) (.ref 175) 176 403 404),
 Hd.k 178 (Hd.fq dQ "lower_above" "Bench.lower_above" eB 177),
 Hd.k 180 (Hd.no P 4 [Hd.e "__module__" 340 (.str "latticeworks.standing" 298),Hd.e "__firstlineno__" 344 (.int (58) 343),Hd.e "__init__" 350 (.ref 138),Hd.e "take" 360 (.ref 145),Hd.e "exchange" 369 (.ref 152),Hd.e "change_sign" 377 (.ref 159),Hd.e "live_rows" 383 (.ref 164),Hd.e "gather" 395 (.ref 171),Hd.e "lower_above" 405 (.ref 178),Hd.e "__static_attributes__" 409 (.ref 179),Hd.e "__dict__" 411 (.ref 182),Hd.e "__weakref__" 413 (.ref 183),Hd.e "__doc__" 414 .none]),
 Hd.k 181 (⟨(.type "type"),none,.cls {name:="Bench",bases:=[(.type "object")],mro:=[(.ref 181),(.type "object")],ns:=180,qualname:="Bench",hasDict:=true,subclasses:=[],abstract:=false,hasDel:=false},#[none,none,(some (.str "Bench" 333)),(some (.str "Bench" 341)),(some (.builtin "object.__new__")),(some (.bool true))]⟩),
 Hd.k 191 (Hd.co "standing" "standing" 417 101 1 186 187 (.ref 188) (.ref 189) 190 425 426),
 Hd.k 192 (Hd.fq ja "standing" "standing" eB 191),
 Hd.k 198 (Hd.co "weighed" "weighed" 428 110 2 193 194 (.ref 195) (.ref 196) 197 438 439),
 Hd.k 199 (Hd.fq jW "weighed" "weighed" eB 198),
 Hd.k 212 (Hd.co "parts_dot" "parts_dot" 451 122 2 207 208 (.ref 209) (.ref 210) 211 459 460),
 Hd.k 213 (Hd.fq hO "parts_dot" "parts_dot" uH 212),
 Hd.k 219 (Hd.co "bottom_at" "bottom_at" 462 127 3 214 215 (.ref 216) (.ref 217) 218 469 470),
 Hd.k 220 (Hd.fq ia "bottom_at" "bottom_at" uH 219),
 Hd.k 226 (Hd.co "parts_against" "parts_against" 472 132 2 221 222 (.ref 223) (.ref 224) 225 482 483),
 Hd.k 227 (Hd.fq fu "parts_against" "parts_against" uH 226),
 Hd.k 240 (Hd.co "answers" "answers" 495 145 2 235 236 (.ref 237) (.ref 238) 239 507 508),
 Hd.k 241 (Hd.fq jV "answers" "answers" Lm 240),
 Hd.k 247 (Hd.co "_law_hand" "_law_hand" 512 157 1 242 243 (.ref 244) (.ref 245) 246 518 519),
 Hd.k 248 (Hd.fq i9 "_law_hand" "_law_hand" dy 247),
 Hd.k 254 (Hd.co "_law_take" "_law_take" 521 161 2 249 250 (.ref 251) (.ref 252) 253 529 530),
 Hd.k 255 (Hd.fq jf "_law_take" "_law_take" dy 254),
 Hd.k 259 (Hd.co "_law_dot" "_law_dot" 532 170 2 256 257 .none .none 258 535 536),
 Hd.k 260 (Hd.fq iZ "_law_dot" "_law_dot" dy 259),
 Hd.k 286 (Hd.co "_law_whole" "_law_whole" 562 200 1 281 282 (.ref 283) (.ref 284) 285 566 567),
 Hd.k 287 (Hd.fq h8 "_law_whole" "_law_whole" dy 286),
 Hd.k 301 (Hd.co "_law_over" "_law_over" 581 211 1 298 299 .none .none 300 584 585),
 Hd.k 302 (Hd.fq gM "_law_over" "_law_over" dy 301),
 Hd.k 306 (Hd.co "_law_turn" "_law_turn" 587 213 2 303 304 .none .none 305 590 591),
 Hd.k 307 (Hd.fq fA "_law_turn" "_law_turn" dy 306),
 Hd.k 313 (Hd.co "_law_bounds" "_law_bounds" 593 224 1 308 309 (.ref 310) (.ref 311) 312 599 600),
 Hd.k 314 (Hd.fq gD "_law_bounds" "_law_bounds" dy 313),
 Hd.k 318 (Hd.co "_law_fixing" "_law_fixing" 602 228 3 315 316 .none .none 317 605 606),
 Hd.k 319 (Hd.fq fM "_law_fixing" "_law_fixing" dy 318),
 Hd.k 325 (Hd.co "_law_shuffled" "_law_shuffled" 608 236 2 320 321 (.ref 322) (.ref 323) 324 615 616),
 Hd.k 326 (Hd.fq fJ "_law_shuffled" "_law_shuffled" dy 325),
 Hd.k 332 (Hd.co "_law_number" "_law_number" 618 242 1 327 328 (.ref 329) (.ref 330) 331 623 624),
 Hd.k 333 (Hd.fq gE "_law_number" "_law_number" dy 332),
 Hd.k 337 (Hd.co "_law_equations" "_law_equations" 626 247 1 334 335 .none .none 336 629 630),
 Hd.k 338 (Hd.fq dc "_law_equations" "_law_equations" dy 337),
 Hd.k 342 (Hd.co "_law_spoilt" "_law_spoilt" 632 256 3 339 340 .none .none 341 635 636),
 Hd.k 343 (Hd.fq eK "_law_spoilt" "_law_spoilt" dy 342),
 Hd.k 349 (Hd.co "_law_is_part" "_law_is_part" 638 269 1 344 345 (.ref 346) (.ref 347) 348 644 645),
 Hd.k 350 (Hd.fq dv "_law_is_part" "_law_is_part" dy 349),
 Hd.k 354 (Hd.co "_law_sums_whole" "_law_sums_whole" 647 276 2 351 352 .none .none 353 650 651),
 Hd.k 355 (Hd.fq dY "_law_sums_whole" "_law_sums_whole" dy 354),
 Hd.k 359 (Hd.co "law" "law" 653 281 1 356 357 .none .none 358 656 657),
 Hd.k 360 (Hd.fq kM "law" "law" dy 359)]
def KA:List Addr:=[3,20,21,27,28,34,35,41,42,48,49,55,56,62,63,67,68,72,73,79,80,84,85,89,90,94,95,99,100,106,107,113,114,120,121,125,126,137,138,144,145,151,152,158,159,163,164,170,171,177,178,180,181,191,192,198,199,212,213,219,220,226,227,240,241,247,248,254,255,259,260,286,287,301,302,306,307,313,314,318,319,325,326,332,333,337,338,342,343,349,350,354,355,359,360]
set_option maxHeartbeats 0 in
theorem left:PySem.W.LeftO PW (PySem.W.view PW [1,2,3,4,5,6,7,9,10,11,12,13,14,15,17,18,19,20,21,22,23,24,26,27,28,30,31,33,34,35,36,37,38,39,40,41,42,43,44,45,46,47,48,49,50,51,52,53]) [] (fun _=>true) (PySem.W.kmHook Row.KX Row.KA (fun _=>rfl) [161]).obs (PySem.W.kmHook Row.KX Row.KA (fun _=>rfl) [161]).val 3804:=
 Hd.left (by kernel_rfl) (fun s=>by kernel_rfl) rfl fun w os=>by kernel_rfl
end Row
namespace L3
open PySem PySem.Spec PyProof.Rows L2
section
variable {prog:Program}{w:World}{A:Around}{R:Result->Shared->Prop}{s:Shared}
theorem Aq{elt target iter:Expr}{ifs:List Expr}{scope:Scope}{pos:Pos}{it acc:Value}{env:Env}(I:Nat->Shared->Prop)
 (turn:∀n s,I n s->wpAny (model prog w) A (pyNext it) (fun r s₁=>match r with
   |none=>R (.ok .next) s₁
   |some v=>wpAny (model prog w) A (letOwnedTupleGo target it v) (fun _ s₀=>wpAny (model prog w) A (assign target env v) (fun _ s₂=>
     wpAny (model prog w) A (forIn ifs true fun c r=>if r=true then do let ok <-isTrue c env (eval c env);pure (ForInStep.yield ok)else pure (ForInStep.yield r)) (fun ok s₃=>
      if ok=true then wpAny (model prog w) A (eval elt env) (fun x s₄=>
       wpAny (model prog w) A (call (.builtin "list.append") [acc,x]) (fun _ s₅=>∃m,m<n/\I m s₅) (fun _ _=>False) s₄) (fun _ _=>False) s₃
      else∃m,m<n/\I m s₃) (fun _ _=>False) s₂) (fun _ _=>False) s₀) (fun _ _=>False) s₁) (fun _ _=>False) s)
 (n:Nat) (h:I n s):
 codeAny (model prog w) A (.compLoop (.ListComp elt [⟨target,iter,ifs,0⟩] scope pos) 0 it acc env) R s:=by
 refine codeAny_loop rfl I (fun n s hI=>?_) n h;show wpAny _ A ((compTurn (.ListComp elt [⟨target,iter,ifs,0⟩] scope pos) 0 it acc env).onRaise (fun x=>do noteFrame x env;theTreesLotGoes x)) _ _ s;refine wpAny_noted ?_;rw[compTurn_list];refine wpAny_bind (wpAny_standAt (wpAny_bind (wpAny_mono (turn n s hI) (fun r s₁ h₁=>?_) fun _ _ h'=>h'.elim)));cases r with
 |none=>exact wpAny_pure h₁
 |some v=>
  refine wpAny_bind (wpAny_mono h₁ (fun _ s₀ h₀=>?_) fun _ _ h'=>h'.elim);refine wpAny_bind (wpAny_mono h₀ (fun _ s₂ h₂=>wpAny_bind (wpAny_mono h₂ (fun ok s₃ h₃=>?_) fun _ _ h'=>h'.elim)) fun _ _ h'=>h'.elim);cases ok with
  |false=>exact wpAny_pure ⟨rfl,h₃⟩
  |true=>
   exact wpAny_bind (wpAny_bind (wpAny_mono h₃ (fun x s₄ h₄=>wpAny_bind (wpAny_mono h₄ (fun _ s₅ h₅=>wpAny_pure (wpAny_pure ⟨rfl,h₅⟩)) fun _ _ h'=>h'.elim)) fun _ _ h'=>h'.elim))
end
def dh(cells:List (Str×Addr)):List (Str×NameKind)->List (Str×Addr)->List (Str×Addr)
 | [],acc=>acc
 |(n,k)::r,acc=>if k== .free then(match cells.lookup n with|some c=>dh cells r ((n,c)::acc)|none=>dh cells r acc)else dh cells r acc
theorem cW{cells:List (Str×Addr)}:∀(names:List (Str×NameKind)) (acc:List (Str×Addr)),(∀x c,acc.lookup x=some c->cells.lookup x=some c)->
 ∀x c,(dh cells names acc).lookup x=some c->cells.lookup x=some c
 | [],acc,h,x,c,e=>h x c e
 |(n,k)::r,acc,h,x,c,e=>by
  unfold dh at e;split at e
  . split at e
    . rename_i d q;refine cW r _ (fun y b e'=>?_) x c e;rw[List.lookup_cons]at e';split at e'
      . rename_i z;cases e';have z':y=n:=by simpa using z
        rw[z'];exact q
      . exact h y b e'
    . exact cW r _ h x c e
  . exact cW r _ h x c e
theorem iI{cells:List (Str×Addr)}{x:Str}:∀(names:List (Str×NameKind)) (acc:List (Str×Addr)),(∃c,cells.lookup x=some c)->((x,NameKind.free)∈names\/∃c,acc.lookup x=some c)->
 ∃c,(dh cells names acc).lookup x=some c
 | [],acc,_,h=>by
   rcases h with h|h
   . simp at h
   . exact h
 |(n,k)::r,acc,hc,h=>by
  unfold dh;split
  . rename_i hk;split
    . rename_i d q;refine iI r _ hc ?_;rcases h with h|⟨c,h⟩
      . rcases List.mem_cons.mp h with e|e
        . cases e;exact .inr ⟨d,by simp[List.lookup_cons]⟩
        . exact .inl e
      . refine .inr ?_;rw[List.lookup_cons];split
        . exact⟨_,rfl⟩
        . exact⟨c,h⟩
    . rename_i q;refine iI r _ hc ?_;rcases h with h|h
      . rcases List.mem_cons.mp h with e|e
        . cases e;obtain⟨c,hc⟩:=hc;rw[hc]at q;cases q
        . exact .inl e
      . exact .inr h
  . rename_i hk;refine iI r _ hc ?_;rcases h with h|h
    . rcases List.mem_cons.mp h with e|e
      . cases e;exact absurd rfl hk
      . exact .inl e
    . exact .inr h
theorem mI{scope:Scope}{env:Env}(h:∀x∈scope.names,x.2= .free->∃c,env.cells.lookup x.1=some c):closureFor scope env=pure (dh env.cells scope.names []):=by
 have key:∀(names:List (Str×NameKind)) (acc:List (Str×Addr)),(∀x∈names,x.2= .free->∃c,env.cells.lookup x.1=some c)->
  (forIn names acc (fun(x:Str×NameKind) (cs:List (Str×Addr))=>if(x.2==NameKind.free)=true then(do let a <-cellOf env x.1;pure (ForInStep.yield ((x.1,a)::cs)):Sem (ForInStep (List (Str×Addr))))else pure (ForInStep.yield cs)))=(pure (dh env.cells names acc):Sem (List (Str×Addr))):=by
  intro names;induction names with
  |nil=>intro acc _;rfl
  |cons p r ih=>
   intro acc hh;obtain⟨n,k⟩:=p;rw[List.forIn_cons];have ih':=ih;by_cases hk:(k==NameKind.free)=true
   . obtain⟨c,e⟩:=hh (n,k) List.mem_cons_self (by simpa using hk);simp only[hk,if_true]
     have e1:cellOf env n=pure c:=by
      unfold cellOf;rw[e]
     rw[e1];simp only[pure_bind];rw[ih _ fun x hx=>hh x (List.mem_cons_of_mem _ hx)];conv=>rhs;unfold dh
     simp only[hk,if_true];rw[show env.cells.lookup n=some c from e]
   . have hk':(k==NameKind.free)=false:=by simpa using hk
     simp only[hk',Bool.false_eq_true,if_false,pure_bind];rw[ih _ fun x hx=>hh x (List.mem_cons_of_mem _ hx)];conv=>rhs;unfold dh
     simp only[hk',Bool.false_eq_true,if_false]
 unfold closureFor;have:=key scope.names [] h;rw[bind_pure]
 first
  |exact this
  |(simp only[bind_pure]at this⊢;exact this)
end L3
namespace L3
open PySem PySem.Spec L2
open PyProof.Rows hiding St
theorem i6(env:Env):∀(names:List (Str×NameKind)) (x:Str),
 (names.map fun(n,k)=>if(k==NameKind.free&&env.scope.kind== .function&&env.kindOf n==some .cell)then(n,NameKind.cell)else(n,k)).lookup x=
   (names.lookup x).map fun k=>if(k==NameKind.free&&env.scope.kind== .function&&env.kindOf x==some .cell)then NameKind.cell else k
 | [],_=>rfl
 |(n,k)::r,x=>by
  show List.lookup x ((if(k==NameKind.free&&env.scope.kind== .function&&env.kindOf n==some .cell)=true then(n,NameKind.cell)else(n,k))::_)=_;cases hx:x==n with
  |true=>
   have e:x=n:=by simpa using hx
   subst e;by_cases hc:(k==NameKind.free&&env.scope.kind== .function&&env.kindOf x==some .cell)=true
   . rw[if_pos hc];simp only[List.lookup_cons,beq_self_eq_true,Option.map_some];rw[if_pos hc]
   . rw[if_neg hc];simp only[List.lookup_cons,beq_self_eq_true,Option.map_some];rw[if_neg hc]
  |false=>
   by_cases hc:(k==NameKind.free&&env.scope.kind== .function&&env.kindOf n==some .cell)=true
   . rw[if_pos hc];simp only[List.lookup_cons,hx];exact i6 env r x
   . rw[if_neg hc];simp only[List.lookup_cons,hx];exact i6 env r x
theorem zA{env:Env}{scope:Scope}{x:Str}(h:scope.names.lookup x=some .free):(relabel scope env).names.lookup x=some .cell\/(relabel scope env).names.lookup x=some .free:=by
 have e:(relabel scope env).names.lookup x=_:=i6 env scope.names x;rw[e,h];simp only[Option.map_some];split
 . exact .inl rfl
 . exact .inr rfl
theorem zl{env:Env}{scope:Scope}{x:Str}(h:(relabel scope env).names.lookup x=some .cell\/(relabel scope env).names.lookup x=some .free):(x,NameKind.free)∈scope.names\/scope.names.lookup x=some .cell:=by
 have e:(relabel scope env).names.lookup x=_:=i6 env scope.names x;rw[e]at h;cases q:scope.names.lookup x with
 |none=>rw[q]at h;rcases h with h|h<;>cases h
 |some k=>
  rw[q]at h;simp only[Option.map_some]at h;have m:=PySem.mem_of_lookup q;by_cases hc:(k==NameKind.free&&env.scope.kind== .function&&env.kindOf x==some .cell)=true
  . have:k= .free:=by
     simp only[Bool.and_eq_true]at hc;simpa using hc.1.1
    subst this;exact .inl m
  . rw[if_neg hc]at h;rcases h with h|h
    . cases h;exact .inr rfl
    . cases h;exact .inl m
theorem f9:∀(names:List (Str×NameKind)) (L:Nat) (acc:List (Str×Addr)),cellsFrom L names acc=cellsFrom L names []++acc
 | [],_,_=>rfl
 |(n,k)::r,L,acc=>by
  unfold cellsFrom;by_cases hk:(k==NameKind.cell)=true
  . rw[if_pos hk,if_pos hk,f9 r (L+1) ((n,L)::acc),f9 r (L+1) [(n,L)],List.append_assoc];rfl
  . rw[if_neg hk,if_neg hk];exact f9 r L acc
theorem rB:∀ {names:List (Str×NameKind)} {L:Nat} {x:Str} {c:Addr},(x,c)∈cellsFrom L names []->(x,NameKind.cell)∈names
 | [],_,_,_,h=>by unfold cellsFrom at h;cases h
 |(n,k)::r,L,x,c,h=>by
  unfold cellsFrom at h;by_cases hk:(k==NameKind.cell)=true
  . rw[if_pos hk,f9]at h;have hk':k= .cell:=by simpa using hk
    subst hk';rcases List.mem_append.mp h with h|h
    . exact List.mem_cons_of_mem _ (rB h)
    . have:(x,c)=(n,L):=by simpa using h
      cases this;exact List.mem_cons_self
  . rw[if_neg hk]at h;exact List.mem_cons_of_mem _ (rB h)
theorem qy:∀ {l1 l2:List (Str×Addr)} {x:Str} {c:Addr},(l1++l2).lookup x=some c->l1.lookup x=some c\/(l1.lookup x=none/\l2.lookup x=some c)
 | [],_,_,_,h=> .inr ⟨rfl,h⟩
 |(n,d)::l1,l2,x,c,h=>by
  rw[List.cons_append,List.lookup_cons]at h;rw[List.lookup_cons];cases hx:x==n with
  |true=>rw[hx]at h;exact .inl h
  |false=>rw[hx]at h;exact qy h
theorem tK:∀ {l1 l2:List (Str×Addr)} {x:Str},l1.lookup x=none->(l1++l2).lookup x=l2.lookup x
 | [],_,_,_=>rfl
 |(n,d)::l1,l2,x,h=>by
  rw[List.lookup_cons]at h;rw[List.cons_append,List.lookup_cons];cases hx:x==n with
  |true=>rw[hx]at h;cases h
  |false=>rw[hx]at h;exact tK h
def mE(scope:Scope)(C:Addr)(cl:List (Str×Addr)):List (Str×Addr):=cellsFrom (C+1) scope.names cl
theorem iU{scope:Scope}{C:Addr}{cl:List (Str×Addr)}{x:Str}{c:Addr}(h:(mE scope C cl).lookup x=some c):(x,c)∈cellsFrom (C+1) scope.names []\/cl.lookup x=some c:=by
 unfold mE at h;rw[f9]at h;rcases qy h with h|h
 . exact .inl (PySem.mem_of_lookup h)
 . exact .inr h.2
theorem Lg(names:List (Str×NameKind))(h:Heap){C:Addr}(e:h.objs.size=C+1):CellsOk (pushCells h names) (C+1) (cellsFrom (C+1) names []):=by
 have:=cellsFrom_ok names h (C+1) [] ⟨fun _ _ hm=>(nomatch hm),List.Pairwise.nil⟩ (by rw[e];exact Nat.le_refl _);rw[e]at this;exact this
theorem nY{names:List (Str×NameKind)}{C:Addr}{x:Str}{c:Addr}:∀ {L:Nat},C<=L->(x,c)∈cellsFrom L names []->C<=c:=by
 induction names with
 |nil=>intro L _ h;unfold cellsFrom at h;cases h
 |cons p r ih=>
  obtain⟨n,k⟩:=p;intro L hL h;unfold cellsFrom at h;by_cases hk:(k==NameKind.cell)=true
  . rw[if_pos hk,f9]at h;rcases List.mem_append.mp h with h|h
    . exact ih (Nat.le_trans hL (Nat.le_succ L)) h
    . have:(x,c)=(n,L):=by simpa using h
      cases this;exact hL
  . rw[if_neg hk]at h;exact ih hL h
theorem own_apart{names:List (Str×NameKind)}{x y:Str}{c:Addr}:∀ {L:Nat},(x,c)∈cellsFrom L names []->(y,c)∈cellsFrom L names []->x=y:=by
 induction names with
 |nil=>intro L h;unfold cellsFrom at h;cases h
 |cons p r ih=>
  obtain⟨n,k⟩:=p;intro L h1 h2;unfold cellsFrom at h1 h2;by_cases hk:(k==NameKind.cell)=true
  . rw[if_pos hk,f9]at h1 h2;rcases List.mem_append.mp h1 with g1|g1<;>rcases List.mem_append.mp h2 with g2|g2
    . exact ih g1 g2
    . have e2:(y,c)=(n,L):=by simpa using g2
      have ec:c=L:=(Prod.mk.inj e2).2;have:=nY (C:=L+1) (Nat.le_refl _) g1;rw[ec]at this;exact absurd this (Nat.not_succ_le_self _)
    . have e1:(x,c)=(n,L):=by simpa using g1
      have ec:c=L:=(Prod.mk.inj e1).2;have:=nY (C:=L+1) (Nat.le_refl _) g2;rw[ec]at this;exact absurd this (Nat.not_succ_le_self _)
    . have e1:(x,c)=(n,L):=by simpa using g1
      have e2:(y,c)=(n,L):=by simpa using g2
      exact(Prod.mk.inj e1).1.trans (Prod.mk.inj e2).1.symm
  . rw[if_neg hk]at h1 h2;exact ih h1 h2
theorem ux{M:Model}{A:Around}{E:Value->Shared->Prop}{s:Shared}{scope:Scope}{globals:Addr}{cl:List (Str×Addr)}{qual:Str}{env:Env}{Q:Env->Shared->Prop}
 (hQ:Q (newEnv scope s.heap.objs.size globals (mE scope s.heap.objs.size cl) qual none .none (some env) builtinsNs) {s with heap:=pushCells (s.heap.push {cls:= .type "dict",data:= .dict #[]}) scope.names}):
 wpAny M A (newFunctionEnv scope globals cl [] qual none .none (some env)) Q E s:=by
 simp only[newFunctionEnv,Option.isSome_some,if_true];refine wpAny_bind (wpAny_alloc ?_);refine wpAny_bind (wpAny_layCells _ (fun name kind cells=>by cases hkc:kind==NameKind.cell<;>simp[hkc]) _ _ _ _ ?_);rw[show({s with heap:=s.heap.push {cls:= .type "dict",data:= .dict #[]}}:Shared).heap.objs.size=s.heap.objs.size+1 from Heap.size_push ..];rw[List.forIn_nil];exact wpAny_bind (wpAny_pure (wpAny_pure hQ))
structure bz(X:Cx)(scope:Scope)(Nc:List Str)(fr:List (Option Nat)):Prop where
 kind:scope.kind= .function
 cells:∀x∈scope.names,x.2= .cell->scope.names.lookup x.1=some .cell
 names:∀x∈scope.names,x.2= .local->scope.names.lookup x.1=some .local
 free:∀x∈scope.names,x.2= .free->X.env.kindOf x.1=some .cell\/X.env.kindOf x.1=some .free
 len:fr.length=Nc.length
 map:∀(i j:Nat) (x:Str),Nc[i]?=some x->fr[i]?=some (some j)->X.N[j]?=some x/\scope.names.lookup x=some .free/\(X.env.kindOf x=some .cell\/X.env.kindOf x=some .free)
def σC(fr:List (Option Nat))(σ:St):St:=fr.map fun o=>o.bind fun j=>(σ[j]?).join
def fe(X:Cx)(scope:Scope)(Nc:List Str)(C:Addr)(s:Shared)(H:Hp)(ex:List Addr):Cx:=
 {X with N:=Nc,s₀:=s,H₀:=H,env:=compEnvC scope (mE scope C (dh X.env.cells scope.names [])) C X.env,outer:=X.stack,stack:=X.stack,ex:=ex,fn:=fun x=>scope.names.lookup x==some .cell,pn:=[],xe:=fun _ _=>False}
def sD(wi:TI)(fr:List (Option Nat))(g:TG)(c:TT)(te:TE):TE:=fun σ H Q=>wi σ H fun J H1=>∀l,H1 l=none->
 ∃W:Nat->Nat->L2.St->Hp->Prop,(∃m,W 0 m (σC fr σ) (upd H1 l (.lst [])))/\∀i m σ H,W i m σ H->
  (J.stop i H/\Q (.ref l) H)\/(J.go i H/\∃N:L2.St->Hp->Prop,(∀σ' H',N σ' H'->∃m',m'<m/\W (i+1) m' σ' H')/\∀x H',J.oH i H x H'->
    g x σ H' fun σ2 H2=>c σ2 H2 fun b H3=>if b=true then te σ2 H3 fun y H4=>∃ys,H4 l=some (.lst ys)/\ys.length<sizeLine/\N σ2 (upd H4 l (.lst (ys++[y])))else N σ2 H3)
def rO(X:Cx)(ifs:List Expr)(t:TT):Prop:=
 ∀(pins:List (Addr×Obj)) (s:Shared) (σ:St) (H:Hp) (Q:Bool->Hp->Prop),Inv X pins σ H s->t σ H Q->
  wpAny (model X.prog X.w) X.A (forIn ifs true fun c r=>if r=true then do let ok <-isTrue c X.env (eval c X.env);pure (ForInStep.yield ok)else pure (ForInStep.yield r)) (TP X pins σ Q) X.xe s
def Nr:TT:=fun _ H Q=>Q true H
theorem HL{X:Cx}:rO X [] Nr:=fun _ _ _ H _ I h=>wpAny_tests_nil ⟨H,I,h⟩
theorem IQ{X:Cx}{c:Expr}{t:TT}(h:PT X c t):rO X [c] t:=fun pins s σ H Q I q=>wpAny_tests_one (h pins s σ H Q I q)
section
variable {X:Cx}{scope:Scope}{Nc:List Str}{fr:List (Option Nat)}{pins:List (Addr×Obj)}{σ:St}{H:Hp}{s:Shared}
theorem K6{C:Addr}{fp:List Addr}(S:bz X scope Nc fr)(I:Inv X pins σ H s)(hC:C=s.heap.objs.size)(hf:∀b∈fp,k_ X pins H b)(hlt:∀b∈fp,b<s.heap.objs.size)(hnc:∀b∈fp,∀x c,X.env.cells.lookup x=some c->c≠b):
 (fe X scope Nc C s H fp).Ok where
 mod:=I.ok.mod
 kind:=S.kind
 glob:=I.ok.glob
 blt:=I.ok.blt
 above:=Nat.le_of_eq hC.symm
 inj:=fun x y c h1 h2=>by
  have low:∀ {z},(dh X.env.cells scope.names []).lookup z=some c->c<s.heap.objs.size:=fun{z} hz=>by
   obtain⟨v,q⟩:=I.cell z c (cW _ [] (fun _ _ e=>by cases e) z c hz);exact q.lt
  rcases iU h1 with h1|h1<;>rcases iU h2 with h2|h2
  . exact own_apart h1 h2
  . have a:=nY (C:=C+1) (Nat.le_refl _) h1;have b:c<C:=by rw[hC];exact low h2
    exact absurd a (Nat.not_le_of_gt (Nat.lt_succ_of_lt b))
  . have a:=nY (C:=C+1) (Nat.le_refl _) h2;have b:c<C:=by rw[hC];exact low h1
    exact absurd a (Nat.not_le_of_gt (Nat.lt_succ_of_lt b))
  . exact I.ok.inj x y c (cW _ [] (fun _ _ e=>by cases e) x c h1) (cW _ [] (fun _ _ e=>by cases e) y c h2)
 has:=fun x hx=>by
  rcases zl hx with m|m
  . obtain⟨c,e⟩:=iI scope.names [] (I.ok.has x (S.free _ m rfl)) (.inl m);exact Option.isSome_iff_exists.mp (PySem.W.cellsFrom_some _ _ _ (.inr (by rw[e];rfl)))
  . exact Option.isSome_iff_exists.mp (PySem.W.cellsFrom_some _ _ _ (.inl m))
 yX:=fun x c hf h=>by
  have hl:scope.names.lookup x=some .cell:=by
   have:(scope.names.lookup x==some .cell)=true:=hf;simpa using this
  obtain⟨c',e⟩:=Option.isSome_iff_exists.mp (PySem.W.cellsFrom_some (x:=x) scope.names (C+1) [] (.inl hl))
  have h':(cellsFrom (C+1) scope.names []++dh X.env.cells scope.names []).lookup x=some c:=by
   rw[<-f9];exact h
  rcases qy h' with q|q
  . have:=nY (C:=C+1) (Nat.le_refl _) (PySem.mem_of_lookup q);show s.heap.objs.size<=c;rw[<-hC];exact Nat.le_of_succ_le this
  . rw[q.1]at e;cases e
 hd:=I.ok.hd
 frames:=I.ok.frames
 AW:= .inl rfl
 Ey:=fun b hb=>⟨by rw[show(fe X scope Nc C s H fp).env.locals=s.heap.objs.size from hC];exact Nat.ne_of_lt (hlt b hb),fun x c h=>by
  rcases iU h with h|h
  . have a:=nY (C:=C+1) (Nat.le_refl _) h;have b':b<C:=by rw[hC];exact hlt b hb
    exact Nat.ne_of_gt (Nat.lt_of_lt_of_le b' (Nat.le_of_succ_le a))
  . exact hnc b hb x c (cW _ [] (fun _ _ e=>by cases e) x c h)⟩
 bs:=I.bs
 sj:=Nat.le_trans I.ok.sj I.sz
 ur:=fun b o e hb=>by
  have hn:=(hf b hb).2.2.2.1;rcases hn with hn|hn
  . exact I.ok.ur b o e hn
  . exact absurd (Heap.lt_size (I.ok.bs b o e).1) (Nat.not_lt.mpr hn)
 uh:=fun b hb z=>by
  have q:=I.yT b z;rcases List.mem_cons.mp q with q|q
  . exact(hf b hb).2.1 q
  . exact(hf b hb).2.2.1 q
 ka:=I.stack
 uR:=fun b hb=>I.wg b hb
 gt:=I.ok.gt
theorem Bb{i:Nat}{v:V}(h:(σC fr σ)[i]?=some (some v)):∃j,fr[i]?=some (some j)/\σ[j]?=some (some v):=by
 unfold σC at h;rw[List.getElem?_map]at h;cases q:fr[i]? with
 |none=>rw[q]at h;cases h
 |some o=>
  rw[q]at h;cases o with
  |none=>simp at h
  |some j=>
   simp only[Option.map_some,Option.some.injEq,Option.bind_some]at h;refine⟨j,rfl,?_⟩;cases r:σ[j]? with
   |none=>rw[r]at h;cases h
   |some u=>rw[r]at h;simp at h;rw[h]
theorem FJ{s':Shared}{h':Heap}{C:Addr}{fp:List Addr}{t':Nat}(S:bz X scope Nc fr)(I:Inv X pins σ H s)(hC:C=s.heap.objs.size)(ok:(fe X scope Nc C s H fp).Ok)(hfr:∀b∈fp,H b=none)
 (k:∀b o,s.heap.get? b=some o->h'.get? b=some o) (hn:h'.Ns C (fun _=>none)) (hcs:∀x c,(x,c)∈cellsFrom (C+1) scope.names []->h'.IsCell c none):Inv (fe X scope Nc C s H fp) [] (σC fr σ) H {s with heap:=h',toks:=t'} where
 ok:=ok
 os:=rfl
 bare:=I.bare
 base:=Un.kept k
 loc:=⟨_,hn,fun i x v h1 h2 h3=>by
  obtain⟨j,q1,q2⟩:=Bb h2;obtain⟨n1,n2,n3⟩:=S.map i j x h1 q1;obtain⟨m,hm,hl⟩:=I.loc
  have vis:zd X.env.scope x:=by
   rcases n3 with z|z
   . exact .inr (.inl z)
   . exact .inr (.inr z)
  obtain⟨u,r,lk⟩:=hl j x v n1 q2 vis;refine⟨u,r,?_⟩;rcases lk with⟨z,_⟩|⟨z,c,e,ic⟩
  . rcases n3 with y|y
    . rw[y]at z;cases z
    . rw[y]at z;cases z
  . refine .inr ⟨zA n2,?_⟩;obtain⟨c',e'⟩:=iI scope.names [] ⟨c,e⟩ (.inl (PySem.mem_of_lookup n2));have e2:=cW _ [] (fun _ _ e=>by cases e) x c' e';rw[e]at e2;cases e2;refine⟨c,?_,ic.keeps k⟩;show(mE scope C (dh X.env.cells scope.names [])).lookup x=some c;unfold mE;rw[f9,tK ?_]
    . exact e'
    . cases q:(cellsFrom (C+1) scope.names []).lookup x with
      |none=>rfl
      |some c2=>
       have:=S.cells _ (rB (PySem.mem_of_lookup q)) rfl;rw[n2]at this;cases this⟩
 cell:=fun x c h=>by
  rcases iU h with h|h
  . exact⟨_,hcs x c h⟩
  obtain⟨v,q⟩:=I.cell x c (cW _ [] (fun _ _ e=>by cases e) x c h);exact⟨v,q.keeps k⟩
 free:=by show H C=none;rw[hC];exact I.aM.fresh (Nat.le_refl _)
 ix:=fun x c h=>by
  rcases iU h with h|h
  . have a:=nY (C:=C+1) (Nat.le_refl _) h;exact I.aM.fresh (by rw[<-hC];exact Nat.le_of_succ_le a)
  . exact I.ix x c (cW _ [] (fun _ _ e=>by cases e) x c h)
 pin:=fun p hp=>by cases hp
 aM:=I.aM.kept k
 len:=by unfold σC;rw[List.length_map];exact S.len
theorem Inv.forget{C:Addr}{h':Heap}(I:Inv X pins σ H s)(f:k_ X pins H C)(hs:Heap.SameBut C s.heap h'):Inv X pins σ H {s with heap:=h'}:=by
 refine I.Bw (s':={s with heap:=h'}) (ch:=[C]) rfl ?_ ?_ I.bare fun b hb=>?_
 . have ne:∀b,b∉[C]->b≠C:=fun b hb z=>hb (by simp[z]);exact{keep:=fun b o q _ _ hx=>(hs.2 b (ne b hx)).trans q,slot:=fun b o q _ _ hx=>⟨o.slots,(hs.2 b (ne b hx)).trans q⟩,free:=fun b o q n _=>n,there:=fun b o q hx=>⟨o,(hs.2 b (ne b hx)).trans q⟩,oS:=fun _ _ e=>e,nX:=fun _ _ _ e=>e,nR:=fun b ps e=>⟨#[],by rw[e];simp⟩}
 . intro a o q;have na:∀b u,H b=some u->b≠C:=fun b u q z=>by rw[z,f.1]at q;cases q
   refine(I.aM a o q).o6 (fun b u hb e=>?_) (fun _ q=>q) fun _ _ q=>q;rw[hs.2 b ?_]
   . exact e
   . rcases hb with rfl|hb
     . exact na _ _ q
     . exact na _ _ hb
 . have:b=C:=by simpa using hb
   subst this;exact⟨f.2.2.2.1,f.2.1,f.2.2.2.2.1,f.2.2.2.2.2⟩
theorem uV{elt tg iter:Expr}{ifs:List Expr}{wi:TI}{g:TG}{c:TT}{te:TE}{pos:Pos}{Q:VK}{RR:Value->Addr->Result->Shared->Prop}(hx:X.xe=fun _ _=>False)(hc:X.calm=true)(S:bz X scope Nc fr)(hi:PI X tg iter wi)
 (hg:∀C s H ex,PG (fe X scope Nc C s H ex) tg g) (ht:∀C s H ex,rO (fe X scope Nc C s H ex) ifs c) (he:∀C s H ex,PE (fe X scope Nc C s H ex) elt te) (I:Inv X pins σ H s) (h:sD wi fr g c te σ H Q)
 (fin:∀(l C:Addr) (s6:Shared) (H5:Hp) (m:Str->Option Value),s6.heap.Ns C m->k_ X pins H5 C->Inv X pins σ H5 s6->Q (.ref l) H5->RR (.ref l) C (.ok .next) s6):
 wpAny (model X.prog X.w) X.A (eval iter X.env) (fun x s₁=>wpAny (model X.prog X.w) X.A (pyIter x) (fun it s₂=>wpAny (model X.prog X.w) X.A (newList []) (fun acc s₃=>
  wpAny (model X.prog X.w) X.A (newFunctionEnv scope X.env.globals (dh X.env.cells scope.names []) [] X.env.qual none .none (some X.env)) (fun cenv s₄=>
   codeAny (model X.prog X.w) X.A (.compStart (.ListComp elt [⟨tg,iter,ifs,0⟩] scope pos) 0 it acc {cenv with scope:=relabel scope X.env}) (RR acc cenv.locals) s₄) X.xe s₃) X.xe s₂) X.xe s₁) X.xe s:=by
 refine cu (hi pins s σ H _ I h) fun v s1 h1=>cu h1 fun itv s2 h2=>?_;obtain⟨it,fp,tn,J,H2,e,I2,T,st2,f2,hR⟩:=h2;subst e;refine wpAny_newList ?_ (Nat.zero_le _);have I3:=I2.ER (t':=s2.toks) (aq:=[]) (ys:=[]) .nil (Nat.zero_le _);generalize e3:({s2 with heap:=s2.heap.push {cls:= .type "list",data:= .seq ([]:List Value).toArray}}:Shared)=s3;have I3:Inv X pins σ (upd H2 s2.heap.objs.size (.lst [])) s3:=by rw[<-e3];exact I3
 have ml:s2.heap.objs.size<s3.heap.objs.size:=by rw[<-e3];show _<(s2.heap.push _).objs.size;rw[Heap.size_push];omega
 have k3:∀b o,s2.heap.get? b=some o->s3.heap.get? b=some o:=fun b o q=>by rw[<-e3];exact Heap.get?_push_of_some _ q
 obtain⟨W,⟨m0,w0⟩,turn⟩:=hR s2.heap.objs.size (I2.aM.fresh (Nat.le_refl _));refine ux ?_;have hn:(pushCells (s3.heap.push {cls:= .type "dict",data:= .dict #[]}) scope.names).Ns s3.heap.objs.size (fun _=>none):=(Heap.Ns.new s3.heap (.type "dict")).keeps (pushCells_keeps _ _);have hcs:∀x c,(x,c)∈cellsFrom (s3.heap.objs.size+1) scope.names []->(pushCells (s3.heap.push {cls:= .type "dict",data:= .dict #[]}) scope.names).IsCell c none:=fun x c h=>((Lg scope.names _ (Heap.size_push ..)).empty x c h).1;have k4:∀b o,s3.heap.get? b=some o->(pushCells (s3.heap.push {cls:= .type "dict",data:= .dict #[]}) scope.names).get? b=some o:=fun b o q=>pushCells_keeps _ _ b o (Heap.get?_push_of_some _ q);generalize(pushCells (s3.heap.push {cls:= .type "dict",data:= .dict #[]}) scope.names)=h' at hn hcs k4⊢;have hobj:∀b∈fp,∃o,s2.heap.get? b=some o/\∀v,o.data≠ .cell v:=T.obj _ _ st2;have hlt2:∀b∈fp,b<s3.heap.objs.size:=fun b hb=>let⟨o,q,_⟩:=hobj b hb;Heap.lt_size (k3 b o q)
 have hnl:∀b∈fp,b≠s2.heap.objs.size:=fun b hb=>by
  obtain⟨o,q,_⟩:=hobj b hb;exact Nat.ne_of_lt (Heap.lt_size q)
 have f3:∀b∈fp,k_ X pins (upd H2 s2.heap.objs.size (.lst [])) b:=fun b hb=>⟨by rw[aA (hnl b hb)];exact(f2 b hb).1,(f2 b hb).2⟩
 have ok:=K6 (C:=s3.heap.objs.size) (fp:=fp) S I3 rfl f3 hlt2 fun b hb=>(f2 b hb).2.2.2.2.1
 have I4:Inv (fe X scope Nc s3.heap.objs.size s3 (upd H2 s2.heap.objs.size (.lst [])) fp) [] (σC fr σ) (upd H2 s2.heap.objs.size (.lst [])) {s3 with heap:=h',toks:=s3.toks}:=
  FJ (s':=s3) S I3 rfl ok (fun b hb=>(f3 b hb).1) k4 hn hcs
 have st4:tn 0 h':=T.keep _ _ _ st2 fun b _ o q=>k4 b o (k3 b o q);generalize hXc:fe X scope Nc s3.heap.objs.size s3 (upd H2 s2.heap.objs.size (.lst [])) fp=Xc at I4;have hgc:PG Xc tg g:=by rw[<-hXc];exact hg _ _ _ _
 have htc:rO Xc ifs c:=by rw[<-hXc];exact ht _ _ _ _
 have hec:PE Xc elt te:=by rw[<-hXc];exact he _ _ _ _
 have xP:Xc.prog=X.prog:=by rw[<-hXc];rfl
 have xW:Xc.w=X.w:=by rw[<-hXc];rfl
 have xK:Xc.K=X.K:=by rw[<-hXc];rfl
 have xc:Xc.calm=true:=by rw[<-hXc];exact hc
 have xA:Xc.A=X.A:=by rw[<-hXc];rfl
 have xE:Xc.env=compEnvC scope (mE scope s3.heap.objs.size (dh X.env.cells scope.names [])) s3.heap.objs.size X.env:=by rw[<-hXc];rfl
 have xx:Xc.xe=fun _ _=>False:=by rw[<-hXc];rfl
 have fpc:∀ {H':Hp},(∀b∈fp,H' b=none)->∀b∈fp,k_ Xc [] H' b:=fun{H'} hn b hb=>by
  rw[<-hXc];refine⟨hn b hb,Nat.ne_of_lt (hlt2 b hb),ok.uh b hb,.inl hb,(ok.Ey b hb).2,fun p hp=>by cases hp⟩
 have loop:codeAny (model X.prog X.w) X.A (.compLoop (.ListComp elt [⟨tg,iter,ifs,0⟩] scope pos) 0 (.ref it) (.ref s2.heap.objs.size) (compEnvC scope (mE scope s3.heap.objs.size (dh X.env.cells scope.names [])) s3.heap.objs.size X.env))
  (RR (.ref s2.heap.objs.size) s3.heap.objs.size) {s3 with heap:=h',toks:=s3.toks}:=by
  refine Aq (fun n s'=>∃i σ' H',Inv Xc [] σ' H' s'/\tn i s'.heap/\(∀b∈fp,H' b=none)/\W i n σ' H') ?_ m0 ⟨0,_,_,I4,st4,fun b hb=>(f3 b hb).1,w0⟩;rintro n s5 ⟨i,σ5,H5,I5,st5,fr5,w5⟩;rcases turn i n σ5 H5 w5 with⟨stop,qn⟩|⟨go,N,hN,step⟩
  . have q:=T.done Xc xP xW xK xc i [] s5 σ5 H5 (fun _ _=>False) I5 (fpc fr5) st5 stop;rw[xA]at q;refine cu q fun r s6 ⟨hr,I6⟩=>?_;subst hr;obtain⟨m,hm,_⟩:=I6.loc;rw[xE]at hm;have free6:H5 s3.heap.objs.size=none:=by have:=I6.free;rw[xE]at this;exact this
    have un6:Un (pK X.stack) fp (upd H2 s2.heap.objs.size (.lst [])) H5 s3.heap s6.heap:=by have:=I6.base;rw[<-hXc]at this;exact this
    have os6:s6.os=s3.os:=by have:=I6.os;rw[<-hXc]at this;exact this
    have hok6:g7 X.prog X.w H5 s6.heap:=by have:=I6.aM;rw[xP,xW]at this;exact this
    have J:=I3.Bw (s':=s6) (ch:=fp) os6 un6 hok6 I6.bare fun b hb=>⟨(f3 b hb).2.2.2.1,(f3 b hb).2.1,(f3 b hb).2.2.2.2.1,(f3 b hb).2.2.2.2.2⟩
    exact fin _ _ s6 H5 m hm (I3.t_ (Nat.le_refl _) free6) J qn
  . have q:=T.item Xc xP xW xK xc i [] s5 σ5 H5 (fun _ _=>False) I5 (fpc fr5) st5 go;rw[xA]at q;refine cu q fun r s6 ⟨u,hr,h6⟩=>?_;subst hr;refine cu h6 fun _ s7 ⟨x,H7,I7,r7,y7,st7,fr7⟩=>?_;have I7':=I7.pinned (fpc fr7) (T.obj _ _ st7);have q8:=hgc _ s7 σ5 H7 x u _ I7' r7 (step x H7 y7);rw[xP,xW,xA,xE,xx]at q8;refine cu q8 fun _ s8 ⟨σ8,H8,I8,q8⟩=>?_;have q9:=htc _ s8 σ8 H8 _ I8 q8;rw[xP,xW,xA,xE,xx]at q9;refine cu q9 fun b s9 ⟨H9,I9,q9⟩=>?_
    have again:∀ {H':Hp} {s':Shared},Inv Xc ([]++rQ fp s7.heap) σ8 H' s'->N σ8 H'->∃m,m<n/\∃i σ' H',Inv Xc [] σ' H' s'/\tn i s'.heap/\(∀b∈fp,H' b=none)/\W i m σ' H':=fun{H' s'} J nn=>by
     obtain⟨m',hm,w7⟩:=hN σ8 H' nn;refine⟨m',hm,i+1,σ8,H',J.gS,T.keep _ _ _ st7 fun b hb o e=>(J.pin (b,o) (List.mem_append_right _ (List.mem_append_right _ (mT hb e)))).1,fun b hb=>?_,w7⟩;obtain⟨o,e,d⟩:=T.obj _ _ st7 b hb;exact(J.pin (b,o) (List.mem_append_right _ (List.mem_append_right _ (mT hb e)))).2.1
    cases b with
    |false=>exact again I9 q9
    |true=>
     have qe:=hec _ s9 σ8 H9 _ I9 q9;rw[xP,xW,xA,xE,xx]at qe;refine cu qe fun y s10 ⟨vy,H10,I10,ry,ys,hy,hlt,qN⟩=>?_;have qa:=wL (X:=Xc) _ s10 σ8 H10 (.ref s2.heap.objs.size) [vy] (.ref s2.heap.objs.size) [y] (fun _ H'=>N σ8 H') I10 rfl (.cons ry .nil) ⟨_,ys,vy,rfl,rfl,hy,hlt,qN⟩;rw[xP,xW,xA,xx]at qa;exact cu qa fun _ s11 ⟨_,H11,I11,_,q11⟩=>again I11 q11
 refine codeAny_compStart_list ?_ ?_
 . exact loop
 . exact T.self _ 0 _ _ _ st4 loop
theorem AU{elt tg iter:Expr}{ifs:List Expr}{wi:TI}{g:TG}{c:TT}{te:TE}{pos:Pos}(hx:X.xe=fun _ _=>False)(hc:X.calm=true)(S:bz X scope Nc fr)(hi:PI X tg iter wi)
 (hg:∀C s H ex,PG (fe X scope Nc C s H ex) tg g) (ht:∀C s H ex,rO (fe X scope Nc C s H ex) ifs c) (he:∀C s H ex,PE (fe X scope Nc C s H ex) elt te)
 (hs:∀x,foldedSetIterable iter X.env x=pure x:=by intro _;rfl):PE X (.ListComp elt [⟨tg,iter,ifs,0⟩] scope pos) (sD wi fr g c te):=by
 intro pins s σ H Q I h;rw[eval_ListComp];have hcl:closureFor scope X.env=pure (dh X.env.cells scope.names []):=mI fun x hx hk=>I.ok.has x.1 (S.free x hx hk);refine wpAny_comprehension_free rfl hs hcl S.kind S.names ?_;exact uV (RR:=fun acc C=>compPost (model X.prog X.w) X.A X.xe none (EP X pins σ Q) acc C) hx hc S hi hg ht he I h fun l C s6 H5 m hm f J q=>⟨m,hm,fun h'' hs''=>⟨.ref l,H5,Inv.forget J f hs'',rfl,q⟩⟩
theorem AL{elt tg iter:Expr}{ifs:List Expr}{wi:TI}{g:TG}{c:TT}{te:TE}{pos pos' spos:Pos}{i:Nat}{x:Str}(hx:X.xe=fun _ _=>False)(hc:X.calm=true)(S:bz X scope Nc fr)(hi:PI X tg iter wi)
 (hg:∀C s H ex,PG (fe X scope Nc C s H ex) tg g) (ht:∀C s H ex,rO (fe X scope Nc C s H ex) ifs c) (he:∀C s H ex,PE (fe X scope Nc C s H ex) elt te) (hN:X.N.Nodup) (hni:X.N[i]?=some x) (hl:Loc X.env.scope x) (hf:X.fn x=true\/X.env.scope.names.lookup x=some .local)
 (hsw:swapsWith (.ListComp elt [⟨tg,iter,ifs,0⟩] scope pos) (some (.Name x pos')) spos.line X.env=pure true)
 (hs:∀x,foldedSetIterable iter X.env x=pure x:=by intro _;rfl):PS X (.Assign [.Name x pos'] (.ListComp elt [⟨tg,iter,ifs,0⟩] scope pos) spos) (mF (sD wi fr g c te) (gp i)):=by
 intro pins s σ H D I h;have hcl:closureFor scope X.env=pure (dh X.env.cells scope.names []):=mI fun x hx hk=>I.ok.has x.1 (S.free x hx hk);rw[exec_Assign_Name_used _ _ _ _ hsw];refine wpAny_bind (wpAny_standAt (wpAny_bind ?_));show wpAny _ X.A (do let _ <-comprehension (.ListComp elt [⟨tg,iter,ifs,0⟩] scope pos) scope X.env _ (newList []) false (eval iter X.env) (some (assign (.Name x pos') X.env))) _ _ s
 refine wpAny_bind (wpAny_mono (wpAny_comprehension_free (use:=some (assign (.Name x pos') X.env)) (Q:=fun _ s'=>SP X pins D .next s') rfl hs hcl S.kind S.names
  (uV (RR:=fun acc C=>compPost (model X.prog X.w) X.A X.xe (some (assign (.Name x pos') X.env)) (fun _ s'=>SP X pins D .next s') acc C) hx hc S hi hg ht he I h fun l C s6 H5 m hm f J q=>?_)) (fun _ s' hq=>wpAny_pure (wpAny_pure hq)) fun _ _ e=>e)
 show wpAny _ X.A (assign (.Name x pos') X.env (.ref l)) _ _ _;refine wpAny_assign_Name (wM J hN hni hl (show RelV (.ref l) (.ref l)from rfl) (fun s7 J7 hch=>?_) hf);obtain⟨a,hsame,ha⟩:=hch
 have hCa:C≠a:=by
  rcases ha with rfl|ha
  . exact f.2.1
  . exact fun z=>f.2.2.2.2.1 x a ha z.symm
 refine⟨m,hm.sameBut hsame hCa,fun h'' hs''=>⟨σ.set i (some (.ref l)),H5,Inv.forget J7 f hs'',q⟩⟩
end
inductive D where
 |aK|bl (b:Bool)|int (i:Int)|str (x:Str)|ty (n:String)|ref (n:Nat)|lst (xs:List D)|tup (xs:List D)
inductive Cell where
 |lst (xs:List D)|ins (C:Addr) (fs:List (Str×D))|dead
  |tab (P:Addr) (pos:Pos) (qual:Str) (b:Bool)
abbrev ag:=List Cell
abbrev bL:=List (Option D)
mutual
def Rep(α:List (Option Addr))(H:Hp):D->V->Prop
 | .aK,v=>v= .aK
 | .bl b,v=>v= .bl b
 | .int i,v=>v= .int i
 | .str x,v=>v= .str x
 | .ty n,v=>v= .ty n
 | .ref n,v=>α[n]?=some none\/∃a,α[n]?=some (some a)/\v= .ref a
 | .lst xs,v=>∃a vs,v= .ref a/\some a∉α/\Rd H a (.lst vs)/\aJ α H xs vs
 | .tup xs,v=>∃a vs,v= .ref a/\some a∉α/\H a=some (.tup vs)/\aJ α H xs vs
def aJ(α:List (Option Addr))(H:Hp):List D->List V->Prop
 | [],vs=>vs=[]
 |d::ds,vs=>∃v r,vs=v::r/\Rep α H d v/\aJ α H ds r
end
theorem bo{α:List (Option Addr)}{H:Hp}:∀ {ds:List D} {vs:List V},aJ α H ds vs↔Paired (Rep α H) ds vs
 | [],vs=>by
   unfold aJ;constructor
   . rintro rfl;exact .nil
   . intro h;cases h;rfl
 |d::ds,vs=>by
  unfold aJ;constructor
  . rintro⟨v,r,rfl,h1,h2⟩;exact .cons h1 (bo.mp h2)
  . intro h;cases h with|cons h1 h2=>exact⟨_,_,rfl,h1,bo.mpr h2⟩
section
variable {α:List (Option Addr)}{H:Hp}
theorem aJ.length{ds:List D}{vs:List V}(h:aJ α H ds vs):ds.length=vs.length:=Paired.length (bo.mp h)
theorem u9{A B:Type}{F:A->B->Prop}:∀ {xs:List A} {ys:List B} {i:Nat} {x:A},Paired F xs ys->xs[i]?=some x->∃y,ys[i]?=some y/\F x y
 |_,_,_,_,.nil,e=>by simp at e
 |_,_,0,_,.cons r _,e=>by simp at e;subst e;exact⟨_,rfl,r⟩
 |_,_,i+1,x,.cons _ t,e=>by
  obtain⟨u,h1,h2⟩:=u9 (i:=i) (x:=x) t (by simpa using e);exact⟨u,by simpa using h1,h2⟩
theorem fS{A B:Type}{F:A->B->Prop}:∀ {xs xs':List A} {ys ys':List B},Paired F xs ys->Paired F xs' ys'->Paired F (xs++xs') (ys++ys')
 |_,_,_,_,.nil,s=>s
 |_,_,_,_,.cons r t,s=> .cons r (fS t s)
theorem tJ{A B:Type}{F:A->B->Prop}:∀ {xs:List A} {ys:List B} (n:Nat),Paired F xs ys->Paired F (xs.take n) (ys.take n)
 |_,_,0,_=> .nil
 |_,_,_+1,.nil=> .nil
 |_,_,n+1,.cons r t=> .cons r (tJ n t)
theorem tP{A B:Type}{F:A->B->Prop}:∀ {xs:List A} {ys:List B} (n:Nat),Paired F xs ys->Paired F (xs.drop n) (ys.drop n)
 |_,_,0,r=>r
 |_,_,_+1,.nil=> .nil
 |_,_,n+1,.cons _ t=>tP n t
theorem vn{A B:Type}{F:A->B->Prop}{x:A}{y:B}(r:F x y):∀ {xs:List A} {ys:List B} (i:Nat),Paired F xs ys->Paired F (xs.set i x) (ys.set i y)
 |_,_,_,.nil=> .nil
 |_,_,0,.cons _ t=> .cons r t
 |_,_,i+1,.cons q t=> .cons q (vn r i t)
theorem lK{A B:Type}{F:A->B->Prop}{xs:List A}{ys:List B}(h:Paired F xs ys):∀k:Nat,Paired F (List.replicate k xs).flatten (List.replicate k ys).flatten
 |0=> .nil
 |k+1=>by
  rw[List.replicate_succ,List.replicate_succ,List.flatten_cons,List.flatten_cons];exact fS h (lK h k)
theorem aJ.get{ds:List D}{vs:List V}{i:Nat}{d:D}(h:aJ α H ds vs)(e:ds[i]?=some d):∃v,vs[i]?=some v/\Rep α H d v:=u9 (bo.mp h) e
end
structure Step(α:List (Option Addr))(H:Hp)(α':List (Option Addr))(H':Hp):Prop where
 ext:∀b o,some b∉α->H b=some o->H' b=some o
 pre:∀(n:Nat) (x:Option Addr),α[n]?=some x->α'[n]?=some x\/α'[n]?=some none
 new:∀b,some b∈α'->some b∉α->H b=none
theorem Step.refl{α:List (Option Addr)}{H:Hp}:Step α H α H:=⟨fun _ _ _ h=>h,fun _ _ h=> .inl h,fun _ h n=>absurd h n⟩
theorem Step.trans{α α1 α2:List (Option Addr)}{H H1 H2:Hp}(a:Step α H α1 H1)(b:Step α1 H1 α2 H2):Step α H α2 H2 where
 ext:=fun c o hc e=>b.ext c o (fun z=>by rw[a.new c z hc]at e;cases e) (a.ext c o hc e)
 pre:=fun n x e=>by
  rcases a.pre n x e with h|h
  . exact b.pre n x h
  . rcases b.pre n none h with h'|h'
    . exact .inr h'
    . exact .inr h'
 new:=fun c hc n=>by
  by_cases h1:some c∈α1
  . exact a.new c h1 n
  . have:=b.new c hc h1;cases q:H c with
    |none=>rfl
    |some o=>rw[a.ext c o n q]at this;cases this
theorem Step.laid{α:List (Option Addr)}{H:Hp}{p:Addr}{o:HO}(h:H p=none):Step α H α (upd H p o):=
 ⟨fun b u _ e=>by rw[aA (dE e h)];exact e,fun _ _ h=> .inl h,fun _ h n=>absurd h n⟩
theorem Step.cell{α:List (Option Addr)}{H:Hp}{p:Addr}{o:HO}(h:H p=none):Step α H (α++[some p]) (upd H p o):=
 ⟨fun b u _ e=>by rw[aA (dE e h)];exact e,fun n x e=> .inl (by rw[List.getElem?_append_left (List.getElem?_eq_some_iff.mp e).1];exact e),fun b hb n=>by
  rcases List.mem_append.mp hb with z|z
  . exact absurd z n
  . have:b=p:=by simpa using z
    subst this;exact h⟩
theorem Step.write{α:List (Option Addr)}{H:Hp}{p:Addr}{o:HO}(h:some p∈α):Step α H α (upd H p o):=
 ⟨fun b u n e=>by rw[aA (fun z=>by subst z;exact n h)];exact e,fun _ _ h=> .inl h,fun _ h n=>absurd h n⟩
theorem Step.et{α:List (Option Addr)}{H:Hp}{n:Nat}:Step α H (α.set n none) H:=
 ⟨fun _ _ _ h=>h,fun m x e=>by
  by_cases hm:n=m
  . subst hm;exact .inr (List.getElem?_set_self (List.getElem?_eq_some_iff.mp e).1)
  . exact .inl (by rw[List.getElem?_set_ne hm];exact e),fun b hb hn=>by
  rcases List.mem_or_eq_of_mem_set hb with z|z
  . exact absurd z hn
  . cases z⟩
mutual
theorem Rep.step{α α':List (Option Addr)}{H H':Hp}(s:Step α H α' H'):∀ {d:D} {v:V},Rep α H d v->Rep α' H' d v
 | .aK,_,h=>by unfold Rep at h⊢;exact h
 | .bl _,_,h=>by unfold Rep at h⊢;exact h
 | .int _,_,h=>by unfold Rep at h⊢;exact h
 | .str _,_,h=>by unfold Rep at h⊢;exact h
 | .ty _,_,h=>by unfold Rep at h⊢;exact h
 | .ref n,_,h=>by
   unfold Rep at h⊢;rcases h with h|⟨a,e,r⟩
   . rcases s.pre _ _ h with z|z<;>exact .inl z
   . rcases s.pre _ _ e with z|z
     . exact .inr ⟨a,z,r⟩
     . exact .inl z
 | .lst xs,_,h=>by
   unfold Rep at h⊢;obtain⟨a,vs,e,n,r,q⟩:=h;refine⟨a,vs,e,fun z=>?_,?_,aJ.step s q⟩
   . have:=s.new a z n;rcases r with r|⟨o,r⟩<;>(rw[this]at r;cases r)
   . rcases r with r|⟨o,r⟩
     . exact .inl (s.ext _ _ n r)
     . exact .inr ⟨o,s.ext _ _ n r⟩
 | .tup xs,_,h=>by
   unfold Rep at h⊢;obtain⟨a,vs,e,n,r,q⟩:=h;exact⟨a,vs,e,(fun z=>by rw[s.new a z n]at r;exact nomatch r),s.ext _ _ n r,aJ.step s q⟩
theorem aJ.step{α α':List (Option Addr)}{H H':Hp}(s:Step α H α' H'):∀ {ds:List D} {vs:List V},aJ α H ds vs->aJ α' H' ds vs
 | [],_,h=>by unfold aJ at h⊢;exact h
 |d::ds,_,h=>by
  unfold aJ at h⊢;obtain⟨v,r,e,h1,h2⟩:=h;exact⟨v,r,e,Rep.step s h1,aJ.step s h2⟩
end
structure cx(G F H:Hp):Prop where
 eq:∀b,H b=(G b).or (F b)
 yI:∀b o,G b=some o->F b=none
section
variable {G F H:Hp}
theorem cx.get(P:cx G F H){b:Addr}{o:HO}(h:G b=some o):H b=some o:=by rw[P.eq b,h];rfl
theorem cx.same(P:cx G F H):Fg G H:=fun _ _ h=>P.get h
theorem cx.none(P:cx G F H){b:Addr}(h:H b=none):G b=none/\F b=none:=by
 have e:=P.eq b;rw[h]at e;cases q:G b with
 |none=>rw[q]at e;exact⟨rfl,e.symm⟩
 |some o=>rw[q]at e;cases e
theorem cx.frame(P:cx G F H){b:Addr}{o:HO}(h:F b=some o):H b=some o/\G b=Option.none:=by
 have hn:G b=Option.none:=by
  cases q:G b with
  |none=>rfl
  |some u=>rw[P.yI b u q]at h;cases h
 exact⟨by rw[P.eq b,hn,h];rfl,hn⟩
theorem cx.laid(P:cx G F H){p:Addr}{o:HO}(h:H p=Option.none):cx (upd G p o) F (upd H p o):=by
 obtain⟨h1,h2⟩:=P.none h;refine⟨fun b=>?_,fun b u e=>?_⟩
 . by_cases hb:b=p
   . subst hb;rw[aX,aX];rfl
   . rw[aA hb,aA hb];exact P.eq b
 . by_cases hb:b=p
   . subst hb;exact h2
   . rw[aA hb]at e;exact P.yI b u e
theorem cx.write(P:cx G F H){p:Addr}{o o':HO}(h:G p=some o):cx (upd G p o') F (upd H p o'):=by
 refine⟨fun b=>?_,fun b u e=>?_⟩
 . by_cases hb:b=p
   . subst hb;rw[aX,aX];rfl
   . rw[aA hb,aA hb];exact P.eq b
 . by_cases hb:b=p
   . subst hb;exact P.yI b o h
   . rw[aA hb]at e;exact P.yI b u e
theorem cx.hide(P:cx G F H){p:Addr}{o:HO}(h:H p=Option.none):cx G (upd F p o) (upd H p o):=by
 obtain⟨h1,h2⟩:=P.none h;refine⟨fun b=>?_,fun b u e=>?_⟩
 . by_cases hb:b=p
   . subst hb;rw[aX,aX,h1];rfl
   . rw[aA hb,aA hb];exact P.eq b
 . by_cases hb:b=p
   . subst hb;rw[h1]at e;cases e
   . rw[aA hb];exact P.yI b u e
theorem cx.Ph(P:cx G F H){p:Addr}{o o':HO}(h:F p=some o):cx G (upd F p o') (upd H p o'):=by
 have h1:=(P.frame h).2;refine⟨fun b=>?_,fun b u e=>?_⟩
 . by_cases hb:b=p
   . subst hb;rw[aX,aX,h1];rfl
   . rw[aA hb,aA hb];exact P.eq b
 . by_cases hb:b=p
   . subst hb;rw[h1]at e;cases e
   . rw[aA hb];exact P.yI b u e
theorem cx.show{p:Addr}{o:HO}(P:cx G (upd F p o) H)(h:F p=Option.none):cx (upd G p o) F H:=by
 have h1:=(P.frame (b:=p) aX)
 refine⟨fun b=>?_,fun b u e=>?_⟩
 . by_cases hb:b=p
   . subst hb;rw[aX,h1.1];rfl
   . rw[aA hb,P.eq b,aA hb]
 . by_cases hb:b=p
   . subst hb;exact h
   . rw[aA hb]at e;have:=P.yI b u e;rw[aA hb]at this;exact this
end
mutual
theorem Rep.mono{α:List (Option Addr)}{G H:Hp}(s:Fg G H):∀ {d:D} {v:V},Rep α G d v->Rep α H d v
 | .aK,_,h=>by unfold Rep at h⊢;exact h
 | .bl _,_,h=>by unfold Rep at h⊢;exact h
 | .int _,_,h=>by unfold Rep at h⊢;exact h
 | .str _,_,h=>by unfold Rep at h⊢;exact h
 | .ty _,_,h=>by unfold Rep at h⊢;exact h
 | .ref n,_,h=>by unfold Rep at h⊢;exact h
 | .lst xs,_,h=>by
   unfold Rep at h⊢;obtain⟨a,vs,e,n,r,q⟩:=h;refine⟨a,vs,e,n,?_,aJ.mono s q⟩;rcases r with r|⟨o,r⟩
   . exact .inl (s _ _ r)
   . exact .inr ⟨o,s _ _ r⟩
 | .tup xs,_,h=>by
   unfold Rep at h⊢;obtain⟨a,vs,e,n,r,q⟩:=h;exact⟨a,vs,e,n,s _ _ r,aJ.mono s q⟩
theorem aJ.mono{α:List (Option Addr)}{G H:Hp}(s:Fg G H):∀ {ds:List D} {vs:List V},aJ α G ds vs->aJ α H ds vs
 | [],_,h=>by unfold aJ at h⊢;exact h
 |d::ds,_,h=>by
  unfold aJ at h⊢;obtain⟨v,r,e,h1,h2⟩:=h;exact⟨v,r,e,Rep.mono s h1,aJ.mono s h2⟩
end
def jH(α:List (Option Addr))(H:Hp):List (Str×D)->List (Str×V)->Prop:=Paired fun p q=>p.1=q.1/\Rep α H p.2 q.2
def kn(α:List (Option Addr))(H:Hp)(a:Addr):Cell->Prop
 | .lst xs=>∃vs,H a=some (.lst vs)/\aJ α H xs vs
 | .ins C fs=>∃dx vs,H a=some (.ins C dx vs)/\jH α H fs vs
 | .dead=>False
 | .tab P pos qual b=>a=P/\∃ps:Array Value,H a=some (.j7 ps)/\TriplesOk ps.toList/\
    ((b=false/\codeAmong pos ps.toList=none)\/(b=true/\∃c o vs t,codeAmong pos ps.toList=some (.ref c)/\some c∉α/\H c=some (.et o (.own c))/\o.data= .fields vs/\vs[1]?=some (.str qual t)))
structure aP(α:List (Option Addr))(st:ag)(H:Hp):Prop where
 len:α.length=st.length
 nd:∀(i j:Nat) (a:Addr),α[i]?=some (some a)->α[j]?=some (some a)->i=j
 at':∀(n:Nat) (c:Cell),st[n]?=some c->(c= .dead/\α[n]?=some none)\/∃a,α[n]?=some (some a)/\kn α H a c
theorem jH.step{α α':List (Option Addr)}{H H':Hp}(s:Step α H α' H'){ds:List (Str×D)}{vs:List (Str×V)}(h:jH α H ds vs):jH α' H' ds vs:=Paired.E7 h fun _ _ z=>⟨z.1,z.2.step s⟩
theorem kn.same{α α':List (Option Addr)}{H H':Hp}{a:Addr}{c:Cell}(s:Step α H α' H')(e:H' a=H a)(h:kn α H a c):kn α' H' a c:=by
 cases c with
 |lst xs=>obtain⟨vs,h1,h2⟩:=h;exact⟨vs,e.trans h1,h2.step s⟩
 |ins C fs=>obtain⟨dx,vs,h1,h2⟩:=h;exact⟨dx,vs,e.trans h1,h2.step s⟩
 |dead=>exact h.elim
 |tab P pos qual b=>
  obtain⟨z,ps,h1,h2,h3⟩:=h;refine⟨z,ps,e.trans h1,h2,?_⟩;rcases h3 with h3|⟨hb,c,o,vs,t,q1,q2,q3,q4⟩
  . exact .inl h3
  . exact .inr ⟨hb,c,o,vs,t,q1,(fun y=>by rw[s.new c y q2]at q3;cases q3),s.ext c _ q2 q3,q4⟩
theorem kn.some{α:List (Option Addr)}{H:Hp}{a:Addr}{c:Cell}(h:kn α H a c):∃o,H a=some o:=by
 cases c with
 |lst xs=>obtain⟨vs,h1,h2⟩:=h;exact⟨_,h1⟩
 |ins C fs=>obtain⟨dx,vs,h1,h2⟩:=h;exact⟨_,h1⟩
 |dead=>exact h.elim
 |tab P pos qual b=>obtain⟨_,ps,h1,_⟩:=h;exact⟨_,h1⟩
theorem eL{α:List (Option Addr)}{H:Hp}{n:Nat}{v:V}{a:Addr}(e:α[n]?=Option.some (Option.some a))(r:Rep α H (.ref n) v):v= .ref a:=by
 unfold Rep at r;rcases r with r|⟨b,eb,rfl⟩
 . rw[e]at r;cases r
 . rw[e]at eb;cases eb;rfl
section
variable {α:List (Option Addr)}{st:ag}{H:Hp}
theorem aP.f7(S:aP α st H){n:Nat}{xs:List D}(e:st[n]?=Option.some (.lst xs)):∃a,α[n]?=Option.some (Option.some a)/\∃vs,H a=Option.some (.lst vs)/\aJ α H xs vs:=by
 rcases S.at' n _ e with⟨z,_⟩|z
 . cases z
 . exact z
theorem aP.ya(S:aP α st H){n:Nat}{C:Addr}{fs:List (Str×D)}(e:st[n]?=Option.some (.ins C fs)):∃a,α[n]?=Option.some (Option.some a)/\∃dx vs,H a=Option.some (.ins C dx vs)/\jH α H fs vs:=by
 rcases S.at' n _ e with⟨z,_⟩|z
 . cases z
 . exact z
theorem aP.mem(S:aP α st H){a:Addr}(h:Option.some a∈α):∃(n:Nat) (c:Cell),α[n]?=Option.some (Option.some a)/\st[n]?=Option.some c/\kn α H a c:=by
 obtain⟨n,hn,e⟩:=List.mem_iff_getElem.mp h;have hl:n<st.length:=by rw[<-S.len];exact hn
 have e':α[n]?=Option.some (Option.some a):=by rw[List.getElem?_eq_getElem hn,e]
 rcases S.at' n st[n] (by simp[hl])with⟨_,q⟩|⟨a',q,ca⟩
 . rw[e']at q;cases q
 . rw[e']at q;cases q;exact⟨n,_,e',by simp[hl],ca⟩
theorem aP.kF(S:aP α st H){p:Addr}(h:H p=none):Option.some p∉α:=fun z=>by
 obtain⟨n,c,_,_,ca⟩:=S.mem z;obtain⟨o,e⟩:=ca.some;rw[h]at e;cases e
theorem aP.laid(S:aP α st H){p:Addr}{o:HO}(h:H p=none):aP α st (upd H p o):=
 ⟨S.len,S.nd,fun n c e=>by
  rcases S.at' n c e with z|⟨a,q,ca⟩
  . exact .inl z
  . exact .inr ⟨a,q,ca.same (Step.laid h) (aA (by obtain⟨u,z⟩:=ca.some;exact dE z h))⟩⟩
theorem aP.cell(S:aP α st H){p:Addr}{o:HO}{c:Cell}(h:H p=none)(hc:kn (α++[Option.some p]) (upd H p o) p c):aP (α++[Option.some p]) (st++[c]) (upd H p o) where
 len:=by rw[List.length_append,List.length_append,S.len];rfl
 nd:=fun i j a ei ej=>by
  have key:∀(i:Nat) (a:Addr),(α++[Option.some p])[i]?=Option.some (Option.some a)->(i<α.length/\α[i]?=Option.some (Option.some a))\/(i=α.length/\a=p):=by
   intro i a e;by_cases hi:i<α.length
   . rw[List.getElem?_append_left hi]at e;exact .inl ⟨hi,e⟩
   . rw[List.getElem?_append_right (Nat.le_of_not_lt hi)]at e
     have h0:i-α.length=0:=by
      cases q:i-α.length with
      |zero=>rfl
      |succ k=>rw[q]at e;simp at e
     rw[h0]at e;have:p=a:=by simpa using e
     exact .inr ⟨by omega,this.symm⟩
  rcases key i a ei with⟨h1,e1⟩|⟨h1,e1⟩<;>rcases key j a ej with⟨h2,e2⟩|⟨h2,e2⟩
  . exact S.nd i j a e1 e2
  . subst e2;exact absurd (List.mem_of_getElem? e1) (S.kF h)
  . subst e1;exact absurd (List.mem_of_getElem? e2) (S.kF h)
  . omega
 at':=fun n d e=>by
  by_cases hn:n<st.length
  . rw[List.getElem?_append_left hn]at e;have hl:n<α.length:=by rw[S.len];exact hn
    rcases S.at' n d e with⟨z,q⟩|⟨a,q,ca⟩
    . exact .inl ⟨z,by rw[List.getElem?_append_left hl];exact q⟩
    . exact .inr ⟨a,by rw[List.getElem?_append_left hl];exact q,ca.same (Step.cell h) (aA (by obtain⟨u,z⟩:=ca.some;exact dE z h))⟩
  . rw[List.getElem?_append_right (Nat.le_of_not_lt hn)]at e
    have h0:n-st.length=0:=by
     cases q:n-st.length with
     |zero=>rfl
     |succ k=>rw[q]at e;simp at e
    rw[h0]at e;have hd:c=d:=by simpa using e
    subst hd;refine .inr ⟨p,?_,hc⟩;rw[List.getElem?_append_right (by rw[S.len];exact Nat.le_of_not_lt hn),S.len,h0];rfl
theorem aP.write(S:aP α st H){p:Addr}{o:HO}{c:Cell}{n:Nat}(e:α[n]?=Option.some (Option.some p))(hc:kn α (upd H p o) p c):aP α (st.set n c) (upd H p o) where
 len:=by rw[List.length_set];exact S.len
 nd:=S.nd
 at':=fun m d q=>by
  have hp:Option.some p∈α:=List.mem_of_getElem? e;by_cases hm:m=n
  . subst hm
    have hl:m<st.length:=by
     have:=(List.getElem?_eq_some_iff.mp q).1;rw[List.length_set]at this;exact this
    rw[List.getElem?_set_self hl]at q;cases q;exact .inr ⟨p,e,hc⟩
  . rw[List.getElem?_set_ne (Ne.symm hm)]at q;rcases S.at' m d q with z|⟨a,r,ca⟩
    . exact .inl z
    . refine .inr ⟨a,r,ca.same (Step.write hp) (aA fun z=>?_)⟩;subst z;exact hm (S.nd m n _ r e)
theorem aP.et(S:aP α st H){n:Nat}(hn:n<st.length):aP (α.set n none) (st.set n .dead) H where
 len:=by rw[List.length_set,List.length_set];exact S.len
 nd:=fun i j a ei ej=>by
  have key:∀(i:Nat),(α.set n none)[i]?=Option.some (Option.some a)->α[i]?=Option.some (Option.some a):=by
   intro i e;by_cases hi:n=i
   . subst hi;rw[List.getElem?_set_self (by rw[S.len];exact hn)]at e;cases e
   . rw[List.getElem?_set_ne hi]at e;exact e
  exact S.nd i j a (key i ei) (key j ej)
 at':=fun m d q=>by
  by_cases hm:n=m
  . subst hm;rw[List.getElem?_set_self hn]at q;cases q;exact .inl ⟨rfl,List.getElem?_set_self (by rw[S.len];exact hn)⟩
  . rw[List.getElem?_set_ne hm]at q;rcases S.at' m d q with⟨z,r⟩|⟨a,r,ca⟩
    . exact .inl ⟨z,by rw[List.getElem?_set_ne hm];exact r⟩
    . exact .inr ⟨a,by rw[List.getElem?_set_ne hm];exact r,ca.same Step.et rfl⟩
theorem aP.vX(S:aP α st H){n:Nat}{xs:List D}{v:V}(e:st[n]?=Option.some (.lst xs))(r:Rep α H (.ref n) v):Rep (α.set n none) H (.lst xs) v:=by
 obtain⟨a,ea,vs,h1,h2⟩:=S.f7 e;have:=eL ea r;subst this;unfold Rep;refine⟨a,vs,rfl,fun z=>?_,.inl h1,h2.step Step.et⟩;obtain⟨m,hm,em⟩:=List.mem_iff_getElem.mp z;have em':(α.set n none)[m]?=Option.some (Option.some a):=by rw[List.getElem?_eq_getElem hm,em]
 by_cases hx:n=m
 . subst hx;rw[List.getElem?_set_self (List.getElem?_eq_some_iff.mp ea).1]at em';cases em'
 . rw[List.getElem?_set_ne hx]at em';exact hx (S.nd n m a ea em')
end
abbrev DK:=D->ag->Prop
abbrev DE:=bL->ag->DK->Prop
abbrev DT:=bL->ag->(Bool->ag->Prop)->Prop
abbrev DA:=bL->ag->(List D->ag->Prop)->Prop
structure iC where
 nx:bL->ag->Prop
 rt:DK
 bk:bL->ag->Prop:=fun _ _=>False
 ct:bL->ag->Prop:=fun _ _=>False
abbrev DS:=iC->bL->ag->Prop
structure dU(α:List (Option Addr))(H:Hp)(σd:bL)(σ:L2.St):Prop where
 len:σd.length=σ.length
 at':∀(i:Nat) (d:D),σd[i]?=some (some d)->∃v,σ[i]?=some (some v)/\Rep α H d v
theorem dU.step{α α':List (Option Addr)}{H H':Hp}{σd:bL}{σ:L2.St}(s:Step α H α' H')(h:dU α H σd σ):dU α' H' σd σ:=
 ⟨h.len,fun i d e=>let⟨v,q,r⟩:=h.at' i d e;⟨v,q,r.step s⟩⟩
theorem dU.set{α:List (Option Addr)}{H:Hp}{σd:bL}{σ:L2.St}(h:dU α H σd σ)(i:Nat){d:D}{v:V}(r:Rep α H d v):dU α H (σd.set i (some d)) (σ.set i (some v)):=by
 refine⟨by rw[List.length_set,List.length_set,h.len],fun j e q=>?_⟩;have hl:=h.len;by_cases hj:j=i
 . subst hj
   have hlt:j<σd.length:=by
    have:=(List.getElem?_eq_some_iff.mp q).1;rw[List.length_set]at this;exact this
   rw[List.getElem?_set_self hlt]at q;cases q;exact⟨v,List.getElem?_set_self (by omega),r⟩
 . rw[List.getElem?_set_ne (Ne.symm hj)]at q;rw[List.getElem?_set_ne (Ne.symm hj)];exact h.at' j e q
def LK(α:List (Option Addr))(G F:Hp)(K:DK)(Q:VK):Prop:=∀d st',K d st'->∀α' G' H' v,Step α G α' G'->cx G' F H'->aP α' st' G'->Rep α' G' d v->Q v H'
def Hm(α:List (Option Addr))(G F:Hp)(K:Bool->ag->Prop)(Q:Bool->Hp->Prop):Prop:=∀b st',K b st'->∀α' G' H',Step α G α' G'->cx G' F H'->aP α' st' G'->Q b H'
def Pd(α:List (Option Addr))(G F:Hp)(K:List D->ag->Prop)(Q:List V->Hp->Prop):Prop:=∀ds st',K ds st'->∀α' G' H' vs,Step α G α' G'->cx G' F H'->aP α' st' G'->aJ α' G' ds vs->Q vs H'
inductive Od(t:DE)(σ:L2.St)(H:Hp)(Q:VK):Prop
 |mk (α:List (Option Addr)) (σd:bL) (st:ag) (K:DK) (G F:Hp) (P:cx G F H) (R:dU α G σd σ) (S:aP α st G) (h:t σd st K) (k:LK α G F K Q):Od t σ H Q
def LE(t:DE):TE:=Od t
inductive N6(t:DT)(σ:L2.St)(H:Hp)(Q:Bool->Hp->Prop):Prop
 |mk (α:List (Option Addr)) (σd:bL) (st:ag) (K:Bool->ag->Prop) (G F:Hp) (P:cx G F H) (R:dU α G σd σ) (S:aP α st G) (h:t σd st K) (k:Hm α G F K Q):N6 t σ H Q
def LT(t:DT):TT:=N6 t
inductive NV(t:DA)(σ:L2.St)(H:Hp)(Q:List V->Hp->Prop):Prop
 |mk (α:List (Option Addr)) (σd:bL) (st:ag) (K:List D->ag->Prop) (G F:Hp) (P:cx G F H) (R:dU α G σd σ) (S:aP α st G) (h:t σd st K) (k:Pd α G F K Q):NV t σ H Q
def LA(t:DA):TA:=NV t
theorem LK.here{α:List (Option Addr)}{G F H:Hp}{K:DK}{Q:VK}(h:LK α G F K Q)(P:cx G F H){d:D}{st:ag}{v:V}(k:K d st)(S:aP α st G)(r:Rep α G d v):Q v H:=h d st k α G H v Step.refl P S r
theorem LK.at{α α1:List (Option Addr)}{G F G1:Hp}{K:DK}{Q:VK}(h:LK α G F K Q)(s:Step α G α1 G1):LK α1 G1 F K Q:=fun d st' k α' G' H' v s' P S r=>h d st' k α' G' H' v (s.trans s') P S r
theorem Hm.at{α α1:List (Option Addr)}{G F G1:Hp}{K:Bool->ag->Prop}{Q:Bool->Hp->Prop}(h:Hm α G F K Q)(s:Step α G α1 G1):Hm α1 G1 F K Q:=fun d st' k α' G' H' s' P S=>h d st' k α' G' H' (s.trans s') P S
section
variable {X:Cx}{a b c e:Expr}{es:List Expr}{ta tb tc te:DE}{pos:Pos}
theorem PE.imp{t t':TE}(h:PE X e t)(f:∀σ H Q,t' σ H Q->t σ H Q):PE X e t':=fun pins s σ H Q I q=>h pins s σ H Q I (f σ H Q q)
theorem PT.imp{t t':TT}(h:PT X e t)(f:∀σ H Q,t' σ H Q->t σ H Q):PT X e t':=fun pins s σ H Q I q=>h pins s σ H Q I (f σ H Q q)
theorem PW.imp{t t':TT}(h:PW X e t)(f:∀σ H Q,t' σ H Q->t σ H Q):PW X e t':=fun w pins s σ H Q I q=>h w pins s σ H Q I (f σ H Q q)
theorem PA.imp{t t':TA}(h:PA X es t)(f:∀σ H Q,t' σ H Q->t σ H Q):PA X es t':=fun p pins s σ H Q I q=>h p pins s σ H Q I (f σ H Q q)
def aa(i:Nat):DE:=fun σ st K=>match σ[i]? with|some (some d)=>K d st|_=>False
def dC(d:D):DE:=fun _ st K=>K d st
theorem NH{i:Nat}{x:Str}(h:PE X (.Name x pos) (Lz i)):PE X (.Name x pos) (LE (aa i)):=PE.imp h fun σ H Q ⟨α,σd,st,K,G,F,P,R,S,t,k⟩=>by
 unfold aa at t;split at t
 . rename_i d q;obtain⟨v,e,r⟩:=R.at' i d q;exact⟨v,e,k.here P t S r⟩
 . exact t.elim
theorem pS{v:V}{d:D}(h:PE X e (tC v))(r:∀α H,Rep α H d v):PE X e (LE (dC d)):=PE.imp h fun σ H Q ⟨α,σd,st,K,G,F,P,R,S,t,k⟩=>k.here P t S (r α G)
theorem Nu{i:Int}{j:Nat}:PE X (.Constant (.int i) j pos) (LE (dC (.int i))):=pS Ma fun _ _=>by unfold Rep;rfl
theorem OS{i:Bool}{j:Nat}:PE X (.Constant (.bool i) j pos) (LE (dC (.bl i))):=pS Nw fun _ _=>by unfold Rep;rfl
theorem Nn{i:Str}{j:Nat}:PE X (.Constant (.str i) j pos) (LE (dC (.str i))):=pS LD fun _ _=>by unfold Rep;rfl
theorem NM{j:Nat}:PE X (.Constant .none j pos) (LE (dC .aK)):=pS Ly fun _ _=>by unfold Rep;rfl
abbrev dw:=D->D->ag->DK->Prop
abbrev yE:=D->ag->DK->Prop
abbrev e8:=List D->ag->DK->Prop
inductive N0(r:dw)(x y:V)(H:Hp)(Q:VK):Prop
 |mk (α:List (Option Addr)) (d e:D) (st:ag) (K:DK) (G F:Hp) (P:cx G F H) (rx:Rep α G d x) (ry:Rep α G e y) (S:aP α st G) (h:r d e st K) (k:LK α G F K Q):N0 r x y H Q
def LR(r:dw):R2:=N0 r
inductive LP(r:yE)(x:V)(H:Hp)(Q:VK):Prop
 |mk (α:List (Option Addr)) (d:D) (st:ag) (K:DK) (G F:Hp) (P:cx G F H) (rx:Rep α G d x) (S:aP α st G) (h:r d st K) (k:LK α G F K Q):LP r x H Q
def GA(r:yE):V->Hp->VK->Prop:=LP r
inductive Le(r:e8)(xs:List V)(H:Hp)(Q:VK):Prop
 |mk (α:List (Option Addr)) (ds:List D) (st:ag) (K:DK) (G F:Hp) (P:cx G F H) (rx:aJ α G ds xs) (S:aP α st G) (h:r ds st K) (k:LK α G F K Q):Le r xs H Q
def fN(r:e8):List V->Hp->VK->Prop:=Le r
def aw(r:dw)(ta tb:DE):DE:=fun σ st K=>ta σ st fun x st1=>tb σ st1 fun y st2=>r x y st2 K
def kI(r:yE)(ta:DE):DE:=fun σ st K=>ta σ st fun x st1=>r x st1 K
theorem LE.op{r:dw}{σ:L2.St}{H:Hp}{Q:VK}(h:LE (aw r ta tb) σ H Q):DN (LR r) (LE ta) (LE tb) σ H Q:=by
 obtain⟨α,σd,st,K,G,F,P,R,S,t,k⟩:=h;refine⟨α,σd,st,_,G,F,P,R,S,t,fun d st1 q α1 G1 H1 v s1 P1 S1 r1=>?_⟩;refine⟨α1,σd,st1,_,G1,F,P1,R.step s1,S1,q,fun d2 st2 q2 α2 G2 H2 v2 s2 P2 S2 r2=>?_⟩;exact⟨α2,d,d2,st2,K,G2,F,P2,r1.step s2,r2,S2,q2,(k.at s1).at s2⟩
theorem LE.un{r:yE}{σ:L2.St}{H:Hp}{Q:VK}(h:LE (kI r ta) σ H Q):N_ (GA r) (LE ta) σ H Q:=by
 obtain⟨α,σd,st,K,G,F,P,R,S,t,k⟩:=h;refine⟨α,σd,st,_,G,F,P,R,S,t,fun d st1 q α1 G1 H1 v s1 P1 S1 r1=>?_⟩;exact⟨α1,d,st1,K,G1,F,P1,r1,S1,q,k.at s1⟩
theorem Oo{op:Operator}{r:dw}(ho:cw X (binaryOp op) (LR r))(ha:PE X a (LE ta))(hb:PE X b (LE tb)):PE X (.BinOp a op b pos) (LE (aw r ta tb)):=PE.imp (MH ho ha hb) fun _ _ _ h=>LE.op h
theorem Oh{op:UnaryOp}{r:yE}(ho:AX X (unaryOp op) (GA r))(ha:PE X a (LE ta)):PE X (.UnaryOp op a pos) (LE (kI r ta)):=PE.imp (Ni ho ha) fun _ _ _ h=>LE.un h
theorem ML{op:CmpOp}{r:dw}(ho:cw X (compareOp op) (LR r))(ha:PE X a (LE ta))(hb:PE X b (LE tb))(hm:behindInMarks op b=false:=by first|exact cC _|rfl):PE X (.Compare a [op] [b] pos) (LE (aw r ta tb)):=PE.imp (ID ho ha hb hm) fun _ _ _ h=>LE.op h
def cy(t:DE):DT:=fun σ st K=>t σ st fun d st1=>match d with| .bl b=>K b st1|_=>False
theorem LT.test{σ:L2.St}{H:Hp}{Q:Bool->Hp->Prop}(h:LT (cy te) σ H Q):LE te σ H fun x H'=>∃k,x= .bl k/\Q k H':=by
 obtain⟨α,σd,st,K,G,F,P,R,S,t,k⟩:=h;refine⟨α,σd,st,_,G,F,P,R,S,t,fun d st1 q α1 G1 H1 v s1 P1 S1 r1=>?_⟩;cases d with
 |bl b=>
  unfold Rep at r1;exact⟨b,r1,k b st1 q α1 G1 H1 s1 P1 S1⟩
 |_=>exact q.elim
theorem Ko{op:CmpOp}{r:dw}(ho:cw X (compareOp op) (LR r))(ha:PE X a (LE ta))(hb:PE X b (LE tb))(hm:behindInMarks op b=false:=by first|exact cC _|rfl):PT X (.Compare a [op] [b] pos) (LT (cy (aw r ta tb))):=PT.imp (Jo ho ha hb hm) fun σ H Q h=>by
 have q:=LT.test h;exact LE.op (Q:=fun x H'=>∃k,x= .bl k/\Q k H') q
theorem Mb(he:PE X e (LE te))(hv:∀whole,isTrue e X.env whole=(do let v <-whole;standAt e.pos;holding [v] (truthy v)):=by intro _;rfl):PT X e (LT (cy te)):=PT.imp (L4 he hv) fun σ H Q h=>LT.test h
def lP(t:DT):DT:=fun σ st K=>t σ st fun b st1=>K (!b) st1
def nO(t u:DT):DT:=fun σ st K=>t σ st fun b st1=>if b=true then K true st1 else u σ st1 K
theorem Mn{t:DT}(ha:PT X a (LT t)):PT X (.UnaryOp .Not a pos) (LT (lP t)):=PT.imp (Jz ha) fun σ H Q ⟨α,σd,st,K,G,F,P,R,S,t,k⟩=>
 ⟨α,σd,st,_,G,F,P,R,S,t,fun b st1 q α1 G1 H1 s1 P1 S1=>k _ st1 q α1 G1 H1 s1 P1 S1⟩
theorem LT.or{t u:DT}{σ:L2.St}{H:Hp}{Q:Bool->Hp->Prop}(h:LT (nO t u) σ H Q):N2 (LT t) (LT u) σ H Q:=by
 obtain⟨α,σd,st,K,G,F,P,R,S,t,k⟩:=h;refine⟨α,σd,st,_,G,F,P,R,S,t,fun b st1 q α1 G1 H1 s1 P1 S1=>?_⟩;cases b with
 |false=>exact⟨α1,σd,st1,K,G1,F,P1,R.step s1,S1,q,k.at s1⟩
 |true=>exact k _ st1 q α1 G1 H1 s1 P1 S1
theorem JM{t:DT}(ha:PT X a (LT t)):PW X (.BoolOp .Or [a] pos) (LT t):=pw_or1 ha
theorem MU{t u:DT}(ha:PT X a (LT t))(hb:PW X (.BoolOp .Or (b::es) pos) (LT u)):PW X (.BoolOp .Or (a::b::es) pos) (LT (nO t u)):=PW.imp (pw_or ha hb) fun _ _ _ h=>LT.or h
def vt(ta tb:DE):DE:=fun σ st K=>ta σ st fun d st1=>match d with| .bl b=>if b=true then tb σ st1 K else K (.bl false) st1|_=>False
def x3(t:DT):DE:=fun σ st K=>t σ st fun b st1=>K (.bl (!b)) st1
theorem MB{op:BoolOp}(ha:PE X a (LE ta)):PE X (.BoolOp op [a] pos) (LE ta):=Lx ha
theorem Mt(ha:PE X a (LE ta))(hb:PE X (.BoolOp .And (b::es) pos) (LE tb)):PE X (.BoolOp .And (a::b::es) pos) (LE (vt ta tb)):=PE.imp (KZ ha hb) fun σ H Q ⟨α,σd,st,K,G,F,P,R,S,t,k⟩=>by
 refine⟨α,σd,st,_,G,F,P,R,S,t,fun d st1 q α1 G1 H1 v s1 P1 S1 r1=>?_⟩;cases d with
 |bl b=>
  unfold Rep at r1;refine⟨b,r1,?_⟩;cases b with
  |true=>exact⟨α1,σd,st1,K,G1,F,P1,R.step s1,S1,q,k.at s1⟩
  |false=>exact k _ st1 q α1 G1 H1 _ s1 P1 S1 (by unfold Rep;rfl)
 |_=>exact q.elim
theorem NK(ha:PE X a (LE ta)):PE X (.UnaryOp .Not a pos) (LE (x3 (cy ta))):=PE.imp (JQ ha) fun σ H Q ⟨α,σd,st,K,G,F,P,R,S,t,k⟩=>by
 refine⟨α,σd,st,_,G,F,P,R,S,t,fun d st1 q α1 G1 H1 v s1 P1 S1 r1=>?_⟩;cases d with
 |bl b=>
  unfold Rep at r1;exact⟨b,r1,k _ st1 q α1 G1 H1 _ s1 P1 S1 (by unfold Rep;rfl)⟩
 |_=>exact q.elim
def Ky(t:DT)(ta tb:DE):DE:=fun σ st K=>t σ st fun b st1=>if b=true then ta σ st1 K else tb σ st1 K
theorem Ms{t:DT}(hc:PT X c (LT t))(ha:PE X a (LE ta))(hb:PE X b (LE tb)):PE X (.IfExp c a b pos) (LE (Ky t ta tb)):=PE.imp (EY hc ha hb) fun σ H Q ⟨α,σd,st,K,G,F,P,R,S,t,k⟩=>by
 refine⟨α,σd,st,_,G,F,P,R,S,t,fun b st1 q α1 G1 H1 s1 P1 S1=>?_⟩;cases b with
 |true=>exact⟨α1,σd,st1,K,G1,F,P1,R.step s1,S1,q,k.at s1⟩
 |false=>exact⟨α1,σd,st1,K,G1,F,P1,R.step s1,S1,q,k.at s1⟩
def ak:DA:=fun _ st K=>K [] st
def af(ta:DE)(tr:DA):DA:=fun σ st K=>ta σ st fun x st1=>tr σ st1 fun xs st2=>K (x::xs) st2
theorem uQ:PA X [] (LA ak):=PA.imp JY fun σ H Q ⟨α,σd,st,K,G,F,P,R,S,t,k⟩=>k [] st t α G H [] Step.refl P S (by unfold aJ;rfl)
theorem sM{tr:DA}(ha:PE X e (LE te))(hr:PA X es (LA tr))(hs:starEach (e::es) X.env=(false,eval e X.env)::starEach es X.env:=by rfl):PA X (e::es) (LA (af te tr)):=PA.imp (Iz ha hr hs) fun σ H Q ⟨α,σd,st,K,G,F,P,R,S,t,k⟩=>by
 refine⟨α,σd,st,_,G,F,P,R,S,t,fun d st1 q α1 G1 H1 v s1 P1 S1 r1=>?_⟩;refine⟨α1,σd,st1,_,G1,F,P1,R.step s1,S1,q,fun ds st2 q2 α2 G2 H2 vs s2 P2 S2 r2=>?_⟩;exact k _ st2 q2 α2 G2 H2 (v::vs) (s1.trans s2) P2 S2 (by unfold aJ;exact⟨v,vs,rfl,r1.step s2,r2⟩)
def gG(t:DA):DE:=fun σ st K=>t σ st fun ds st1=>ds.length<=sizeLine/\K (.tup ds) st1
def mL(t:DA):DE:=fun σ st K=>t σ st fun ds st1=>ds.length<=sizeLine/\K (.lst ds) st1
def uE(t:DA):DE:=fun σ st K=>t σ st fun ds st1=>ds.length<=sizeLine/\K (.ref st1.length) (st1++[.lst ds])
theorem LK.tup{α:List (Option Addr)}{G F H:Hp}{K:DK}{Q:VK}{ds:List D}{vs:List V}{st:ag}{p:Addr}(k:LK α G F K Q)(P:cx G F H)(q:K (.tup ds) st)(S:aP α st G)(r:aJ α G ds vs)(hp:H p=none):Q (.ref p) (upd H p (.tup vs)):=
 have hg:=(P.none hp).1
 k _ st q α _ _ _ (Step.laid hg) (P.laid hp) (S.laid hg) (by unfold Rep;exact⟨p,vs,rfl,S.kF hg,aX,r.step (Step.laid hg)⟩)
theorem LK.lst{α:List (Option Addr)}{G F H:Hp}{K:DK}{Q:VK}{ds:List D}{vs:List V}{st:ag}{p:Addr}(k:LK α G F K Q)(P:cx G F H)(q:K (.lst ds) st)(S:aP α st G)(r:aJ α G ds vs)(hp:H p=none):Q (.ref p) (upd H p (.lst vs)):=
 have hg:=(P.none hp).1
 k _ st q α _ _ _ (Step.laid hg) (P.laid hp) (S.laid hg) (by unfold Rep;exact⟨p,vs,rfl,S.kF hg,.of aX,r.step (Step.laid hg)⟩)
theorem LK.new{α:List (Option Addr)}{G F H:Hp}{K:DK}{Q:VK}{ds:List D}{vs:List V}{st:ag}{p:Addr}(k:LK α G F K Q)(P:cx G F H)(q:K (.ref st.length) (st++[.lst ds]))(S:aP α st G)(r:aJ α G ds vs)(hp:H p=none):Q (.ref p) (upd H p (.lst vs)):=
 have hg:=(P.none hp).1
 k _ _ q (α++[some p]) _ _ _ (Step.cell hg) (P.laid hp) (S.cell hg ⟨vs,aX,r.step (Step.cell hg)⟩) (by
  unfold Rep;refine .inr ⟨p,?_,rfl⟩;rw[List.getElem?_append_right (by rw[S.len];exact Nat.le_refl _),S.len,Nat.sub_self];rfl)
theorem M1{n:Nat}{t:DA}(h:PA X es (LA t)):PE X (.Tuple es n pos) (LE (gG t)):=PE.imp (Kx h) fun σ H Q ⟨α,σd,st,K,G,F,P,R,S,t,k⟩=>
 ⟨α,σd,st,_,G,F,P,R,S,t,fun ds st1 q α1 G1 H1 vs s1 P1 S1 r1=>⟨by rw[<-r1.length];exact q.1,fun p hp=>(k.at s1).tup P1 q.2 S1 r1 hp⟩⟩
theorem Na{t:DA}(h:PA X es (LA t)):PE X (.List es pos) (LE (mL t)):=PE.imp (CZ h) fun σ H Q ⟨α,σd,st,K,G,F,P,R,S,t,k⟩=>
 ⟨α,σd,st,_,G,F,P,R,S,t,fun ds st1 q α1 G1 H1 vs s1 P1 S1 r1=>⟨by rw[<-r1.length];exact q.1,fun p hp=>(k.at s1).lst P1 q.2 S1 r1 hp⟩⟩
theorem MQ{t:DA}(h:PA X es (LA t)):PE X (.List es pos) (LE (uE t)):=PE.imp (CZ h) fun σ H Q ⟨α,σd,st,K,G,F,P,R,S,t,k⟩=>
 ⟨α,σd,st,_,G,F,P,R,S,t,fun ds st1 q α1 G1 H1 vs s1 P1 S1 r1=>⟨by rw[<-r1.length];exact q.1,fun p hp=>(k.at s1).new P1 q.2 S1 r1 hp⟩⟩
abbrev cK:=List D->ag->DK->Prop
inductive J3(T:cK)(vs:List V)(H:Hp)(Q:VK):Prop
 |mk (α:List (Option Addr)) (ds:List D) (st:ag) (K:DK) (G F:Hp) (P:cx G F H) (rx:aJ α G ds vs) (S:aP α st G) (h:T ds st K) (k:LK α G F K Q):J3 T vs H Q
def cQ(S:cK):Sp:=fun vs H Q _=>J3 S vs H Q
def aC(S:cK)(t:DA):DE:=fun σ st K=>t σ st fun ds st1=>S ds st1 K
theorem LE.call{S:cK}{t:DA}{σ:L2.St}{H:Hp}{Q:VK}(h:LE (aC S t) σ H Q):GQ (cQ S) [] E0 (LA t) σ H Q:=by
 obtain⟨α,σd,st,K,G,F,P,R,S,t,k⟩:=h;refine⟨α,σd,st,_,G,F,P,R,S,t,fun ds st1 q α1 G1 H1 vs s1 P1 S1 r1=>?_⟩;try dsimp only
 rw[List.append_nil];exact⟨α1,ds,st1,K,G1,F,P1,r1,S1,q,k.at s1⟩
theorem Jx{S:cK}{k:Nat}{f:Addr}{fd:FuncData}{ps:List Str}{x:Str}{p:Pos}{t:DA}(F:bE X.prog X.w X.K X.mg X.base cL k f fd ps (cQ S))(hr:cT k X.A)(hg:Gl X x)(hm:X.mg x=some (.ref f))(hk:PySem.W.keepIn X.K (.ref f)=true)(hb:Binds X.K fd ps [])
 (ha:PA X (e::es) (LA t)) (hdb:(x==("__debug__":Str))=false:=by decide) (he:starEach (e::es) X.env=(false,eval e X.env)::starEach es X.env:=by rfl) (hpl:(backTo pos (starEach es X.env)).any (·.1)=false:=by rfl):
 PE X (.Call (.Name x p) (e::es) [] pos) (LE (aC S t)):=PE.imp (Hv F hr hg hm hk hb .nil BW ha hdb he hpl) fun _ _ _ h=>LE.call h
def bV(r:e8)(t:DA):DE:=fun σ st K=>t σ st fun ds st1=>r ds st1 K
theorem LE.cb{r:e8}{t:DA}{σ:L2.St}{H:Hp}{Q:VK}(h:LE (bV r t) σ H Q):LH (fN r) (LA t) σ H Q:=by
 obtain⟨α,σd,st,K,G,F,P,R,S,t,k⟩:=h;refine⟨α,σd,st,_,G,F,P,R,S,t,fun ds st1 q α1 G1 H1 vs s1 P1 S1 r1=>?_⟩;exact⟨α1,ds,st1,K,G1,F,P1,r1,S1,q,k.at s1⟩
end
section
variable {X:Cx}
theorem cw.imp{f:Value->Value->Sem Value}{r r':R2}(h:cw X f r)(k:∀x y H Q,r' x y H Q->r x y H Q):cw X f r':=fun pins s σ H x y v u Q I rx ry q=>h pins s σ H x y v u Q I rx ry (k x y H Q q)
theorem bI.imp{f:Value}{r r':List V->Hp->VK->Prop}(h:bI X f r)(k:∀xs H Q,r' xs H Q->r xs H Q):bI X f r':=fun pins s σ H xs us Q I rs q=>h pins s σ H xs us Q I rs (k xs H Q q)
def vf(C:Int->Int->Prop)(g:Int->Int->D):dw:=fun x y st K=>match x,y with| .int i,.int j=>C i j/\K (g i j) st|_,_=>False
theorem kQ{f:Value->Value->Sem Value}{C:Int->Int->Prop}{g:Int->Int->D}{g':Int->Int->V}(hg:∀i j α H,Rep α H (g i j) (g' i j))(h:cw X f (rI C g')):cw X f (LR (vf C g)):=cw.imp h fun x y H Q ⟨α,d,e,st,K,G,F',P,r1,r2,S,q,k⟩=>by
 cases d<;>cases e<;>first
  |exact q.elim
  |(unfold Rep at r1 r2;exact⟨_,_,r1,r2,q.1,k.here P q.2 S (hg _ _ _ _)⟩)
abbrev T2:Int->Int->Prop:=fun _ _=>True
theorem x5{g:Int->Int->V}{f:Value->Value->Sem Value}(h:cw X f (w9 g)):cw X f (rI T2 g):=cw.imp h fun x y H Q ⟨i,j,e1,e2,_,q⟩=>⟨i,j,e1,e2,q⟩
abbrev GB:dw:=vf T2 fun i j=> .int (i-j)
abbrev EB:dw:=vf (fun _ j=>j≠0/\j.natAbs.log2<9000) fun i j=> .int (i.fdiv j)
abbrev Hf:dw:=vf (fun _ j=>j≠0) fun i j=> .int (i.fmod j)
abbrev Hl:dw:=vf Fu fun i j=> .int (i^j.toNat)
abbrev Ke:dw:=vf T2 fun i j=> .bl (decide (i<j))
abbrev Lf:dw:=vf T2 fun i j=> .bl (decide (j<i))
abbrev Jy:dw:=vf T2 fun i j=> .bl (decide (j<=i))
theorem MA:cw X (binaryOp .Sub) (LR GB):=kQ (fun _ _ _ _=>by unfold Rep;rfl) (x5 Kb)
theorem L0:cw X (binaryOp .FloorDiv) (LR EB):=kQ (fun _ _ _ _=>by unfold Rep;rfl) (Ga fun i j _ _ _ _ _ hc q=>floordiv_int hc.1 q (.inl (PyProof.noPylong_of_log2 hc.2)))
theorem MM:cw X (binaryOp .Mod) (LR Hf):=kQ (fun _ _ _ _=>by unfold Rep;rfl) Hu
theorem Nd:cw X (binaryOp .Pow) (LR Hl):=kQ (fun _ _ _ _=>by unfold Rep;rfl) Lj
theorem OG:cw X (compareOp .Lt) (LR Ke):=kQ (fun _ _ _ _=>by unfold Rep;rfl) (x5 MT)
theorem Og:cw X (compareOp .Gt) (LR Lf):=kQ (fun _ _ _ _=>by unfold Rep;rfl) (x5 M3)
theorem O0:cw X (compareOp .GtE) (LR Jy):=kQ (fun _ _ _ _=>by unfold Rep;rfl) (x5 MG)
def Gq:yE:=fun x st K=>match x with| .int i=>K (.int (-i)) st|_=>False
theorem Nx:AX X (unaryOp .USub) (GA Gq):=fun pins s σ H x v Q I rx ⟨α,d,st,K,G,F',P,r,S,q,k⟩=>by
 cases d<;>first
  |exact q.elim
  |(unfold Rep at r;exact JN pins s σ H x v Q I rx ⟨_,r,k.here P q S (by unfold Rep;rfl)⟩)
theorem Inv.v_{pins:List (Addr×Obj)}{σ:L2.St}{H:Hp}{s:Shared}{l:Addr}{xs:List V}(I:Inv X pins σ H s)(h:Rd H l (.lst xs)):
 xs.length<=sizeLine/\∃(aq:List Value) (n:Nat),Vals xs aq/\xs.length=aq.length/\s.heap.get? l=some {cls:= .type "list",data:= .seq aq.toArray n}:=by
 obtain⟨z,aq,n,r,e⟩:=h.ok I.aM;exact⟨z,aq,n,r,r.length,e⟩
theorem gq{G F H:Hp}(P:cx G F H){a:Addr}{u:HO}(h:Rd G a u):Rd H a u:=by
 rcases h with h|⟨o,h⟩
 . exact .inl (P.get h)
 . exact .inr ⟨o,P.get h⟩
theorem Jh:cw X (binaryOp .Add) (fun x y H Q=>∃l b xs zs,x= .ref l/\y= .ref b/\Rd H l (.lst xs)/\Rd H b (.lst zs)/\xs.length+zs.length<=sizeLine/\∀p,H p=none->Q (.ref p) (upd H p (.lst (xs++zs)))):=by
 intro pins s σ H x y v u Q I rx ry h;obtain⟨l,b,xs,zs,rfl,rfl,hH,hB,hz,q⟩:=h;cases rx;cases ry;obtain⟨z,aq,n,r,hl,e⟩:=Inv.v_ I hH;obtain⟨z2,its2,n2,r2,hl2,e2⟩:=Inv.v_ I hB;refine PySem.P.add_list e e2 ?_ (by rw[List.size_toArray,List.size_toArray];omega);have ea:aq.toArray++its2.toArray=(aq++its2).toArray:=by simp
 rw[ea];exact⟨.ref _,_,I.ER (t':=s.toks) (r.append r2) (by rw[List.length_append];omega),rfl,q _ I.fresh⟩
theorem AZ:cw X (binaryOp .Mult) (fun x y H Q=>∃l k xs,x= .ref l/\y= .int k/\Rd H l (.lst xs)/\ -(2^63)<=k/\k<2^63/\xs.length*k.toNat<=sizeLine/\
 ∀p,H p=none->Q (.ref p) (upd H p (.lst (List.replicate k.toNat xs).flatten))):=by
 intro pins s σ H x y v u Q I rx ry h;obtain⟨l,k,xs,rfl,rfl,hH,h1,h2,hz,q⟩:=h;cases rx;obtain⟨t,rfl⟩:=ry;obtain⟨z,aq,n,r,hl,e⟩:=Inv.v_ I hH;have hlen:aq.toArray.size*k.toNat<=sizeLine:=by rw[List.size_toArray,<-hl];exact hz
 have hcap:¬aq.toArray.size*k.toNat>(2^63-1)/8:=by
  have:(sizeLine:Nat)<=(2^63-1)/8:=by decide
  omega
 have hfit:¬(!Builtin.List.listFitsIndex k)=true:=by
  rw[fitsIndex_both h1 h2];exact Bool.false_ne_true
 have hlong:¬Builtin.List.listTooLong (aq.toArray.size*k.toNat)=true:=by
  rw[FA hlen];exact Bool.false_ne_true
 have hnew:List.foldl (fun x1 x2=>x1++x2) #[] (List.replicate (if aq.toArray.isEmpty=true then 0 else k.toNat) aq.toArray)=(List.replicate k.toNat aq).flatten.toArray:=by
  have f0:∀m:Nat,List.foldl (fun x1 x2=>x1++x2) #[] (List.replicate m aq.toArray)=(List.replicate m aq).flatten.toArray:=fun m=>by
   have:=foldl_rep aq m [];rw[List.nil_append]at this;exact this
  rw[f0];cases aq with
  |nil=>simp
  |cons a r'=>rw[if_neg (by simp)]
 refine wpAny_binaryOp_repeat_ref (T:="list") (U:="int") (by decide) ⟨_,e,rfl⟩ (fun s'=>typeIs_int s' k t) noFill_list_mul F.fills_int_mul F.slot_int_rmul repeat_list F.slot_int_index.lookup
  (call_meets F.slot_int_rmul (typeIs_int s k t) F.entry_int_rmul (F.args_int_rmul_2 _ _) (int___rmul___int_list k t l aq.toArray n)
    ⟨e,rfl,⟨_,e,rfl⟩,call_meets F.slot_list_mul ⟨_,e,rfl⟩ F.entry_list_mul (F.args_list_mul_2 _ _) (AutoListH.list___mul___list_int_3 l aq.toArray n k t hfit hcap hlong) ⟨e,?_⟩⟩)
 rw[hnew];exact⟨.ref _,_,I.ER (t':=s.toks) (r.rep k.toNat) (by rw[len_rep,Nat.mul_comm];exact hz),rfl,q _ I.fresh⟩
theorem E9:cw X (binaryOp .Add) (fun x y H Q=>∃a b xs ys,x= .ref a/\y= .ref b/\H a=some (.tup xs)/\H b=some (.tup ys)/\xs.length+ys.length<=sizeLine/\
 (xs=[]->Q (.ref b) H)/\(xs≠ []->ys=[]->Q (.ref a) H)/\(xs≠ []->ys≠ []->∀p,H p=none->Q (.ref p) (upd H p (.tup (xs++ys))))):=by
 intro pins s σ H x y v u Q I rx ry h;obtain⟨a,b,xs,ys,rfl,rfl,ha,hb,hz,q0,q1,q2⟩:=h;by_cases hx:xs=[]
 . cases rx;cases ry;obtain⟨aq,r1,p1,_⟩:=I.tuple (.of ha);obtain⟨its2,r2,p2,_⟩:=I.tuple (.of hb);obtain⟨⟨cls,dd,data,sl⟩,ho,hc,n,hd⟩:=id p1;obtain⟨⟨cls2,dd2,data2,sl2⟩,ho2,hc2,n2,hd2⟩:=id p2;simp only at hc hd hc2 hd2;subst hc hd hc2 hd2;have hi:aq=[]:=(L2.Vals.sF r1).mpr hx
   exact concat_meets ⟨_,ho,rfl⟩ ⟨_,ho2,rfl⟩ noFill_tuple_add seq_tuple_add PySem.F.slot_tuple_add PySem.F.entry_tuple_add (PySem.F.args_tuple_add_2 _ _)
    (tuple_addW0 a b aq.toArray its2.toArray n n2 dd dd2 sl sl2 (by simp[hi])) ⟨ho,ho2,⟨.ref b,H,I,rfl,q0 hx⟩⟩
 . exact Ii pins s σ H _ _ v u Q I rx ry ⟨a,b,xs,ys,rfl,rfl,.of ha,.of hb,hx,hz,q1 hx,q2 hx⟩
theorem wq:fillsNumberSlot (.type "tuple") "mul"=pure false:=
 PySem.fillsNumberSlot_seq (id:="tuple.__mul__") (r:=some (.builtin "tuple.__rmul__")) F.slot_tuple_mul.lookup (by decide+kernel) F.slot_tuple_rmul.lookup (by decide+kernel)
theorem BZ:seqRepeat? (.type "tuple")=pure (some (.builtin "tuple.__mul__")):=by
 unfold seqRepeat?;rw[PySem.seqSlot_of (T:="tuple") (name:="__mul__") (id:="tuple.__mul__") F.slot_tuple_mul.lookup (by decide+kernel),PySem.seqSlot_of (T:="tuple") (name:="__rmul__") (id:="tuple.__rmul__") F.slot_tuple_rmul.lookup (by decide+kernel)];rfl
theorem y9(a:Int)(t:Tok)(l:Addr)(aq:Array Value)(n:Nat)(dd:Option Addr)(sl:Array (Option Value)):Meets (Builtin.«int.__rmul__» ⟨[.int a t,.ref l],[]⟩) (fun _ R s=>s.heap.get? l=some {cls:= .type "tuple",dict:=dd,data:= .seq aq n,slots:=sl}/\R (.ok (.ret Value.notImplemented)) s):=
 .of_wp fun P w A R s h=>by
  obtain⟨hp,g,d,tk,os⟩:=s;obtain⟨hl,h⟩:=h
  wp_walk
  exact⟨_,rfl,h⟩
theorem zP(l:Addr)(aq:Array Value)(n:Nat)(dd:Option Addr)(sl:Array (Option Value))(x:Int)(u:Tok)(h0:(decide (x< -(2^63))||decide (x>=2^63))=false)(h1:(aq.isEmpty||x==1)=true):
 Meets (Builtin.«tuple.__mul__» ⟨[.ref l,.int x u],[]⟩) (fun _ R s=>s.heap.get? l=some {cls:= .type "tuple",dict:=dd,data:= .seq aq n,slots:=sl}/\R (.ok (.ret (.ref l))) s):=
 .of_wp fun P w A R s h=>by
  obtain⟨hp,g,d,tk,os⟩:=s;obtain⟨hl,h⟩:=h
  wp_walk
  refine wpAny_ite_false (by rw[h0];rfl) ?_
  wp_walk
  exact⟨_,rfl,h⟩
theorem yB(l:Addr)(aq:Array Value)(n:Nat)(dd:Option Addr)(sl:Array (Option Value))(x:Int)(u:Tok)(h0:(decide (x< -(2^63))||decide (x>=2^63))=false)(h1:(aq.isEmpty||x==1)=false)(h2:(decide (x<=0)||aq.isEmpty)=true):
 Meets (Builtin.«tuple.__mul__» ⟨[.ref l,.int x u],[]⟩) (fun _ R s=>s.heap.get? l=some {cls:= .type "tuple",dict:=dd,data:= .seq aq n,slots:=sl}/\R (.ok (.ret (.ref s.heap.objs.size))) {s with heap:=s.heap.push {cls:= .type "tuple",data:= .seq #[]}}):=
 .of_wp fun P w A R s h=>by
  obtain⟨hp,g,d,tk,os⟩:=s;obtain⟨hl,h⟩:=h
  wp_walk
  refine wpAny_ite_false (by rw[h0];rfl) ?_
  wp_walk
  exact⟨_,rfl,h⟩
theorem zX(l:Addr)(aq:Array Value)(n:Nat)(dd:Option Addr)(sl:Array (Option Value))(x:Int)(u:Tok)(h0:(decide (x< -(2^63))||decide (x>=2^63))=false)(h1:(aq.isEmpty||x==1)=false)(h2:(decide (x<=0)||aq.isEmpty)=false)(h3:¬((aq.size:Int)*x>(2^63-1)/8))(h4:Builtin.Tuple.tupleTooMany (aq.size*x)=false)
 (hz:(List.foldl (fun x1 x2=>x1++x2) #[] (List.replicate x.toNat aq)).size<=sizeLine):
 Meets (Builtin.«tuple.__mul__» ⟨[.ref l,.int x u],[]⟩) (fun _ R s=>s.heap.get? l=some {cls:= .type "tuple",dict:=dd,data:= .seq aq n,slots:=sl}/\R (.ok (.ret (.ref s.heap.objs.size))) {s with heap:=s.heap.push {cls:= .type "tuple",data:= .seq (List.foldl (fun x1 x2=>x1++x2) #[] (List.replicate x.toNat aq))}}):=
 .of_wp fun P w A R s h=>by
  obtain⟨hp,g,d,tk,os⟩:=s;obtain⟨hl,h⟩:=h
  wp_walk
  refine wpAny_ite_false (by rw[h0];rfl) ?_
  wp_walk
  refine wpAny_ite_false (decide_eq_false h3) ?_
  wp_walk
  exact⟨_,rfl,h⟩
theorem Jj:cw X (binaryOp .Mult) (fun x y H Q=>∃l k xs,x= .ref l/\y= .int k/\H l=some (.tup xs)/\ -(2^63)<=k/\k<2^63/\xs.length*k.toNat<=sizeLine/\
 ((xs=[]\/k=1)->Q (.ref l) H)/\(¬(xs=[]\/k=1)->∀p,H p=none->Q (.ref p) (upd H p (.tup (List.replicate k.toNat xs).flatten)))):=by
 intro pins s σ H x y v u Q I rx ry h;obtain⟨l,k,xs,rfl,rfl,hH,h1,h2,hz,q1,q2⟩:=h;cases rx;obtain⟨t,rfl⟩:=ry;obtain⟨aq,r,p1,_⟩:=I.tuple (.of hH);obtain⟨⟨cls,dd,data,sl⟩,ho,hc,n,hd⟩:=id p1;simp only at hc hd;subst hc hd;have hl:xs.length=aq.length:=r.length
 have f0:(decide (k< -(2^63))||decide (k>=2^63))=false:=by
  rw[decide_eq_false (by omega),decide_eq_false (by omega)];rfl
 refine wpAny_binaryOp_repeat_ref (T:="tuple") (U:="int") (by decide) ⟨_,ho,rfl⟩ (fun s'=>typeIs_int s' k t) wq F.fills_int_mul F.slot_int_rmul BZ F.slot_int_index.lookup
  (call_meets F.slot_int_rmul (typeIs_int s k t) F.entry_int_rmul (F.args_int_rmul_2 _ _) (y9 k t l aq.toArray n dd sl) ⟨ho,rfl,⟨_,ho,rfl⟩,?_⟩)
 by_cases hs:xs=[]\/k=1
 . have f1:(aq.toArray.isEmpty||k==1)=true:=by
    rcases hs with z|z
    . have:aq=[]:=List.length_eq_zero_iff.mp (by rw[<-hl,z];rfl);rw[this];rfl
    . rw[z];simp
   exact call_meets F.slot_tuple_mul ⟨_,ho,rfl⟩ F.entry_tuple_mul (F.args_tuple_mul_2 _ _) (zP l aq.toArray n dd sl k t f0 f1) ⟨ho,⟨.ref l,H,I,rfl,q1 hs⟩⟩
 . have hne:aq≠ []:=fun z=>hs (.inl (List.length_eq_zero_iff.mp (by rw[hl,z];rfl)));have hk1:k≠1:=fun z=>hs (.inr z);have e1:aq.toArray.isEmpty=false:=by simpa using hne
   have f1:(aq.toArray.isEmpty||k==1)=false:=by rw[e1];simpa using hk1
   have new:∀(us:List Value) (ys:List V),Vals ys us->ys.length<=sizeLine->Inv X pins σ (upd H s.heap.objs.size (.tup ys)) {s with heap:=s.heap.push {cls:= .type "tuple",data:= .seq us.toArray}}:=fun us ys hv hy=>
    I.laid (t':=s.toks) (fun _ _ q=>Heap.get?_push_of_some _ q) (Nat.le_refl _) ⟨hy,us,hv,⟨_,Heap.get?_push_size _ rfl,rfl,_,rfl⟩⟩
   by_cases h0:k<=0
   . have f2:(decide (k<=0)||aq.toArray.isEmpty)=true:=by rw[decide_eq_true h0];rfl
     refine call_meets F.slot_tuple_mul ⟨_,ho,rfl⟩ F.entry_tuple_mul (F.args_tuple_mul_2 _ _) (yB l aq.toArray n dd sl k t f0 f1 f2) ⟨ho,?_⟩;have ez:k.toNat=0:=by omega
     rw[ez]at q2;exact⟨.ref _,_,new [] [] .nil (Nat.zero_le _),rfl,q2 hs _ I.fresh⟩
   . have f2:(decide (k<=0)||aq.toArray.isEmpty)=false:=by rw[decide_eq_false h0,e1];rfl
     have hk:(k.toNat:Int)=k:=by omega
     have hlen:aq.toArray.size*k.toNat<=sizeLine:=by rw[List.size_toArray,<-hl];exact hz
     have hsz:((aq.toArray.size:Nat):Int)*k<=(sizeLine:Int):=by
      rw[<-hk]
      exact_mod_cast hlen
     have f3:¬(((aq.toArray.size:Nat):Int)*k>(2^63-1)/8):=by
      have:((sizeLine:Nat):Int)<=(2^63-1)/8:=by decide
      omega
     have f4:Builtin.Tuple.tupleTooMany (((aq.toArray.size:Nat):Int)*k)=false:=by
      unfold Builtin.Tuple.tupleTooMany;exact decide_eq_false (by omega)
     have hnew:List.foldl (fun x1 x2=>x1++x2) #[] (List.replicate k.toNat aq.toArray)=(List.replicate k.toNat aq).flatten.toArray:=by
      have:=foldl_rep aq k.toNat [];rw[List.nil_append]at this;exact this
     have hfl:(List.replicate k.toNat aq).flatten.length=aq.length*k.toNat:=by rw[len_rep,Nat.mul_comm]
     refine call_meets F.slot_tuple_mul ⟨_,ho,rfl⟩ F.entry_tuple_mul (F.args_tuple_mul_2 _ _) (zX l aq.toArray n dd sl k t f0 f1 f2 f3 f4 (by rw[hnew,List.size_toArray,hfl];exact hlen)) ⟨ho,?_⟩;rw[hnew];exact⟨.ref _,_,new _ _ (r.rep k.toNat) (by rw[len_rep,Nat.mul_comm];exact hz),rfl,q2 hs _ I.fresh⟩
def Gd:dw:=fun x y st K=>match x,y with
 | .int i,.int j=>K (.int (i+j)) st
 | .tup xs,.tup ys=>xs.length+ys.length<=sizeLine/\K (.tup (xs++ys)) st
 | .lst xs,.lst ys=>xs.length+ys.length<=sizeLine/\K (.lst (xs++ys)) st
 | .str x,.str y=>x.length+y.length<=sizeLine/\K (.str (x++y)) st
 |_,_=>False
theorem MJ:cw X (binaryOp .Add) (LR Gd):=fun pins s σ H x y v u Q I rx ry ⟨α,d,e,st,K,G,F',P,r1,r2,S,q,k⟩=>by
 cases d<;>cases e<;>try exact q.elim
 . unfold Rep at r1 r2;exact KD pins s σ H x y v u Q I rx ry ⟨_,_,r1,r2,k.here P q S (by unfold Rep;rfl)⟩
 . unfold Rep at r1 r2;exact BV pins s σ H x y v u Q I rx ry ⟨_,_,r1,r2,q.1,k.here P q.2 S (by unfold Rep;rfl)⟩
 . unfold Rep at r1 r2;obtain⟨a,vs,rfl,na,ha,ra⟩:=r1;obtain⟨b,ws,rfl,nb,hb,rb⟩:=r2;refine Jh pins s σ H _ _ v u Q I rx ry ⟨a,b,vs,ws,rfl,rfl,gq P ha,gq P hb,by rw[<-ra.length,<-rb.length];exact q.1,fun p hp=>?_⟩;exact k.lst P q.2 S (bo.mpr (fS (bo.mp ra) (bo.mp rb))) hp
 . rename_i xs ys;unfold Rep at r1 r2;obtain⟨a,vs,rfl,na,ha,ra⟩:=r1;obtain⟨b,ws,rfl,nb,hb,rb⟩:=r2;have hl1:=ra.length;have hl2:=rb.length;refine E9 pins s σ H _ _ v u Q I rx ry ⟨a,b,vs,ws,rfl,rfl,P.get ha,P.get hb,by rw[<-hl1,<-hl2];exact q.1,fun z=>?_,fun _ z=>?_,fun _ _ p hp=>?_⟩
   . refine k.here P q.2 S ?_;unfold Rep;have:xs=[]:=by rw[z]at hl1;exact List.length_eq_zero_iff.mp hl1
     subst this;exact⟨b,ws,rfl,nb,hb,rb⟩
   . refine k.here P q.2 S ?_;unfold Rep;have:ys=[]:=by rw[z]at hl2;exact List.length_eq_zero_iff.mp hl2
     subst this;rw[List.append_nil];exact⟨a,vs,rfl,na,ha,ra⟩
   . exact k.tup P q.2 S (bo.mpr (fS (bo.mp ra) (bo.mp rb))) hp
def Hb:dw:=fun x y st K=>match x,y with
 | .int i,.int j=>IntMulOk i j/\K (.int (i*j)) st
 | .lst xs,.int k=>(-(2^63)<=k/\k<2^63/\xs.length*k.toNat<=sizeLine)/\K (.lst (List.replicate k.toNat xs).flatten) st
 | .tup xs,.int k=>(-(2^63)<=k/\k<2^63/\xs.length*k.toNat<=sizeLine)/\K (.tup (List.replicate k.toNat xs).flatten) st
 |_,_=>False
theorem NA:cw X (binaryOp .Mult) (LR Hb):=fun pins s σ H x y v u Q I rx ry ⟨α,d,e,st,K,G,F',P,r1,r2,S,q,k⟩=>by
 cases d<;>cases e<;>try exact q.elim
 . unfold Rep at r1 r2;have h:cw X (binaryOp .Mult) (rI IntMulOk fun i j=> .int (i*j)):=Ga fun _ _ _ _ _ _ _ hc q=>mul_int q hc;exact h pins s σ H x y v u Q I rx ry ⟨_,_,r1,r2,q.1,k.here P q.2 S (by unfold Rep;rfl)⟩
 . unfold Rep at r1 r2;obtain⟨a,vs,rfl,na,ha,ra⟩:=r1;refine AZ pins s σ H _ _ v u Q I rx ry ⟨a,_,vs,rfl,r2,gq P ha,q.1.1,q.1.2.1,by rw[<-ra.length];exact q.1.2.2,fun p hp=>?_⟩;exact k.lst P q.2 S (bo.mpr (lK (bo.mp ra) _)) hp
 . rename_i xs m;have r1':=r1;unfold Rep at r1 r2;obtain⟨a,vs,rfl,na,ha,ra⟩:=r1;refine Jj pins s σ H _ _ v u Q I rx ry ⟨a,_,vs,rfl,r2,P.get ha,q.1.1,q.1.2.1,by rw[<-ra.length];exact q.1.2.2,fun hs=>?_,fun _ p hp=>k.tup P q.2 S (bo.mpr (lK (bo.mp ra) _)) hp⟩
   have e:(List.replicate m.toNat xs).flatten=xs:=by
    rcases hs with z|z
    . have:xs=[]:=List.length_eq_zero_iff.mp (by rw[ra.length,z];rfl);rw[this];simp
    . rw[z];simp
   have q2:=q.2;rw[e]at q2;exact k.here P q2 S r1'
def live(st:ag):D->Bool
 | .ref n=>(match st[n]? with|some (.lst _)=>true|some (.ins _ _)=>true|_=>false)
 |_=>true
theorem yv{α:List (Option Addr)}{H:Hp}{st:ag}{n:Nat}{v:V}(S:aP α st H)(h:live st (.ref n)=true)(r:Rep α H (.ref n) v):∃a,v= .ref a:=by
 unfold live at h;simp only at h;split at h
 . rename_i e;obtain⟨a,ea,_⟩:=S.f7 e;exact⟨a,eL ea r⟩
 . rename_i e;obtain⟨a,ea,_⟩:=S.ya e;exact⟨a,eL ea r⟩
 . cases h
def IJ:dw:=fun x y st K=>match y with| .aK=>live st x=true/\K (.bl (match x with| .aK=>false|_=>true)) st|_=>False
theorem H_:cw X (compareOp .IsNot) (LR IJ):=cw.imp IB fun x y H Q ⟨α,d,e,st,K,G,F',P,r1,r2,S,q,k⟩=>by
 cases e<;>try exact q.elim
 unfold Rep at r2;refine⟨r2,k.here P q.2 S ?_⟩;unfold Rep;cases d
 case ref n=>
  obtain⟨a,rfl⟩:=yv S q.1 r1;rfl
 all_goals(unfold Rep at r1;first|(rw[r1];rfl)|(obtain⟨a,vs,rfl,_⟩:=r1;rfl))
def qG:dw:=fun x y st K=>match y with
 | .int i=>(match x with
   | .lst xs=>(match eQ xs i with|some d=>K d st|none=>False)
   | .tup xs=>(match eQ xs i with|some d=>K d st|none=>False)
   | .ref n=>(match st[n]? with|some (.lst xs)=>(match eQ xs i with|some d=>K d st|none=>False)|_=>False)
   |_=>False)
 |_=>False
theorem aJ.eQ{α:List (Option Addr)}{H:Hp}{ds:List D}{vs:List V}{i:Int}{d:D}(h:aJ α H ds vs)(e:L2.eQ ds i=some d):∃v,L2.eQ vs i=some v/\Rep α H d v:=by
 unfold L2.eQ at e⊢;rw[<-h.length];cases q:jl ds.length i with
 |none=>rw[q]at e;cases e
 |some j=>rw[q]at e;exact h.get e
theorem OD:Ge X (LR qG):=fun value slice pins s σ H x y v u Q I rx ry ⟨α,d,e,st,K,G,F',P,r1,r2,S,q,k⟩ hs=>by
 cases e<;>try exact q.elim
 unfold Rep at r2;cases d<;>try exact q.elim
 . rename_i i n;unfold qG at q;simp only at q;split at q
   . split at q
     . rename_i xs e1 _ d' e2;obtain⟨a,ea,vs,hv,rv⟩:=S.f7 e1;have r1':=eL ea r1;subst r1';obtain⟨z,ez,rz⟩:=rv.eQ e2;exact A5 value slice pins s σ H _ _ v u Q I rx ry ⟨a,vs,_,z,rfl,r2,.of (P.get hv),ez,k.here P q S rz⟩ hs
     . exact q.elim
   . exact q.elim
 . unfold qG at q;simp only at q;split at q
   . rename_i xs d' e2;unfold Rep at r1;obtain⟨a,vs,rfl,na,ha,ra⟩:=r1;obtain⟨z,ez,rz⟩:=ra.eQ e2;exact A5 value slice pins s σ H _ _ v u Q I rx ry ⟨a,vs,_,z,rfl,r2,.inl (gq P ha),ez,k.here P q S rz⟩ hs
   . exact q.elim
 . unfold qG at q;simp only at q;split at q
   . rename_i xs d' e2;unfold Rep at r1;obtain⟨a,vs,rfl,na,ha,ra⟩:=r1;obtain⟨z,ez,rz⟩:=ra.eQ e2;exact Kh value slice pins s σ H _ _ v u Q I rx ry ⟨a,vs,_,z,rfl,r2,.of (P.get ha),ez,k.here P q S rz⟩ hs
   . exact q.elim
theorem OH{a b:Expr}{ta tb:DE}{pos:Pos}(ha:PE X a (LE ta))(hb:PE X b (LE tb))(hs:sx b:=by intro _ _;rfl):PE X (.Subscript a b pos) (LE (aw qG ta tb)):=PE.imp (Nv OD ha hb hs) fun _ _ _ h=>LE.op h
def items?(st:ag):D->Option (List D)
 | .lst xs=>some xs
 | .tup xs=>some xs
 | .ref n=>(match st[n]? with|some (.lst xs)=>some xs|_=>none)
 |_=>none
@[simp] theorem NS(st:ag)(xs:List D):items? st (.lst xs)=some xs:=rfl
@[simp] theorem Ob(st:ag)(xs:List D):items? st (.tup xs)=some xs:=rfl
@[simp] theorem items_int(st:ag)(i:Int):items? st (.int i)=none:=rfl
@[simp] theorem OQ(st:ag)(i:Bool):items? st (.bl i)=none:=rfl
@[simp] theorem items_str(st:ag)(i:Str):items? st (.str i)=none:=rfl
@[simp] theorem NQ(st:ag):items? st .aK=none:=rfl
theorem aO{st:ag}{n:Nat}{xs:List D}(h:st[n]?=some (.lst xs)):items? st (.ref n)=some xs:=by unfold items?;simp only[h]
theorem oq{α:List (Option Addr)}{H:Hp}{st:ag}{d:D}{v:V}{xs:List D}(S:aP α st H)(r:Rep α H d v)(e:items? st d=some xs):
 ∃p vs,v= .ref p/\aJ α H xs vs/\(Rd H p (.lst vs)\/H p=some (.tup vs)):=by
 cases d<;>try(cases e;done)
 . unfold items? at e;simp only at e;split at e
   . rename_i ys q;cases e;obtain⟨a,ea,vs,h1,h2⟩:=S.f7 q;have r':=eL ea r;subst r';exact⟨a,vs,rfl,h2,.inl (.of h1)⟩
   . cases e
 . cases e;unfold Rep at r;obtain⟨a,vs,rfl,_,h1,h2⟩:=r;exact⟨a,vs,rfl,h2,.inl h1⟩
 . cases e;unfold Rep at r;obtain⟨a,vs,rfl,_,h1,h2⟩:=r;exact⟨a,vs,rfl,h2,.inr h1⟩
theorem BA{K:PySem.W.Frag}{G F H:Hp}(P:cx G F H){p:Addr}{vs:List V}(h:Rd G p (.lst vs)\/G p=some (.tup vs)):md K H p vs\/iY K H p vs:=h.elim (fun z=> .inl (.inl (gq P z))) fun z=> .inr (.of (P.get z))
theorem gu{α:List (Option Addr)}{H:Hp}{ds:List D}{xs:List V}{d:D}(r:aJ α H ds xs)(e:ds=[d]):∃v,xs=[v]/\Rep α H d v:=by
 subst e;unfold aJ at r;obtain⟨v,q,rfl,h1,h2⟩:=r;unfold aJ at h2;subst h2;exact⟨v,rfl,h1⟩
theorem kD{α:List (Option Addr)}{H:Hp}{ds:List D}{xs:List V}{d e:D}(r:aJ α H ds xs)(q:ds=[d,e]):∃v u,xs=[v,u]/\Rep α H d v/\Rep α H e u:=by
 subst q;unfold aJ at r;obtain⟨v,q,rfl,h1,h2⟩:=r;obtain⟨u,rfl,h3⟩:=gu h2 rfl;exact⟨v,u,rfl,h1,h3⟩
def yb:e8:=fun ds st K=>match ds with
 | [.str x]=>x.length<=sizeLine/\K (.int x.length) st
 | [d]=>(match items? st d with|some xs=>K (.int xs.length) st|none=>False)
 |_=>False
theorem Mr:bI X (.builtin "len") (fN yb):=fun pins s σ H xs us Q I rs ⟨α,ds,st,K,G,F',P,r,S,q,k⟩=>by
 unfold yb at q;split at q
 . rename_i x;obtain⟨v,rfl,r1⟩:=gu r rfl;unfold Rep at r1;subst r1;exact yl pins s σ H _ us Q I rs ⟨x,rfl,q.1,k.here P q.2 S (by unfold Rep;rfl)⟩
 . rename_i d _;split at q
   . rename_i ys e;obtain⟨v,rfl,r1⟩:=gu r rfl;obtain⟨p,vs,rfl,r2,h⟩:=oq S r1 e;refine zf pins s σ H _ us Q I rs ⟨p,vs,rfl,BA P h,k.here P q S (by unfold Rep;rw[r2.length])⟩
   . exact q.elim
 . exact q.elim
def NZ(g:Int->Int):e8:=fun ds st K=>match ds with| [.int i]=>K (.int (g i)) st|_=>False
abbrev BI:e8:=NZ fun i=>if i<0 then-i else i
theorem MV:bI X (.builtin "abs") (fN BI):=bI.imp FZ fun xs H Q ⟨α,ds,st,K,G,F',P,r,S,q,k⟩=>by
 unfold BI NZ at q;split at q
 . obtain⟨v,rfl,r1⟩:=gu r rfl;unfold Rep at r1;subst r1;exact⟨_,rfl,k.here P q S (by unfold Rep;rfl)⟩
 . exact q.elim
def BO(g:Int->Int->Int):e8:=fun ds st K=>match ds with| [.int i,.int j]=>K (.int (g i j)) st|_=>False
abbrev Cy:e8:=BO fun i j=>if j>i then j else i
abbrev BB:e8:=BO fun i j=>if j<i then j else i
theorem M8(hc:X.calm=true):bI X (.builtin "max") (fN Cy):=bI.imp (Dr hc) fun xs H Q ⟨α,ds,st,K,G,F',P,r,S,q,k⟩=>by
 unfold Cy BO at q;split at q
 . obtain⟨v,u,rfl,r1,r2⟩:=kD r rfl;unfold Rep at r1 r2;subst r1 r2;exact⟨_,_,rfl,k.here P q S (by unfold Rep;rfl)⟩
 . exact q.elim
theorem MP(hc:X.calm=true):bI X (.builtin "min") (fN BB):=bI.imp (CY hc) fun xs H Q ⟨α,ds,st,K,G,F',P,r,S,q,k⟩=>by
 unfold BB BO at q;split at q
 . obtain⟨v,u,rfl,r1,r2⟩:=kD r rfl;unfold Rep at r1 r2;subst r1 r2;exact⟨_,_,rfl,k.here P q S (by unfold Rep;rfl)⟩
 . exact q.elim
def BE:e8:=fun ds st K=>match ds with| [.int i]=>K (.int i) st| [.bl b]=>K (.int (if b then 1 else 0)) st|_=>False
theorem M7:bI X (.type "int") (fN BE):=bI.imp C5 fun xs H Q ⟨α,ds,st,K,G,F',P,r,S,q,k⟩=>by
 unfold BE at q;split at q
 . obtain⟨v,rfl,r1⟩:=gu r rfl;unfold Rep at r1;subst r1;exact .inl ⟨_,rfl,k.here P q S (by unfold Rep;rfl)⟩
 . obtain⟨v,rfl,r1⟩:=gu r rfl;unfold Rep at r1;subst r1;exact .inr ⟨_,rfl,k.here P q S (by unfold Rep;rfl)⟩
 . exact q.elim
def sH:e8:=fun ds st K=>match ds with| [d]=>(match items? st d with|some xs=>K (.tup xs) st|none=>False)|_=>False
theorem Ih:bI X (.type "tuple") (fN sH):=bI.imp xS fun xs H Q ⟨α,ds,st,K,G,F',P,r,S,q,k⟩=>by
 unfold sH at q;split at q
 . rename_i d;split at q
   . rename_i ys e;obtain⟨v,rfl,r1⟩:=gu r rfl;cases d with
     |tup zs=>
      cases e;have r0:=r1;unfold Rep at r1;obtain⟨a,vs,rfl,na,h1,h2⟩:=r1;exact⟨a,vs,rfl,.inr ⟨.of (P.get h1),k.here P q S r0⟩⟩
     |_=>
      obtain⟨p,vs,rfl,r2,h⟩:=oq S r1 e;refine⟨p,vs,rfl,?_⟩;rcases h with h|h
      . exact .inl ⟨.inl (gq P h),fun l hl=>k.tup P q S r2 hl⟩
      . first
         |(cases e;done)
         |(exfalso
           unfold items? at e;simp only at e
           first
            |(split at e
              . rename_i z;obtain⟨a,ea,vs',h1,h2⟩:=S.f7 z;have e':=eL ea r1;cases e';rw[h]at h1;cases h1
              . cases e)
            |(unfold Rep at r1
              obtain⟨a,vs',e',_,h1,_⟩:=r1;cases e';rcases h1 with h1|⟨o,h1⟩<;>(rw[h]at h1;cases h1)))
   . exact q.elim
 . exact q.elim
def vF:e8:=fun ds st K=>match ds with| [d]=>(match items? st d with|some xs=>K (.lst xs) st|none=>False)|_=>False
theorem L9:bI X (.type "list") (fN vF):=bI.imp sf fun xs H Q ⟨α,ds,st,K,G,F',P,r,S,q,k⟩=>by
 unfold vF at q;split at q
 . split at q
   . rename_i ys e;obtain⟨v,rfl,r1⟩:=gu r rfl;obtain⟨p,vs,rfl,r2,h⟩:=oq S r1 e;exact⟨p,vs,rfl,BA P h,fun l hl=>k.lst P q S r2 hl⟩
   . exact q.elim
 . exact q.elim
def sX:e8:=fun ds st K=>match ds with| [d]=>(match items? st d with|some xs=>K (.ref st.length) (st++[.lst xs])|none=>False)|_=>False
theorem IU:bI X (.type "list") (fN sX):=bI.imp sf fun xs H Q ⟨α,ds,st,K,G,F',P,r,S,q,k⟩=>by
 unfold sX at q;split at q
 . split at q
   . rename_i ys e;obtain⟨v,rfl,r1⟩:=gu r rfl;obtain⟨p,vs,rfl,r2,h⟩:=oq S r1 e;exact⟨p,vs,rfl,BA P h,fun l hl=>k.new P q S r2 hl⟩
   . exact q.elim
 . exact q.elim
def mm:List D->Option (List Bool)
 | []=>some []
 | .bl b::r=>(mm r).map (b:: ·)
 |_::_=>none
def lO:List D->Option (List Int)
 | []=>some []
 | .int b::r=>(lO r).map (b:: ·)
 |_::_=>none
theorem uI{α:List (Option Addr)}{H:Hp}:∀ {ds:List D} {vs:List V} {bs:List Bool},aJ α H ds vs->mm ds=some bs->vs=bs.map V.bl
 | [],vs,bs,r,e=>by
   unfold aJ at r;cases e;exact r
 |d::ds,vs,bs,r,e=>by
  unfold aJ at r;obtain⟨v,q,rfl,h1,h2⟩:=r;cases d<;>try(cases e;done)
  unfold mm at e;cases z:mm ds with
  |none=>rw[z]at e;cases e
  |some cs=>
   rw[z]at e;cases e;unfold Rep at h1;rw[h1,uI h2 z];rfl
theorem rY{α:List (Option Addr)}{H:Hp}:∀ {ds:List D} {vs:List V} {bs:List Int},aJ α H ds vs->lO ds=some bs->vs=bs.map V.int
 | [],vs,bs,r,e=>by
   unfold aJ at r;cases e;exact r
 |d::ds,vs,bs,r,e=>by
  unfold aJ at r;obtain⟨v,q,rfl,h1,h2⟩:=r;cases d<;>try(cases e;done)
  unfold lO at e;cases z:lO ds with
  |none=>rw[z]at e;cases e
  |some cs=>
   rw[z]at e;cases e;unfold Rep at h1;rw[h1,rY h2 z];rfl
theorem uL:∀ {bs:List Bool} {us:List Value},Vals (bs.map V.bl) us->us=bs.map Value.bool
 | [],_,.nil=>rfl
 |b::bs,_,.cons h t=>by
  have h:_=Value.bool b:=h;rw[h,uL t];rfl
def xV:e8:=fun ds st K=>match ds with| [.lst xs]=>(match mm xs with|some bs=>K (.bl (bs.all id)) st|none=>False)|_=>False
theorem range_all{α:Type}(l:List α)(f:α->Bool)(tr:Nat->Bool)(h:∀i x,l[i]?=some x->tr i=f x):(List.range l.length).all tr=l.all f:=by
 induction l generalizing tr with
 |nil=>rfl
 |cons a l ih=>
  rw[List.length_cons,List.range_succ_eq_map,List.all_cons,List.all_cons,List.all_map,h 0 a rfl];congr 1;exact ih (tr∘Nat.succ) fun i x e=>h (i+1) x (by simpa using e)
theorem Nk(hc:X.calm=true):bI X (.builtin "all") (fN xV):=fun pins s σ H xs us Q I rs ⟨α,ds,st,K,G,F',P,r,S,q,k⟩=>by
 unfold xV at q;split at q
 . rename_i ys;split at q
   . rename_i bs e;obtain⟨v,rfl,r1⟩:=gu r rfl;unfold Rep at r1;obtain⟨a,vs,rfl,na,h1,h2⟩:=r1;obtain⟨u,rfl,ru⟩:=vals1 rs;cases ru;have hv:=uI h2 e;subst hv;obtain⟨z,aq,n,rv,hl,eo⟩:=Inv.v_ I (gq P h1);have hits:=uL rv;subst hits;have isL:s.heap.IsList a (bs.map Value.bool).toArray:=⟨_,eo,rfl,n,rfl⟩
     refine call_all_walk (wpAny_pyIter_list isL ?_);have hne:a≠s.heap.objs.size:=Nat.ne_of_lt (Heap.lt_size eo);refine⟨s.heap.objs.size,_,_,_,_,_,fun i=>(bs[i]?).getD true,rfl,Walks.list (A:=X.A.in1) (I.ok.hd hc) _ a hne (bs.map Value.bool).toArray,⟨⟨_,Heap.get?_push_size _ rfl,rfl,rfl⟩,⟨_,Heap.get?_push_of_some _ eo,rfl,n,rfl⟩⟩,?_,?_⟩
     . intro i w s' Q' E' hP hQ;rw[List.getElem?_toArray,List.getElem?_map]at hP;cases zb:bs[i]? with
       |none=>rw[zb]at hP;cases hP
       |some b=>
        rw[zb]at hP;cases hP;simp only[zb]at hQ;exact wpAny_truthy_bool hQ
     . intro h' tk hk
       have kp:∀b o,s.heap.get? b=some o->h'.get? b=some o:=fun b o q=>hk b o (by
        intro hb;have:b=s.heap.objs.size:=by simpa using hb
        exact absurd (Heap.lt_size q) (by rw[this];exact Nat.lt_irrefl _)) (Heap.get?_push_of_some _ q)
       have ea:(List.range (bs.map Value.bool).toArray.size).all (fun i=>(bs[i]?).getD true)=bs.all id:=by
        rw[List.size_toArray,List.length_map];exact range_all bs id _ fun i x e=>by rw[e];rfl
       rw[ea];exact⟨.bl (bs.all id),H,I.kept (t':=tk) kp,rfl,k.here P q S (by unfold Rep;rfl)⟩
   . exact q.elim
 . exact q.elim
def jg(st:ag):D->Option String
 | .aK=>some "NoneType"
 | .bl _=>some "bool"
 | .int _=>some "int"
 | .str _=>some "str"
 | .lst _=>some "list"
 | .tup _=>some "tuple"
 | .ref n=>(match st[n]? with|some (.lst _)=>some "list"|_=>none)
 | .ty _=>none
@[simp] theorem Pc(st:ag)(xs:List D):jg st (.lst xs)=some "list":=rfl
@[simp] theorem Pe(st:ag)(xs:List D):jg st (.tup xs)=some "tuple":=rfl
@[simp] theorem ty_int(st:ag)(i:Int):jg st (.int i)=some "int":=rfl
@[simp] theorem PD(st:ag)(i:Bool):jg st (.bl i)=some "bool":=rfl
@[simp] theorem ty_str(st:ag)(i:Str):jg st (.str i)=some "str":=rfl
@[simp] theorem Pn(st:ag):jg st .aK=some "NoneType":=rfl
def um(t c:String):Bool:=t==c||(t=="bool"&&c=="int")
theorem zN{α:List (Option Addr)}{H:Hp}{st:ag}{K:PySem.W.Frag}{d:D}{v:V}{t:String}(S:aP α st H)(r:Rep α H d v)(e:jg st d=some t):jm K H v (.type t):=by
 cases d<;>unfold jg at e<;>try(cases e;done)
 . unfold Rep at r;cases e;subst r;exact .aK
 . unfold Rep at r;cases e;subst r;exact .bl _
 . unfold Rep at r;cases e;subst r;exact .int _
 . unfold Rep at r;cases e;subst r;exact .str _
 . simp only at e;split at e
   . rename_i z;cases e;obtain⟨a,ea,vs',h1,h2⟩:=S.f7 z;have r':=eL ea r;subst r';exact .lst h1
   . cases e
 . cases e;unfold Rep at r;obtain⟨a,vs,rfl,na,h1,h2⟩:=r;rcases h1 with h1|⟨o,h1⟩
   . exact .lst h1
   . exact .et h1
 . cases e;unfold Rep at r;obtain⟨a,vs,rfl,na,h1,h2⟩:=r;exact .tup h1
theorem Bd{G F H:Hp}{K:PySem.W.Frag}(P:cx G F H){x:V}{t:Value}(h:jm K G x t):jm K H x t:=by
 cases h with
 |aK=>exact .aK
 |bl x=>exact .bl x
 |int x=>exact .int x
 |str x=>exact .str x
 |tM x=>exact .tM x
 |lst e=>exact .lst (P.get e)
 |et e=>exact .et (P.get e)
 |tup e=>exact .tup (P.get e)
 |dK e=>exact .dK (P.get e)
 |dT e=>exact .dT (P.get e)
 |ins e a b c d f=>exact .ins (P.get e) a b c d f
def sG:List String:=["NoneType","bool","int","str","list","tuple"]
def nA:List String:=["bool","int","str","list","tuple"]
theorem Bg(K:PySem.W.Frag){t c:String}(ht:t∈sG)(hc:c∈nA):PySem.W.kitOne K (.type t) (.type c)=some (um t c):=by
 simp only[sG,nA,List.mem_cons,List.not_mem_nil,or_false]at ht hc;rcases ht with rfl|rfl|rfl|rfl|rfl|rfl<;>rcases hc with rfl|rfl|rfl|rfl|rfl<;>with_unfolding_all rfl
theorem Ac{st:ag}{d:D}{t:String}(e:jg st d=some t):t∈sG:=by
 cases d<;>unfold jg at e<;>first
  |(cases e;done)
  |(cases e;decide)
  |(simp only at e;split at e<;>cases e;decide)
theorem kitx_of{pins:List (Addr×Obj)}{σ:L2.St}{H:Hp}{s:Shared}{x:V}{u:Value}{t:String}(I:Inv X pins σ H s)(rx:RelV x u)(ty:jm X.K H x (.type t)):
 ∃Hh:Heap->Prop,PySem.W.KitX X.K u (.type t) Hh/\Hh s.heap/\u≠ .builtin "__main__.__loader__#opaque":=by
 cases ty with
 |aK=>cases (show u=Value.none from rx);exact⟨_,PySem.W.kitx_none,True.intro,fun z=>nomatch z⟩
 |bl y=>cases (show u=Value.bool y from rx);exact⟨_,PySem.W.kitx_bool,True.intro,fun z=>nomatch z⟩
 |int i=>obtain⟨t,q⟩:=(show∃t,u=Value.int i t from rx);cases q;exact⟨_,PySem.W.kitx_int,True.intro,fun z=>nomatch z⟩
 |str y=>obtain⟨t,q⟩:=(show∃t,u=Value.str y t from rx);cases q;exact⟨_,PySem.W.kitx_str,True.intro,fun z=>nomatch z⟩
 |tM y=>obtain⟨t,q⟩:=(show∃t,u=Value.float y t from rx);cases q;exact⟨_,PySem.W.kitx_float,True.intro,fun z=>nomatch z⟩
 | @lst a xs ea=>
   cases (show u=Value.ref a from rx);obtain⟨_,_,n,_,h1⟩:=(show dz X.prog X.w H s.heap a (.lst xs)from I.aM a _ ea)
   exact⟨_,PySem.W.kitx_list,⟨_,h1,rfl⟩,fun z=>nomatch z⟩
 | @et a ob xs ea=>
   cases (show u=Value.ref a from rx);obtain⟨_,_,_,n,_,h1⟩:=(show dz X.prog X.w H s.heap a (.et ob (.lst xs))from I.aM a _ ea)
   exact⟨_,PySem.W.kitx_list,⟨_,h1,rfl⟩,fun z=>nomatch z⟩
 | @tup a xs ea=>
   cases (show u=Value.ref a from rx);obtain⟨_,_,_,p⟩:=(show dz X.prog X.w H s.heap a (.tup xs)from I.aM a _ ea)
   obtain⟨o,h1,h2,_⟩:=p;exact⟨_,PySem.W.kitx_tuple,⟨o,h1,h2⟩,fun z=>nomatch z⟩
 | @dK a kvs ea=>
   cases (show u=Value.ref a from rx);obtain⟨_,_,vs,_,p⟩:=(show dz X.prog X.w H s.heap a (.dK kvs)from I.aM a _ ea)
   obtain⟨o,es,ep,h1,h2,_⟩:=p;exact⟨_,PySem.W.kitx_dict,⟨o,h1,h2.1⟩,fun z=>nomatch z⟩
 | @dT a kvs ea=>
   cases (show u=Value.ref a from rx);obtain⟨_,_,xs,_,o,es,ep,h1,h2,_⟩:=(show dz X.prog X.w H s.heap a (.dT kvs)from I.aM a _ ea)
   exact⟨_,PySem.W.kitx_dict,⟨o,h1,h2.1⟩,fun z=>nomatch z⟩
def pL:List D->Option (List String)
 | []=>some []
 | .ty b::r=>(pL r).map (b:: ·)
 |_::_=>none
theorem y6{α:List (Option Addr)}{H:Hp}:∀ {ds:List D} {vs:List V} {bs:List String},aJ α H ds vs->pL ds=some bs->vs=bs.map V.ty
 | [],vs,bs,r,e=>by
   unfold aJ at r;cases e;exact r
 |d::ds,vs,bs,r,e=>by
  unfold aJ at r;obtain⟨v,q,rfl,h1,h2⟩:=r;cases d<;>try(cases e;done)
  unfold pL at e;cases z:pL ds with
  |none=>rw[z]at e;cases e
  |some cs=>
   rw[z]at e;cases e;unfold Rep at h1;rw[h1,y6 h2 z];rfl
theorem za:∀ {bs:List String} {us:List Value},Vals (bs.map V.ty) us->us=bs.map Value.type
 | [],_,.nil=>rfl
 |b::bs,_,.cons h t=>by
  have h:_=Value.type b:=h;rw[h,za t];rfl
theorem A9(K:PySem.W.Frag){t:String}(ht:t∈sG):∀cs:List String,(∀c∈cs,c∈nA)->PySem.W.kitAny K (.type t) (cs.map Value.type)=some (cs.any (um t))
 | [],_=>rfl
 |c::cs,h=>by
  show(match PySem.W.kitOne K (.type t) (.type c)with|some true=>some true|some false=>PySem.W.kitAny K (.type t) (cs.map Value.type)|none=>none)=_;rw[Bg K ht (h c List.mem_cons_self),List.any_cons];cases um t c with
  |true=>rfl
  |false=>exact A9 K ht cs fun c hc=>h c (List.mem_cons_of_mem _ hc)
def yd:e8:=fun ds st K=>match ds with
 | [d,.ty c]=>(match jg st d with|some t=>c∈nA/\K (.bl (um t c)) st|none=>False)
 | [d,.tup cs]=>(match jg st d,pL cs with|some t,some cl=>(∀c∈cl,c∈nA)/\K (.bl (cl.any (um t))) st|_,_=>False)
 |_=>False
theorem MZ:bI X (.builtin "isinstance") (fN yd):=fun pins s σ H xs us Q I rs ⟨α,ds,st,K,G,F',P,r,S,q,k⟩=>by
 unfold yd at q;split at q
 . rename_i d c;split at q
   . rename_i t e;obtain⟨v,v2,rfl,r1,r2⟩:=kD r rfl;obtain⟨u,u2,rfl,ru,ru2⟩:=vals2 rs;unfold Rep at r2;subst r2;cases (show u2=Value.type c from ru2);exact Ek I ru (Bd P (zN S r1 e)) (Bg _ (Ac e) q.1) fun tk=>⟨.bl (um t c),H,I.tok tk,rfl,k.here P q.2 S (by unfold Rep;rfl)⟩
   . exact q.elim
 . rename_i d cs;split at q
   . rename_i t cl e ec;obtain⟨v,v2,rfl,r1,r2⟩:=kD r rfl;obtain⟨u,u2,rfl,ru,ru2⟩:=vals2 rs;unfold Rep at r2;obtain⟨a,vs,rfl,na,h1,h2⟩:=r2;cases (show u2=Value.ref a from ru2);have hv:=y6 h2 ec;subst hv;obtain⟨Hh,Z,hh,hne⟩:=kitx_of I ru (Bd P (zN S r1 e));obtain⟨aq,r',pl,hz⟩:=I.tuple (iY.of (P.get h1));have hi:=za r';subst hi;obtain⟨⟨cls,dd,data,sl⟩,ho,hc,n,hd⟩:=pl;simp only at hc hd;subst hc hd;exact PySem.W.kia_tup Z I.gI hh ho (A9 _ (Ac e) cl q.1) hne fun tk=>⟨.bl _,H,I.tok tk,rfl,k.here P q.2 S (by unfold Rep;rfl)⟩
   . exact q.elim
 . exact q.elim
end
end L3
namespace L3
open PySem PySem.Spec L2 PySem.SeqAt
open PyProof.Rows hiding St
mutual
def cP:D->D->Bool
 | .aK,.aK=>true
 | .bl a,.bl b=>a==b
 | .bl a,.int b=>(if a then 1 else 0)==b
 | .int a,.bl b=>a==(if b then 1 else 0)
 | .int a,.int b=>a==b
 | .str a,.str b=>a==b
 | .lst xs,.lst ys=>jI xs ys
 | .tup xs,.tup ys=>jI xs ys
 |_,_=>false
def jI:List D->List D->Bool
 | [],[]=>true
 |x::xs,y::ys=>cP x y&&jI xs ys
 |_,_=>false
end
def pl:Nat->D->Bool
 |_,.aK=>true
 |_,.bl _=>true
 |_,.int _=>true
 |_,.str _=>true
 |n+1,.lst xs=>xs.all (pl n)
 |n+1,.tup xs=>xs.all (pl n)
 |_,_=>false
mutual
theorem p_:∀(n:Nat) (d:D),pl n d=true->cP d d=true
 |_,.aK,_=>rfl
 |_,.bl _,_=>by simp[cP]
 |_,.int _,_=>by simp[cP]
 |_,.str _,_=>by simp[cP]
 |n+1,.lst xs,h=>by unfold cP;exact rN n xs (by unfold pl at h;exact h)
 |n+1,.tup xs,h=>by unfold cP;exact rN n xs (by unfold pl at h;exact h)
 |0,.lst xs,h=>by cases h
 |0,.tup xs,h=>by cases h
 |_,.ref _,h=>by unfold pl at h;cases h
 |_,.ty _,h=>by unfold pl at h;cases h
theorem rN:∀(n:Nat) (xs:List D),xs.all (pl n)=true->jI xs xs=true
 |_,[],_=>by unfold jI;rfl
 |n,x::xs,h=>by
  rw[List.all_cons,Bool.and_eq_true]at h;unfold jI;rw[p_ n x h.1,rN n xs h.2];rfl
end
mutual
theorem Rep.inj{α:List (Option Addr)}{H:Hp}:∀ {d e:D} {v:V} (n:Nat),pl n d=true->pl n e=true->Rep α H d v->Rep α H e v->d=e
 | .aK,e,v,n,_,he,h1,h2=>by
   unfold Rep at h1;subst h1;cases e<;>first|(unfold pl at he;cases he;done)|(unfold Rep at h2;cases h2;rfl)|(unfold Rep at h2;cases h2;done)|(unfold Rep at h2;obtain⟨_,_,h2,_⟩:=h2;cases h2)|rfl|(cases h2;done)|(obtain⟨_,_,h2,_⟩:=h2;cases h2)|(obtain⟨_,_,h2⟩:=h2;cases h2)
 | .bl b,e,v,n,_,he,h1,h2=>by
   unfold Rep at h1;subst h1;cases e<;>first|(unfold pl at he;cases he;done)|(unfold Rep at h2;cases h2;rfl)|(unfold Rep at h2;cases h2;done)|(unfold Rep at h2;obtain⟨_,_,h2,_⟩:=h2;cases h2)|(cases h2;rfl)|(cases h2;done)|(obtain⟨_,_,h2,_⟩:=h2;cases h2)|(obtain⟨_,_,h2⟩:=h2;cases h2)
 | .int b,e,v,n,_,he,h1,h2=>by
   unfold Rep at h1;subst h1;cases e<;>first|(unfold pl at he;cases he;done)|(unfold Rep at h2;cases h2;rfl)|(unfold Rep at h2;cases h2;done)|(unfold Rep at h2;obtain⟨_,_,h2,_⟩:=h2;cases h2)|(cases h2;rfl)|(cases h2;done)|(obtain⟨_,_,h2,_⟩:=h2;cases h2)|(obtain⟨_,_,h2⟩:=h2;cases h2)
 | .str b,e,v,n,_,he,h1,h2=>by
   unfold Rep at h1;subst h1;cases e<;>first|(unfold pl at he;cases he;done)|(unfold Rep at h2;cases h2;rfl)|(unfold Rep at h2;cases h2;done)|(unfold Rep at h2;obtain⟨_,_,h2,_⟩:=h2;cases h2)|(cases h2;rfl)|(cases h2;done)|(obtain⟨_,_,h2,_⟩:=h2;cases h2)|(obtain⟨_,_,h2⟩:=h2;cases h2)
 | .ty b,e,v,n,hd,he,h1,h2=>by unfold pl at hd;cases hd
 | .ref b,e,v,n,hd,he,h1,h2=>by unfold pl at hd;cases hd
 | .lst xs,e,v,0,hd,he,h1,h2=>by cases hd
 | .tup xs,e,v,0,hd,he,h1,h2=>by cases hd
 | .lst xs,e,v,n+1,hd,he,h1,h2=>by
   unfold Rep at h1;obtain⟨a,vs,rfl,na,ha,ra⟩:=h1;cases e<;>unfold Rep at h2<;>try(cases h2;done)
   . unfold pl at he;cases he
   . obtain⟨a',vs',e',na',ha',ra'⟩:=h2;cases e'
     have:vs=vs':=by
      rcases ha with ha|⟨o,ha⟩<;>rcases ha' with ha'|⟨o',ha'⟩<;>(rw[ha]at ha';first|(cases ha';rfl)|(cases ha';done))
     subst this;rw[aJ.inj n (by unfold pl at hd;exact hd) (by unfold pl at he;exact he) ra ra']
   . obtain⟨a',vs',e',na',ha',ra'⟩:=h2;cases e';rcases ha with ha|⟨o,ha⟩<;>(rw[ha]at ha';cases ha')
 | .tup xs,e,v,n+1,hd,he,h1,h2=>by
   unfold Rep at h1;obtain⟨a,vs,rfl,na,ha,ra⟩:=h1;cases e<;>unfold Rep at h2<;>try(cases h2;done)
   . unfold pl at he;cases he
   . obtain⟨a',vs',e',na',ha',ra'⟩:=h2;cases e';rcases ha' with ha'|⟨o,ha'⟩<;>(rw[ha]at ha';cases ha')
   . obtain⟨a',vs',e',na',ha',ra'⟩:=h2;cases e';rw[ha]at ha';cases ha';rw[aJ.inj n (by unfold pl at hd;exact hd) (by unfold pl at he;exact he) ra ra']
theorem aJ.inj{α:List (Option Addr)}{H:Hp}:∀ {ds es:List D} {vs:List V} (n:Nat),ds.all (pl n)=true->es.all (pl n)=true->aJ α H ds vs->aJ α H es vs->ds=es
 | [],es,vs,n,_,_,h1,h2=>by
   unfold aJ at h1;subst h1;cases es with
   |nil=>rfl
   |cons e es=>unfold aJ at h2;obtain⟨_,_,h,_⟩:=h2;cases h
 |d::ds,es,vs,n,hd,he,h1,h2=>by
  unfold aJ at h1;obtain⟨v,r,rfl,r1,r2⟩:=h1;cases es with
  |nil=>unfold aJ at h2;cases h2
  |cons e es=>
   unfold aJ at h2;obtain⟨v',r',h,q1,q2⟩:=h2;cases h;rw[List.all_cons,Bool.and_eq_true]at hd he;rw[Rep.inj n hd.1 he.1 r1 q1,aJ.inj n hd.2 he.2 r2 q2]
end
theorem nJ:∀ {xs ys:List D},xs.length≠ys.length->jI xs ys=false
 | [],[],h=>absurd rfl h
 | [],_::_,_=>by unfold jI;rfl
 |_::_,[],_=>by unfold jI;rfl
 |x::xs,y::ys,h=>by
  unfold jI;rw[nJ (by simpa using h),Bool.and_false]
theorem oa:∀ {xs ys:List D},xs.length=ys.length->jI xs ys=(List.range xs.length).all fun j=>cP (xs.getD j .aK) (ys.getD j .aK)
 | [],[],_=>by unfold jI;rfl
 | [],_::_,h=>by cases h
 |_::_,[],h=>by cases h
 |x::xs,y::ys,h=>by
  unfold jI;rw[List.length_cons,List.range_succ_eq_map,List.all_cons,List.all_map,oa (by simpa using h)];rfl
section
variable {X:Cx}{pins:List (Addr×Obj)}{σ:L2.St}{H:Hp}{s:Shared}{α:List (Option Addr)}
theorem jR{xs:List D}{vs:List V}{aq:List Value}(r:aJ α H xs vs)(v:Vals vs aq)(j:Nat)(hj:j<aq.length):∃x,xs[j]?=some (xs.getD j .aK)/\Rep α H (xs.getD j .aK) x/\RelV x aq[j]:=by
 have h1:=r.length;have h2:=v.length;have hx:j<xs.length:=by omega
 have e:xs[j]?=some (xs.getD j .aK):=by rw[List.getElem?_eq_getElem hx,List.getD_eq_getElem?_getD,List.getElem?_eq_getElem hx];rfl
 obtain⟨x,q,rr⟩:=r.get e;obtain⟨u,q2,rv⟩:=v.get q;rw[List.getElem?_eq_getElem hj]at q2;cases q2;exact⟨x,e,rr,rv⟩
theorem iW{xs:List D}{n:Nat}(h:xs.all (pl n)=true)(j:Nat):pl n (xs.getD j .aK)=true:=by
 rw[List.getD_eq_getElem?_getD];cases e:xs[j]? with
 |none=>cases n<;>rfl
 |some d=>exact List.all_eq_true.mp h d (List.mem_of_getElem? e)
def xm:D->Bool
 | .aK=>true
 | .bl _=>true
 | .int _=>true
 | .str _=>true
 |_=>false
theorem AI{A:Around}{d e:D}{x y:V}{u v:Value}(hd:xm d=true)(he:xm e=true)(rd:Rep α H d x)(re:Rep α H e y)(rx:RelV x u)(ry:RelV y v):RcAt A s u v (cP d e)/\EqAt A s u v (cP d e):=by
 cases d<;>cases e<;>try(first|(cases hd;done)|(cases he;done))
 all_goals(unfold Rep at rd re;subst rd re)
 all_goals(first|(obtain⟨t,rfl⟩:=rx;obtain⟨t',rfl⟩:=ry)|(obtain⟨t,rfl⟩:=rx;cases ry)|(cases rx;obtain⟨t,rfl⟩:=ry)|(cases rx;cases ry))
 all_goals unfold cP
 . exact⟨RcAt.none_none,EqAt.same _⟩
 . exact⟨RcAt.none_bool _,EqAt.none_bool _⟩
 . exact⟨RcAt.none_int _ _,EqAt.none_int _ _⟩
 . exact⟨RcAt.none_str _ _,EqAt.none_str _ _⟩
 . exact⟨RcAt.bool_none _,EqAt.bool_none _⟩
 . exact⟨RcAt.bool_bool _ _,EqAt.bool_bool _ _⟩
 . exact⟨RcAt.bool_int _ _ _,EqAt.bool_int _ _ _⟩
 . exact⟨RcAt.bool_str _ _ _,EqAt.bool_str _ _ _⟩
 . exact⟨RcAt.int_none _ _,EqAt.int_none _ _⟩
 . exact⟨RcAt.int_bool _ _ _,EqAt.int_bool _ _ _⟩
 . exact⟨RcAt.int_int _ _ _ _,EqAt.int_int _ _ _ _⟩
 . exact⟨RcAt.int_str _ _ _ _,EqAt.int_str _ _ _ _⟩
 . exact⟨RcAt.str_none _ _,EqAt.str_none _ _⟩
 . exact⟨RcAt.str_bool _ _ _,EqAt.str_bool _ _ _⟩
 . exact⟨RcAt.str_int _ _ _ _,EqAt.str_int _ _ _ _⟩
 . exact⟨RcAt.str_str _ _ _ _,EqAt.str_str _ _ _ _⟩
theorem lst_is(I:Inv X pins σ H s){xs:List D}{x:V}{u:Value}(r:Rep α H (.lst xs) x)(rx:RelV x u):∃a vs aq,u= .ref a/\aJ α H xs vs/\Vals vs aq/\s.heap.IsList a aq.toArray:=by
 unfold Rep at r;obtain⟨a,vs,rfl,na,ha,ra⟩:=r;cases rx;obtain⟨z,aq,n,rv,hl,eo⟩:=Inv.v_ I ha;exact⟨a,vs,aq,rfl,ra,rv,⟨_,eo,rfl,n,rfl⟩⟩
theorem tup_is(I:Inv X pins σ H s){xs:List D}{x:V}{u:Value}(r:Rep α H (.tup xs) x)(rx:RelV x u):∃a vs aq,u= .ref a/\aJ α H xs vs/\Vals vs aq/\s.heap.IsTuple a aq.toArray:=by
 unfold Rep at r;obtain⟨a,vs,rfl,na,ha,ra⟩:=r;cases rx;obtain⟨aq,r',p,hz⟩:=I.tuple (iY.of ha);exact⟨a,vs,aq,rfl,ra,r',p⟩
theorem wO(I:Inv X pins σ H s){A:Around}{xs:List D}{e:D}{x y:V}{u v:Value}(he:xm e=true)(rd:Rep α H (.lst xs) x)(re:Rep α H e y)(rx:RelV x u)(ry:RelV y v)(hu:A.units<cLine):
 (RcAt A s u v (cP (.lst xs) e)/\EqAt A s u v (cP (.lst xs) e))/\RcAt A s v u (cP e (.lst xs))/\EqAt A s v u (cP e (.lst xs)):=by
 obtain⟨a,vs,aq,rfl,_,_,hl⟩:=lst_is I rd rx;cases e<;>try(cases he;done)
 all_goals(unfold Rep at re;subst re)
 all_goals(first|(obtain⟨t,rfl⟩:=ry)|(cases ry))
 all_goals unfold cP
 . exact⟨⟨RcAt.list_none hl hu,EqAt.list_none hl hu⟩,RcAt.none_list hl hu,EqAt.none_list hl hu⟩
 . exact⟨⟨RcAt.list_bool _ hl hu,EqAt.list_bool _ hl hu⟩,RcAt.bool_list _ hl hu,EqAt.bool_list _ hl hu⟩
 . exact⟨⟨RcAt.list_int _ _ hl hu,EqAt.list_int _ _ hl hu⟩,RcAt.int_list _ _ hl hu,EqAt.int_list _ _ hl hu⟩
 . exact⟨⟨RcAt.list_str _ _ hl hu,EqAt.list_str _ _ hl hu⟩,RcAt.str_list _ _ hl hu,EqAt.str_list _ _ hl hu⟩
theorem xB(I:Inv X pins σ H s){A:Around}{xs:List D}{e:D}{x y:V}{u v:Value}(he:xm e=true)(rd:Rep α H (.tup xs) x)(re:Rep α H e y)(rx:RelV x u)(ry:RelV y v)(hu:A.units<cLine):
 (RcAt A s u v (cP (.tup xs) e)/\EqAt A s u v (cP (.tup xs) e))/\RcAt A s v u (cP e (.tup xs))/\EqAt A s v u (cP e (.tup xs)):=by
 obtain⟨a,vs,aq,rfl,_,_,hl⟩:=tup_is I rd rx;cases e<;>try(cases he;done)
 all_goals(unfold Rep at re;subst re)
 all_goals(first|(obtain⟨t,rfl⟩:=ry)|(cases ry))
 all_goals unfold cP
 . exact⟨⟨RcAt.tuple_none hl hu,EqAt.tuple_none hl hu⟩,RcAt.none_tuple hl hu,EqAt.none_tuple hl hu⟩
 . exact⟨⟨RcAt.tuple_bool _ hl hu,EqAt.tuple_bool _ hl hu⟩,RcAt.bool_tuple _ hl hu,EqAt.bool_tuple _ hl hu⟩
 . exact⟨⟨RcAt.tuple_int _ _ hl hu,EqAt.tuple_int _ _ hl hu⟩,RcAt.int_tuple _ _ hl hu,EqAt.int_tuple _ _ hl hu⟩
 . exact⟨⟨RcAt.tuple_str _ _ hl hu,EqAt.tuple_str _ _ hl hu⟩,RcAt.str_tuple _ _ hl hu,EqAt.str_tuple _ _ hl hu⟩
theorem Bf{A:Around}{n:Nat}{d e:D}{x y:V}{a b:Addr}(hd:pl n d=true)(he:pl n e=true)(rd:Rep α H d x)(re:Rep α H e y)(rx:RelV x (.ref a))(ry:RelV y (.ref b))(h:RcAt A s (.ref a) (.ref b) (cP d e)):
 RcAt A s (.ref a) (.ref b) (cP d e)/\EqAt A s (.ref a) (.ref b) (cP d e):=by
 refine⟨h,?_⟩;by_cases hab:a=b
 . subst hab;have hx:x=y:=RelV.inj rx ry;subst hx;have:=Rep.inj n hd he rd re;subst this;rw[p_ n d hd];exact EqAt.same _
 . exact EqAt.of_refs hab h
theorem Cc(I:Inv X pins σ H s):∀(n:Nat) (A:Around) (d e:D) (x y:V) (u v:Value),pl n d=true->pl n e=true->Rep α H d x->Rep α H e y->RelV x u->RelV y v->A.units+n<cLine->
 RcAt A s u v (cP d e)/\EqAt A s u v (cP d e):=by
 intro n;induction n with
 |zero=>
  intro A d e x y u v hd he rd re rx ry hu;refine AI ?_ ?_ rd re rx ry
  . cases d<;>first|rfl|(cases hd)
  . cases e<;>first|rfl|(cases he)
 |succ n ih=>
  intro A d e x y u v hd he rd re rx ry hu;have hu0:A.units<cLine:=by omega
  have hin:A.in1.units+n<cLine:=by rw[Around.in1_units];omega
  cases d<;>try(cases hd;done)
  case lst xs=>
   cases e<;>try(cases he;done)
   case lst ys=>
    have rd0:=rd;have re0:=re;have rx0:=rx;have ry0:=ry;obtain⟨a,vs,aq,rfl,r1,v1,l1⟩:=lst_is I rd rx;obtain⟨b,ws,jts,rfl,r2,v2,l2⟩:=lst_is I re ry;have e1:=r1.length;have e2:=v1.length;have e3:=r2.length;have e4:=v2.length;refine Bf hd he rd0 re0 rx0 ry0 ?_;unfold cP;by_cases hlen:xs.length=ys.length
    . rw[oa hlen];have hsz:aq.toArray.size=jts.toArray.size:=by simp only[List.size_toArray];omega
      have hx:xs.length=aq.toArray.size:=by simp only[List.size_toArray];omega
      rw[hx];refine RcAt.lists l1 l2 hsz hu0 fun j h1 h2=>?_;have h1':j<aq.length:=by simpa using h1
      have h2':j<jts.length:=by simpa using h2
      obtain⟨p,_,q1,q2⟩:=jR r1 v1 j h1';obtain⟨p',_,q1',q2'⟩:=jR r2 v2 j h2';exact(ih A.in1 _ _ p p' _ _ (iW (by unfold pl at hd;exact hd) j) (iW (by unfold pl at he;exact he) j) q1 q1' (by simpa using q2) (by simpa using q2') hin).2
    . rw[nJ hlen];exact RcAt.lists_lengths l1 l2 (by simp only[List.size_toArray,bne_iff_ne,ne_eq];omega) hu0
   case tup ys=>
    obtain⟨a,vs,aq,rfl,r1,v1,l1⟩:=lst_is I rd rx;obtain⟨b,ws,jts,rfl,r2,v2,l2⟩:=tup_is I re ry;unfold cP;exact⟨RcAt.list_tuple l1 l2 hu0,EqAt.list_tuple l1 l2 hu0⟩
   all_goals exact(wO I rfl rd re rx ry hu0).1
  case tup xs=>
   cases e<;>try(cases he;done)
   case tup ys=>
    have rd0:=rd;have re0:=re;have rx0:=rx;have ry0:=ry;obtain⟨a,vs,aq,rfl,r1,v1,l1⟩:=tup_is I rd rx;obtain⟨b,ws,jts,rfl,r2,v2,l2⟩:=tup_is I re ry;have e1:=r1.length;have e2:=v1.length;have e3:=r2.length;have e4:=v2.length;refine Bf hd he rd0 re0 rx0 ry0 ?_;unfold cP
    have key:=RcAt.tuples (e:=fun j=>cP (xs.getD j .aK) (ys.getD j .aK)) l1 l2 hu0 fun j h1 h2=>by
     have h1':j<aq.length:=by simpa using h1
     have h2':j<jts.length:=by simpa using h2
     obtain⟨p,_,q1,q2⟩:=jR r1 v1 j h1';obtain⟨p',_,q1',q2'⟩:=jR r2 v2 j h2';exact(ih A.in1 _ _ p p' _ _ (iW (by unfold pl at hd;exact hd) j) (iW (by unfold pl at he;exact he) j) q1 q1' (by simpa using q2) (by simpa using q2') hin).2
    by_cases hlen:xs.length=ys.length
    . rw[oa hlen];have hsz:aq.toArray.size=jts.toArray.size:=by simp only[List.size_toArray];omega
      have hx:xs.length=aq.toArray.size:=by simp only[List.size_toArray];omega
      rw[hsz,Nat.min_self,beq_self_eq_true,Bool.and_true,<-hsz,<-hx]at key;exact key
    . rw[nJ hlen];have hne:(aq.toArray.size==jts.toArray.size)=false:=by simp only[List.size_toArray,beq_eq_false_iff_ne,ne_eq];omega
      rw[hne,Bool.and_false]at key;exact key
   case lst ys=>
    obtain⟨a,vs,aq,rfl,r1,v1,l1⟩:=tup_is I rd rx;obtain⟨b,ws,jts,rfl,r2,v2,l2⟩:=lst_is I re ry;unfold cP;exact⟨RcAt.tuple_list l1 l2 hu0,EqAt.tuple_list l1 l2 hu0⟩
   all_goals exact(xB I rfl rd re rx ry hu0).1
  all_goals
   cases e<;>try(cases he;done)
   case lst ys=>exact(wO I rfl re rd ry rx hu0).2
   case tup ys=>exact(xB I rfl re rd ry rx hu0).2
   all_goals exact AI rfl rfl rd re rx ry
def Ku:dw:=fun x y st K=>pl 40 x=true/\pl 40 y=true/\K (.bl (cP x y)) st
theorem Ot{k:Nat}(hr:cT k X.A):cw X (compareOp .Eq) (LR Ku):=fun pins s σ H x y v u Q I rx ry ⟨α,d,e,st,K,G,F',P,r1,r2,S,q,k⟩=>by
 have hu:=hr.units;exact(Cc I 40 X.A d e x y v u q.1 q.2.1 (r1.mono P.same) (r2.mono P.same) rx ry (by omega)).1 _ _ _ _ ⟨.bl (cP d e),H,I,rfl,k.here P q.2.2 S (by unfold Rep;rfl)⟩
def Lv:dw:=fun x y st K=>match x,y with
 | .int i,.int j=>K (.bl (!decide (i=j))) st
 | .bl i,.bl j=>K (.bl (!decide (i=j))) st
 | .str i,.str j=>K (.bl (!decide (i=j))) st
 |_,_=>False
theorem OY:cw X (compareOp .NotEq) (LR Lv):=cw.imp Nm fun x y H Q ⟨α,d,e,st,K,G,F',P,r1,r2,S,q,k⟩=>by
 cases d<;>cases e<;>try exact q.elim
 all_goals(unfold Rep at r1 r2;subst r1 r2)
 . exact⟨rfl,k.here P q S (by unfold Rep;congr 2;exact decide_eq_decide.mpr ⟨fun h=>by cases h;rfl,fun h=>by rw[h]⟩)⟩
 . exact⟨rfl,k.here P q S (by unfold Rep;congr 2;exact decide_eq_decide.mpr ⟨fun h=>by cases h;rfl,fun h=>by rw[h]⟩)⟩
 . exact⟨rfl,k.here P q S (by unfold Rep;congr 2;exact decide_eq_decide.mpr ⟨fun h=>by cases h;rfl,fun h=>by rw[h]⟩)⟩
end
end L3
namespace L3
open PySem PySem.Spec L2
open PyProof.Rows hiding St
def LC(α:List (Option Addr))(G F:Hp)(K:bL->ag->Prop)(Q:L2.St->Hp->Prop):Prop:=∀σd' st',K σd' st'->∀α' G' H' σ',Step α G α' G'->cx G' F H'->dU α' G' σd' σ'->aP α' st' G'->Q σ' H'
structure x8(α:List (Option Addr))(G F:Hp)(DD:iC)(D:Ends):Prop where
 nx:LC α G F DD.nx D.nx
 rt:LK α G F DD.rt D.rt
 bk:LC α G F DD.bk D.bk
 ct:LC α G F DD.ct D.ct
inductive NP(t:DS)(D:Ends)(σ:L2.St)(H:Hp):Prop
 |mk (α:List (Option Addr)) (σd:bL) (st:ag) (DD:iC) (G F:Hp) (P:cx G F H) (R:dU α G σd σ) (S:aP α st G) (h:t DD σd st) (k:x8 α G F DD D):NP t D σ H
def LS(t:DS):TS:=NP t
theorem LC.at{α α1:List (Option Addr)}{G F G1:Hp}{K:bL->ag->Prop}{Q:L2.St->Hp->Prop}(h:LC α G F K Q)(s:Step α G α1 G1):LC α1 G1 F K Q:=fun d st' k α' G' H' v s' P R S=>h d st' k α' G' H' v (s.trans s') P R S
theorem LC.here{α:List (Option Addr)}{G F H:Hp}{K:bL->ag->Prop}{Q:L2.St->Hp->Prop}(h:LC α G F K Q)(P:cx G F H){σd:bL}{st:ag}{σ:L2.St}(k:K σd st)(R:dU α G σd σ)(S:aP α st G):Q σ H:=h σd st k α G H σ Step.refl P R S
theorem x8.at{α α1:List (Option Addr)}{G F G1:Hp}{DD:iC}{D:Ends}(h:x8 α G F DD D)(s:Step α G α1 G1):x8 α1 G1 F DD D:=⟨h.nx.at s,h.rt.at s,h.bk.at s,h.ct.at s⟩
section
variable {X:Cx}{a b c e o i:Expr}{es:List Expr}{ta tb tc te:DE}{pos:Pos}{st:Stmt}{sts:List Stmt}{t u:DS}
theorem PS.imp{t t':TS}(h:PS X st t)(f:∀D σ H,t' D σ H->t D σ H):PS X st t':=fun pins s σ H D I q=>h pins s σ H D I (f D σ H q)
theorem gJ.imp{t t':TS}(h:gJ X sts t)(f:∀D σ H,t' D σ H->t D σ H):gJ X sts t':=fun pins s σ H D I q=>h pins s σ H D I (f D σ H q)
def fv:DS:=fun D σ st=>D.nx σ st
def aE(t u:DS):DS:=fun D σ st=>t {D with nx:=u D} σ st
theorem Ie:gJ X [] (LS fv):=gJ.imp Ij fun D σ H ⟨α,σd,st,DD,G,F,P,R,S,t,k⟩=>k.nx.here P t R S
theorem Ip(h:PS X st (LS t)):gJ X [st] (LS t):=HU h
theorem Fe(h:PS X st (LS t))(h2:gJ X sts (LS u)):gJ X (st::sts) (LS (aE t u)):=gJ.imp (ET h h2) fun D σ H ⟨α,σd,st,DD,G,F,P,R,S,t,k⟩=>
 ⟨α,σd,st,_,G,F,P,R,S,t,fun σd' st' q α' G' H' σ' s' P' R' S'=>⟨α',σd',st',DD,G',F,P',R',S',q,k.at s'⟩,k.rt,k.bk,k.ct⟩
def cm(te:DE):DS:=fun D σ st=>te σ st D.rt
theorem Ks(h:PE X e (LE te)):PS X (.Return (some e) pos) (LS (cm te)):=PS.imp (Lo h) fun D σ H ⟨α,σd,st,DD,G,F,P,R,S,t,k⟩=>⟨α,σd,st,_,G,F,P,R,S,t,k.rt⟩
def jv(te:DE):DS:=fun D σ st=>te σ st fun _ st1=>D.nx σ st1
theorem Ig(h:PE X e (LE te))(hs:swapsWith e none pos.line X.env=pure false:=by rfl):PS X (.Expr e pos) (LS (jv te)):=PS.imp (HC h hs) fun D σ H ⟨α,σd,st,DD,G,F,P,R,S,t,k⟩=>
 ⟨α,σd,st,_,G,F,P,R,S,t,fun d st1 q α1 G1 H1 v s1 P1 S1 r1=>(k.nx.at s1).here P1 q (R.step s1) S1⟩
def fR(c:DT)(t u:DS):DS:=fun D σ st=>c σ st fun b st1=>if b=true then t D σ st1 else u D σ st1
theorem MW{x y:List Stmt}{tc:DT}(hc:PT X c (LT tc))(ha:gJ X x (LS t))(hb:gJ X y (LS u)):PS X (.If c x y pos) (LS (fR tc t u)):=PS.imp (Nl hc ha hb) fun D σ H ⟨α,σd,st,DD,G,F,P,R,S,t,k⟩=>by
 refine⟨α,σd,st,_,G,F,P,R,S,t,fun b st1 q α1 G1 H1 s1 P1 S1=>?_⟩;cases b with
 |true=>exact⟨α1,σd,st1,DD,G1,F,P1,R.step s1,S1,q,k.at s1⟩
 |false=>exact⟨α1,σd,st1,DD,G1,F,P1,R.step s1,S1,q,k.at s1⟩
abbrev fo:=D->bL->Option bL
def bG(i:Nat):fo:=fun d σ=>some (σ.set i (some d))
def i4(i j:Nat):fo:=fun d σ=>match d with| .tup [x,y]=>some ((σ.set i (some x)).set j (some y))|_=>none
inductive N9(t:fo)(v:V)(σ:L2.St)(H:Hp)(Q:L2.St->Hp->Prop):Prop
 |mk (α:List (Option Addr)) (σd:bL) (st:ag) (d:D) (K:bL->ag->Prop) (G F:Hp) (P:cx G F H) (R:dU α G σd σ) (S:aP α st G) (r:Rep α G d v) (h:∃σ',t d σd=some σ'/\K σ' st) (k:LC α G F K Q):N9 t v σ H Q
def LG(t:fo):TG:=N9 t
theorem PG.imp{tg:Expr}{t t':TG}(h:PG X tg t)(f:∀v σ H Q,t' v σ H Q->t v σ H Q):PG X tg t':=fun pins s σ H v u Q I r q=>h pins s σ H v u Q I r (f v σ H Q q)
theorem Jg{tg:Expr}{i:Nat}(h:PG X tg (gp i)):PG X tg (LG (bG i)):=PG.imp h fun v σ H Q ⟨α,σd,st,d,K,G,F,P,R,S,r,⟨σ',e,q⟩,k⟩=>by
 cases e;exact k.here P q (R.set i r) S
theorem Ka{tg:Expr}{i j:Nat}(h:PG X tg (yF X.K 2 (lB (gp i) (lB (gp j) zt)))):PG X tg (LG (i4 i j)):=PG.imp h fun v σ H Q ⟨α,σd,st,d,K,G,F,P,R,S,r,⟨σ',e,q⟩,k⟩=>by
 unfold i4 at e;split at e
 . rename_i x y;cases e;unfold Rep at r;obtain⟨a,vs,rfl,na,h1,h2⟩:=r;obtain⟨v1,v2,rfl,r1,r2⟩:=kD h2 rfl;exact⟨a,_,rfl,.of (P.get h1),rfl,v1,_,rfl,v2,_,rfl,rfl,k.here P q ((R.set i r1).set j r2) S⟩
 . cases e
def a6(i:Nat)(te:DE):DS:=fun D σ st=>te σ st fun d st1=>D.nx (σ.set i (some d)) st1
theorem C9{i:Nat}(h:PS X st (mF (LE te) (gp i))):PS X st (LS (a6 i te)):=PS.imp h fun D σ H ⟨α,σd,st,DD,G,F,P,R,S,t,k⟩=>
 ⟨α,σd,st,_,G,F,P,R,S,t,fun d st1 q α1 G1 H1 v s1 P1 S1 r1=>(k.nx.at s1).here P1 q ((R.step s1).set i r1) S1⟩
def v9(tg:fo)(te:DE):DS:=fun D σ st=>te σ st fun d st1=>∃σ',tg d σ=some σ'/\D.nx σ' st1
theorem LY{tg:fo}(h:PS X st (mF (LE te) (LG tg))):PS X st (LS (v9 tg te)):=PS.imp h fun D σ H ⟨α,σd,st,DD,G,F,P,R,S,t,k⟩=>
 ⟨α,σd,st,_,G,F,P,R,S,t,fun d st1 q α1 G1 H1 v s1 P1 S1 r1=>⟨α1,σd,st1,d,DD.nx,G1,F,P1,R.step s1,S1,r1,q,k.nx.at s1⟩⟩
def Ck(i j:Nat)(ta:DA):DS:=fun D σ st=>ta σ st fun ds st1=>match ds with| [x,y]=>D.nx ((σ.set i (some x)).set j (some y)) st1|_=>False
theorem J_{i j:Nat}{ta:DA}(h:PS X st (KJ i j (LA ta))):PS X st (LS (Ck i j ta)):=PS.imp h fun D σ H ⟨α,σd,st,DD,G,F,P,R,S,t,k⟩=>by
 refine⟨α,σd,st,_,G,F,P,R,S,t,fun ds st1 q α1 G1 H1 vs s1 P1 S1 r1=>?_⟩;match ds,q,r1 with
 | [x,y],q,r1=>
   obtain⟨v1,v2,rfl,q1,q2⟩:=kD r1 rfl;exact⟨v1,v2,rfl,(k.nx.at s1).here P1 q (((R.step s1).set i q1).set j q2) S1⟩
def Cs(i:Nat)(r:dw)(te:DE):DS:=fun D σ st=>match σ[i]? with|some (some x)=>te σ st fun y st1=>r x y st1 fun z st2=>D.nx (σ.set i (some z)) st2|_=>False
def zZ(f:Int->Int->Int):dw:=fun x y st K=>match x,y with| .int i,.int j=>K (.int (f i j)) st|_,_=>False
theorem JL{i:Nat}{f:Int->Int->Int}(h:PS X st (LW i (LE te) (Li f))):PS X st (LS (Cs i (zZ f) te)):=PS.imp h fun D σ H ⟨α,σd,st,DD,G,F,P,R,S,t,k⟩=>by
 unfold Cs at t;split at t
 . rename_i x e;obtain⟨v,ev,rv⟩:=R.at' i x e;refine⟨v,ev,α,σd,st,_,G,F,P,R,S,t,fun y st1 q α1 G1 H1 w s1 P1 S1 r1=>?_⟩;cases x<;>cases y<;>try exact q.elim
   have rv':=rv;unfold Rep at rv r1;exact⟨_,_,rv,r1,(k.nx.at s1).here P1 q ((R.step s1).set i (by unfold Rep;rfl)) S1⟩
 . exact t.elim
def Cu(x y d:D)(st:ag)(K:ag->Prop):Prop:=match x,y with
 | .ref n,.int k=>(match st[n]? with
   |some (.lst xs)=>(match jl xs.length k with|some j=>K (st.set n (.lst (xs.set j d)))|none=>False)
   |_=>False)
 |_,_=>False
def JX(to ti te:DE):DS:=fun D σ st=>te σ st fun d st1=>to σ st1 fun x st2=>ti σ st2 fun y st3=>Cu x y d st3 fun st4=>D.nx σ st4
theorem Fm{to ti:DE}(h:PS X st (mF (LE te) (zQ (LE to) (LE ti) vd))):PS X st (LS (JX to ti te)):=PS.imp h fun D σ H ⟨α,σd,st,DD,G,F,P,R,S,t,k⟩=>by
 refine⟨α,σd,st,_,G,F,P,R,S,t,fun d st1 q α1 G1 H1 v s1 P1 S1 r1=>?_⟩;refine⟨α1,σd,st1,_,G1,F,P1,R.step s1,S1,q,fun x st2 q2 α2 G2 H2 v2 s2 P2 S2 r2=>?_⟩;refine⟨α2,σd,st2,_,G2,F,P2,(R.step s1).step s2,S2,q2,fun y st3 q3 α3 G3 H3 v3 s3 P3 S3 r3=>?_⟩;cases x<;>cases y<;>try exact q3.elim
 rename_i n kk;unfold Cu at q3;simp only at q3;split at q3
 . rename_i xs e;split at q3
   . rename_i j ej;obtain⟨p,ep,vs,hv,rv⟩:=S3.f7 e;have r2':=eL ep (r2.step s3);subst r2';unfold Rep at r3;have hm:some p∈α3:=List.mem_of_getElem? ep;have rd:=(r1.step s2).step s3;refine⟨p,vs,kk,j,rfl,r3,P3.get hv,by rw[<-rv.length];exact ej,?_⟩;refine(((k.nx.at s1).at s2).at s3) σd _ q3 α3 (upd G3 p (.lst (vs.set j v))) _ σ (Step.write hm) (P3.write hv) ((((R.step s1).step s2).step s3).step (Step.write hm)) ?_;exact S3.write ep ⟨vs.set j v,aX,(bo.mpr (vn rd j (bo.mp rv))).step (Step.write hm)⟩
   . exact q3.elim
 . exact q3.elim
def pC(c:DT)(tb:DS):DS:=fun D σ st=>∃W:Nat->bL->ag->Prop,(∃m,W m σ st)/\∀m σ st,W m σ st->
 c σ st fun b st1=>if b=true then tb {D with nx:=fun σ' st'=>∃m',m'<m/\W m' σ' st',ct:=fun σ' st'=>∃m',m'<m/\W m' σ' st',bk:=D.nx} σ st1 else D.nx σ st1
theorem FE{tc:DT}(h:PS X st (D3 (LT tc) (LS t))):PS X st (LS (pC tc t)):=PS.imp h fun D σ H ⟨α,σd,st,DD,G,F,P,R,S,⟨W,⟨m0,w0⟩,turn⟩,k⟩=>by
 refine⟨fun m σ' H'=>∃α' σd' st' G',Step α G α' G'/\cx G' F H'/\dU α' G' σd' σ'/\aP α' st' G'/\W m σd' st',⟨m0,α,σd,st,G,Step.refl,P,R,S,w0⟩,?_⟩;rintro m σ1 H1 ⟨α1,σd1,st1,G1,s1,P1,R1,S1,w1⟩;refine⟨α1,σd1,st1,_,G1,F,P1,R1,S1,turn m σd1 st1 w1,fun b st2 q α2 G2 H2 s2 P2 S2=>?_⟩;cases b with
 |false=>exact((k.nx.at s1).at s2).here P2 q (R1.step s2) S2
 |true=>
  refine⟨fun σ' H'=>∃m',m'<m/\∃α' σd' st' G',Step α G α' G'/\cx G' F H'/\dU α' G' σd' σ'/\aP α' st' G'/\W m' σd' st',fun σ' H' z=>z,?_⟩;refine⟨α2,σd1,st2,_,G2,F,P2,R1.step s2,S2,q,?_⟩;refine⟨?_,(k.rt.at s1).at s2,(k.nx.at s1).at s2,?_⟩
  . rintro σd3 st3 ⟨m',hm,w3⟩ α3 G3 H3 σ3 s3 P3 R3 S3;exact⟨m',hm,α3,σd3,st3,G3,(s1.trans s2).trans s3,P3,R3,S3,w3⟩
  . rintro σd3 st3 ⟨m',hm,w3⟩ α3 G3 H3 σ3 s3 P3 R3 S3;exact⟨m',hm,α3,σd3,st3,G3,(s1.trans s2).trans s3,P3,R3,S3,w3⟩
abbrev DI:=bL->ag->(List D->(ag->Prop)->ag->Prop)->Prop
structure uo(J:It)(α:List (Option Addr))(G:Hp)(ok:ag->Prop)(xs:List D):Prop where
 stop:∀(n:Nat) α' G' F' H' st',Step α G α' G'->cx G' F' H'->aP α' st' G'->ok st'->xs.length<=n->J.stop n H'
 go:∀(n:Nat) d α' G' F' H' st',Step α G α' G'->cx G' F' H'->aP α' st' G'->ok st'->xs[n]?=some d->J.go n H'
 oH:∀(n:Nat) d α' G' F' H' st' x H'',Step α G α' G'->cx G' F' H'->aP α' st' G'->ok st'->xs[n]?=some d->J.oH n H' x H''->∃G'',Step α' G' α' G''/\cx G'' F' H''/\aP α' st' G''/\Rep α' G'' d x
def LI(t:DI):TI:=fun σ H R=>∃α σd st K G F,cx G F H/\dU α G σd σ/\aP α st G/\t σd st K/\∀xs ok st1,K xs ok st1->∀J α1 G1 H1,Step α G α1 G1->cx G1 F H1->aP α1 st1 G1->uo J α1 G1 ok xs->R J H1
def wk(d:D)(st1:ag)(K:List D->(ag->Prop)->ag->Prop):Prop:=match d with
 | .lst xs=>K xs (fun _=>True) st1
 | .tup xs=>K xs (fun _=>True) st1
 | .ref n=>(match st1[n]? with|some (.lst xs)=>K xs (fun st'=>st'[n]?=some (.lst xs)) st1|_=>False)
 |_=>False
def NG(t:DE):DI:=fun σ st K=>t σ st fun d st1=>wk d st1 K
theorem AE{K:PySem.W.Frag}{a:Addr}{α:List (Option Addr)}{G:Hp}{ok:ag->Prop}{xs:List D}
 (h:∀α' G' st',Step α G α' G'->aP α' st' G'->ok st'->∃vs,Rd G' a (.lst vs)/\aJ α' G' xs vs):uo (JF K a) α G ok xs where
 stop:=fun n α' G' F' H' st' s P S o hn=>by
  obtain⟨vs,h1,h2⟩:=h α' G' st' s S o;exact⟨vs,.inl (gq P h1),by rw[<-h2.length];exact hn⟩
 go:=fun n d α' G' F' H' st' s P S o hn=>by
  obtain⟨vs,h1,h2⟩:=h α' G' st' s S o;obtain⟨v,e,_⟩:=h2.get hn;exact⟨vs,v,.inl (gq P h1),e⟩
 oH:=fun n d α' G' F' H' st' x H'' s P S o hn y=>by
  obtain⟨vs,h1,h2⟩:=h α' G' st' s S o;obtain⟨v,e,r⟩:=h2.get hn;obtain⟨rfl,y⟩:=y;have:=y vs (.inl (gq P h1));rw[e]at this;cases this;exact⟨G',Step.refl,P,S,r⟩
theorem Mm{K:PySem.W.Frag}{a:Addr}{α:List (Option Addr)}{G:Hp}{ok:ag->Prop}{xs:List D}
 (h:∀α' G' st',Step α G α' G'->aP α' st' G'->ok st'->∃vs,G' a=some (.tup vs)/\aJ α' G' xs vs):uo (LJ K a) α G ok xs where
 stop:=fun n α' G' F' H' st' s P S o hn=>by
  obtain⟨vs,h1,h2⟩:=h α' G' st' s S o;exact⟨vs,.of (P.get h1),by rw[<-h2.length];exact hn⟩
 go:=fun n d α' G' F' H' st' s P S o hn=>by
  obtain⟨vs,h1,h2⟩:=h α' G' st' s S o;obtain⟨v,e,_⟩:=h2.get hn;exact⟨vs,v,.of (P.get h1),e⟩
 oH:=fun n d α' G' F' H' st' x H'' s P S o hn y=>by
  obtain⟨vs,h1,h2⟩:=h α' G' st' s S o;obtain⟨v,e,r⟩:=h2.get hn;obtain⟨rfl,y⟩:=y;have:=y vs (.of (P.get h1));rw[e]at this;cases this;exact⟨G',Step.refl,P,S,r⟩
theorem FH{α α':List (Option Addr)}{G G':Hp}{a:Addr}{vs:List V}{xs:List D}(s:Step α G α' G')(na:some a∉α)(h1:Rd G a (.lst vs))(h2:aJ α G xs vs):Rd G' a (.lst vs)/\aJ α' G' xs vs:=by
 refine⟨?_,h2.step s⟩;rcases h1 with h|⟨o,h⟩
 . exact .inl (s.ext _ _ na h)
 . exact .inr ⟨o,s.ext _ _ na h⟩
theorem J5{l tg:Expr}{tl:DE}(hl:PE X l (LE tl)):PI X tg l (LI (NG tl)):=by
 intro pins s σ H R I h;obtain⟨α,σd,st,K,G,F,P,RS,S,t,k⟩:=h;refine cu (hl pins s σ H (fun x H1=>∃d α1 G1 st1,Step α G α1 G1/\cx G1 F H1/\aP α1 st1 G1/\Rep α1 G1 d x/\wk d st1 K) I ⟨α,σd,st,_,G,F,P,RS,S,t,fun d st1 q α1 G1 H1 v s1 P1 S1 r1=>⟨d,α1,G1,st1,s1,P1,S1,r1,q⟩⟩) fun v s1 ⟨x,H1,I1,rx,d,α1,G1,st1,s1',P1,S1,r1,q⟩=>?_;unfold wk at q
 have viaL:∀ {a:Addr} {vs:List V},x= .ref a->Rd H1 a (.lst vs)->R (JF X.K a) H1->wpAny (model X.prog X.w) X.A (pyIter v) (Gk X pins σ tg R) X.xe s1:=by
  intro a vs ex hr hR;subst ex;cases rx;obtain⟨aq,rv,p,hz⟩:=I1.list (.inl hr);refine wpAny_pyIter_list p.isList ?_;refine⟨s1.heap.objs.size,[s1.heap.objs.size],_,_,H1,rfl,I1.kept (t':=s1.toks) fun b o e=>Heap.get?_push_of_some _ e,Et a _,⟨_,Heap.get?_push_size _ rfl,rfl,rfl⟩,fun b hb=>?_,hR⟩;have e:b=s1.heap.objs.size:=by simpa using hb
  subst e;exact I1.t_ (Nat.le_refl _) (I1.aM.fresh (Nat.le_refl _))
 have viaT:∀ {a:Addr} {vs:List V},x= .ref a->H1 a=some (.tup vs)->R (LJ X.K a) H1->wpAny (model X.prog X.w) X.A (pyIter v) (Gk X pins σ tg R) X.xe s1:=by
  intro a vs ex hr hR;subst ex;cases rx;obtain⟨aq,rv,p,hz⟩:=I1.tuple (iY.of hr);refine wpAny_pyIter_tuple (show s1.heap.IsTuple a aq.toArray from p) ?_;refine⟨s1.heap.objs.size,[s1.heap.objs.size],_,_,H1,rfl,I1.kept (t':=s1.toks) fun b o e=>Heap.get?_push_of_some _ e,BF a _,⟨_,Heap.get?_push_size _ rfl,rfl,rfl⟩,fun b hb=>?_,hR⟩;have e:b=s1.heap.objs.size:=by simpa using hb
  subst e;exact I1.t_ (Nat.le_refl _) (I1.aM.fresh (Nat.le_refl _))
 cases d<;>try exact q.elim
 . rename_i n;simp only at q;split at q
   . rename_i xs e;obtain⟨a,ea,vs,h1,h2⟩:=S1.f7 e;have r1':=eL ea r1;subst r1';refine viaL rfl (gq P1 (.of h1)) (k _ _ st1 q _ α1 G1 H1 s1' P1 S1 (AE fun α' G' st' s S o=>?_));obtain⟨b,eb,ws,g1,g2⟩:=S.f7 o
     have hb:b=a:=by
      rcases s.pre _ _ ea with z|z<;>(rw[z]at eb;cases eb)
      rfl
     subst hb;exact⟨ws,.of g1,g2⟩
   . exact q.elim
 . unfold Rep at r1;obtain⟨a,vs,rfl,na,ha,ra⟩:=r1;exact viaL rfl (gq P1 ha) (k _ _ st1 q _ α1 G1 H1 s1' P1 S1 (AE fun α' G' st' s S o=>⟨vs,FH s na ha ra⟩))
 . unfold Rep at r1;obtain⟨a,vs,rfl,na,ha,ra⟩:=r1;exact viaT rfl (P1.get ha) (k _ _ st1 q _ α1 G1 H1 s1' P1 S1 (Mm fun α' G' st' s S o=>⟨vs,s.ext _ _ na ha,ra.step s⟩))
def dm(lo:Int)(n:Nat):List D:=(List.range n).map fun(k:Nat)=>D.int (lo+(k:Int))
theorem qm{lo:Int}{n k:Nat}:(dm lo n)[k]?=if k<n then some (.int (lo+(k:Int)))else none:=by
 unfold dm;rw[List.getElem?_map];by_cases h:k<n
 . rw[List.getElem?_range h,if_pos h];rfl
 . rw[List.getElem?_eq_none (by simpa using h),if_neg h];rfl
theorem cJ{lo:Int}{n:Nat}:(dm lo n).length=n:=by unfold dm;simp
theorem yo{α:List (Option Addr)}{G:Hp}{lo:Int}{n:Nat}:uo (wX lo n) α G (fun _=>True) (dm lo n) where
 stop:=fun m α' G' F' H' st' s P S o hn=>by rw[cJ]at hn;exact hn
 go:=fun m d α' G' F' H' st' s P S o hn=>by
  rw[qm]at hn;split at hn
  . assumption
  . cases hn
 oH:=fun m d α' G' F' H' st' x H'' s P S o hn y=>by
  obtain⟨rfl,rfl⟩:=y;rw[qm]at hn;split at hn
  . cases hn;exact⟨G',Step.refl,P,S,by unfold Rep;rfl⟩
  . cases hn
theorem PI.imp{tg iter:Expr}{t t':TI}(h:PI X tg iter t)(f:∀σ H R,t' σ H R->t σ H R):PI X tg iter t':=fun pins s σ H R I q=>h pins s σ H R I (f σ H R q)
def Gy(ds:List D)(st1:ag)(K:List D->(ag->Prop)->ag->Prop):Prop:=match ds with
 | [.int j]=>(-(2^62)<=j/\j<2^62)/\K (dm 0 j.toNat) (fun _=>True) st1
 |_=>False
def Gs(ds:List D)(st1:ag)(K:List D->(ag->Prop)->ag->Prop):Prop:=match ds with
 | [.int i,.int j]=>(-(2^62)<=i/\i<2^62/\ -(2^62)<=j/\j<2^62)/\K (dm i (j-i).toNat) (fun _=>True) st1
 |_=>False
def Iw(t:DA):DI:=fun σ st K=>t σ st fun ds st1=>Gy ds st1 K
def HE(t:DA):DI:=fun σ st K=>t σ st fun ds st1=>Gs ds st1 K
theorem De{tg iter:Expr}{t:DA}(h:PI X tg iter (Co (LA t))):PI X tg iter (LI (Iw t)):=PI.imp h fun σ H R ⟨α,σd,st,K,G,F,P,RS,S,t,k⟩=>by
 refine⟨α,σd,st,_,G,F,P,RS,S,t,fun ds st1 q α1 G1 H1 vs s1 P1 S1 r1=>?_⟩;match ds,q,r1 with
 | [.int j],q,r1=>
   obtain⟨v,rfl,r2⟩:=gu r1 rfl;unfold Rep at r2;subst r2;exact⟨j,rfl,q.1.1,q.1.2,k _ _ st1 q.2 _ α1 G1 H1 s1 P1 S1 yo⟩
theorem Du{tg iter:Expr}{t:DA}(h:PI X tg iter (Bu (LA t))):PI X tg iter (LI (HE t)):=PI.imp h fun σ H R ⟨α,σd,st,K,G,F,P,RS,S,t,k⟩=>by
 refine⟨α,σd,st,_,G,F,P,RS,S,t,fun ds st1 q α1 G1 H1 vs s1 P1 S1 r1=>?_⟩;match ds,q,r1 with
 | [.int i,.int j],q,r1=>
   obtain⟨v,u,rfl,r2,r3⟩:=kD r1 rfl;unfold Rep at r2 r3;subst r2 r3;exact⟨i,j,rfl,q.1,k _ _ st1 q.2 _ α1 G1 H1 s1 P1 S1 yo⟩
def iD(tg:fo)(body:DS)(ok:ag->Prop)(E:iC):List D->bL->ag->Prop
 | [],σ,st=>ok st/\E.nx σ st
 |x::xs,σ,st=>ok st/\∃σ1,tg x σ=some σ1/\body {E with nx:=iD tg body ok E xs,ct:=iD tg body ok E xs,bk:=E.nx} σ1 st
def iP(src:DI)(tg:fo)(body:DS):DS:=fun D σ st=>src σ st fun xs ok st1=>iD tg body ok D xs σ st1
theorem L8{src:DI}{tg:fo}(h:PS X st (Kg (LI src) (LG tg) (LS t))):PS X st (LS (iP src tg t)):=PS.imp h fun D σ H ⟨α,σd,st,DD,G,F,P,R,S,tt,k⟩=>by
 refine⟨α,σd,st,_,G,F,P,R,S,tt,fun xs ok st1 q J α1 G1 H1 s1 P1 S1 it=>?_⟩;refine⟨fun i m σ' H'=>∃α' σd' st' G',Step α1 G1 α' G'/\cx G' F H'/\dU α' G' σd' σ'/\aP α' st' G'/\iD tg t ok DD (xs.drop i) σd' st'/\m=xs.length-i,⟨xs.length,α1,σd,st1,G1,Step.refl,P1,R.step s1,S1,q,rfl⟩,?_⟩;rintro i m σ2 H2 ⟨α2,σd2,st2,G2,s2,P2,R2,S2,q2,rfl⟩;cases e:xs[i]? with
 |none=>
  have hl:xs.length<=i:=List.getElem?_eq_none_iff.mp e;rw[List.drop_eq_nil_of_le hl]at q2;unfold iD at q2;exact .inl ⟨it.stop i α2 G2 F H2 st2 s2 P2 S2 q2.1 hl,((k.nx.at s1).at s2).here P2 q2.2 R2 S2⟩
 |some d=>
  have hl:i<xs.length:=(List.getElem?_eq_some_iff.mp e).1
  have ed:xs.drop i=d::xs.drop (i+1):=by
   rw[List.drop_eq_getElem_cons hl];congr 1;rw[List.getElem?_eq_getElem hl]at e;exact Option.some.inj e
  rw[ed]at q2;unfold iD at q2;obtain⟨aM,σ3,e3,q3⟩:=q2;refine .inr ⟨it.go i d α2 G2 F H2 st2 s2 P2 S2 aM e,fun σ' H'=>∃α' σd' st' G',Step α1 G1 α' G'/\cx G' F H'/\dU α' G' σd' σ'/\aP α' st' G'/\iD tg t ok DD (xs.drop (i+1)) σd' st',?_,?_⟩
  . rintro σ' H' ⟨α',σd',st',G',z1,z2,z3,z4,z5⟩;exact⟨xs.length-(i+1),by omega,α',σd',st',G',z1,z2,z3,z4,z5,rfl⟩
  . intro x H' y;obtain⟨G3,s3,P3,S3,r3⟩:=it.oH i d α2 G2 F H2 st2 x H' s2 P2 S2 aM e y;refine⟨α2,σd2,st2,d,fun σ' st'=>σ'=σ3/\st'=st2,G3,F,P3,R2.step s3,S3,r3,⟨σ3,e3,rfl,rfl⟩,?_⟩;rintro σ' st' ⟨rfl,rfl⟩ α4 G4 H4 σ4 s4 P4 R4 S4;have s24:=(s2.trans s3).trans s4;refine⟨α4,σ',st',_,G4,F,P4,R4,S4,q3,?_,((k.rt.at s1).at s24),(k.nx.at s1).at s24,?_⟩
    . intro σd5 st5 q5 α5 G5 H5 σ5 s5 P5 R5 S5;exact⟨α5,σd5,st5,G5,s24.trans s5,P5,R5,S5,q5⟩
    . intro σd5 st5 q5 α5 G5 H5 σ5 s5 P5 R5 S5;exact⟨α5,σd5,st5,G5,s24.trans s5,P5,R5,S5,q5⟩
end
def gB(fr:List (Option Nat))(σ:bL):bL:=fr.map fun o=>o.bind fun j=>(σ[j]?).join
theorem dU.comp{α:List (Option Addr)}{G:Hp}{σd:bL}{σ:L2.St}{fr:List (Option Nat)}(h:dU α G σd σ):dU α G (gB fr σd) (σC fr σ):=by
 refine⟨by unfold gB σC;simp,fun i d e=>?_⟩;unfold gB at e;rw[List.getElem?_map]at e;cases q:fr[i]? with
 |none=>rw[q]at e;cases e
 |some o=>
  rw[q]at e;cases o with
  |none=>simp at e
  |some j=>
   simp only[Option.map_some,Option.some.injEq,Option.bind_some]at e
   have ej:σd[j]?=some (some d):=by
    cases r:σd[j]? with
    |none=>rw[r]at e;cases e
    |some u=>rw[r]at e;simp at e;rw[e]
   obtain⟨v,ev,rv⟩:=h.at' j d ej;refine⟨v,?_,rv⟩;unfold σC;rw[List.getElem?_map,q];simp[ev]
def dD(tg:fo)(c:DT)(te:DE)(ok:ag->Prop)(σc:bL):List D->List D->ag->(List D->ag->Prop)->Prop
 | [],acc,st,K=>ok st/\K acc st
 |x::xs,acc,st,K=>ok st/\∃σ2,tg x σc=some σ2/\c σ2 st fun b st1=>if b=true then te σ2 st1 fun y st2=>dD tg c te ok σc xs (acc++[y]) st2 K else dD tg c te ok σc xs acc st1 K
def c7(src:DI)(fr:List (Option Nat))(tg:fo)(c:DT)(te:DE):DE:=fun σ st K=>src σ st fun xs ok st1=>xs.length<=sizeLine/\dD tg c te ok (gB fr σ) xs [] st1 fun ys st2=>K (.lst ys) st2
def jt(src:DI)(fr:List (Option Nat))(tg:fo)(c:DT)(te:DE):DE:=fun σ st K=>src σ st fun xs ok st1=>xs.length<=sizeLine/\dD tg c te ok (gB fr σ) xs [] st1 fun ys st2=>K (.ref st2.length) (st2++[.lst ys])
def cz:DT:=fun _ st K=>K true st
def pq(fr:List (Option Nat))(tg:fo):Prop:=∀(σ:bL) (d:D) (σ2:bL),tg d (gB fr σ)=some σ2->σ2.length=(gB fr σ).length/\∀(i:Nat) (e:D),(gB fr σ)[i]?=some (some e)->σ2[i]?=some (some e)
theorem jZ{fr:List (Option Nat)}{σ:bL}{k:Nat}(h:fr[k]?=some none){e:D}(q:(gB fr σ)[k]?=some (some e)):False:=by
 unfold gB at q;rw[List.getElem?_map,h]at q;simp at q
theorem cq{fr:List (Option Nat)}{k:Nat}(h:fr[k]?=some none:=by rfl):pq fr (bG k):=fun σ d σ2 e=>by
 cases e;refine⟨List.length_set,fun i x q=>?_⟩;by_cases hi:i=k
 . subst hi;exact(jZ h q).elim
 . rw[List.getElem?_set_ne (Ne.symm hi)];exact q
theorem wI{fr:List (Option Nat)}{k j:Nat}(h:fr[k]?=some none:=by rfl)(h':fr[j]?=some none:=by rfl):pq fr (i4 k j):=fun σ d σ2 e=>by
 unfold i4 at e;split at e
 . cases e;refine⟨by rw[List.length_set,List.length_set],fun i x q=>?_⟩;by_cases hi:i=k
   . subst hi;exact(jZ h q).elim
   . by_cases hj:i=j
     . subst hj;exact(jZ h' q).elim
     . rw[List.getElem?_set_ne (Ne.symm hj),List.getElem?_set_ne (Ne.symm hi)];exact q
 . cases e
section
variable {X:Cx}
theorem Kz{c:Expr}{t:DT}(h:PT X c (LT t)):rO X [c] (LT t):=IQ h
theorem FC:rO X [] (LT cz):=fun pins s σ H Q I ⟨α,σd,st,K,G,F,P,R,S,t,k⟩=>HL pins s σ H Q I (k true st t α G H Step.refl P S)
theorem LE.comp{src:DI}{fr:List (Option Nat)}{tg:fo}{c:DT}{te:DE}(fit:pq fr tg){σ:L2.St}{H:Hp}{Q:VK}{α:List (Option Addr)}{σd:bL}{st:ag}{KE:List D->ag->Prop}{G F:Hp}(P:cx G F H)(R:dU α G σd σ)(S:aP α st G)
 (t:src σd st fun xs ok st1=>xs.length<=sizeLine/\dD tg c te ok (gB fr σd) xs [] st1 KE)
 (fin:∀ys st2 α2 G2 H2 l vs,KE ys st2->Step α G α2 G2->cx G2 (upd F l (.lst vs)) H2->F l=none->aP α2 st2 G2->aJ α2 G2 ys vs->Q (.ref l) H2):
 sD (LI src) fr (LG tg) (LT c) (LE te) σ H Q:=by
 refine⟨α,σd,st,_,G,F,P,R,S,t,fun xs ok st1 q J α1 G1 H1 s1 P1 S1 it l hl=>?_⟩;obtain⟨hsz,q⟩:=q;obtain⟨hG,hF⟩:=P1.none hl
 refine⟨fun i m σ' H'=>∃α' st' G' acc vs,Step α1 G1 α' G'/\cx G' (upd F l (.lst vs)) H'/\dU α' G' (gB fr σd) σ'/\aP α' st' G'/\aJ α' G' acc vs/\acc.length<=i/\i<=xs.length/\dD tg c te ok (gB fr σd) (xs.drop i) acc st' KE/\m=xs.length-i,
  ⟨xs.length,α1,st1,G1,[],[],Step.refl,P1.hide hl,(R.step s1).comp,S1,by unfold aJ;rfl,Nat.le_refl _,Nat.zero_le _,q,rfl⟩,?_⟩
 rintro i m σ2 H2 ⟨α2,st2,G2,acc,vs,s2,P2,R2,S2,ra,hacc,hi,q2,rfl⟩;cases e:xs[i]? with
 |none=>
  have hl2:xs.length<=i:=List.getElem?_eq_none_iff.mp e;rw[List.drop_eq_nil_of_le hl2]at q2;unfold dD at q2;exact .inl ⟨it.stop i α2 G2 _ H2 st2 s2 P2 S2 q2.1 hl2,fin acc st2 α2 G2 H2 l vs q2.2 (s1.trans s2) P2 hF S2 ra⟩
 |some d=>
  have hl2:i<xs.length:=(List.getElem?_eq_some_iff.mp e).1
  have ed:xs.drop i=d::xs.drop (i+1):=by
   rw[List.drop_eq_getElem_cons hl2];congr 1;rw[List.getElem?_eq_getElem hl2]at e;exact Option.some.inj e
  rw[ed]at q2;unfold dD at q2;obtain⟨aM,σ3,e3,q3⟩:=q2;refine .inr ⟨it.go i d α2 G2 _ H2 st2 s2 P2 S2 aM e,fun σ' H'=>∃α' st' G' acc vs,Step α1 G1 α' G'/\cx G' (upd F l (.lst vs)) H'/\dU α' G' (gB fr σd) σ'/\aP α' st' G'/\aJ α' G' acc vs/\acc.length<=i+1/\dD tg c te ok (gB fr σd) (xs.drop (i+1)) acc st' KE,?_,?_⟩
  . rintro σ' H' ⟨α',st',G',acc',vs',z1,z2,z3,z4,z5,z6,z7⟩;exact⟨xs.length-(i+1),by omega,α',st',G',acc',vs',z1,z2,z3,z4,z5,z6,hl2,z7,rfl⟩
  . intro x H' y;obtain⟨G3,s3,P3,S3,r3⟩:=it.oH i d α2 G2 _ H2 st2 x H' s2 P2 S2 aM e y;refine⟨α2,gB fr σd,st2,d,fun σ' st'=>σ'=σ3/\st'=st2,G3,_,P3,R2.step s3,S3,r3,⟨σ3,e3,rfl,rfl⟩,?_⟩;rintro σ' st' ⟨rfl,rfl⟩ α4 G4 H4 σ4 s4 P4 R4 S4;have s24:=(s2.trans s3).trans s4;have Rc:dU α4 G4 (gB fr σd) σ4:=⟨by rw[<-(fit σd d σ' e3).1];exact R4.len,fun j z hz=>R4.at' j z ((fit σd d σ' e3).2 j z hz)⟩
    refine⟨α4,σ',st',_,G4,_,P4,R4,S4,q3,fun b st5 q5 α5 G5 H5 s5 P5 S5=>?_⟩;cases b with
    |false=>exact⟨α5,st5,G5,acc,vs,s24.trans s5,P5,Rc.step s5,S5,((ra.step s3).step s4).step s5,by omega,q5⟩
    |true=>
     refine⟨α5,σ',st5,_,G5,_,P5,R4.step s5,S5,q5,fun z st6 q6 α6 G6 H6 v6 s6 P6 S6 r6=>?_⟩;have hr:=(((ra.step s3).step s4).step s5).step s6;refine⟨vs,(P6.frame aX).1,by rw[<-hr.length];omega,α6,st6,G6,acc++[z],vs++[v6],(s24.trans s5).trans s6,?_,(Rc.step s5).step s6,S6,bo.mpr (fS (bo.mp hr) (.cons r6 .nil)),by rw[List.length_append,List.length_singleton];omega,q6⟩;have:=P6.Ph (p:=l) (o':= .lst (vs++[v6])) aX;rw[Ji]at this;exact this
theorem Ki{scope:Scope}{Nc:List Str}{elt tg iter:Expr}{ifs:List Expr}{pos:Pos}{src:DI}{fr:List (Option Nat)}{dtg:fo}{c:DT}{te:DE}(S:bz X scope Nc fr)(hi:PI X tg iter (LI src))
 (hg:∀C s H ex,PG (fe X scope Nc C s H ex) tg (LG dtg)) (ht:∀C s H ex,rO (fe X scope Nc C s H ex) ifs (LT c)) (he:∀C s H ex,PE (fe X scope Nc C s H ex) elt (LE te)) (fit:pq fr dtg)
 (hx:X.xe=fun _ _=>False:=by rfl) (hc:X.calm=true:=by rfl) (hs:∀x,foldedSetIterable iter X.env x=pure x:=by intro _;rfl):PE X (.ListComp elt [⟨tg,iter,ifs,0⟩] scope pos) (LE (c7 src fr dtg c te)):=
 PE.imp (AU hx hc S hi hg ht he hs) fun σ H Q ⟨α,σd,st,K,G,F,P,R,S,t,k⟩=>LE.comp fit P R S t fun ys st2 α2 G2 H2 l vs q s2 P2 hl S2 r=>by
  have hg:G2 l=none:=(P2.frame aX).2;refine k _ st2 q α2 (upd G2 l (.lst vs)) H2 (.ref l) (s2.trans (Step.laid hg)) (P2.show hl) (S2.laid hg) ?_;unfold Rep;exact⟨l,vs,rfl,S2.kF hg,.of aX,r.step (Step.laid hg)⟩
theorem HH{scope:Scope}{Nc:List Str}{elt tg iter:Expr}{ifs:List Expr}{pos:Pos}{src:DI}{fr:List (Option Nat)}{dtg:fo}{c:DT}{te:DE}(S:bz X scope Nc fr)(hi:PI X tg iter (LI src))
 (hg:∀C s H ex,PG (fe X scope Nc C s H ex) tg (LG dtg)) (ht:∀C s H ex,rO (fe X scope Nc C s H ex) ifs (LT c)) (he:∀C s H ex,PE (fe X scope Nc C s H ex) elt (LE te)) (fit:pq fr dtg)
 (hx:X.xe=fun _ _=>False:=by rfl) (hc:X.calm=true:=by rfl) (hs:∀x,foldedSetIterable iter X.env x=pure x:=by intro _;rfl):PE X (.ListComp elt [⟨tg,iter,ifs,0⟩] scope pos) (LE (jt src fr dtg c te)):=
 PE.imp (AU hx hc S hi hg ht he hs) fun σ H Q ⟨α,σd,st,K,G,F,P,R,S,t,k⟩=>LE.comp fit P R S t fun ys st2 α2 G2 H2 l vs q s2 P2 hl S2 r=>by
  have hg:G2 l=none:=(P2.frame aX).2;refine k _ _ q (α2++[some l]) (upd G2 l (.lst vs)) H2 (.ref l) (s2.trans (Step.cell hg)) (P2.show hl) (S2.cell hg ⟨vs,aX,r.step (Step.cell hg)⟩) ?_;unfold Rep;refine .inr ⟨l,?_,rfl⟩;rw[List.getElem?_append_right (by rw[S2.len];exact Nat.le_refl _),S2.len,Nat.sub_self];rfl
theorem Jd{st:Stmt}{k:Nat}{src:DI}{fr:List (Option Nat)}{dtg:fo}{c:DT}{te:DE}(fit:pq fr dtg)(h:PS X st (mF (sD (LI src) fr (LG dtg) (LT c) (LE te)) (gp k))):PS X st (LS (a6 k (c7 src fr dtg c te))):=
 PS.imp h fun D σ H ⟨α,σd,st,DD,G,F,P,R,S,t,q⟩=>LE.comp fit P R S t fun ys st2 α2 G2 H2 l vs qq s2 P2 hl S2 r=>by
  have hg:G2 l=none:=(P2.frame aX).2;have s3:=s2.trans (Step.laid (o:= .lst vs) hg);refine q.nx _ st2 qq α2 (upd G2 l (.lst vs)) H2 _ s3 (P2.show hl) ((R.step s3).set k ?_) (S2.laid hg);unfold Rep;exact⟨l,vs,rfl,S2.kF hg,.of aX,r.step (Step.laid hg)⟩
theorem EO{st:Stmt}{k:Nat}{src:DI}{fr:List (Option Nat)}{dtg:fo}{c:DT}{te:DE}(fit:pq fr dtg)(h:PS X st (mF (sD (LI src) fr (LG dtg) (LT c) (LE te)) (gp k))):PS X st (LS (a6 k (jt src fr dtg c te))):=
 PS.imp h fun D σ H ⟨α,σd,st,DD,G,F,P,R,S,t,q⟩=>LE.comp fit P R S t fun ys st2 α2 G2 H2 l vs qq s2 P2 hl S2 r=>by
  have hg:G2 l=none:=(P2.frame aX).2;have s3:=s2.trans (Step.cell (o:= .lst vs) hg);refine q.nx _ _ qq (α2++[some l]) (upd G2 l (.lst vs)) H2 _ s3 (P2.show hl) ((R.step s3).set k ?_) (S2.cell hg ⟨vs,aX,r.step (Step.cell hg)⟩);unfold Rep;refine .inr ⟨l,?_,rfl⟩;rw[List.getElem?_append_right (by rw[S2.len];exact Nat.le_refl _),S2.len,Nat.sub_self];rfl
def a_(N:List Str)(ds:List D):bL:=ds.map some++List.replicate (N.length-ds.length) none
theorem dU.start{α:List (Option Addr)}{G:Hp}{N:List Str}{ds:List D}{vs:List V}(r:aJ α G ds vs):dU α G (a_ N ds) (L2.start N vs):=by
 have hl:=r.length;refine⟨by unfold a_ L2.start;simp[hl],fun i d e=>?_⟩;unfold a_ at e;by_cases hi:i<ds.length
 . rw[List.getElem?_append_left (by simpa using hi),List.getElem?_map]at e;cases q:ds[i]? with
   |none=>rw[q]at e;cases e
   |some x=>
    rw[q]at e;cases e;obtain⟨v,ev,rv⟩:=r.get q;refine⟨v,?_,rv⟩;unfold L2.start;rw[List.getElem?_append_left (by rw[List.length_map];omega),List.getElem?_map,ev];rfl
 . rw[List.getElem?_append_right (by simpa using hi),List.getElem?_replicate]at e;split at e<;>cases e
theorem Nq{P:Program}{w:World}{K:PySem.W.Frag}{mg:Str->Option Value}{base:Heap}{x qual:Str}{st:Stmt}{f:Addr}{fd:FuncData}{N ps:List Str}{k:Nat}{sp:cK}{t:DS}(F:oj K x qual st f fd)(S:aU N ps (ai st))
 (hbody:∀(cdv:Value) (A:Around) (outer:List Env) (s:Shared) (H:Hp) (E:XK),cT k (A.deeper (envOfC qual (ai st) s.heap.objs.size f cdv))->gJ (qA cL P w K mg base N qual (ai st) f cdv A outer s H E).uJ (gF st) (LS t))
 (hsp:∀ds st K,sp ds st K->ds.length=ps.length/\t {nx:=fun _ st'=>K .aK st',rt:=K} (a_ N ds) st):bE P w K mg base cL (k+1) f fd ps (cQ sp):=by
 refine F.ok S (fun vs H Q E h=>?_) fun cdv A outer s H vs Q E hr h=>⟨_,hbody cdv A outer s H E hr,?_⟩
 . obtain⟨α,ds,st,K,G,F,P,r,S,q,k⟩:=h;rw[<-r.length];exact(hsp ds st K q).1
 . obtain⟨α,ds,st,K,G,F,P,r,S,q,k⟩:=h;refine⟨α,a_ N ds,st,_,G,F,P,dU.start r,S,(hsp ds st K q).2,?_,k,?_,?_⟩
   . intro σd' st' kk α' G' H' σ' s' P' R' S';exact k .aK st' kk α' G' H' .aK s' P' S' (by unfold Rep;rfl)
   . intro σd' st' kk;exact kk.elim
   . intro σd' st' kk;exact kk.elim
def pw(to te:DE):DE:=fun σ st K=>to σ st fun x st1=>match x with
 | .ref n=>(match st1[n]? with
   |some (.lst _)=>te σ st1 fun y st2=>∃y',[y]=[y']/\(match st2[n]? with|some (.lst xs)=>xs.length<sizeLine/\K .aK (st2.set n (.lst (xs++[y'])))|_=>False)
   |_=>False)
 |_=>False
end
structure b_(K:PySem.W.Frag)(mg:Str->Option Value)(x qual:Str)(st:Stmt)(ps:List Str)(f:Addr)(fd:FuncData):Prop where
 fn:oj K x qual st f fd
 mg:mg x=some (.ref f)
 bd:Binds K fd ps []
def vD(sc:Scope)(N:List Str)(scope:Scope)(Nc:List Str)(fr:List (Option Nat)):Bool:=
 (scope.kind== .function)&&scope.names.all (fun x=>x.2 != .cell||scope.names.lookup x.1==some .cell)&&scope.names.all (fun x=>x.2 != .local||scope.names.lookup x.1==some .local)&&
 scope.names.all (fun x=>x.2 != .free||sc.names.lookup x.1==some .cell||sc.names.lookup x.1==some .free)&&(fr.length==Nc.length)&&
 (List.range fr.length).all fun i=>match fr[i]?,Nc[i]? with
   |some (some j),some x=>(N[j]?==some x)&&(scope.names.lookup x==some .free)&&(sc.names.lookup x==some .cell||sc.names.lookup x==some .free)
   |_,_=>true
theorem bz.look{X:Cx}{scope:Scope}{Nc:List Str}{fr:List (Option Nat)}(sc:Scope)(N:List Str)(h:vD sc N scope Nc fr=true)(hsc:X.env.scope=sc:=by rfl)(hN:X.N=N:=by rfl):bz X scope Nc fr:=by
 unfold vD at h;simp only[Bool.and_eq_true]at h;obtain⟨⟨⟨⟨⟨h1,h2⟩,h3⟩,h4⟩,h5⟩,h6⟩:=h;subst hsc hN;refine⟨by simpa using h1,fun x hx hk=>?_,fun x hx hk=>?_,fun x hx hk=>?_,by simpa using h5,fun i j x e1 e2=>?_⟩
 . have:=List.all_eq_true.mp h2 x hx;rw[hk]at this;simpa using this
 . have:=List.all_eq_true.mp h3 x hx;rw[hk]at this;simpa using this
 . have:=List.all_eq_true.mp h4 x hx;rw[hk]at this;have z:X.env.scope.names.lookup x.1=some .cell\/X.env.scope.names.lookup x.1=some .free:=by simpa using this
   exact z
 . have hi:i<fr.length:=(List.getElem?_eq_some_iff.mp e2).1;have:=List.all_eq_true.mp h6 i (List.mem_range.mpr hi);rw[e1,e2]at this;simp only[Bool.and_eq_true,Bool.or_eq_true,beq_iff_eq]at this;exact⟨this.1.1,this.1.2,this.2⟩
section
variable {X:Cx}
theorem Oq{e:Expr}{es:List Expr}{pos p:Pos}{x:Str}{id:String}{r:e8}{t:DA}(hc:bI X (.builtin id) (fN r))(ha:PA X (e::es) (LA t))(hm:X.mg x=none)(hv:bootBuiltins x=some (.builtin id))(hg:Gl X x:=by rfl)(hn:x≠"__name__":=by decide)(hdb:(x==("__debug__":Str))=false:=by decide)
 (he:starEach (e::es) X.env=(false,eval e X.env)::starEach es X.env:=by rfl) (hpl:(backTo pos (starEach es X.env)).any (·.1)=false:=by rfl):PE X (.Call (.Name x p) (e::es) [] pos) (LE (bV r t)):=PE.imp (FY hc hg hm hv ha hn hdb he hpl) fun _ _ _ h=>LE.cb h
theorem OA{e:Expr}{es:List Expr}{pos p:Pos}{x:Str}{T:String}{r:e8}{t:DA}(hc:bI X (.type T) (fN r))(ha:PA X (e::es) (LA t))(hm:X.mg x=none)(hv:bootBuiltins x=some (.type T))(hg:Gl X x:=by rfl)(hn:x≠"__name__":=by decide)(hdb:(x==("__debug__":Str))=false:=by decide)
 (he:starEach (e::es) X.env=(false,eval e X.env)::starEach es X.env:=by rfl) (hpl:(backTo pos (starEach es X.env)).any (·.1)=false:=by rfl):PE X (.Call (.Name x p) (e::es) [] pos) (LE (bV r t)):=PE.imp (C4 hc hg hm hv ha hn hdb he hpl) fun _ _ _ h=>LE.cb h
theorem Ov{pos:Pos}{x:Str}{T:String}(hm:X.mg x=none)(hv:bootBuiltins x=some (.type T))(hg:Gl X x:=by rfl)(hn:x≠"__name__":=by decide)(hdb:(x==("__debug__":Str))=false:=by decide):PE X (.Name x pos) (LE (dC (.ty T))):=
 pS (v:= .ty T) (Jq hg hm hv rfl hn hdb) fun _ _=>by unfold Rep;rfl
theorem Ox{e:Expr}{es:List Expr}{pos p:Pos}{x qual:Str}{st:Stmt}{ps:List Str}{f:Addr}{fd:FuncData}{k:Nat}{S:cK}{t:DA}(A:b_ X.K X.mg x qual st ps f fd)(F:bE X.prog X.w X.K X.mg X.base cL k f fd ps (cQ S))(hr:cT k X.A)
 (ha:PA X (e::es) (LA t)) (hg:Gl X x:=by rfl) (hdb:(x==("__debug__":Str))=false:=by decide) (he:starEach (e::es) X.env=(false,eval e X.env)::starEach es X.env:=by rfl) (hpl:(backTo pos (starEach es X.env)).any (·.1)=false:=by rfl):
 PE X (.Call (.Name x p) (e::es) [] pos) (LE (aC S t)):=Jx F hr hg A.mg A.fn.kp A.bd ha hdb he hpl
def Kv(d:D)(b:Bool):Bool:=match d with| .bl c=>c==b|_=>false
def NX(d:D):Bool:=match d with| .aK=>true|_=>false
theorem Hq{α:List (Option Addr)}{H:Hp}{st:ag}{d:D}{v:V}{u:Value}{b:Bool}(S:aP α st H)(hl:live st d=true)(r:Rep α H d v)(ru:RelV v u):(u==Value.bool b)=Kv d b:=by
 cases d
 case ref n=>
  obtain⟨a,rfl⟩:=yv S hl r;cases ru;rfl
 all_goals unfold Rep at r
 case bl c=>
  subst r;cases ru;cases c<;>cases b<;>rfl
 all_goals first
  |(subst r;first|(cases ru;rfl)|(obtain⟨t,rfl⟩:=ru;rfl))
  |(obtain⟨a,vs,rfl,_⟩:=r;cases ru;rfl)
theorem LE.append{to te:DE}{σ:L2.St}{H:Hp}{Q:VK}(h:LE (pw to te) σ H Q):KC X.K "list" Az (LE to) (LA (af te ak)) σ H Q:=by
 obtain⟨α,σd,st,K,G,F,P,R,S,t,k⟩:=h;refine⟨α,σd,st,_,G,F,P,R,S,t,fun x st1 q α1 G1 H1 v s1 P1 S1 r1=>?_⟩;cases x<;>try exact q.elim
 rename_i n;simp only at q;split at q
 . rename_i ys e;obtain⟨p,ep,vs,h1,h2⟩:=S1.f7 e;have r1':=eL ep r1;subst r1';refine⟨.inl ⟨rfl,vs,.inl (.of (P1.get h1))⟩,α1,σd,st1,fun ds st2=>∃y,ds=[y]/\(match st2[n]? with|some (.lst xs)=>xs.length<sizeLine/\K .aK (st2.set n (.lst (xs++[y])))|_=>False),G1,F,P1,R.step s1,S1,?_,?_⟩
   . refine Eq.mp ?_ q;rfl
   . rintro ds st2 ⟨y,rfl,q2⟩ α2 G2 H2 ws s2 P2 S2 r2;obtain⟨w,rfl,rw'⟩:=gu r2 rfl;split at q2
     . rename_i xs e2;obtain⟨p2,ep2,us,g1,g2⟩:=S2.f7 e2
       have:p2=p:=by
        rcases s2.pre _ _ ep with z|z<;>(rw[z]at ep2;cases ep2)
        rfl
       subst this;have hm:some p2∈α2:=List.mem_of_getElem? ep2;refine⟨p2,us,w,rfl,rfl,P2.get g1,by rw[<-g2.length];exact q2.1,?_⟩;refine((k.at s1).at s2) _ _ q2.2 α2 (upd G2 p2 (.lst (us++[w]))) _ .aK (Step.write hm) (P2.write g1) ?_ (by unfold Rep;rfl);exact S2.write ep2 ⟨us++[w],aX,(bo.mpr (fS (bo.mp g2) (.cons rw' .nil))).step (Step.write hm)⟩
     . exact q2.elim
 . exact q.elim
theorem FK{o e:Expr}{to te:DE}{apos cpos:Pos}(ho:PE X o (LE to))(he:PE X e (LE te))(hbase:attributeBase o "append" X.env (eval o X.env)=eval o X.env:=by rfl)
 (hfew:((backTo cpos (starEach [e] X.env)).all (fun x=> !x.1)&&(backToKw cpos (keywordEach [] X.env)).all (fun x=>x.1.isSome)
   &&decide (([e]:List Expr).length+([]:List Keyword).length+(if([]:List Keyword).isEmpty then 0 else 1)<30))=true:=by rfl)
 (hline:(apos.endLine==cpos.line)=true:=by rfl) (hs:starEach [e] X.env=(false,eval e X.env)::starEach [] X.env:=by rfl) (hplain:(backTo cpos (starEach [] X.env)).any (·.1)=false:=by rfl):PE X (.Call (.Attribute o "append" apos) [e] [] cpos) (LE (pw to te)):=
 PE.imp (Gb PySem.F.plainAttrs_list PySem.F.slot_list_append PySem.F.type_list_append wL ho (sM he uQ hs) hbase hfew hline hs hplain) fun _ _ _ h=>LE.append h
end
end L3
namespace L3
open PySem L2
open PySem.Spec hiding items?
open PyProof.Rows hiding St
section
variable {X:Cx}
@[irreducible] def bW:dw:=Gd
theorem cR:cw X (binaryOp .Add) (LR bW):=by unfold bW;exact MJ
@[irreducible] def jn:dw:=GB
theorem ke:cw X (binaryOp .Sub) (LR jn):=by unfold jn;exact MA
@[irreducible] def c5:dw:=Hb
theorem de:cw X (binaryOp .Mult) (LR c5):=by unfold c5;exact NA
@[irreducible] def qv:dw:=EB
theorem zz:cw X (binaryOp .FloorDiv) (LR qv):=by unfold qv;exact L0
@[irreducible] def fQ:dw:=Hf
theorem kK:cw X (binaryOp .Mod) (LR fQ):=by unfold fQ;exact MM
@[irreducible] def zg:dw:=Hl
theorem NB:cw X (binaryOp .Pow) (LR zg):=by unfold zg;exact Nd
@[irreducible] def pX:dw:=Ke
theorem zM:cw X (compareOp .Lt) (LR pX):=by unfold pX;exact OG
@[irreducible] def qM:dw:=Lf
theorem yS:cw X (compareOp .Gt) (LR qM):=by unfold qM;exact Og
@[irreducible] def zG:dw:=Jy
theorem ON:cw X (compareOp .GtE) (LR zG):=by unfold zG;exact O0
@[irreducible] def pB:dw:=Lv
theorem wj:cw X (compareOp .NotEq) (LR pB):=by unfold pB;exact OY
@[irreducible] def j8:dw:=Ku
theorem nI{k:Nat}(hr:cT k X.A):cw X (compareOp .Eq) (LR j8):=by unfold j8;exact Ot hr
@[irreducible] def gh:yE:=Gq
theorem M_:AX X (unaryOp .USub) (GA gh):=by unfold gh;exact Nx
@[irreducible] def bg:dw:=qG
theorem Oy{a b:Expr}{ta tb:DE}{pos:Pos}(ha:PE X a (LE ta))(hb:PE X b (LE tb))(hs:sx b:=by intro _ _;rfl):PE X (.Subscript a b pos) (LE (aw bg ta tb)):=by unfold bg;exact OH ha hb hs
@[irreducible] def fg:e8:=yb
theorem fh:bI X (.builtin "len") (fN fg):=by unfold fg;exact Mr
@[irreducible] def o3:e8:=BI
theorem sy:bI X (.builtin "abs") (fN o3):=by unfold o3;exact MV
@[irreducible] def vI:e8:=Cy
theorem NC(hc:X.calm=true):bI X (.builtin "max") (fN vI):=by unfold vI;exact M8 hc
@[irreducible] def vP:e8:=BB
theorem Mu(hc:X.calm=true):bI X (.builtin "min") (fN vP):=by unfold vP;exact MP hc
@[irreducible] def o4:e8:=BE
theorem vB:bI X (.type "int") (fN o4):=by unfold o4;exact M7
@[irreducible] def dR:e8:=sH
theorem eO:bI X (.type "tuple") (fN dR):=by unfold dR;exact Ih
@[irreducible] def lX:e8:=vF
theorem pQ:bI X (.type "list") (fN lX):=by unfold lX;exact L9
@[irreducible] def pj:e8:=sX
theorem A8:bI X (.type "list") (fN pj):=by unfold pj;exact IU
@[irreducible] def wm:e8:=xV
theorem G7(hc:X.calm=true):bI X (.builtin "all") (fN wm):=by unfold wm;exact Nk hc
@[irreducible] def qf:e8:=yd
theorem uZ:bI X (.builtin "isinstance") (fN qf):=by unfold qf;exact MZ
@[irreducible] def o7:D->ag->(List D->(ag->Prop)->ag->Prop)->Prop:=wk
def eh(t:DE):DI:=fun σ st K=>t σ st fun d st1=>o7 d st1 K
theorem Km{l tg:Expr}{tl:DE}(hl:PE X l (LE tl)):PI X tg l (LI (eh tl)):=by unfold eh o7;exact J5 hl
@[irreducible] def x_:List D->ag->(List D->(ag->Prop)->ag->Prop)->Prop:=Gy
@[irreducible] def xZ:List D->ag->(List D->(ag->Prop)->ag->Prop)->Prop:=Gs
def dO(t:DA):DI:=fun σ st K=>t σ st fun ds st1=>x_ ds st1 K
def sE(t:DA):DI:=fun σ st K=>t σ st fun ds st1=>xZ ds st1 K
theorem CS{tg iter:Expr}{t:DA}(h:PI X tg iter (Co (LA t))):PI X tg iter (LI (dO t)):=by unfold dO x_;exact De h
theorem DV{tg iter:Expr}{t:DA}(h:PI X tg iter (Bu (LA t))):PI X tg iter (LI (sE t)):=by unfold sE xZ;exact Du h
@[irreducible] def yu:D->D->D->ag->(ag->Prop)->Prop:=Cu
def eR(to ti te:DE):DS:=fun D σ st=>te σ st fun d st1=>to σ st1 fun x st2=>ti σ st2 fun y st3=>yu x y d st3 fun st4=>D.nx σ st4
theorem yg{st:Stmt}{to ti te:DE}(h:PS X st (mF (LE te) (zQ (LE to) (LE ti) vd))):PS X st (LS (eR to ti te)):=by unfold eR yu;exact Fm h
end
section
variable {st:ag}{K:DK}{i j:Int}{b c:Bool}{xs ys:List D}{d e:D}{n:Nat}
theorem du(k:K (.int (i+j)) st):bW (.int i) (.int j) st K:=by unfold bW;exact k
theorem jU(h:xs.length+ys.length<=sizeLine)(k:K (.tup (xs++ys)) st):bW (.tup xs) (.tup ys) st K:=by unfold bW;exact⟨h,k⟩
theorem wo(h:xs.length+ys.length<=sizeLine)(k:K (.lst (xs++ys)) st):bW (.lst xs) (.lst ys) st K:=by unfold bW;exact⟨h,k⟩
theorem iN(k:K (.int (i-j)) st):jn (.int i) (.int j) st K:=by unfold jn;exact⟨trivial,k⟩
theorem cN(h:IntMulOk i j)(k:K (.int (i*j)) st):c5 (.int i) (.int j) st K:=by unfold c5;exact⟨h,k⟩
theorem II(h: -(2^63)<=i/\i<2^63/\xs.length*i.toNat<=sizeLine)(k:K (.lst (List.replicate i.toNat xs).flatten) st):c5 (.lst xs) (.int i) st K:=by unfold c5;exact⟨h,k⟩
theorem vV(h0:j≠0)(h:j.natAbs.log2<9000)(k:K (.int (i.fdiv j)) st):qv (.int i) (.int j) st K:=by unfold qv;exact⟨⟨h0,h⟩,k⟩
theorem iS(h0:j≠0)(k:K (.int (i.fmod j)) st):fQ (.int i) (.int j) st K:=by unfold fQ;exact⟨h0,k⟩
theorem LU(h:Fu i j)(k:K (.int (i^j.toNat)) st):zg (.int i) (.int j) st K:=by unfold zg;exact⟨h,k⟩
theorem Hi(k:K (.bl (decide (i<j))) st):pX (.int i) (.int j) st K:=by unfold pX;exact⟨trivial,k⟩
theorem BP(k:K (.bl (decide (j<i))) st):qM (.int i) (.int j) st K:=by unfold qM;exact⟨trivial,k⟩
theorem Gf(k:K (.bl (decide (j<=i))) st):zG (.int i) (.int j) st K:=by unfold zG;exact⟨trivial,k⟩
theorem GS(k:K (.bl (!decide (i=j))) st):pB (.int i) (.int j) st K:=by unfold pB;exact k
theorem G_(h1:pl 40 d=true)(h2:pl 40 e=true)(k:K (.bl (cP d e)) st):j8 d e st K:=by unfold j8;exact⟨h1,h2,k⟩
theorem Iq(a b:Int):(a==b)=decide (a=b):=by
 by_cases h:a=b
 . subst h;simp
 . simp[h]
theorem Eg(k:K (.bl (decide (i=j))) st):j8 (.int i) (.int j) st K:=by
 refine G_ rfl rfl ?_;have:cP (.int i) (.int j)=decide (i=j):=by unfold cP;exact Iq i j
 rw[this];exact k
theorem fZ(k:K (.int (-i)) st):gh (.int i) st K:=by unfold gh;exact k
theorem Fd(h:items? st d=some xs)(a:eQ xs i=some e)(k:K e st):qG d (.int i) st K:=by
 cases d<;>unfold items? at h<;>first
  |(cases h;done)
  |(cases h;simp only[qG,a];exact k)
  |(simp only at h
    split at h
    . rename_i q;cases h;simp only[qG,q,a];exact k
    . cases h)
theorem aF(h:items? st d=some xs)(a:eQ xs i=some e)(k:K e st):bg d (.int i) st K:=by unfold bg;exact Fd h a k
theorem d7(h:items? st d=some xs)(k:K (.int xs.length) st):fg [d] st K:=by
 unfold fg yb;split
 . rename_i z;cases z;cases h
 . rename_i z;cases z;rw[h];exact k
 . rename_i z1 z2;exact absurd rfl (z2 d)
theorem HF(i:Int):(if i<0 then-i else i)=((i.natAbs:Nat):Int):=by split<;>omega
theorem pF(k:K (.int ((i.natAbs:Nat):Int)) st):o3 [.int i] st K:=by unfold o3;show K (.int (if i<0 then-i else i)) st;rw[HF];exact k
theorem JJ(k:K (.int (if j>i then j else i)) st):vI [.int i,.int j] st K:=by unfold vI;exact k
theorem K0(k:K (.int (if j<i then j else i)) st):vP [.int i,.int j] st K:=by unfold vP;exact k
theorem kY(k:K (.int (if b then 1 else 0)) st):o4 [.bl b] st K:=by unfold o4;exact k
theorem dM(h:items? st d=some xs)(k:K (.tup xs) st):dR [d] st K:=by unfold dR sH;simp only[h];exact k
theorem ny(h:items? st d=some xs)(k:K (.lst xs) st):lX [d] st K:=by unfold lX vF;simp only[h];exact k
theorem zC(h:items? st d=some xs)(k:K (.ref st.length) (st++[.lst xs])):pj [d] st K:=by unfold pj sX;simp only[h];exact k
theorem DC{bs:List Bool}(h:mm xs=some bs)(k:K (.bl (bs.all id)) st):wm [.lst xs] st K:=by unfold wm xV;simp only[h];exact k
theorem rL{t c:String}(h:jg st d=some t)(hc:c∈nA)(k:K (.bl (um t c)) st):qf [d,.ty c] st K:=by unfold qf yd;simp only[h];exact⟨hc,k⟩
theorem rW{K:List D->(ag->Prop)->ag->Prop}(h:items? st d=some xs)(k:∀ok:ag->Prop,ok st->K xs ok st):o7 d st K:=by
 unfold o7 wk
 cases d<;>unfold items? at h<;>first
  |(cases h;done)
  |(cases h;exact k _ trivial)
  |(simp only at h
    split at h
    . rename_i q;cases h;simp only[q];exact k _ q
    . cases h)
theorem pR{K:List D->(ag->Prop)->ag->Prop}(k:K xs (fun _=>True) st):o7 (.lst xs) st K:=by unfold o7;exact k
theorem hZ{K:List D->(ag->Prop)->ag->Prop}(k:K xs (fun _=>True) st):o7 (.tup xs) st K:=by unfold o7;exact k
theorem eV{K:List D->(ag->Prop)->ag->Prop}(h: -(2^62)<=j/\j<2^62)(k:K (dm 0 j.toNat) (fun _=>True) st):x_ [.int j] st K:=by unfold x_;exact⟨h,k⟩
theorem HV{K:List D->(ag->Prop)->ag->Prop}(h: -(2^62)<=i/\i<2^62/\ -(2^62)<=j/\j<2^62)(k:K (dm i (j-i).toNat) (fun _=>True) st):xZ [.int i,.int j] st K:=by unfold xZ;exact⟨h,k⟩
theorem gH{K:ag->Prop}{m:Nat}(h:st[n]?=some (.lst xs))(e:jl xs.length i=some m)(k:K (st.set n (.lst (xs.set m d)))):yu (.ref n) (.int i) d st K:=by unfold yu Cu;simp only[h,e];exact k
end
def Dw(K:PySem.W.Frag):Bool:=K.all fun p=>p.2.cls != .type "list"
theorem tI{a:Addr}{o:Obj}:∀ {l:List (Addr×Obj)},l.lookup a=some o->(a,o)∈l
 | [],h=>by cases h
 |(b,u)::r,h=>by
  rw[List.lookup_cons]at h;split at h
  . rename_i z;cases h;have:a=b:=by simpa using z
    subst this;exact List.mem_cons_self
  . exact List.mem_cons_of_mem _ (tI h)
theorem xQ{K:PySem.W.Frag}(h:Dw K=true){a:Addr}{o:Obj}(e:K.lookup a=some o):o.cls≠ .type "list":=by
 have:=List.all_eq_true.mp h (a,o) (tI e);simpa using this
theorem wY{α:List (Option Addr)}{G:Hp}:∀ns:List Int,aJ α G (ns.map D.int) (ns.map V.int)
 | []=>by unfold aJ;rfl
 |n::ns=>by
  rw[List.map_cons,List.map_cons];unfold aJ;exact⟨_,_,rfl,by unfold Rep;rfl,wY ns⟩
def notStar:Expr->Bool
 | .Starred .. =>false
 |_=>true
theorem cF{e:Expr}{es:List Expr}{env:Env}(h:notStar e=true):starEach (e::es) env=(false,eval e env)::starEach es env:=by
 cases e<;>first|rfl|cases h
def fT:List Expr->Bool
 | []=>true
 |e::es=>notStar e&&fT es
theorem jM{pos:Pos}{env:Env}:∀ {es:List Expr},fT es=true->(backTo pos (starEach es env)).any (·.1)=false
 | [],_=>rfl
 |e::es,h=>by
  unfold fT at h;rw[Bool.and_eq_true]at h;rw[cF h.1];have ih:=jM (pos:=pos) (env:=env) h.2;unfold backTo at ih⊢;rw[List.map_cons,List.any_cons,ih];rfl
def jG:Expr->Bool
 | .Slice .. =>false
 |_=>true
def rV:Expr->Bool
 | .Name .. =>true
 | .Call .. =>true
 | .Subscript .. =>true
 | .Attribute .. =>true
 |_=>false
def kW:Expr->Bool
 | .ListComp .. =>false
 | .SetComp .. =>false
 | .DictComp .. =>false
 |_=>true
section
variable {X:Cx}
theorem EW{b:Expr}(h:jG b=true):sx b:=by
 intro o i;cases b<;>first|rfl|cases h
theorem Bi{e:Expr}(h:rV e=true):∀whole,isTrue e X.env whole=(do let v <-whole;standAt e.pos;holding [v] (truthy v)):=by
 intro whole;cases e<;>first|(cases h;done)|rfl
theorem vW{e:Expr}{tg:Option Expr}{n:Nat}{env:Env}(h:kW e=true):swapsWith e tg n env=pure false:=by
 cases e<;>first|(cases h;done)|rfl
theorem FW{e:Expr}{es:List Expr}{te:DE}{tr:DA}(ha:PE X e (LE te))(hr:PA X es (LA tr))(hs:notStar e=true:=by rfl):PA X (e::es) (LA (af te tr)):=sM ha hr (cF hs)
theorem Ng{e:Expr}{es:List Expr}{pos p:Pos}{x:Str}{id:String}{r:e8}{t:DA}(hc:bI X (.builtin id) (fN r))(ha:PA X (e::es) (LA t))(hm:X.mg x=none)(hv:bootBuiltins x=some (.builtin id))(hn:x≠"__name__")(hdb:(x==("__debug__":Str))=false)(hg:Gl X x:=by rfl)(hs:notStar e=true:=by rfl)(hs2:fT es=true:=by rfl):
 PE X (.Call (.Name x p) (e::es) [] pos) (LE (bV r t)):=Oq hc ha hm hv hg hn hdb (cF hs) (jM hs2)
theorem MI{e:Expr}{es:List Expr}{pos p:Pos}{x:Str}{T:String}{r:e8}{t:DA}(hc:bI X (.type T) (fN r))(ha:PA X (e::es) (LA t))(hm:X.mg x=none)(hv:bootBuiltins x=some (.type T))(hn:x≠"__name__")(hdb:(x==("__debug__":Str))=false)(hg:Gl X x:=by rfl)(hs:notStar e=true:=by rfl)(hs2:fT es=true:=by rfl):
 PE X (.Call (.Name x p) (e::es) [] pos) (LE (bV r t)):=OA hc ha hm hv hg hn hdb (cF hs) (jM hs2)
theorem Nz{e:Expr}{es:List Expr}{pos p:Pos}{x qual:Str}{st:Stmt}{ps:List Str}{f:Addr}{fd:FuncData}{k:Nat}{S:cK}{t:DA}(A:b_ X.K X.mg x qual st ps f fd)(F:bE X.prog X.w X.K X.mg X.base cL k f fd ps (cQ S))(hr:cT k X.A)
 (ha:PA X (e::es) (LA t)) (hdb:(x==("__debug__":Str))=false) (hg:Gl X x:=by rfl) (hs:notStar e=true:=by rfl) (hs2:fT es=true:=by rfl):
 PE X (.Call (.Name x p) (e::es) [] pos) (LE (aC S t)):=Ox A F hr ha hg hdb (cF hs) (jM hs2)
theorem MF{a b:Expr}{ta tb:DE}{pos:Pos}(ha:PE X a (LE ta))(hb:PE X b (LE tb))(hs:jG b=true:=by rfl):PE X (.Subscript a b pos) (LE (aw bg ta tb)):=Oy ha hb (EW hs)
theorem Jt{e:Expr}{te:DE}(he:PE X e (LE te))(h:rV e=true:=by rfl):PT X e (LT (cy te)):=Mb he (Bi h)
theorem FF{e:Expr}{te:DE}{pos:Pos}(he:PE X e (LE te))(h:kW e=true:=by rfl):PS X (.Expr e pos) (LS (jv te)):=Ig he (vW h)
theorem HX{i:Nat}{x:Str}{e:Expr}{te:TE}{pos pos':Pos}(hN:X.N.Nodup)(hi:X.N[i]?=some x)(hx:Loc X.env.scope x)(he:PE X e te)(hf:X.fn x=true\/X.env.scope.names.lookup x=some .local:=by first|exact .inl rfl|exact .inr rfl)(h:kW e=true:=by rfl):
 PS X (.Assign [.Name x pos'] e pos) (mF te (gp i)):=CI hN hi hx he (vW h) hf
theorem HP{i:Nat}{x:Str}{pos:Pos}(hd:(x==("__debug__":Str))=false)(hcd:(x==("__classdict__":Str))=false)(hv:zd X.env.scope x)(hN:X.N[i]?=some x:=by rfl):PE X (.Name x pos) (LE (aa i)):=NH (La hN hv hd hcd)
theorem Ll{o i e:Expr}{to ti te:TE}{pos pos':Pos}(he:PE X e te)(ho:PE X o to)(hi:PE X i ti)(h1:kW e=true:=by rfl)(h2:jG i=true:=by rfl):PS X (.Assign [.Subscript o i pos'] e pos) (mF te (zQ to ti vd)):=
 yy he (C6 ho hi set_list (by intro v;cases i<;>first|rfl|cases h2)) (by unfold swapsWithSole;exact vW h1) (by cases e<;>rfl) rfl
end
@[irreducible] def JE(X:Cx)(e:Expr)(t:DE):Prop:=PE X e (LE t)
@[irreducible] def JT(X:Cx)(e:Expr)(t:DT):Prop:=PT X e (LT t)
@[irreducible] def JW(X:Cx)(e:Expr)(t:DT):Prop:=PW X e (LT t)
@[irreducible] def JA(X:Cx)(es:List Expr)(t:DA):Prop:=PA X es (LA t)
@[irreducible] def JS(X:Cx)(s:Stmt)(t:DS):Prop:=PS X s (LS t)
@[irreducible] def JB(X:Cx)(s:List Stmt)(t:DS):Prop:=gJ X s (LS t)
@[irreducible] def JG(X:Cx)(e:Expr)(t:fo):Prop:=PG X e (LG t)
@[irreducible] def JI(X:Cx)(tg e:Expr)(t:DI):Prop:=PI X tg e (LI t)
@[irreducible] def JC(X:Cx)(es:List Expr)(t:DT):Prop:=rO X es (LT t)
section
variable {X:Cx}{a b c e o i:Expr}{es:List Expr}{ta tb tc te to ti:DE}{t u:DT}{ar:DA}{pos p pos':Pos}{s:Stmt}{ss:List Stmt}{T U:DS}
theorem C0{n:Nat}{x:Str}(hd:(x==("__debug__":Str))=false)(hcd:(x==("__classdict__":Str))=false)(hv:zd X.env.scope x)(hN:X.N[n]?=some x:=by rfl):JE X (.Name x pos) (aa n):=by unfold JE;exact HP hd hcd hv hN
theorem yq{x:Str}{T:String}(hm:X.mg x=none)(hv:bootBuiltins x=some (.type T))(hn:x≠"__name__")(hdb:(x==("__debug__":Str))=false)(hg:Gl X x):JE X (.Name x pos) (dC (.ty T)):=by unfold JE;exact Ov hm hv hg hn hdb
theorem ax{k:Int}{j:Nat}:JE X (.Constant (.int k) j pos) (dC (.int k)):=by unfold JE;exact Nu
theorem vO{k:Bool}{j:Nat}:JE X (.Constant (.bool k) j pos) (dC (.bl k)):=by unfold JE;exact OS
theorem Gi{k:Str}{j:Nat}:JE X (.Constant (.str k) j pos) (dC (.str k)):=by unfold JE;exact Nn
theorem GO{j:Nat}:JE X (.Constant .none j pos) (dC .aK):=by unfold JE;exact NM
theorem aR{op:Operator}{r:dw}(ho:cw X (binaryOp op) (LR r))(ha:JE X a ta)(hb:JE X b tb):JE X (.BinOp a op b pos) (aw r ta tb):=by unfold JE at*;exact Oo ho ha hb
theorem iy(ha:JE X a ta):JE X (.UnaryOp .USub a pos) (kI gh ta):=by unfold JE at*;exact Oh M_ ha
theorem Gu(ha:JE X a ta):JE X (.UnaryOp .Not a pos) (x3 (cy ta)):=by unfold JE at*;exact NK ha
theorem Bp{op:BoolOp}(ha:JE X a ta):JE X (.BoolOp op [a] pos) ta:=by unfold JE at*;exact MB ha
theorem BG(ha:JE X a ta)(hb:JE X (.BoolOp .And (b::es) pos) tb):JE X (.BoolOp .And (a::b::es) pos) (vt ta tb):=by unfold JE at*;exact Mt ha hb
theorem m6{op:CmpOp}{r:dw}(ho:cw X (compareOp op) (LR r))(hm:behindInMarks op b=false)(ha:JE X a ta)(hb:JE X b tb):JE X (.Compare a [op] [b] pos) (aw r ta tb):=by unfold JE at*;exact ML ho ha hb hm
theorem NJ(hc:JT X c t)(ha:JE X a ta)(hb:JE X b tb):JE X (.IfExp c a b pos) (Ky t ta tb):=by unfold JE at*;unfold JT at hc;exact Ms hc ha hb
theorem iw{n:Nat}(h:JA X es ar):JE X (.Tuple es n pos) (gG ar):=by unfold JE;unfold JA at h;exact M1 h
theorem mX(h:JA X es ar):JE X (.List es pos) (mL ar):=by unfold JE;unfold JA at h;exact Na h
theorem vi(h:JA X es ar):JE X (.List es pos) (uE ar):=by unfold JE;unfold JA at h;exact MQ h
theorem aj:JA X [] ak:=by unfold JA;exact uQ
theorem ae(ha:JE X e te)(hr:JA X es ar)(hs:notStar e=true:=by rfl):JA X (e::es) (af te ar):=by unfold JA at*;unfold JE at ha;exact FW ha hr hs
theorem aQ(ha:JE X a ta)(hb:JE X b tb)(hs:jG b=true:=by rfl):JE X (.Subscript a b pos) (aw bg ta tb):=by unfold JE at*;exact MF ha hb hs
theorem c6{x:Str}{id:String}{r:e8}(hc:bI X (.builtin id) (fN r))(ha:JA X (e::es) ar)(hm:X.mg x=none)(hv:bootBuiltins x=some (.builtin id))(hn:x≠"__name__")(hdb:(x==("__debug__":Str))=false)(hg:Gl X x)(hs:notStar e=true:=by rfl)(hs2:fT es=true:=by rfl):JE X (.Call (.Name x p) (e::es) [] pos) (bV r ar):=by
 unfold JE;unfold JA at ha;exact Ng hc ha hm hv hn hdb hg hs hs2
theorem eF{x:Str}{T:String}{r:e8}(hc:bI X (.type T) (fN r))(ha:JA X (e::es) ar)(hm:X.mg x=none)(hv:bootBuiltins x=some (.type T))(hn:x≠"__name__")(hdb:(x==("__debug__":Str))=false)(hg:Gl X x)(hs:notStar e=true:=by rfl)(hs2:fT es=true:=by rfl):JE X (.Call (.Name x p) (e::es) [] pos) (bV r ar):=by
 unfold JE;unfold JA at ha;exact MI hc ha hm hv hn hdb hg hs hs2
theorem aT{x qual:Str}{st:Stmt}{ps:List Str}{f:Addr}{fd:FuncData}{k:Nat}{S:cK}(A:b_ X.K X.mg x qual st ps f fd)(F:bE X.prog X.w X.K X.mg X.base cL k f fd ps (cQ S))(hr:cT k X.A)(ha:JA X (e::es) ar)(hdb:(x==("__debug__":Str))=false)(hg:Gl X x)(hs:notStar e=true:=by rfl)(hs2:fT es=true:=by rfl):
 JE X (.Call (.Name x p) (e::es) [] pos) (aC S ar):=by unfold JE;unfold JA at ha;exact Nz A F hr ha hdb hg hs hs2
theorem F5{apos cpos:Pos}(ho:JE X o to)(he:JE X e te)(hbase:attributeBase o "append" X.env (eval o X.env)=eval o X.env:=by rfl)(hline:(apos.endLine==cpos.line)=true:=by rfl)(hs:notStar e=true:=by rfl):JE X (.Call (.Attribute o "append" apos) [e] [] cpos) (pw to te):=by
 unfold JE at*;refine FK ho he hbase ?_ hline (cF hs) rfl;rw[cF hs];rfl
theorem dJ{op:CmpOp}{r:dw}(ho:cw X (compareOp op) (LR r))(hm:behindInMarks op b=false)(ha:JE X a ta)(hb:JE X b tb):JT X (.Compare a [op] [b] pos) (cy (aw r ta tb)):=by unfold JE at*;unfold JT;exact Ko ho ha hb hm
theorem mr(ha:JT X a t):JT X (.UnaryOp .Not a pos) (lP t):=by unfold JT at*;exact Mn ha
theorem kr(he:JE X e te)(h:rV e=true:=by rfl):JT X e (cy te):=by unfold JT;unfold JE at he;exact Jt he h
theorem uY(ha:JT X a t):JW X (.BoolOp .Or [a] pos) t:=by unfold JW;unfold JT at ha;exact JM ha
theorem oP(ha:JT X a t)(hb:JW X (.BoolOp .Or (b::es) pos) u):JW X (.BoolOp .Or (a::b::es) pos) (nO t u):=by unfold JW at*;unfold JT at ha;exact MU ha hb
theorem x4(h:JW X e t):JT X e t:=by unfold JT;unfold JW at h;exact PW.pt h
theorem fD{l tg:Expr}(hl:JE X l ta):JI X tg l (eh ta):=by unfold JI;unfold JE at hl;exact Km hl
theorem dX{tg:Expr}(hg:Gl X "range")(hm:X.mg "range"=none)(ha:JA X [a] ar)(hs:notStar a=true:=by rfl):JI X tg (.Call (.Name "range" p) [a] [] pos) (dO ar):=by unfold JI;unfold JA at ha;exact CS (Ds hg hm ha (cF hs))
theorem FU{tg:Expr}(hg:Gl X "range")(hm:X.mg "range"=none)(ha:JA X [a,b] ar)(hs:notStar a=true:=by rfl)(hs2:notStar b=true:=by rfl):JI X tg (.Call (.Name "range" p) [a,b] [] pos) (sE ar):=by unfold JI;unfold JA at ha;exact DV (C2 hg hm ha (by rw[cF hs,cF hs2];rfl) (cF hs2))
theorem dj{k:Nat}{x:Str}(hN:X.N.Nodup)(hx:Loc X.env.scope x)(hf:X.fn x=true\/X.env.scope.names.lookup x=some .local)(hi:X.N[k]?=some x:=by rfl):JG X (.Name x pos) (bG k):=by unfold JG;exact Jg (i5 hN hi hx hf)
theorem oB{k j n:Nat}{x y:Str}{px py:Pos}(hc:X.calm=true)(hN:X.N.Nodup)(hx:Loc X.env.scope x)(hf:X.fn x=true\/X.env.scope.names.lookup x=some .local)(hy:Loc X.env.scope y)(hg:X.fn y=true\/X.env.scope.names.lookup y=some .local)(hi:X.N[k]?=some x:=by rfl)(hj:X.N[j]?=some y:=by rfl):
 JG X (.Tuple [.Name x px,.Name y py] n pos) (i4 k j):=by unfold JG;exact Ka (vH hc (gL (i5 hN hi hx hf) (gL (i5 hN hj hy hg) s_)))
theorem cB:JC X [] cz:=by unfold JC;exact FC
theorem LX(h:JT X c t):JC X [c] t:=by unfold JC;unfold JT at h;exact Kz h
theorem dH{scope:Scope}{Nc:List Str}{elt tg iter:Expr}{ifs:List Expr}{src:DI}{fr:List (Option Nat)}{dtg:fo}(S:bz X scope Nc fr)(hi:JI X tg iter src)(hg:∀C s H ex,JG (fe X scope Nc C s H ex) tg dtg)(ht:∀C s H ex,JC (fe X scope Nc C s H ex) ifs t)(he:∀C s H ex,JE (fe X scope Nc C s H ex) elt te)(fit:pq fr dtg)
 (hx:X.xe=fun _ _=>False:=by rfl) (hc:X.calm=true:=by rfl) (hs:∀x,foldedSetIterable iter X.env x=pure x:=by intro _;rfl):JE X (.ListComp elt [⟨tg,iter,ifs,0⟩] scope pos) (c7 src fr dtg t te):=by
 unfold JE JI JG JC at*;exact Ki S hi hg ht he fit hx hc hs
theorem sA{scope:Scope}{Nc:List Str}{elt tg iter:Expr}{ifs:List Expr}{src:DI}{fr:List (Option Nat)}{dtg:fo}(S:bz X scope Nc fr)(hi:JI X tg iter src)(hg:∀C s H ex,JG (fe X scope Nc C s H ex) tg dtg)(ht:∀C s H ex,JC (fe X scope Nc C s H ex) ifs t)(he:∀C s H ex,JE (fe X scope Nc C s H ex) elt te)(fit:pq fr dtg)
 (hx:X.xe=fun _ _=>False:=by rfl) (hc:X.calm=true:=by rfl) (hs:∀x,foldedSetIterable iter X.env x=pure x:=by intro _;rfl):JE X (.ListComp elt [⟨tg,iter,ifs,0⟩] scope pos) (jt src fr dtg t te):=by
 unfold JE JI JG JC at*;exact HH S hi hg ht he fit hx hc hs
theorem ff:JB X [] fv:=by unfold JB;exact Ie
theorem aI(h:JS X s T):JB X [s] T:=by unfold JB;unfold JS at h;exact Ip h
theorem av(h:JS X s T)(h2:JB X ss U):JB X (s::ss) (aE T U):=by unfold JB at*;unfold JS at h;exact Fe h h2
theorem bh(h:JE X e te):JS X (.Return (some e) pos) (cm te):=by unfold JS;unfold JE at h;exact Ks h
theorem i8(h:JE X e te)(hc:kW e=true:=by rfl):JS X (.Expr e pos) (jv te):=by unfold JS;unfold JE at h;exact FF h hc
theorem gc{x y:List Stmt}(hc:JT X c t)(ha:JB X x T)(hb:JB X y U):JS X (.If c x y pos) (fR t T U):=by unfold JS;unfold JB at*;unfold JT at hc;exact MW hc ha hb
theorem qd{x:List Stmt}(hc:JT X c t)(hb:JB X x T)(hx:X.xe=fun _ _=>False:=by rfl):JS X (.While c x [] pos) (pC t T):=by unfold JS;unfold JB at hb;unfold JT at hc;exact FE (Fs (by rw[hx];exact PassesOwn.never) hc hb)
theorem g9{tg iter:Expr}{x:List Stmt}{src:DI}{dtg:fo}(hi:JI X tg iter src)(hg:JG X tg dtg)(hb:JB X x T)(hx:X.xe=fun _ _=>False:=by rfl)(hc:X.calm=true:=by rfl)(hs:∀x,foldedSetIterable iter X.env x=pure x:=by intro _;rfl):JS X (.For tg iter x [] pos) (iP src dtg T):=by
 unfold JS;unfold JI at hi;unfold JG at hg;unfold JB at hb;exact L8 (KP (by rw[hx];exact PassesOwn.never) hc hi hg hb hs)
theorem aS{k:Nat}{x:Str}(hN:X.N.Nodup)(hx:Loc X.env.scope x)(he:JE X e te)(hf:X.fn x=true\/X.env.scope.names.lookup x=some .local:=by first|exact .inl rfl|exact .inr rfl)(h:kW e=true:=by rfl)(hi:X.N[k]?=some x:=by rfl):JS X (.Assign [.Name x pos'] e pos) (a6 k te):=by
 unfold JS;unfold JE at he;exact C9 (HX hN hi hx he hf h)
theorem AD{scope:Scope}{Nc:List Str}{elt tg iter:Expr}{ifs:List Expr}{src:DI}{fr:List (Option Nat)}{dtg:fo}{k:Nat}{x:Str}(hN:X.N.Nodup)(hl:Loc X.env.scope x)(S:bz X scope Nc fr)(hi:JI X tg iter src)(hg:∀C s H ex,JG (fe X scope Nc C s H ex) tg dtg)(ht:∀C s H ex,JC (fe X scope Nc C s H ex) ifs t)(he:∀C s H ex,JE (fe X scope Nc C s H ex) elt te)(fit:pq fr dtg)
 (hf:X.fn x=true\/X.env.scope.names.lookup x=some .local:=by first|exact .inl rfl|exact .inr rfl) (hsw:swapsWith (.ListComp elt [⟨tg,iter,ifs,0⟩] scope p) (some (.Name x pos')) pos.line X.env=pure true:=by rfl) (hni:X.N[k]?=some x:=by rfl) (hx:X.xe=fun _ _=>False:=by rfl) (hc:X.calm=true:=by rfl) (hs:∀x,foldedSetIterable iter X.env x=pure x:=by intro _;rfl):
 JS X (.Assign [.Name x pos'] (.ListComp elt [⟨tg,iter,ifs,0⟩] scope p) pos) (a6 k (c7 src fr dtg t te)):=by
 unfold JS;unfold JE JI JG JC at*;exact Jd fit (AL hx hc S hi hg ht he hN hni hl hf hsw hs)
theorem Ab{scope:Scope}{Nc:List Str}{elt tg iter:Expr}{ifs:List Expr}{src:DI}{fr:List (Option Nat)}{dtg:fo}{k:Nat}{x:Str}(hN:X.N.Nodup)(hl:Loc X.env.scope x)(S:bz X scope Nc fr)(hi:JI X tg iter src)(hg:∀C s H ex,JG (fe X scope Nc C s H ex) tg dtg)(ht:∀C s H ex,JC (fe X scope Nc C s H ex) ifs t)(he:∀C s H ex,JE (fe X scope Nc C s H ex) elt te)(fit:pq fr dtg)
 (hf:X.fn x=true\/X.env.scope.names.lookup x=some .local:=by first|exact .inl rfl|exact .inr rfl) (hsw:swapsWith (.ListComp elt [⟨tg,iter,ifs,0⟩] scope p) (some (.Name x pos')) pos.line X.env=pure true:=by rfl) (hni:X.N[k]?=some x:=by rfl) (hx:X.xe=fun _ _=>False:=by rfl) (hc:X.calm=true:=by rfl) (hs:∀x,foldedSetIterable iter X.env x=pure x:=by intro _;rfl):
 JS X (.Assign [.Name x pos'] (.ListComp elt [⟨tg,iter,ifs,0⟩] scope p) pos) (a6 k (jt src fr dtg t te)):=by
 unfold JS;unfold JE JI JG JC at*;exact EO fit (AL hx hc S hi hg ht he hN hni hl hf hsw hs)
theorem eS(he:JE X e te)(ho:JE X o to)(hi:JE X i ti)(h1:kW e=true:=by rfl)(h2:jG i=true:=by rfl):JS X (.Assign [.Subscript o i pos'] e pos) (eR to ti te):=by unfold JS;unfold JE at*;exact yg (Ll he ho hi h1 h2)
theorem Lu{k:Nat}{x:Str}{op:Operator}{f:Int->Int->Int}(hN:X.N.Nodup)(hx:Loc X.env.scope x)(he:JE X e te)(ho:K_ X op (Li f))(hf:X.fn x=true\/X.env.scope.names.lookup x=some .local:=by first|exact .inl rfl|exact .inr rfl)(hi:X.N[k]?=some x:=by rfl):JS X (.AugAssign (.Name x pos') op e pos) (Cs k (zZ f) te):=by
 unfold JS;unfold JE at he;exact JL (Kj hN hi hx he ho hf)
theorem Dj{k j kt k2:Nat}{x y:Str}{px py pt pt2:Pos}(hN:X.N.Nodup)(hij:k≠j)(hx:X.env.scope.names.lookup x=some .local)(hy:X.env.scope.names.lookup y=some .local)(ha:JA X [a,b] ar)
 (hw:swappedStores [.Tuple [.Name x px,.Name y py] kt pt] (.Tuple [a,b] k2 pt2) X.env=pure (some [x,y]):=by rfl) (hc:X.calm=true:=by rfl) (hi:X.N[k]?=some x:=by rfl) (hj:X.N[j]?=some y:=by rfl) (hs:swapsWithSole [.Tuple [.Name x px,.Name y py] kt pt] (.Tuple [a,b] k2 pt2) pos.line X.env=pure false:=by rfl):
 JS X (.Assign [.Tuple [.Name x px,.Name y py] kt pt] (.Tuple [a,b] k2 pt2) pos) (Ck k j ar):=by unfold JS;unfold JA at ha;exact J_ (Kk hc hN hi hj hij hx hy ha hw hs)
theorem vp{tg:Expr}{dtg:fo}(he:JE X e te)(hg:JG X tg dtg)(hs:swapsWithSole [tg] e pos.line X.env=pure false:=by rfl)(hw:swappedStores [tg] e X.env=pure none:=by rfl)(h1:(assignEach [tg] X.env).map (·.2)=[assign tg X.env]:=by rfl):JS X (.Assign [tg] e pos) (v9 dtg te):=by
 unfold JS;unfold JE at he;unfold JG at hg;exact LY (yy he hg hs hw h1)
end
theorem cf{P:Program}{w:World}{K:PySem.W.Frag}{mg:Str->Option Value}{base:Heap}{x qual:Str}{st:Stmt}{f:Addr}{fd:FuncData}{N ps:List Str}{k:Nat}{sp:cK}{t:DS}(F:oj K x qual st f fd)(S:aU N ps (ai st))
 (hbody:∀(cdv:Value) (A:Around) (outer:List Env) (s:Shared) (H:Hp) (E:XK),cT k (A.deeper (envOfC qual (ai st) s.heap.objs.size f cdv))->JB (qA cL P w K mg base N qual (ai st) f cdv A outer s H E).uJ (gF st) t)
 (hsp:∀ds st K,sp ds st K->ds.length=ps.length/\t {nx:=fun _ st'=>K .aK st',rt:=K} (a_ N ds) st):bE P w K mg base cL (k+1) f fd ps (cQ sp):=by
 unfold JB at hbody;exact Nq F S hbody hsp
end L3
namespace HT
open PySem PyProof.Rows
section
variable {prog:Program}{w:World}{A:Around}{E:Value->Shared->Prop}{s:Shared}
theorem qV{t sl:Addr}{items:Array Value}{vl vu:Value}{lo hi:Option Int}{Q:Value->Shared->Prop}(ht:IsTup s.heap t items)(hs:s.heap.IsSliceOf sl vl vu .none)(pl:IsPart vl lo)(pu:IsPart vu hi)
 (hw:cp items.size 0 lo=0/\cp items.size items.size hi=items.size) (h:Q (.ref t) s):wpAny (model prog w) A (getItem (.ref t) (.ref sl)) Q E s:=by
 obtain⟨os,hos,hcs,hds⟩:=id hs;have hTs:s.TypeIs (.ref sl) "slice":=⟨os,hos,hcs⟩
 unfold getItem;try with_reducible refine wpAny_holding ?_
 first|refine wpAny_bind (wpAny_pure ?_)|skip
 refine wpAny_bind (wpAny_sequenceKey ht.typeIs (by decide) ?_)
 refine wpAny_bind (wpAny_callSpecial?_slot (name:=Str.ofString "__getitem__") ht.typeIs PyProof.Rows.slot_tuple_getitem
  (wpAny_call_entry PyProof.Rows.slot_tuple_getitem ht.typeIs entry_tuple_getitem ?_ (args_tuple_getitem _ _)))
 show wpAny _ _ (Builtin.Tuple.tupleItemsOf (.ref t) >>= _) _ _ s;refine wpAny_bind (tupleItemsOf_ ht ?_);refine wpAny_bind (wpAny_typeOf hTs ?_);rw[if_pos (by decide)];refine wpAny_bind (n_ hs pl pu ?_)
 have hyes:(((cp items.size 0 lo:Nat):Int)==0&&(1:Int)==1&&(cp items.size items.size hi-cp items.size 0 lo)==items.size)=true:=by
  rw[hw.1,hw.2];simp
 show wpAny _ _ (if(((cp items.size 0 lo:Nat):Int)==0&&(1:Int)==1&&(cp items.size items.size hi-cp items.size 0 lo)==items.size)=true then _ else _) _ _ s;rw[if_pos hyes];refine wpAny_bind ?_;unfold Builtin.Tuple.tupleIsExact;exact wpAny_bind (wpAny_typeOf ht.typeIs (wpAny_pure (wpAny_bind (wpAny_rule (wpAny_pure ⟨_,rfl,wpAny_pure h⟩)))))
end
end HT
namespace L3
open PySem L2
open PySem.Spec hiding items?
open PyProof.Rows hiding St
abbrev DO:=bL->ag->(Option Int->ag->Prop)->Prop
def dB:DO:=fun _ st K=>K none st
def fB(t:DE):DO:=fun σ st K=>t σ st fun d st1=>match d with| .int i=>K (some i) st1|_=>False
def cutD(xs:List D)(lo hi:Option Int):List D:=(xs.drop (HT.cp xs.length 0 lo)).take (HT.cp xs.length xs.length hi-HT.cp xs.length 0 lo)
def yj(d:D)(lo hi:Option Int)(st:ag)(K:DK):Prop:=match d with
 | .lst xs=>K (.lst (cutD xs lo hi)) st
 | .tup xs=>K (.tup (cutD xs lo hi)) st
 | .ref n=>(match st[n]? with|some (.lst xs)=>K (.lst (cutD xs lo hi)) st|_=>False)
 |_=>False
@[irreducible] def ku:D->Option Int->Option Int->ag->DK->Prop:=yj
def eC(t:DE)(lo hi:DO):DE:=fun σ st K=>t σ st fun d st1=>lo σ st1 fun l st2=>hi σ st2 fun u st3=>ku d l u st3 K
theorem ui{α:List (Option Addr)}{G:Hp}{xs:List D}{vs:List V}{lo hi:Option Int}(r:aJ α G xs vs):aJ α G (cutD xs lo hi) (qr vs lo hi):=by
 unfold cutD qr;rw[<-r.length];exact bo.mpr (tJ _ (tP _ (bo.mp r)))
def Pu(α:List (Option Addr))(G F:Hp)(K:Option Int->ag->Prop)(Q:Option Int->Hp->Prop):Prop:=∀o st',K o st'->∀α' G' H',Step α G α' G'->cx G' F H'->aP α' st' G'->Q o H'
inductive N3(t:DO)(σ:L2.St)(H:Hp)(Q:Option Int->Hp->Prop):Prop
 |mk (α:List (Option Addr)) (σd:bL) (st:ag) (K:Option Int->ag->Prop) (G F:Hp) (P:cx G F H) (R:dU α G σd σ) (S:aP α st G) (h:t σd st K) (k:Pu α G F K Q):N3 t σ H Q
def LO(t:DO):TO:=N3 t
section
variable {X:Cx}
theorem PO.imp{e:Option Expr}{t t':TO}(h:PO X e t)(f:∀σ H Q,t' σ H Q->t σ H Q):PO X e t':=fun pins s σ H Q I q=>h pins s σ H Q I (f σ H Q q)
theorem HA:PO X none (LO dB):=PO.imp IP fun σ H Q ⟨α,σd,st,K,G,F,P,R,S,t,k⟩=>k none st t α G H Step.refl P S
theorem Hr{e:Expr}{te:DE}(h:PE X e (LE te)):PO X (some e) (LO (fB te)):=PO.imp (IC h) fun σ H Q ⟨α,σd,st,K,G,F,P,R,S,t,k⟩=>by
 refine⟨α,σd,st,_,G,F,P,R,S,t,fun d st1 q α1 G1 H1 v s1 P1 S1 r1=>?_⟩;cases d<;>try exact q.elim
 unfold Rep at r1;exact⟨_,r1,k _ st1 q α1 G1 H1 s1 P1 S1⟩
def Pq(x:V)(lo hi:Option Int)(H:Hp)(Q:VK):Prop:=∃α d st K G F,cx G F H/\Rep α G d x/\aP α st G/\ku d lo hi st K/\LK α G F K Q
theorem IV:DP X (fun x lo hi H Q=>∃a xs,x= .ref a/\H a=some (.tup xs)/\((HT.cp xs.length 0 lo=0/\HT.cp xs.length xs.length hi=xs.length)->Q (.ref a) H)/\(¬(HT.cp xs.length 0 lo=0/\HT.cp xs.length xs.length hi=xs.length)->∀p,H p=none->Q (.ref p) (upd H p (.tup (qr xs lo hi))))):=by
 intro pins s σ H x v vl vu lo hi sl Q I rx hs pl pu h;obtain⟨a,xs,rfl,hx,q1,q2⟩:=h;by_cases hw:HT.cp xs.length 0 lo=0/\HT.cp xs.length xs.length hi=xs.length
 . cases rx;obtain⟨aq,r,ht,hz⟩:=I.tuple (iY.of hx);have hlen:aq.toArray.size=xs.length:=by rw[List.size_toArray];exact r.length.symm
   exact⟨"tuple",_,PyProof.Rows.slot_tuple_getitem.lookup,ht.typeIs,HT.qV ht hs pl pu (by rw[hlen];exact hw) ⟨.ref a,H,I,rfl,q1 hw⟩⟩
 . exact KS pins s σ H _ v vl vu lo hi sl Q I rx hs pl pu ⟨a,xs,rfl,.of hx,hw,q2 hw⟩
theorem CN{xs:List D}{lo hi:Option Int}(hw:HT.cp xs.length 0 lo=0/\HT.cp xs.length xs.length hi=xs.length):cutD xs lo hi=xs:=by
 unfold cutD;rw[hw.1,hw.2];simp
theorem JK:DP X Pq:=by
 intro pins s σ H x v vl vu lo hi sl Q I rx hs pl pu ⟨α,d,st,K,G,F',P,r1,S,q,k⟩;unfold ku yj at q;cases d<;>try exact q.elim
 . rename_i n;simp only at q;split at q
   . rename_i xs e;obtain⟨a,ea,vs,h1,h2⟩:=S.f7 e;have r1':=eL ea r1;subst r1';exact Bc pins s σ H _ v vl vu lo hi sl Q I rx hs pl pu ⟨a,vs,rfl,.inl (.of (P.get h1)),fun p hp=>k.lst P q S (ui h2) hp⟩
   . exact q.elim
 . unfold Rep at r1;obtain⟨a,vs,rfl,na,ha,ra⟩:=r1;exact Bc pins s σ H _ v vl vu lo hi sl Q I rx hs pl pu ⟨a,vs,rfl,.inl (gq P ha),fun p hp=>k.lst P q S (ui ra) hp⟩
 . rename_i xs;have r0:=r1;unfold Rep at r1;obtain⟨a,vs,rfl,na,ha,ra⟩:=r1;refine IV pins s σ H _ v vl vu lo hi sl Q I rx hs pl pu ⟨a,vs,rfl,P.get ha,fun hw=>?_,fun _ p hp=>k.tup P q S (ui ra) hp⟩;rw[<-ra.length]at hw;simp only at q;rw[CN hw]at q;exact k.here P q S r0
theorem Io{e:Expr}{lo hi:Option Expr}{te:DE}{tl th:DO}{p2 pos:Pos}(he:PE X e (LE te))(hl:PO X lo (LO tl))(hh:PO X hi (LO th)):PE X (.Subscript e (.Slice lo hi none p2) pos) (LE (eC te tl th)):=PE.imp (E6 JK he hl hh) fun σ H Q ⟨α,σd,st,K,G,F,P,R,S,t,k⟩=>by
 refine⟨α,σd,st,_,G,F,P,R,S,t,fun d st1 q α1 G1 H1 v s1 P1 S1 r1=>?_⟩;refine⟨α1,σd,st1,_,G1,F,P1,R.step s1,S1,q,fun l st2 q2 α2 G2 H2 s2 P2 S2=>?_⟩;refine⟨α2,σd,st2,_,G2,F,P2,(R.step s1).step s2,S2,q2,fun u st3 q3 α3 G3 H3 s3 P3 S3=>?_⟩;exact⟨α3,d,st3,K,G3,F,P3,(r1.step s2).step s3,S3,q3,((k.at s1).at s2).at s3⟩
@[irreducible] def JO(X:Cx)(e:Option Expr)(t:DO):Prop:=PO X e (LO t)
theorem fK:JO X none dB:=by unfold JO;exact HA
theorem fH{e:Expr}{te:DE}(h:JE X e te):JO X (some e) (fB te):=by unfold JO;unfold JE at h;exact Hr h
theorem fI{e:Expr}{lo hi:Option Expr}{te:DE}{tl th:DO}{p2 pos:Pos}(he:JE X e te)(hl:JO X lo tl)(hh:JO X hi th):JE X (.Subscript e (.Slice lo hi none p2) pos) (eC te tl th):=by unfold JE at*;unfold JO at*;exact Io he hl hh
end
theorem oz{st:ag}{K:DK}{xs:List D}{lo hi:Option Int}(k:K (.lst (cutD xs lo hi)) st):ku (.lst xs) lo hi st K:=by unfold ku;exact k
theorem gK{st:ag}{K:DK}{xs:List D}{lo hi:Option Int}(k:K (.tup (cutD xs lo hi)) st):ku (.tup xs) lo hi st K:=by unfold ku;exact k
theorem Eo{st:ag}{K:DK}{xs:List D}{lo hi:Option Int}{n:Nat}(h:st[n]?=some (.lst xs))(k:K (.lst (cutD xs lo hi)) st):ku (.ref n) lo hi st K:=by unfold ku yj;simp only[h];exact k
section
variable {prog:Program}{w:World}{A:Around}{E:Value->Shared->Prop}{s:Shared}
theorem BY{iT tp:Addr}{n:Nat}{aq:Array Value}{v:Value}{Q:Value->Shared->Prop}(hI:s.heap.IsTupleIter iT tp n)(hT:s.heap.IsTuple tp aq)(hv:aq[n]?=some v)
 (q:∀g,g.IsTupleIter iT tp (n+1)->Heap.SameBut iT s.heap g->Q v {s with heap:=g}):wpAny (model prog w) A (Builtin.SmallTypes.nextOf (.ref iT)) Q E s:=by
 obtain⟨oI,eI,cI,dI⟩:=id hI;obtain⟨oT,eT,_,nT,dT⟩:=hT;unfold Builtin.SmallTypes.nextOf;refine wpAny_bind (wpAny_callSpecial?_slot (name:=Str.ofString "__next__") hI.typeIs F.slot_tuple_iterator_next (wpAny_call_entry F.slot_tuple_iterator_next hI.typeIs F.entry_tuple_iterator_next ?_ (F.args_tuple_iterator_next_1 _)));show wpAny _ _ (field (.ref iT) 0 >>= _) _ _ s;refine wpAny_bind (wpAny_field eI dI (x:= .ref tp) rfl ?_);show wpAny _ _ (if(Value.ref tp==Value.none)=true then _ else _) _ _ s;rw[if_neg (show¬((Value.ref tp==Value.none)=true)from Bool.false_ne_true)];show wpAny _ _ (field (.ref iT) 1 >>= _) _ _ s;refine wpAny_bind (wpAny_field eI dI (x:= .int n 0) rfl ?_);show wpAny _ _ (seqItems? (.ref tp) >>= _) _ _ s;refine wpAny_bind (wpAny_seqItems eT dT ?_);simp only[Int.toNat_natCast,hv];refine wpAny_bind (wpAny_setField eI dI (by simp) (wpAny_pure ⟨v,rfl,wpAny_pure (q _ ?_ (Heap.SameBut.update ..))⟩));refine⟨_,Heap.get?_update_self _ eI (Obj.isFreed_of_fields (Obj.data_mapFields dI _)),(Obj.cls_mapFields ..).trans cI,?_⟩;rw[Obj.data_mapFields dI];simp[rawInt]
theorem DF{iT tp:Addr}{n:Nat}{aq:Array Value}{Q:Value->Shared->Prop}(hh:A.handled=none)(hI:s.heap.IsTupleIter iT tp n)(hT:s.heap.IsTuple tp aq)(hv:aq[n]?=none)
 (q:∀g e,Heap.ExtBut iT s.heap g->(∃o,g.get? e=some o/\o.cls= .type "StopIteration")->E (.ref e) {s with heap:=g}):wpAny (model prog w) A (Builtin.SmallTypes.nextOf (.ref iT)) Q E s:=by
 obtain⟨oI,eI,cI,dI⟩:=id hI;obtain⟨oT,eT,_,nT,dT⟩:=hT;unfold Builtin.SmallTypes.nextOf;refine wpAny_bind (wpAny_callSpecial?_slot (name:=Str.ofString "__next__") hI.typeIs F.slot_tuple_iterator_next (wpAny_call_entry F.slot_tuple_iterator_next hI.typeIs F.entry_tuple_iterator_next ?_ (F.args_tuple_iterator_next_1 _)));show wpAny _ _ (field (.ref iT) 0 >>= _) _ _ s;refine wpAny_bind (wpAny_field eI dI (x:= .ref tp) rfl ?_);show wpAny _ _ (if(Value.ref tp==Value.none)=true then _ else _) _ _ s;rw[if_neg (show¬((Value.ref tp==Value.none)=true)from Bool.false_ne_true)];show wpAny _ _ (field (.ref iT) 1 >>= _) _ _ s;refine wpAny_bind (wpAny_field eI dI (x:= .int n 0) rfl ?_);show wpAny _ _ (seqItems? (.ref tp) >>= _) _ _ s;refine wpAny_bind (wpAny_seqItems eT dT ?_);simp only[Int.toNat_natCast,hv];refine wpAny_bind (wpAny_rule (wpAny_bind (wpAny_setField eI dI (by simp) ?_)));show wpAny _ _ (newExc (.type "StopIteration") [] >>= _) _ _ _;refine wpAny_bind ?_;simp only[newExc,newTuple];refine wpAny_bind (wpAny_newObj_type ?_ (by size_fits));refine wpAny_bind (m:=firstArgMember _ _) (wpAny_of_eq (a:=Value.none) (by first|rfl|(simp only[firstArgMember];rfl)) ?_);refine wpAny_newObj_type ?_ (by size_fits);simp only[raiseNew];refine wpAny_bind (wpAny_handled ?_);first|rw[show A.in1.handled=none from hh]|rw[hh]
 refine wpAny_bind (wpAny_pure (wpAny_throw ?_));exact q _ _ (((Heap.SameBut.update ..).extBut.push _).push _) ⟨_,Heap.get?_push_size _ rfl,rfl⟩
end
section
variable {st:ag}{K:DK}{i j:Int}{b c:Bool}{xs ys:List D}{d e:D}{n:Nat}
theorem eqT(h:i=j)(k:K (.bl true) st):j8 (.int i) (.int j) st K:=Eg (by rw[decide_eq_true h];exact k)
theorem Pl(h:i≠j)(k:K (.bl false) st):j8 (.int i) (.int j) st K:=Eg (by rw[decide_eq_false h];exact k)
theorem eq2(h1:i=j->K (.bl true) st)(h2:i≠j->K (.bl false) st):j8 (.int i) (.int j) st K:=by
 by_cases h:i=j
 . exact eqT h (h1 h)
 . exact Pl h (h2 h)
theorem neT(h:i≠j)(k:K (.bl true) st):pB (.int i) (.int j) st K:=GS (by rw[decide_eq_false h];exact k)
theorem GC(h:i=j)(k:K (.bl false) st):pB (.int i) (.int j) st K:=GS (by rw[decide_eq_true h];exact k)
theorem ne2(h1:i≠j->K (.bl true) st)(h2:i=j->K (.bl false) st):pB (.int i) (.int j) st K:=by
 by_cases h:i=j
 . exact GC h (h2 h)
 . exact neT h (h1 h)
theorem O_(h:i<j)(k:K (.bl true) st):pX (.int i) (.int j) st K:=Hi (by rw[decide_eq_true h];exact k)
theorem Pf(h:j<=i)(k:K (.bl false) st):pX (.int i) (.int j) st K:=Hi (by rw[decide_eq_false (by omega)];exact k)
theorem AJ(h1:i<j->K (.bl true) st)(h2:j<=i->K (.bl false) st):pX (.int i) (.int j) st K:=by
 by_cases h:i<j
 . exact O_ h (h1 h)
 . exact Pf (by omega) (h2 (by omega))
theorem NY(h:j<i)(k:K (.bl true) st):qM (.int i) (.int j) st K:=BP (by rw[decide_eq_true h];exact k)
theorem Pt(h:i<=j)(k:K (.bl false) st):qM (.int i) (.int j) st K:=BP (by rw[decide_eq_false (by omega)];exact k)
theorem JP(h1:j<i->K (.bl true) st)(h2:i<=j->K (.bl false) st):qM (.int i) (.int j) st K:=by
 by_cases h:j<i
 . exact NY h (h1 h)
 . exact Pt (by omega) (h2 (by omega))
theorem Pj(h:j<=i)(k:K (.bl true) st):zG (.int i) (.int j) st K:=Gf (by rw[decide_eq_true h];exact k)
theorem Px(h:i<j)(k:K (.bl false) st):zG (.int i) (.int j) st K:=Gf (by rw[decide_eq_false (by omega)];exact k)
theorem PC{P:Prop}(h:xs.length<=1000)(k:P):xs.length<=sizeLine/\P:=⟨by rw[sizeLine_eq];omega,k⟩
theorem bH{m:Nat}(h:m<=1000):m<=sizeLine:=by rw[sizeLine_eq];omega
theorem wu(h0:0<=i)(e:xs[i.toNat]?=some d):eQ xs i=some d:=by
 have:=je e;rw[Int.toNat_of_nonneg h0]at this;exact this
theorem K8{m:Nat}(h0:0<=i)(h:i.toNat<m):jl m i=some i.toNat:=by
 unfold jl;have:i<(m:Int):=by omega
 simp[h0,this]
end
theorem ib{tg:fo}{body:DS}{ok:ag->Prop}{E:iC}(I:List D->bL->ag->Prop)(hend:∀σ st,I [] σ st->ok st/\E.nx σ st)
 (hstep:∀x xs σ st,I (x::xs) σ st->(∀σ' st',I xs σ' st'->iD tg body ok E xs σ' st')->ok st/\∃σ1,tg x σ=some σ1/\body {E with nx:=iD tg body ok E xs,ct:=iD tg body ok E xs,bk:=E.nx} σ1 st):
 ∀xs σ st,I xs σ st->iD tg body ok E xs σ st
 | [],σ,st,h=>by unfold iD;exact hend σ st h
 |x::xs,σ,st,h=>by unfold iD;exact hstep x xs σ st h fun σ' st' h'=>ib I hend hstep xs σ' st' h'
theorem iG{tg:fo}{c:DT}{te:DE}{ok:ag->Prop}{σc:bL}{K:List D->ag->Prop}(I:List D->List D->ag->Prop)(hend:∀acc st,I [] acc st->ok st/\K acc st)
 (hstep:∀x xs acc st,I (x::xs) acc st->(∀acc' st',I xs acc' st'->dD tg c te ok σc xs acc' st' K)->ok st/\∃σ2,tg x σc=some σ2/\c σ2 st fun b st1=>if b=true then te σ2 st1 fun y st2=>dD tg c te ok σc xs (acc++[y]) st2 K else dD tg c te ok σc xs acc st1 K):
 ∀xs acc st,I xs acc st->dD tg c te ok σc xs acc st K
 | [],acc,st,h=>by unfold dD;exact hend acc st h
 |x::xs,acc,st,h=>by unfold dD;exact hstep x xs acc st h fun acc' st' h'=>iG I hend hstep xs acc' st' h'
theorem comp_map{tg:fo}{te:DE}{ok:ag->Prop}{σc:bL}{st:ag}{K:List D->ag->Prop}{g:D->D}(aM:ok st)(xs:List D)(hx:∀x∈xs,∀K',K' (g x) st->∃σ2,tg x σc=some σ2/\te σ2 st K')(k:K (xs.map g) st):dD tg cz te ok σc xs [] st K:=by
 refine iG (fun r acc st'=>st'=st/\(∀x∈r,x∈xs)/\acc++r.map g=xs.map g) (fun acc st' h=>?_) (fun x r acc st' h next=>?_) xs [] st ⟨rfl,fun _ h=>h,rfl⟩
 . obtain⟨rfl,_,e⟩:=h;rw[List.map_nil,List.append_nil]at e;rw[e];exact⟨aM,k⟩
 . obtain⟨rfl,hm,e⟩:=h;obtain⟨σ2,e2,q⟩:=hx x (hm x List.mem_cons_self) (fun y st2=>dD tg cz te ok σc r (acc++[y]) st2 K) (next _ _ ⟨rfl,fun z hz=>hm z (List.mem_cons_of_mem _ hz),by rw[<-e];simp⟩);exact⟨aM,σ2,e2,q⟩
theorem lj{A B:DS}{E:iC}{σ:bL}{st:ag}(J:bL->ag->Prop)(h:∀nx,(∀σ' st',J σ' st'->nx σ' st')->A {E with nx:=nx} σ st)(k:∀σ' st',J σ' st'->B E σ' st'):aE A B E σ st:=h (B E) k
def JU(n:Nat)(K:DK)(y:D)(st2:ag):Prop:=∃y',[y]=[y']/\(match st2[n]? with|some (.lst xs)=>xs.length<sizeLine/\K .aK (st2.set n (.lst (xs++[y'])))|_=>False)
theorem sQ{n:Nat}{K:DK}{y:D}{st:ag}{xs:List D}(e:st[n]?=some (.lst xs))(h:xs.length<sizeLine)(k:K .aK (st.set n (.lst (xs++[y])))):JU n K y st:=by
 refine⟨y,rfl,?_⟩;simp only[e];exact⟨h,k⟩
@[irreducible] def jP(to te:DE):DE:=pw to te
theorem u7{σ:bL}{st:ag}{K:DK}{i n:Nat}{xs:List D}{te:DE}(ei:σ[i]?=some (some (.ref n)))(e:st[n]?=some (.lst xs))(h:te σ st (JU n K)):jP (aa i) te σ st K:=by
 unfold jP pw aa;simp only[ei,e];exact h
theorem oG{X:Cx}{o e:Expr}{to te:DE}{apos cpos:Pos}(ho:JE X o to)(he:JE X e te)(hbase:attributeBase o "append" X.env (eval o X.env)=eval o X.env:=by rfl)(hline:(apos.endLine==cpos.line)=true:=by rfl)(hs:notStar e=true:=by rfl):JE X (.Call (.Attribute o "append" apos) [e] [] cpos) (jP to te):=by
 unfold jP;exact F5 ho he hbase hline hs
@[irreducible] def oN(i:Nat)(t:DS):DS:=fun D σ st=>match σ[i]? with
 |some (some (.ref n))=>(match st[n]? with|some (.lst xs)=>t D (σ.set i (some (.lst xs))) (st.set n .dead)|_=>False)
 |_=>False
section
variable {X:Cx}
theorem J9{s:Stmt}{i:Nat}{t:DS}(h:PS X s (LS t)):PS X s (LS (oN i t)):=PS.imp h fun D σ H ⟨α,σd,st,DD,G,F,P,R,S,q,k⟩=>by
 unfold oN at q;split at q
 . rename_i n e;split at q
   . rename_i xs e2;have hn:n<st.length:=(List.getElem?_eq_some_iff.mp e2).1;obtain⟨v,ev,rv⟩:=R.at' i _ e;have R2:dU (α.set n none) G (σd.set i (some (.lst xs))) (σ.set i (some v)):=(R.step Step.et).set i (S.vX e2 rv)
     have es:σ.set i (some v)=σ:=by
      refine List.ext_getElem? fun j=>?_;by_cases hj:i=j
      . subst hj;rw[List.getElem?_set_self (List.getElem?_eq_some_iff.mp ev).1,ev]
      . rw[List.getElem?_set_ne hj]
     rw[es]at R2;exact⟨α.set n none,_,_,DD,G,F,P,R2,S.et hn,q,k.at Step.et⟩
   . exact q.elim
 . exact q.elim
theorem zo{s:Stmt}{i:Nat}{t:DS}(h:JS X s t):JS X s (oN i t):=by unfold JS at*;exact J9 h
end
theorem yU{σ:bL}{st:ag}{E:iC}{i n:Nat}{t:DS}{xs:List L3.D}(e:σ[i]?=some (some (.ref n)))(e2:st[n]?=some (.lst xs))(k:t E (σ.set i (some (.lst xs))) (st.set n .dead)):oN i t E σ st:=by
 unfold oN;simp only[e,e2];exact k
structure Src(P:Program)(w:World)(t a:Addr)(J:Nat->Heap->Prop)(us:Array Value):Prop where
 fr:∀n g k,J n g->(∀b,b=t\/b=a->∀o,g.get? b=some o->k.get? b=some o)->J n k
 lv:∀n g,J n g->(∃o,g.get? t=some o)/\∃o,g.get? a=some o
 nx:∀n (A:Around) (s:Shared) (Q:Value->Shared->Prop) (E:Value->Shared->Prop) v,J n s.heap->us[n]?=some v->(∀k,J (n+1) k->Heap.SameBut t s.heap k->Q v {s with heap:=k})->wpAny (model P w) A (Builtin.SmallTypes.nextOf (.ref t)) Q E s
 en:∀n (A:Around) (s:Shared) (Q:Value->Shared->Prop) (E:Value->Shared->Prop),A.handled=none->J n s.heap->us[n]?=none->(∀k e,Heap.ExtBut t s.heap k->(∃o,k.get? e=some o/\o.cls= .type "StopIteration")->E (.ref e) {s with heap:=k})->wpAny (model P w) A (Builtin.SmallTypes.nextOf (.ref t)) Q E s
section
variable {P:Program}{w:World}
theorem src_list(t a:Addr)(hne:a≠t)(us:Array Value):Src P w t a (fun n g=>g.IsListIter t a n/\g.IsList a us) us where
 fr:=fun n g k j kp=>⟨j.1.at fun o e=>kp t (.inl rfl) o e,j.2.at fun o e=>kp a (.inr rfl) o e⟩
 lv:=fun n g j=>⟨let⟨o,e,_⟩:=j.1;⟨o,e⟩,let⟨o,e,_⟩:=j.2;⟨o,e⟩⟩
 nx:=fun n A s Q E v j hv q=>wpAny_nextOf_list_item j.1 j.2 hv fun k jk sb=>q k ⟨jk,j.2.extBut sb.extBut hne⟩ sb
 en:=fun n A s Q E hh j hv q=>wpAny_nextOf_list_end hh j.1 j.2 hv q
theorem Jv(t a:Addr)(hne:a≠t)(us:Array Value):Src P w t a (fun n g=>g.IsTupleIter t a n/\g.IsTuple a us) us where
 fr:=fun n g k j kp=>by
  obtain⟨⟨o,e,r⟩,⟨o2,e2,r2⟩⟩:=j;exact⟨⟨o,kp t (.inl rfl) o e,r⟩,⟨o2,kp a (.inr rfl) o2 e2,r2⟩⟩
 lv:=fun n g j=>⟨let⟨o,e,_⟩:=j.1;⟨o,e⟩,let⟨o,e,_⟩:=j.2;⟨o,e⟩⟩
 nx:=fun n A s Q E v j hv q=>BY j.1 j.2 hv fun k jk sb=>q k ⟨jk,j.2.extBut sb.extBut hne⟩ sb
 en:=fun n A s Q E hh j hv q=>DF hh j.1 j.2 hv q
theorem Src.ext{t a c:Addr}{J:Nat->Heap->Prop}{us:Array Value}(S:Src P w t a J us){n:Nat}{g k:Heap}(j:J n g)(x:Heap.ExtBut c g k)(h1:c≠t)(h2:c≠a):J n k:=
 S.fr n g k j fun b hb o e=>x b o (by rcases hb with rfl|rfl;exact Ne.symm h1;exact Ne.symm h2) e
structure AM(z ti to t1 t2 a1 a2:Addr):Prop where
 nd: [z,ti,to,t1,t2].Nodup
 a1:a1∉[z,ti,to,t1,t2]
 a2:a2∉[z,ti,to,t1,t2]
section
variable {z ti to t1 t2 a1 a2:Addr}
theorem AM.n(D:AM z ti to t1 t2 a1 a2):(ti≠z/\to≠z/\t1≠z/\t2≠z)/\(ti≠to/\ti≠t1/\ti≠t2)/\(to≠t1/\to≠t2)/\t1≠t2:=by
 have:=D.nd;simp only[List.nodup_cons,List.mem_cons,not_or,List.not_mem_nil,not_false_eq_true,and_true,List.nodup_nil]at this;obtain⟨⟨b1,b2,b3,b4⟩,⟨b5,b6,b7⟩,⟨b8,b9⟩,b10⟩:=this;exact⟨⟨Ne.symm b1,Ne.symm b2,Ne.symm b3,Ne.symm b4⟩,⟨b5,b6,b7⟩,⟨b8,b9⟩,b10⟩
theorem Ep{A:Around}{s:Shared}{E:Value->Shared->Prop}{J1 J2:Nat->Heap->Prop}{us vs:Array Value}{n:Nat}{x y a b:Value}{Q:Value->Shared->Prop}(D:AM z ti to t1 t2 a1 a2)(S1:Src P w t1 a1 J1 us)(S2:Src P w t2 a2 J2 vs)
 (Z:IsZip s.heap z ti to .none) (pI:IsPair s.heap ti (.ref t1) (.ref t2)) (pO:IsPair s.heap to a b) (j1:J1 n s.heap) (j2:J2 n s.heap) (ex:us[n]?=some x) (ey:vs[n]?=some y)
 (q:∀k,IsZip k z ti to (rawInt s.heap.objs.size)->IsPair k to x y->J1 (n+1) k->J2 (n+1) k->IsPair k s.heap.objs.size x y->k.objs.size=s.heap.objs.size+1->
   (∀c o,c≠z->c≠to->c≠t1->c≠t2->s.heap.get? c=some o->k.get? c=some o)->Q (.ref s.heap.objs.size) {s with heap:=k}):
 wpAny (model P w) A (Builtin.«zip.__next__» ⟨[.ref z],[]⟩) (fun fin s'=>∃v,fin= .done (.ret v)/\Q v s') E s:=by
 obtain⟨⟨n1,n2,n3,n4⟩,⟨n5,n6,n7⟩,⟨n8,n9⟩,n10⟩:=D.n;have m1:=D.a1;have m2:=D.a2;simp only[List.mem_cons,not_or,List.not_mem_nil,not_false_eq_true,and_true]at m1 m2;show wpAny _ _ (field (.ref z) 2 >>= _) _ _ _;refine wpAny_bind (wpAny_field Z rfl (x:= .bool false) rfl ?_);show wpAny _ _ (field (.ref z) 3 >>= _) _ _ _;refine wpAny_bind (wpAny_field Z rfl (x:= .ref ti) rfl ?_);refine wpAny_bind (wpAny_seqItems pI rfl ?_);show wpAny _ _ (Builtin.SmallTypes.ownedTupleIsFree (.ref z) >>= _) _ _ _;refine wpAny_bind ?_;unfold Builtin.SmallTypes.ownedTupleIsFree;refine wpAny_bind (wpAny_field Z rfl (x:= .none) rfl (wpAny_pure ?_));simp only[if_true];refine wpAny_bind (wpAny_rule ?_);refine wpAny_bind (wpAny_field Z rfl (x:= .ref to) rfl ?_);refine wpAny_bind (wpAny_setField_rec Z (by simp) fun k1 Z1 b1=>?_);replace Z1:IsZip k1 z ti to .ellipsis:=Z1;refine wpAny_bind ?_;simp only[List.zipIdx_cons,List.zipIdx_nil,List.forIn_cons,List.forIn_nil];refine wpAny_bind (wpAny_bind (wpAny_onRaise ?_));show wpAny _ _ (Builtin.SmallTypes.nextOf (.ref t1) >>= _) _ _ _;refine wpAny_bind (S1.nx n _ _ _ _ x (S1.ext j1 b1.extBut (Ne.symm n3) (Ne.symm m1.1)) ex fun k2 j1b b2=>wpAny_pure ?_);have pO2:IsPair k2 to a b:=b2.extBut _ _ n8 (b1.extBut _ _ n2 pO);refine wpAny_bind (wpAny_seqItems pO2 rfl ?_);refine wpAny_bind (wpAny_updateSeq_pair pO2 fun k3 pO3 b3=>?_);replace pO3:IsPair k3 to x b:=pO3;refine wpAny_bind (wpAny_letGo (wpAny_pure ?_));refine wpAny_bind (wpAny_bind (wpAny_onRaise ?_));show wpAny _ _ (Builtin.SmallTypes.nextOf (.ref t2) >>= _) _ _ _;have j2c:J2 n k3:=S2.ext (S2.ext (S2.ext j2 b1.extBut (Ne.symm n4) (Ne.symm m2.1)) b2.extBut n10 (Ne.symm m2.2.2.2.1)) b3.extBut n9 (Ne.symm m2.2.2.1);refine wpAny_bind (S2.nx n _ _ _ _ y j2c ey fun k4 j2d b4=>wpAny_pure ?_);have pO4:IsPair k4 to x b:=b4.extBut _ _ n9 pO3;refine wpAny_bind (wpAny_seqItems pO4 rfl ?_);refine wpAny_bind (wpAny_updateSeq_pair pO4 fun k5 pO5 b5=>?_);replace pO5:IsPair k5 to x y:=pO5;refine wpAny_bind (wpAny_letGo (wpAny_pure (wpAny_pure ?_)));refine wpAny_bind (wpAny_seqItems pO5 rfl ?_);refine wpAny_bind (wpAny_newTuple ?_);have sz:k5.objs.size=s.heap.objs.size:=by rw[b5.1,b4.1,b3.1,b2.1,b1.1]
 have Z5:IsZip k5 z ti to .ellipsis:=b5.extBut _ _ (Ne.symm n2) (b4.extBut _ _ (Ne.symm n4) (b3.extBut _ _ (Ne.symm n2) (b2.extBut _ _ (Ne.symm n3) Z1)));have kp5:∀c o,c≠z->c≠to->c≠t1->c≠t2->s.heap.get? c=some o->k5.get? c=some o:=fun c o c1 c2 c3 c4 e=>b5.extBut _ _ c2 (b4.extBut _ _ c4 (b3.extBut _ _ c2 (b2.extBut _ _ c3 (b1.extBut _ _ c1 e))));have j1e:J1 (n+1) k5:=S1.ext (S1.ext (S1.ext j1b b3.extBut n8 (Ne.symm m1.2.2.1)) b4.extBut (Ne.symm n10) (Ne.symm m1.2.2.2.2)) b5.extBut n8 (Ne.symm m1.2.2.1);have j2e:J2 (n+1) k5:=S2.ext j2d b5.extBut n9 (Ne.symm m2.2.2.1);have ltz:z<k5.objs.size:=Heap.lt_size Z5;show wpAny _ _ (Builtin.SmallTypes.ownedTupleHandOut (.ref z) (.ref k5.objs.size) >>= _) _ _ _;refine wpAny_bind ?_;unfold Builtin.SmallTypes.ownedTupleHandOut;have Z6:IsZip (k5.push {cls:= .type "tuple",data:= .seq #[x,y]}) z ti to .ellipsis:=Heap.get?_push_of_some _ Z5;refine wpAny_bind (wpAny_setField_rec Z6 (by simp) fun k7 Z7 b7=>?_);replace Z7:IsZip k7 z ti to (rawInt k5.objs.size):=Z7;refine wpAny_setField_rec Z7 (by simp) fun k8 Z8 b8=>?_;replace Z8:IsZip k8 z ti to (rawInt k5.objs.size):=Z8;have up:∀c o,c≠z->k5.get? c=some o->k8.get? c=some o:=fun c o c1 e=>b8.extBut _ _ c1 (b7.extBut _ _ c1 (Heap.get?_push_of_some _ e));have pT:IsPair k8 k5.objs.size x y:=b8.extBut _ _ (Nat.ne_of_gt ltz) (b7.extBut _ _ (Nat.ne_of_gt ltz) (Heap.get?_push_size _ rfl));have sz8:k8.objs.size=k5.objs.size+1:=by rw[b8.1,b7.1,Heap.size_push]
 rw[sz]at Z8 pT sz8;refine wpAny_pure ⟨_,rfl,?_⟩;show Q (.ref k5.objs.size) _;rw[sz];refine q k8 Z8 (up _ _ n2 pO5) (S1.fr _ _ _ j1e fun b hb o e=>up b o ?_ e) (S2.fr _ _ _ j2e fun b hb o e=>up b o ?_ e) pT sz8 fun c o c1 c2 c3 c4 e=>up c o c1 (kp5 c o c1 c2 c3 c4 e)
 . rcases hb with rfl|rfl
   . exact n3
   . exact m1.1
 . rcases hb with rfl|rfl
   . exact n4
   . exact m2.1
theorem Fb{A:Around}{s:Shared}{E:Value->Shared->Prop}{J1 J2:Nat->Heap->Prop}{us vs:Array Value}{n:Nat}{a b:Value}{Q:Fin->Shared->Prop}(hh:A.handled=none)(D:AM z ti to t1 t2 a1 a2)(S1:Src P w t1 a1 J1 us)(S2:Src P w t2 a2 J2 vs)
 (Z:IsZip s.heap z ti to .none) (pI:IsPair s.heap ti (.ref t1) (.ref t2)) (pO:IsPair s.heap to a b) (j1:J1 n s.heap) (j2:J2 n s.heap) (he:us[n]?=none\/vs[n]?=none)
 (q:∀k e,(∀c o,c≠z->c≠to->c≠t1->c≠t2->s.heap.get? c=some o->k.get? c=some o)->(∃o,k.get? e=some o/\o.cls= .type "StopIteration")->E (.ref e) {s with heap:=k}):
 wpAny (model P w) A (Builtin.«zip.__next__» ⟨[.ref z],[]⟩) Q E s:=by
 obtain⟨⟨n1,n2,n3,n4⟩,⟨n5,n6,n7⟩,⟨n8,n9⟩,n10⟩:=D.n;have m1:=D.a1;have m2:=D.a2;simp only[List.mem_cons,not_or,List.not_mem_nil,not_false_eq_true,and_true]at m1 m2;show wpAny _ _ (field (.ref z) 2 >>= _) _ _ _;refine wpAny_bind (wpAny_field Z rfl (x:= .bool false) rfl ?_);show wpAny _ _ (field (.ref z) 3 >>= _) _ _ _;refine wpAny_bind (wpAny_field Z rfl (x:= .ref ti) rfl ?_);refine wpAny_bind (wpAny_seqItems pI rfl ?_);show wpAny _ _ (Builtin.SmallTypes.ownedTupleIsFree (.ref z) >>= _) _ _ _;refine wpAny_bind ?_;unfold Builtin.SmallTypes.ownedTupleIsFree;refine wpAny_bind (wpAny_field Z rfl (x:= .none) rfl (wpAny_pure ?_));simp only[if_true];refine wpAny_bind (wpAny_rule ?_);refine wpAny_bind (wpAny_field Z rfl (x:= .ref to) rfl ?_);refine wpAny_bind (wpAny_setField_rec Z (by simp) fun k1 Z1 b1=>?_);replace Z1:IsZip k1 z ti to .ellipsis:=Z1;refine wpAny_bind ?_;simp only[List.zipIdx_cons,List.zipIdx_nil,List.forIn_cons,List.forIn_nil];refine wpAny_bind (wpAny_bind (wpAny_onRaise ?_));show wpAny _ _ (Builtin.SmallTypes.nextOf (.ref t1) >>= _) _ _ _;have j1a:J1 n k1:=S1.ext j1 b1.extBut (Ne.symm n3) (Ne.symm m1.1);cases ex:us[n]? with
 |none=>
  refine wpAny_bind (S1.en n _ _ _ _ hh j1a ex fun k2 e b2 hx=>?_);obtain⟨oe,he1,he2⟩:=hx;have Z2:IsZip k2 z ti to .ellipsis:=b2 _ _ (Ne.symm n3) Z1;have hez:e≠z:=fun c=>by subst c;rw[Z2]at he1;cases he1;simp at he2
  refine wpAny_setField_rec Z2 (by simp) fun k3 _ b3=>q k3 e (fun c o c1 _ c3 _ f=>b3.extBut _ _ c1 (b2 _ _ c3 (b1.extBut _ _ c1 f))) ⟨oe,b3.extBut _ _ hez he1,he2⟩
 |some x=>
  have ey:vs[n]?=none:=by
   rcases he with h|h
   . rw[ex]at h;cases h
   . exact h
  refine wpAny_bind (S1.nx n _ _ _ _ x j1a ex fun k2 j1b b2=>wpAny_pure ?_);have pO2:IsPair k2 to a b:=b2.extBut _ _ n8 (b1.extBut _ _ n2 pO);refine wpAny_bind (wpAny_seqItems pO2 rfl ?_);refine wpAny_bind (wpAny_updateSeq_pair pO2 fun k3 pO3 b3=>?_);refine wpAny_bind (wpAny_letGo (wpAny_pure ?_));refine wpAny_bind (wpAny_bind (wpAny_onRaise ?_));show wpAny _ _ (Builtin.SmallTypes.nextOf (.ref t2) >>= _) _ _ _;have j2c:J2 n k3:=S2.ext (S2.ext (S2.ext j2 b1.extBut (Ne.symm n4) (Ne.symm m2.1)) b2.extBut n10 (Ne.symm m2.2.2.2.1)) b3.extBut n9 (Ne.symm m2.2.2.1);refine wpAny_bind (S2.en n _ _ _ _ hh j2c ey fun k4 e b4 hx=>?_);obtain⟨oe,he1,he2⟩:=hx;have Z4:IsZip k4 z ti to .ellipsis:=b4 _ _ (Ne.symm n4) (b3.extBut _ _ (Ne.symm n2) (b2.extBut _ _ (Ne.symm n3) Z1));have hez:e≠z:=fun c=>by subst c;rw[Z4]at he1;cases he1;simp at he2
  refine wpAny_setField_rec Z4 (by simp) fun k5 _ b5=>q k5 e (fun c o c1 c2 c3 c4 f=>b5.extBut _ _ c1 (b4 _ _ c4 (b3.extBut _ _ c2 (b2.extBut _ _ c3 (b1.extBut _ _ c1 f))))) ⟨oe,b5.extBut _ _ hez he1,he2⟩
end
end
theorem F7{X:Cx}{pins:List (Addr×Obj)}{σ:L2.St}{H:Hp}{s:Shared}{g:Heap}{tk:Nat}{fp:List Addr}{T:Addr}{xs:List V}(I:Inv X pins σ H s)(hf:∀b∈fp,k_ X pins H b)
 (k:∀b o,b∉fp->s.heap.get? b=some o->g.get? b=some o) (hT:s.heap.objs.size<=T) (new:dz X.prog X.w (upd H T (.tup xs)) g T (.tup xs)):Inv X pins σ (upd H T (.tup xs)) {s with heap:=g,toks:=tk}:=by
 have hn:H T=none:=I.aM.fresh hT;have nfp:∀b u,H b=some u->b∉fp:=fun b u e z=>by rw[(hf b z).1]at e;cases e
 have nT:∀b u,H b=some u->b≠T:=fun b u e=>dE e hn
 refine I.step (g':=s.gens) (d':=s.drawn) (ch:=fp) (fun b hb=>?_) (fun b o _ _ hc e _=>k b o hc e) (fun b o _ _ hc e _=>⟨o.slots,k b o hc e⟩) (fun b o _ e n=>?_) (fun b o hc e=>⟨o,k b o hc e⟩)
  (fun b ys e=>by rw[aA (nT b _ e)];exact e) (fun b o u e=>by rw[aA (nT b _ e)];exact e) (fun b ps e=>⟨#[],by rw[aA (nT b _ e),e];simp⟩) (fun m hm=>?_) (fun b u e=>?_) I.bare
 . obtain⟨f0,f1,f2,f3,f4,f5⟩:=hf b hb;exact⟨f3,f1,f4,f5⟩
 . rw[aA (Nat.ne_of_lt (Nat.lt_of_lt_of_le (Heap.lt_size e) hT))];exact n
 . obtain⟨o,es,ep,ho,r⟩:=hm;exact⟨o,es,ep,k _ o (fun z=>(hf _ z).2.1 rfl) ho,r⟩
 . by_cases hb:b=T
   . subst hb;rw[aX]at e;cases e;exact new
   . rw[aA hb]at e;refine(I.aM b u e).o6 (fun c v hc q=>k c v ?_ q) (fun c q=>by rw[aA (nT c _ q)];exact q) fun c ys q=>by rw[aA (nT c _ q)];exact q
     rcases hc with z|z
     . rw[z];exact nfp b u e
     . exact nfp c _ z
theorem F8{X:Cx}{pins:List (Addr×Obj)}{σ:L2.St}{H:Hp}{s:Shared}{g:Heap}{tk:Nat}{fp:List Addr}(I:Inv X pins σ H s)(hf:∀b∈fp,k_ X pins H b)
 (k:∀b o,b∉fp->s.heap.get? b=some o->g.get? b=some o):Inv X pins σ H {s with heap:=g,toks:=tk}:=by
 have nfp:∀b u,H b=some u->b∉fp:=fun b u e z=>by rw[(hf b z).1]at e;cases e
 refine I.step (g':=s.gens) (d':=s.drawn) (ch:=fp) (fun b hb=>?_) (fun b o _ _ hc e _=>k b o hc e) (fun b o _ _ hc e _=>⟨o.slots,k b o hc e⟩) (fun b o _ e n=>n) (fun b o hc e=>⟨o,k b o hc e⟩)
  (fun b ys e=>e) (fun b o u e=>e) (fun b ps e=>⟨#[],by rw[e];simp⟩) (fun m hm=>?_) (fun b u e=>?_) I.bare
 . obtain⟨f0,f1,f2,f3,f4,f5⟩:=hf b hb;exact⟨f3,f1,f4,f5⟩
 . obtain⟨o,es,ep,ho,r⟩:=hm;exact⟨o,es,ep,k _ o (fun z=>(hf _ z).2.1 rfl) ho,r⟩
 . refine(I.aM b u e).o6 (fun c v hc q=>k c v ?_ q) (fun c q=>q) fun c ys q=>q;rcases hc with z|z
   . rw[z];exact nfp b u e
   . exact nfp c _ z
inductive SK where
 |l|t
def pW(k:SK)(K:PySem.W.Frag)(H:Hp)(a:Addr)(xs:List V):Prop:=match k with
 | .l=>md K H a xs
 | .t=>iY K H a xs
def qP(k:SK)(t a:Addr)(n:Nat)(g:Heap):Prop:=match k with
 | .l=>g.IsListIter t a n
 | .t=>g.IsTupleIter t a n
def kT(k:SK)(g:Heap)(a:Addr)(us:Array Value):Prop:=match k with
 | .l=>g.IsList a us
 | .t=>g.IsTuple a us
def yO(k:SK)(a:Addr):Obj:=match k with
 | .l=>{cls:= .type "list_iterator",data:= .fields #[.ref a,.int 0 0]}
 | .t=>{cls:= .type "tuple_iterator",data:= .fields #[.ref a,.int 0 0]}
theorem mV{P:Program}{w:World}(k:SK)(t a:Addr)(hne:a≠t)(us:Array Value):Src P w t a (fun n g=>qP k t a n g/\kT k g a us) us:=by
 cases k
 . exact src_list t a hne us
 . exact Jv t a hne us
theorem kc{X:Cx}{pins:List (Addr×Obj)}{σ:L2.St}{H:Hp}{s:Shared}{k:SK}{a:Addr}{xs:List V}(I:Inv X pins σ H s)(h:pW k X.K H a xs):∃aq:List Value,Vals xs aq/\kT k s.heap a aq.toArray:=by
 cases k
 . obtain⟨aq,rv,p,_⟩:=I.list h;exact⟨aq,rv,p.isList⟩
 . obtain⟨aq,rv,p,_⟩:=I.tuple h;exact⟨aq,rv,p⟩
theorem vT{X:Cx}{pins:List (Addr×Obj)}{σ:L2.St}{H:Hp}{s:Shared}{k:SK}{a:Addr}{xs ys:List V}(I:Inv X pins σ H s)(h:pW k X.K H a xs)(h':pW k X.K H a ys):xs=ys:=by
 cases k
 . exact I.ym h h'
 . exact I.xa h h'
theorem Dp{P:Program}{w:World}{A:Around}{s:Shared}{E:Value->Shared->Prop}{k:SK}{a:Addr}{us:Array Value}{Q:Value->Shared->Prop}(h:kT k s.heap a us)(q:Q (.ref s.heap.objs.size) {s with heap:=s.heap.push (yO k a)}):wpAny (model P w) A (pyIter (.ref a)) Q E s:=by
 cases k
 . exact wpAny_pyIter_list h q
 . exact wpAny_pyIter_tuple h q
theorem kT.push{k:SK}{g:Heap}{a:Addr}{us:Array Value}(h:kT k g a us)(o:Obj):kT k (g.push o) a us:=by
 cases k
 . obtain⟨o',e,r⟩:=h;exact⟨o',Heap.get?_push_of_some _ e,r⟩
 . obtain⟨o',e,r⟩:=h;exact⟨o',Heap.get?_push_of_some _ e,r⟩
theorem kT.some{k:SK}{g:Heap}{a:Addr}{us:Array Value}(h:kT k g a us):∃o,g.get? a=Option.some o:=by
 cases k
 . obtain⟨o',e,r⟩:=h;exact⟨o',e⟩
 . obtain⟨o',e,r⟩:=h;exact⟨o',e⟩
theorem AK{k:SK}{g h:Heap}{t a:Addr}(e:g.get? t=Option.some (yO k a)):qP k t a 0 g:=by
 cases k
 . exact⟨_,e,rfl,rfl⟩
 . exact⟨_,e,rfl,rfl⟩
theorem pV{k:SK}{t a:Addr}{n:Nat}{g g':Heap}(h:qP k t a n g)(kp:∀o,g.get? t=Option.some o->g'.get? t=Option.some o):qP k t a n g':=by
 cases k
 . obtain⟨o,e,r⟩:=h;exact⟨o,kp o e,r⟩
 . obtain⟨o,e,r⟩:=h;exact⟨o,kp o e,r⟩
theorem nD{k:SK}{t a:Addr}{n:Nat}{g:Heap}(h:qP k t a n g):∃o,g.get? t=Option.some o/\∀v,o.data≠ .cell v:=by
 cases k
 . obtain⟨o,e,c,d⟩:=h;exact⟨o,e,fun v z=>by rw[d]at z;cases z⟩
 . obtain⟨o,e,c,d⟩:=h;exact⟨o,e,fun v z=>by rw[d]at z;cases z⟩
def NT(K:PySem.W.Frag)(k1 k2:SK)(a1 a2:Addr):It:=
 ⟨fun i H=>∃xs ys x y,pW k1 K H a1 xs/\pW k2 K H a2 ys/\xs[i]?=some x/\ys[i]?=some y,
  fun i H v H'=>∃T x y,H T=none/\v= .ref T/\H'=upd H T (.tup [x,y])/\(∀xs,pW k1 K H a1 xs->xs[i]?=some x)/\∀ys,pW k2 K H a2 ys->ys[i]?=some y,
  fun i H=>∃xs ys,pW k1 K H a1 xs/\pW k2 K H a2 ys/\(xs.length<=i\/ys.length<=i)⟩
def NN(z ti to t1 t2 a1 a2:Addr)(k1 k2:SK)(i:Nat)(h:Heap):Prop:=IsZip h z ti to .none/\IsPair h ti (.ref t1) (.ref t2)/\(∃a b,IsPair h to a b)/\qP k1 t1 a1 i h/\qP k2 t2 a2 i h
theorem Ft{P:Program}{w:World}{K:PySem.W.Frag}{elts:List Expr}{kx:Nat}{pos:Pos}{z ti to t1 t2 a1 a2:Addr}(k1 k2:SK)(D:AM z ti to t1 t2 a1 a2):
 Turn P w K (.Tuple elts kx pos) (NT K k1 k2 a1 a2) [z,ti,to,t1,t2] z (NN z ti to t1 t2 a1 a2 k1 k2) where
 mem:=by simp
 obj:=fun i h st b hb=>by
  obtain⟨Z,pI,⟨a,b',pO⟩,i1,i2⟩:=st;simp only[List.mem_cons,List.not_mem_nil,or_false]at hb;rcases hb with rfl|rfl|rfl|rfl|rfl
  . exact⟨_,Z,fun v e=>by cases e⟩
  . exact⟨_,pI,fun v e=>by cases e⟩
  . exact⟨_,pO,fun v e=>by cases e⟩
  . exact nD i1
  . exact nD i2
 keep:=fun i h h' st k=>by
  obtain⟨Z,pI,⟨a,b',pO⟩,i1,i2⟩:=st;exact⟨k z (by simp) _ Z,k ti (by simp) _ pI,⟨a,b',k to (by simp) _ pO⟩,pV i1 (k t1 (by simp)),pV i2 (k t2 (by simp))⟩
 item:=by
  intro X hP hw hK hc i pins s σ H E I hf st hg;subst hP hw hK;obtain⟨Z,pI,⟨a,b',pO⟩,i1,i2⟩:=st;obtain⟨xs,ys,x,y,q1,q2,ex,ey⟩:=hg;obtain⟨us,r1,l1⟩:=kc I q1;obtain⟨vs,r2,l2⟩:=kc I q2;obtain⟨u,eu,ru⟩:=r1.get ex;obtain⟨v,ev,rv⟩:=r2.get ey;have m1:=D.a1;have m2:=D.a2;simp only[List.mem_cons,not_or,List.not_mem_nil,not_false_eq_true,and_true]at m1 m2;obtain⟨⟨n1,n2,n3,n4⟩,⟨n5,n6,n7⟩,⟨n8,n9⟩,n10⟩:=D.n;have tz:s.TypeIs (.ref z) "zip":=⟨_,Z,rfl⟩
  unfold pyNext;refine wpAny_bind (wpAny_attempt (wpAny_callSpecial?_slot (name:=Str.ofString "__next__") tz F.slot_zip_next (wpAny_call_entry F.slot_zip_next tz F.entry_zip_next (Ep D (mV k1 t1 a1 m1.2.2.2.1 us.toArray) (mV k2 t2 a2 m2.2.2.2.2 vs.toArray) Z pI pO ⟨i1,l1⟩ ⟨i2,l2⟩ (x:=u) (y:=v) (by simpa using eu) (by simpa using ev) fun k Z2 pO2 j1 j2 pT szk kp=>wpAny_pure ⟨_,rfl,?_⟩) (F.args_zip_next_1 _))));refine wpAny_letOwnedTupleGo_zip (s:={s with heap:=k}) Z2 fun k' Z3 b3=>?_;have hT:s.heap.objs.size≠z:=Nat.ne_of_gt (Heap.lt_size Z)
  have kp3:∀b o,b∉[z,ti,to,t1,t2]->s.heap.get? b=some o->k'.get? b=some o:=fun b o hb e=>by
   simp only[List.mem_cons,not_or,List.not_mem_nil,not_false_eq_true,and_true]at hb;exact b3.extBut _ _ hb.1 (kp b o hb.1 hb.2.2.1 hb.2.2.2.1 hb.2.2.2.2 e)
  refine⟨.ref s.heap.objs.size,upd H s.heap.objs.size (.tup [x,y]),F7 (s:=s) (tk:=s.toks) I hf kp3 (Nat.le_refl _) ?_,rfl,⟨s.heap.objs.size,x,y,I.aM.fresh (Nat.le_refl _),rfl,rfl,?_,?_⟩,?_,?_⟩
  . refine⟨Nat.le_of_ble_eq_true rfl,[u,v],.cons ru (.cons rv .nil),?_⟩;exact⟨_,b3.extBut _ _ hT pT,rfl,_,rfl⟩
  . intro xs' q';rw[vT I q' q1];exact ex
  . intro ys' q';rw[vT I q' q2];exact ey
  . refine⟨Z3,b3.extBut _ _ n1 (kp _ _ n1 n5 n6 n7 pI),⟨_,_,b3.extBut _ _ n2 pO2⟩,pV j1.1 fun o e=>b3.extBut _ _ n3 e,pV j2.1 fun o e=>b3.extBut _ _ n4 e⟩
  . intro b hb
    have:b≠s.heap.objs.size:=by
     obtain⟨o,e,_⟩:∃o,s.heap.get? b=some o/\True:=by
      simp only[List.mem_cons,List.not_mem_nil,or_false]at hb;rcases hb with rfl|rfl|rfl|rfl|rfl
      . exact⟨_,Z,trivial⟩
      . exact⟨_,pI,trivial⟩
      . exact⟨_,pO,trivial⟩
      . obtain⟨o,e,_⟩:=nD i1;exact⟨o,e,trivial⟩
      . obtain⟨o,e,_⟩:=nD i2;exact⟨o,e,trivial⟩
     exact Nat.ne_of_lt (Heap.lt_size e)
    rw[aA this];exact(hf b hb).1
 done:=by
  intro X hP hw hK hc i pins s σ H E I hf st hg;subst hP hw hK;obtain⟨Z,pI,⟨a,b',pO⟩,i1,i2⟩:=st;obtain⟨xs,ys,q1,q2,he⟩:=hg;obtain⟨us,r1,l1⟩:=kc I q1;obtain⟨vs,r2,l2⟩:=kc I q2;have e1:=r1.length;have e2:=r2.length;have m1:=D.a1;have m2:=D.a2;simp only[List.mem_cons,not_or,List.not_mem_nil,not_false_eq_true,and_true]at m1 m2;have tz:s.TypeIs (.ref z) "zip":=⟨_,Z,rfl⟩
  unfold pyNext;refine wpAny_bind (wpAny_attempt (wpAny_callSpecial?_slot (name:=Str.ofString "__next__") tz F.slot_zip_next (wpAny_call_entry F.slot_zip_next tz F.entry_zip_next (Fb (I.ok.hd hc) D (mV k1 t1 a1 m1.2.2.2.1 us.toArray) (mV k2 t2 a2 m2.2.2.2.2 vs.toArray) Z pI pO ⟨i1,l1⟩ ⟨i2,l2⟩ ?_ fun k e kp hx=>?_) (F.args_zip_next_1 _))))
  . rcases he with h|h
    . left;simp;omega
    . right;simp;omega
  . obtain⟨o,ho,hc2⟩:=hx;refine wpAny_bind (wpAny_isInstance (T:="StopIteration") (b:=true) ⟨o,ho,hc2⟩ isSubtype_stop ?_);refine wpAny_pure ⟨rfl,F8 (s:=s) (tk:=s.toks) I hf fun b o hb e=>?_⟩;simp only[List.mem_cons,not_or,List.not_mem_nil,not_false_eq_true,and_true]at hb;exact kp b o hb.1 hb.2.2.1 hb.2.2.2.1 hb.2.2.2.2 e
 self:=fun _ _ _ _ _ st h=>wpAny_pyIter_zip st.1 h
abbrev GP(h:Heap)(k1:SK)(a1:Addr):Heap:=h.push (yO k1 a1)
abbrev GR(h:Heap)(k1 k2:SK)(a1 a2:Addr):Heap:=(GP h k1 a1).push (yO k2 a2)
abbrev GK(h:Heap)(k1 k2:SK)(a1 a2:Addr):Heap:=(GR h k1 k2 a1 a2).push {cls:= .type "tuple",data:= .seq #[.ref h.objs.size,.ref (GP h k1 a1).objs.size]}
abbrev Gh(h:Heap)(k1 k2:SK)(a1 a2:Addr):Heap:=(GK h k1 k2 a1 a2).push {cls:= .type "tuple",data:= .seq #[.none,.none]}
abbrev AR(h:Heap)(k1 k2:SK)(a1 a2:Addr):Heap:=(Gh h k1 k2 a1 a2).push {cls:= .type "zip",data:= .fields #[.none,.bool false,.bool false,.ref (GR h k1 k2 a1 a2).objs.size,.ref (GK h k1 k2 a1 a2).objs.size]}
theorem El(k1 k2:SK)(a1 a2:Addr)(us vs:Array Value):Meets (Builtin.«zip.__new__» ⟨[.type "zip",.ref a1,.ref a2],[]⟩) (fun _ R s=>kT k1 s.heap a1 us/\kT k2 s.heap a2 vs/\
 R (.ok (.ret (.ref (Gh s.heap k1 k2 a1 a2).objs.size))) {s with heap:=AR s.heap k1 k2 a1 a2}):=
 .of_wp fun P w A R s h=>by
  obtain⟨hp,g,d,tk,os⟩:=s;obtain⟨c1,c2,h⟩:=h;have hsub:=sub_zip;have L1:kT k1 (Shared.heap ⟨hp,g,d,tk,os⟩) a1 us:=c1;have L2:kT k2 (Shared.heap ⟨hp.push (yO k1 a1),g,d,tk,os⟩) a2 vs:=kT.push c2 _
  wp_walk using Dp L1,Dp L2
  exact⟨_,rfl,h⟩
theorem F3{P:Program}{w:World}{A:Around}{s:Shared}{E:Value->Shared->Prop}{k1 k2:SK}{a1 a2:Addr}{us vs:Array Value}{Q:Value->Shared->Prop}(c1:kT k1 s.heap a1 us)(c2:kT k2 s.heap a2 vs)
 (q:∀g n,n=s.heap.objs.size->IsZip g (n+4) (n+2) (n+3) .none->IsPair g (n+2) (.ref n) (.ref (n+1))->IsPair g (n+3) .none .none->qP k1 n a1 0 g->qP k2 (n+1) a2 0 g->(∀c o,s.heap.get? c=some o->g.get? c=some o)->Q (.ref (n+4)) {s with heap:=g}):
 wpAny (model P w) A (call (.type "zip") [.ref a1,.ref a2]) Q E s:=by
 refine callType_new F.called_zip (by decide) (F.typeCall_zip_2 _ _) (F.newCall_zip_2 _ _) (fun ob=>F.args_object_init_3 ob _ _) F.entry_zip_new (El k1 k2 a1 a2 us vs) ⟨c1,c2,?_⟩;have y1:(GP s.heap k1 a1).objs.size=s.heap.objs.size+1:=Heap.size_push ..;have y2:(GR s.heap k1 k2 a1 a2).objs.size=s.heap.objs.size+2:=by rw[Heap.size_push,y1]
 have y3:(GK s.heap k1 k2 a1 a2).objs.size=s.heap.objs.size+3:=by rw[Heap.size_push,y2]
 have y4:(Gh s.heap k1 k2 a1 a2).objs.size=s.heap.objs.size+4:=by rw[Heap.size_push,y3]
 have e5:(AR s.heap k1 k2 a1 a2).get? (Gh s.heap k1 k2 a1 a2).objs.size=some _:=Heap.get?_push_size _ rfl;have e4:(AR s.heap k1 k2 a1 a2).get? (GK s.heap k1 k2 a1 a2).objs.size=some _:=Heap.get?_push_of_some _ (Heap.get?_push_size _ rfl);have e3:(AR s.heap k1 k2 a1 a2).get? (GR s.heap k1 k2 a1 a2).objs.size=some _:=Heap.get?_push_of_some _ (Heap.get?_push_of_some _ (Heap.get?_push_size _ rfl));have e2:(AR s.heap k1 k2 a1 a2).get? (GP s.heap k1 a1).objs.size=some (yO k2 a2):=Heap.get?_push_of_some _ (Heap.get?_push_of_some _ (Heap.get?_push_of_some _ (Heap.get?_push_size _ (by cases k2<;>rfl))));have e1:(AR s.heap k1 k2 a1 a2).get? s.heap.objs.size=some (yO k1 a1):=Heap.get?_push_of_some _ (Heap.get?_push_of_some _ (Heap.get?_push_of_some _ (Heap.get?_push_of_some _ (Heap.get?_push_size _ (by cases k1<;>rfl)))));show _/\_;rw[y2,y3,y4]at e5;rw[y1,y2]at e3;rw[y3]at e4;rw[y1]at e2;rw[y4];exact⟨⟨_,e5,rfl⟩,q _ _ rfl e5 e3 e4 (AK (h:=s.heap) e1) (AK (h:=s.heap) e2) fun c o x=>Heap.get?_push_of_some _ (Heap.get?_push_of_some _ (Heap.get?_push_of_some _ (Heap.get?_push_of_some _ (Heap.get?_push_of_some _ x))))⟩
def Hc:D->SK
 | .tup _=> .t
 |_=> .l
def DU(k:SK)(G:Hp)(a:Addr)(vs:List V):Prop:=match k with
 | .l=>Rd G a (.lst vs)
 | .t=>G a=some (.tup vs)
theorem jB{K:PySem.W.Frag}{k:SK}{G F H:Hp}(P:cx G F H){a:Addr}{vs:List V}(h:DU k G a vs):pW k K H a vs:=by
 cases k
 . exact .inl (gq P h)
 . exact iY.of (P.get h)
theorem nt{α:List (Option Addr)}{H:Hp}{st:ag}{d:D}{v:V}{xs:List D}(S:aP α st H)(r:Rep α H d v)(e:items? st d=some xs):∃p vs,v= .ref p/\aJ α H xs vs/\DU (Hc d) H p vs:=by
 cases d<;>try(cases e;done)
 . unfold items? at e;simp only at e;split at e
   . rename_i ys q;cases e;obtain⟨a,ea,vs,h1,h2⟩:=S.f7 q;exact⟨a,vs,eL ea r,h2,Rd.of h1⟩
   . cases e
 . cases e;unfold Rep at r;obtain⟨a,vs,rfl,_,h1,h2⟩:=r;exact⟨a,vs,rfl,h2,h1⟩
 . cases e;unfold Rep at r;obtain⟨a,vs,rfl,_,h1,h2⟩:=r;exact⟨a,vs,rfl,h2,h1⟩
def fE(xs ys:List D):List D:=(xs.zip ys).map fun p=> .tup [p.1,p.2]
theorem nP{xs ys:List D}:(fE xs ys).length=min xs.length ys.length:=by unfold fE;simp
theorem ud{xs ys:List D}{n:Nat}{d:D}(e:(fE xs ys)[n]?=some d):∃x y,xs[n]?=some x/\ys[n]?=some y/\d= .tup [x,y]:=by
 unfold fE at e;rw[List.getElem?_map]at e;cases q:(xs.zip ys)[n]? with
 |none=>rw[q]at e;cases e
 |some p=>
  rw[q]at e;cases e;rw[List.getElem?_zip_eq_some]at q;exact⟨p.1,p.2,q.1,q.2,rfl⟩
theorem KH{K:PySem.W.Frag}{k1 k2:SK}{a1 a2:Addr}{α:List (Option Addr)}{G:Hp}{ok:ag->Prop}{xs ys:List D}
 (h:∀α' G' st',Step α G α' G'->aP α' st' G'->ok st'->∃vs ws,DU k1 G' a1 vs/\DU k2 G' a2 ws/\aJ α' G' xs vs/\aJ α' G' ys ws):uo (NT K k1 k2 a1 a2) α G ok (fE xs ys) where
 stop:=fun n α' G' F' H' st' s P S o hn=>by
  obtain⟨vs,ws,h1,h2,r1,r2⟩:=h α' G' st' s S o;rw[nP]at hn;refine⟨vs,ws,jB P h1,jB P h2,?_⟩;have:=r1.length;have:=r2.length;omega
 go:=fun n d α' G' F' H' st' s P S o hn=>by
  obtain⟨vs,ws,h1,h2,r1,r2⟩:=h α' G' st' s S o;obtain⟨x,y,ex,ey,rfl⟩:=ud hn;obtain⟨v,ev,_⟩:=r1.get ex;obtain⟨u,eu,_⟩:=r2.get ey;exact⟨vs,ws,v,u,jB P h1,jB P h2,ev,eu⟩
 oH:=fun n d α' G' F' H' st' x H'' s P S o hn y=>by
  obtain⟨vs,ws,h1,h2,r1,r2⟩:=h α' G' st' s S o;obtain⟨c,e,ec,ee,rfl⟩:=ud hn;obtain⟨T,v,u,hT,rfl,rfl,y1,y2⟩:=y;obtain⟨v',ev,rv⟩:=r1.get ec;obtain⟨u',eu,ru⟩:=r2.get ee;rw[y1 vs (jB P h1)]at ev;rw[y2 ws (jB P h2)]at eu;cases ev;cases eu;have hg:=(P.none hT).1;refine⟨upd G' T (.tup [v,u]),Step.laid hg,P.laid hT,S.laid hg,?_⟩;unfold Rep;refine⟨T,[v,u],rfl,S.kF hg,aX,?_⟩;unfold aJ;refine⟨v,[u],rfl,rv.step (Step.laid hg),?_⟩;unfold aJ;exact⟨u,[],rfl,ru.step (Step.laid hg),by unfold aJ;rfl⟩
def Ff(ds:List D)(st1:ag)(K:List D->(ag->Prop)->ag->Prop):Prop:=match ds with
 | [x,y]=>(match items? st1 x,items? st1 y with
   |some xs,some ys=>K (fE xs ys) (fun st'=>items? st' x=some xs/\items? st' y=some ys) st1
   |_,_=>False)
 |_=>False
@[irreducible] def vG:List D->ag->(List D->(ag->Prop)->ag->Prop)->Prop:=Ff
def uc(t:DA):DI:=fun σ st K=>t σ st fun ds st1=>vG ds st1 K
theorem HN{n a1 a2:Nat}(h1:a1<n)(h2:a2<n):AM (n+4) (n+2) (n+3) n (n+1) a1 a2:=by
 have e0:([n+4,n+2,n+3,n,n+1]:List Nat).Nodup:=by
  simp only[List.nodup_cons,List.mem_cons,not_or,List.not_mem_nil,not_false_eq_true,and_true,List.nodup_nil];omega
 have e1:∀a:Nat,a<n->a∉([n+4,n+2,n+3,n,n+1]:List Nat):=fun a ha=>by
  simp only[List.mem_cons,not_or,List.not_mem_nil,not_false_eq_true,and_true];omega
 exact⟨e0,e1 a1 h1,e1 a2 h2⟩
theorem Lp{X:Cx}{a b:Expr}{elts:List Expr}{kx:Nat}{tpos p pos:Pos}{t:DA}(hg:Gl X "zip")(hm:X.mg "zip"=none)(ha:PA X [a,b] (LA t))(hs:starEach [a,b] X.env=[(false,eval a X.env),(false,eval b X.env)])(hs2:starEach [b] X.env=[(false,eval b X.env)]):
 PI X (.Tuple elts kx tpos) (.Call (.Name "zip" p) [a,b] [] pos) (LI (uc t)):=by
 intro pins s σ H R I h;obtain⟨α,σd,st,K,G,F,P,RS,S,t,k⟩:=h;refine Call_ (kL I hg hm boot_zip (PyProof.Rows.callWith_type1 (cu (ha pos pins s σ H (fun vs H1=>∃ds α1 G1 st1,Step α G α1 G1/\cx G1 F H1/\aP α1 st1 G1/\aJ α1 G1 ds vs/\vG ds st1 K) I ⟨α,σd,st,_,G,F,P,RS,S,t,fun ds st1 q α1 G1 H1 vs s1 P1 S1 r1=>⟨ds,α1,G1,st1,s1,P1,S1,r1,q⟩⟩) fun us s1 ⟨vs,H1,I1,rv,ds,α1,G1,st1,w1,P1,S1,r1,q⟩=>?_) (by rw[hs,hs2]) (by rw[hs2];rfl)));unfold vG Ff at q;split at q
 . rename_i x y;split at q
   . rename_i xs ys ex ey;obtain⟨v1,v2,rfl,q1,q2⟩:=kD r1 rfl;obtain⟨p1,vs1,rfl,g1,c1⟩:=nt S1 q1 ex;obtain⟨p2,vs2,rfl,g2,c2⟩:=nt S1 q2 ey;obtain⟨u1,u2,rfl,ru1,ru2⟩:=vals2 rv;cases ru1;cases ru2;obtain⟨its1,_,l1⟩:=kc I1 (jB P1 c1);obtain⟨its2,_,l2⟩:=kc I1 (jB P1 c2);refine F3 l1 l2 fun g n hn Z pI pO i1 i2 kp=>?_;obtain⟨o1,eo1⟩:=l1.some;obtain⟨o2,eo2⟩:=l2.some;refine wpAny_pyIter_zip (s:={s1 with heap:=g}) Z ?_;refine⟨n+4,[n+4,n+2,n+3,n,n+1],_,_,H1,rfl,I1.kept (t':=s1.toks) kp,Ft (Hc x) (Hc y) (HN (by rw[hn];exact Heap.lt_size eo1) (by rw[hn];exact Heap.lt_size eo2)),⟨Z,pI,⟨_,_,pO⟩,i1,i2⟩,fun b hb=>?_,?_⟩
     . have hb':s1.heap.objs.size<=b:=by
        simp only[List.mem_cons,List.not_mem_nil,or_false]at hb;rcases hb with rfl|rfl|rfl|rfl|rfl<;>(rw[<-hn];first|exact Nat.le_refl _|exact Nat.le_add_right _ _)
       exact I1.t_ hb' (I1.aM.fresh hb')
     . refine k _ _ st1 q _ α1 G1 H1 w1 P1 S1 (KH fun α' G' st' s' S' o=>?_);obtain⟨p1',ws1,e1,f1,d1⟩:=nt S' (q1.step s') o.1;obtain⟨p2',ws2,e2,f2,d2⟩:=nt S' (q2.step s') o.2;cases e1;cases e2;exact⟨ws1,ws2,d1,d2,f1,f2⟩
   . exact q.elim
 . exact q.elim
theorem rD{st:ag}{x y:D}{xs ys:List D}{K:List D->(ag->Prop)->ag->Prop}(ex:items? st x=some xs)(ey:items? st y=some ys)(k:∀ok:ag->Prop,(∀st',items? st' x=some xs->items? st' y=some ys->ok st')->K (fE xs ys) ok st):vG [x,y] st K:=by
 unfold vG Ff;simp only[ex,ey];exact k _ fun st' h1 h2=>⟨h1,h2⟩
theorem u6{X:Cx}{a b:Expr}{elts:List Expr}{kx:Nat}{tpos p pos:Pos}{ar:DA}(hg:Gl X "zip")(hm:X.mg "zip"=none)(ha:JA X [a,b] ar)(hs:notStar a=true:=by rfl)(hs2:notStar b=true:=by rfl):JI X (.Tuple elts kx tpos) (.Call (.Name "zip" p) [a,b] [] pos) (uc ar):=by
 unfold JI;unfold JA at ha;exact Lp hg hm ha (by rw[cF hs,cF hs2];rfl) (cF hs2)
theorem yR(f:Nat->Int):∀n,preSum f (n+1)=f 0+preSum (fun i=>f (i+1)) n
 |0=>by show preSum f 0+f 0=f 0+0;show(0:Int)+f 0=f 0+0;omega
 |n+1=>by
  have h:=yR f n;show preSum f (n+1)+f (n+1)=f 0+(preSum (fun i=>f (i+1)) n+f (n+1));rw[h];omega
theorem AA:∀ns:List Int,preSum (fun i=>ns.getD i 0) ns.length=ns.sum
 | []=>rfl
 |n::ns=>by
  rw[List.length_cons,yR];have:(fun i=>(n::ns).getD (i+1) 0)=fun i=>ns.getD i 0:=by funext i;simp
  rw[this,AA ns,List.sum_cons];rfl
section
variable {X:Cx}
def xY:e8:=fun ds st K=>match ds with| [.lst xs]=>(match lO xs with|some ns=>K (.int ns.sum) st|none=>False)|_=>False
theorem mv:∀ {ns:List Int} {us:List Value},Vals (ns.map V.int) us->∀(i:Nat) (u:Value),us[i]?=some u->∃t,u=Value.int (ns.getD i 0) t
 | [],_,.nil,i,u,e=>by simp at e
 |n::ns,_,.cons h t,0,u,e=>by
  obtain⟨tk,rfl⟩:=h;simp at e;exact⟨tk,by rw[<-e];rfl⟩
 |n::ns,_,.cons h t,i+1,u,e=>by
  obtain⟨tk,q⟩:=mv t i u (by simpa using e);exact⟨tk,by rw[q];simp⟩
theorem ME(hc:X.calm=true):bI X (.builtin "sum") (fN xY):=fun pins s σ H xs us Q I rs ⟨α,ds,st,K,G,F',P,r,S,q,k⟩=>by
 unfold xY at q;split at q
 . rename_i ys;split at q
   . rename_i ns e;obtain⟨v,rfl,r1⟩:=gu r rfl;unfold Rep at r1;obtain⟨a,vs,rfl,na,h1,h2⟩:=r1;obtain⟨u,rfl,ru⟩:=vals1 rs;cases ru;have hv:=rY h2 e;subst hv;obtain⟨z,aq,n,rv,hl,eo⟩:=Inv.v_ I (gq P h1);have isL:s.heap.IsList a aq.toArray:=⟨_,eo,rfl,n,rfl⟩
     refine call_sum_walkAnyB (wpAny_pyIter_list isL ?_);have hne:a≠s.heap.objs.size:=Nat.ne_of_lt (Heap.lt_size eo);refine⟨s.heap.objs.size,_,_,_,_,_,_,fun i=>ns.getD i 0,rfl,(Walks.list (A:=X.A.in1) (I.ok.hd hc) _ a hne aq.toArray).toS,⟨⟨_,Heap.get?_push_size _ rfl,rfl,rfl⟩,⟨_,Heap.get?_push_of_some _ eo,rfl,n,rfl⟩⟩,?_,?_,?_⟩
     . intro b hb;rw[Heap.size_push];simp only[List.mem_cons,List.not_mem_nil,or_false]at hb;rcases hb with rfl|rfl
       . exact Nat.lt_succ_self _
       . exact Nat.lt_succ_of_lt (Heap.lt_size eo)
     . intro i w hw;obtain⟨t,e⟩:=mv rv i w (by simpa using hw);exact .inl ⟨t,e⟩
     . intro s' t' hm
       have kp:∀b o,s.heap.get? b=some o->s'.heap.get? b=some o:=fun b o q=>hm.heap b o (by
        intro hb;have:b=s.heap.objs.size:=by simpa using hb
        exact absurd (Heap.lt_size q) (by rw[this];exact Nat.lt_irrefl _)) (Heap.get?_push_of_some _ q)
       have es:s'= {s with heap:=s'.heap,toks:=s'.toks}:=by
        have g:=hm.gens;have d:=hm.drawn;have o:=hm.os;cases s';cases s
        simp_all
       have en:preSum (fun i=>ns.getD i 0) aq.toArray.size=ns.sum:=by
        have:aq.toArray.size=ns.length:=by rw[List.size_toArray,<-hl,List.length_map]
        rw[this];exact AA ns
       rw[en,es];exact⟨.int ns.sum,H,I.kept (t':=s'.toks) kp,⟨t',rfl⟩,k.here P q S (by unfold Rep;rfl)⟩
   . exact q.elim
 . exact q.elim
@[irreducible] def wz:e8:=xY
theorem Gr(hc:X.calm=true):bI X (.builtin "sum") (fN wz):=by unfold wz;exact ME hc
end
theorem ints_map:∀ns:List Int,lO (ns.map D.int)=some ns
 | []=>rfl
 |n::ns=>by simp[lO,ints_map ns]
theorem Ea{st:ag}{K:DK}{xs:List D}{ns:List Int}(h:lO xs=some ns)(k:K (.int ns.sum) st):wz [.lst xs] st K:=by unfold wz xY;simp only[h];exact k
section
variable {X:Cx}{pos:Pos}
theorem GH{α:List (Option Addr)}{H:Hp}{ds:List D}{xs:List V}{d e f:D}(r:aJ α H ds xs)(q:ds=[d,e,f]):∃v u t,xs=[v,u,t]/\Rep α H d v/\Rep α H e u/\Rep α H f t:=by
 subst q;unfold aJ at r;obtain⟨v,q,rfl,h1,h2⟩:=r;obtain⟨u,t,rfl,h3,h4⟩:=kD h2 rfl;exact⟨v,u,t,rfl,h1,h3,h4⟩
def pG(i j k:Nat):fo:=fun d σ=>match d with| .tup [x,y,z]=>some (((σ.set i (some x)).set j (some y)).set k (some z))|_=>none
theorem EV{tg:Expr}{i j k:Nat}(h:PG X tg (yF X.K 3 (lB (gp i) (lB (gp j) (lB (gp k) zt))))):PG X tg (LG (pG i j k)):=PG.imp h fun v σ H Q ⟨α,σd,st,d,K,G,F,P,R,S,r,⟨σ',e,q⟩,kk⟩=>by
 unfold pG at e;split at e
 . rename_i x y z;cases e;unfold Rep at r;obtain⟨a,vs,rfl,na,h1,h2⟩:=r;obtain⟨v1,v2,v3,rfl,r1,r2,r3⟩:=GH h2 rfl;exact⟨a,_,rfl,.of (P.get h1),rfl,v1,_,rfl,v2,_,rfl,v3,_,rfl,rfl,kk.here P q (((R.set i r1).set j r2).set k r3) S⟩
 . cases e
theorem Gx{i j k n:Nat}{x y z:Str}{px py pz:Pos}(hc:X.calm=true)(hN:X.N.Nodup)(hx:Loc X.env.scope x)(hf:X.fn x=true\/X.env.scope.names.lookup x=some .local)(hy:Loc X.env.scope y)(hg:X.fn y=true\/X.env.scope.names.lookup y=some .local)(hz:Loc X.env.scope z)(hh:X.fn z=true\/X.env.scope.names.lookup z=some .local)
 (hi:X.N[i]?=some x:=by rfl) (hj:X.N[j]?=some y:=by rfl) (hk:X.N[k]?=some z:=by rfl):JG X (.Tuple [.Name x px,.Name y py,.Name z pz] n pos) (pG i j k):=by
 unfold JG;exact EV (vH hc (gL (i5 hN hi hx hf) (gL (i5 hN hj hy hg) (gL (i5 hN hk hz hh) s_))))
end
end L3
namespace L3
open PySem L2 PySem.SeqAt
open PySem.Spec hiding items?
open PyProof.Rows hiding St
section
variable {X:Cx}{pins:List (Addr×Obj)}{σ:L2.St}{H:Hp}{s:Shared}{α:List (Option Addr)}
theorem AS{A:Around}{d e:D}{x y:V}{u v:Value}(hd:xm d=true)(he:xm e=true)(rd:Rep α H d x)(re:Rep α H e y)(rx:RelV x u)(ry:RelV y v):RcNeAt A s u v (!cP d e):=by
 cases d<;>cases e<;>try(first|(cases hd;done)|(cases he;done))
 all_goals(unfold Rep at rd re;subst rd re)
 all_goals(first|(obtain⟨t,rfl⟩:=rx;obtain⟨t',rfl⟩:=ry)|(obtain⟨t,rfl⟩:=rx;cases ry)|(cases rx;obtain⟨t,rfl⟩:=ry)|(cases rx;cases ry))
 all_goals unfold cP
 . exact RcNeAt.none_none
 . exact RcNeAt.none_bool _
 . exact RcNeAt.none_int _ _
 . exact RcNeAt.none_str _ _
 . exact RcNeAt.bool_none _
 . exact RcNeAt.bool_bool _ _
 . exact RcNeAt.bool_int _ _ _
 . exact RcNeAt.bool_str _ _ _
 . exact RcNeAt.int_none _ _
 . exact RcNeAt.int_bool _ _ _
 . exact RcNeAt.int_int _ _ _ _
 . exact RcNeAt.int_str _ _ _ _
 . exact RcNeAt.str_none _ _
 . exact RcNeAt.str_bool _ _ _
 . exact RcNeAt.str_int _ _ _ _
 . exact RcNeAt.str_str _ _ _ _
theorem w6(I:Inv X pins σ H s){A:Around}{xs:List D}{e:D}{x y:V}{u v:Value}(he:xm e=true)(rd:Rep α H (.lst xs) x)(re:Rep α H e y)(rx:RelV x u)(ry:RelV y v)(hu:A.units<cLine):
 RcNeAt A s u v (!cP (.lst xs) e)/\RcNeAt A s v u (!cP e (.lst xs)):=by
 obtain⟨a,vs,aq,rfl,_,_,hl⟩:=lst_is I rd rx;cases e<;>try(cases he;done)
 all_goals(unfold Rep at re;subst re)
 all_goals(first|(obtain⟨t,rfl⟩:=ry)|(cases ry))
 all_goals unfold cP
 . exact⟨RcNeAt.list_none hl hu,RcNeAt.none_list hl hu⟩
 . exact⟨RcNeAt.list_bool _ hl hu,RcNeAt.bool_list _ hl hu⟩
 . exact⟨RcNeAt.list_int _ _ hl hu,RcNeAt.int_list _ _ hl hu⟩
 . exact⟨RcNeAt.list_str _ _ hl hu,RcNeAt.str_list _ _ hl hu⟩
theorem xq(I:Inv X pins σ H s){A:Around}{xs:List D}{e:D}{x y:V}{u v:Value}(he:xm e=true)(rd:Rep α H (.tup xs) x)(re:Rep α H e y)(rx:RelV x u)(ry:RelV y v)(hu:A.units<cLine):
 RcNeAt A s u v (!cP (.tup xs) e)/\RcNeAt A s v u (!cP e (.tup xs)):=by
 obtain⟨a,vs,aq,rfl,_,_,hl⟩:=tup_is I rd rx;cases e<;>try(cases he;done)
 all_goals(unfold Rep at re;subst re)
 all_goals(first|(obtain⟨t,rfl⟩:=ry)|(cases ry))
 all_goals unfold cP
 . exact⟨RcNeAt.tuple_none hl hu,RcNeAt.none_tuple hl hu⟩
 . exact⟨RcNeAt.tuple_bool _ hl hu,RcNeAt.bool_tuple _ hl hu⟩
 . exact⟨RcNeAt.tuple_int _ _ hl hu,RcNeAt.int_tuple _ _ hl hu⟩
 . exact⟨RcNeAt.tuple_str _ _ hl hu,RcNeAt.str_tuple _ _ hl hu⟩
theorem Ho(I:Inv X pins σ H s)(n:Nat)(A:Around)(d e:D)(x y:V)(u v:Value)(hd:pl n d=true)(he:pl n e=true)(rd:Rep α H d x)(re:Rep α H e y)(rx:RelV x u)(ry:RelV y v)(hu:A.units+n<cLine):RcNeAt A s u v (!cP d e):=by
 cases n with
 |zero=>
  refine AS ?_ ?_ rd re rx ry
  . cases d<;>first|rfl|(cases hd)
  . cases e<;>first|rfl|(cases he)
 |succ n=>
  have hu0:A.units<cLine:=by omega
  have hin:A.in1.units+n<cLine:=by rw[Around.in1_units];omega
  cases d<;>try(cases hd;done)
  case lst xs=>
   cases e<;>try(cases he;done)
   case lst ys=>
    obtain⟨a,vs,aq,rfl,r1,v1,l1⟩:=lst_is I rd rx;obtain⟨b,ws,jts,rfl,r2,v2,l2⟩:=lst_is I re ry;have e1:=r1.length;have e2:=v1.length;have e3:=r2.length;have e4:=v2.length;unfold cP;by_cases hlen:xs.length=ys.length
    . rw[oa hlen];have hsz:aq.toArray.size=jts.toArray.size:=by simp only[List.size_toArray];omega
      have hx:xs.length=aq.toArray.size:=by simp only[List.size_toArray];omega
      rw[hx];refine RcNeAt.lists l1 l2 hsz hu0 fun j h1 h2=>?_;obtain⟨p,_,q1,q2⟩:=jR r1 v1 j (by simpa using h1);obtain⟨p',_,q1',q2'⟩:=jR r2 v2 j (by simpa using h2);exact(Cc I n A.in1 _ _ p p' _ _ (iW (by unfold pl at hd;exact hd) j) (iW (by unfold pl at he;exact he) j) q1 q1' (by simpa using q2) (by simpa using q2') hin).2
    . rw[nJ hlen];exact RcNeAt.lists_lengths l1 l2 (by simp only[List.size_toArray,bne_iff_ne,ne_eq];omega) hu0
   case tup ys=>
    obtain⟨a,vs,aq,rfl,r1,v1,l1⟩:=lst_is I rd rx;obtain⟨b,ws,jts,rfl,r2,v2,l2⟩:=tup_is I re ry;unfold cP;exact RcNeAt.list_tuple l1 l2 hu0
   all_goals exact(w6 I rfl rd re rx ry hu0).1
  case tup xs=>
   cases e<;>try(cases he;done)
   case tup ys=>
    obtain⟨a,vs,aq,rfl,r1,v1,l1⟩:=tup_is I rd rx;obtain⟨b,ws,jts,rfl,r2,v2,l2⟩:=tup_is I re ry;have e1:=r1.length;have e2:=v1.length;have e3:=r2.length;have e4:=v2.length;unfold cP
    have key:=RcNeAt.tuples (e:=fun j=>cP (xs.getD j .aK) (ys.getD j .aK)) l1 l2 hu0 fun j h1 h2=>by
     obtain⟨p,_,q1,q2⟩:=jR r1 v1 j (by simpa using h1);obtain⟨p',_,q1',q2'⟩:=jR r2 v2 j (by simpa using h2);exact(Cc I n A.in1 _ _ p p' _ _ (iW (by unfold pl at hd;exact hd) j) (iW (by unfold pl at he;exact he) j) q1 q1' (by simpa using q2) (by simpa using q2') hin).2
    by_cases hlen:xs.length=ys.length
    . rw[oa hlen];have hsz:aq.toArray.size=jts.toArray.size:=by simp only[List.size_toArray];omega
      have hx:xs.length=aq.toArray.size:=by simp only[List.size_toArray];omega
      rw[hsz,Nat.min_self,beq_self_eq_true,Bool.and_true,<-hsz,<-hx]at key;exact key
    . rw[nJ hlen];have hne:(aq.toArray.size==jts.toArray.size)=false:=by simp only[List.size_toArray,beq_eq_false_iff_ne,ne_eq];omega
      rw[hne,Bool.and_false]at key;exact key
   case lst ys=>
    obtain⟨a,vs,aq,rfl,r1,v1,l1⟩:=tup_is I rd rx;obtain⟨b,ws,jts,rfl,r2,v2,l2⟩:=lst_is I re ry;unfold cP;exact RcNeAt.tuple_list l1 l2 hu0
   all_goals exact(xq I rfl rd re rx ry hu0).1
  all_goals
   cases e<;>try(cases he;done)
   case lst ys=>exact(w6 I rfl re rd ry rx hu0).2
   case tup ys=>exact(xq I rfl re rd ry rx hu0).2
   all_goals exact AS rfl rfl rd re rx ry
def L_:dw:=fun x y st K=>pl 40 x=true/\pl 40 y=true/\K (.bl (!cP x y)) st
theorem Np{k:Nat}(hr:cT k X.A):cw X (compareOp .NotEq) (LR L_):=fun pins s σ H x y v u Q I rx ry ⟨α,d,e,st,K,G,F',P,r1,r2,S,q,k⟩=>by
 have hu:=hr.units;exact Ho I 40 X.A d e x y v u q.1 q.2.1 (r1.mono P.same) (r2.mono P.same) rx ry (by omega) _ _ _ _ ⟨.bl (!cP d e),H,I,rfl,k.here P q.2.2 S (by unfold Rep;rfl)⟩
@[irreducible] def vM:dw:=L_
theorem MO{k:Nat}(hr:cT k X.A):cw X (compareOp .NotEq) (LR vM):=by unfold vM;exact Np hr
end
theorem Kn{st:ag}{K:DK}{d e:D}(h1:pl 40 d=true)(h2:pl 40 e=true)(k:K (.bl (!cP d e)) st):vM d e st K:=by unfold vM;exact⟨h1,h2,k⟩
theorem FL{st:ag}{K:DK}{d:D}(h:pl 40 d=true)(k:K (.bl false) st):vM d d st K:=Kn h h (by rw[p_ 40 d h];exact k)
theorem rF{st:ag}{n:Nat}{xs:List D}(h:items? st (.ref n)=some xs):st[n]?=some (.lst xs):=by
 unfold items? at h;simp only at h;split at h
 . rename_i q;cases h;exact q
 . cases h
theorem IH{st:ag}{d:D}{xs:List D}{K:List D->(ag->Prop)->ag->Prop}(h:items? st d=some xs)(k:∀ok:ag->Prop,(∀st',items? st' d=some xs->ok st')->K xs ok st):o7 d st K:=by
 cases d with
 |lst ys=>cases h;exact pR (k _ fun _ _=>trivial)
 |tup ys=>cases h;exact hZ (k _ fun _ _=>trivial)
 |ref n=>
  have e:=rF h;unfold o7 wk;simp only[e];exact k _ fun st' h'=>rF h'
 |_=>cases h
theorem qu{env:Env}:∀(l:List (Str×NameKind)) (x:Str),(l.lookup x=some .cell\/l.lookup x=some .free)->
 ((l.map fun(n,k)=>if(k== .free&&env.scope.kind== .function&&env.kindOf n==some .cell)then(n,.cell)else(n,k)).lookup x=some .cell\/(l.map fun(n,k)=>if(k== .free&&env.scope.kind== .function&&env.kindOf n==some .cell)then(n,.cell)else(n,k)).lookup x=some .free)
 | [],x,h=>by simp at h
 |(n,k)::l,x,h=>by
  rw[List.map_cons];dsimp only;by_cases hx:x=n
  . subst hx;rw[List.lookup_cons_self]at h;split
    . rw[List.lookup_cons_self];exact .inl rfl
    . rw[List.lookup_cons_self];exact h
  . have hb:(x==n)=false:=by simpa using hx
    have e1:List.lookup x ((n,k)::l)=List.lookup x l:=by rw[List.lookup_cons,hb]
    rw[e1]at h;have ih:=qu (env:=env) l x h;split
    . rw[List.lookup_cons,hb];exact ih
    . rw[List.lookup_cons,hb];exact ih
theorem bz.Cz{X0:Cx}{scope0 scope:Scope}{Nc0 Nc:List Str}{C:Addr}{s:Shared}{H:Hp}{ex:List Addr}{fr:List (Option Nat)}(h:vD scope0 Nc0 scope Nc fr=true):bz (fe X0 scope0 Nc0 C s H ex) scope Nc fr:=by
 unfold vD at h;simp only[Bool.and_eq_true]at h;obtain⟨⟨⟨⟨⟨h1,h2⟩,h3⟩,h4⟩,h5⟩,h6⟩:=h;refine⟨by simpa using h1,fun x hx hk=>?_,fun x hx hk=>?_,fun x hx hk=>?_,by simpa using h5,fun i j x e1 e2=>?_⟩
 . have:=List.all_eq_true.mp h2 x hx;rw[hk]at this;simpa using this
 . have:=List.all_eq_true.mp h3 x hx;rw[hk]at this;simpa using this
 . have:=List.all_eq_true.mp h4 x hx;rw[hk]at this;have z:scope0.names.lookup x.1=some .cell\/scope0.names.lookup x.1=some .free:=by simpa using this
   exact qu _ _ z
 . have hi:i<fr.length:=(List.getElem?_eq_some_iff.mp e2).1;have:=List.all_eq_true.mp h6 i (List.mem_range.mpr hi);rw[e1,e2]at this;simp only[Bool.and_eq_true,Bool.or_eq_true,beq_iff_eq]at this;exact⟨this.1.1,this.1.2,qu _ _ this.2⟩
end L3
namespace L3
open PySem L2
open PySem.Spec hiding items?
open PyProof.Rows hiding St
section
variable {X:Cx}
def GW:dw:=fun x y st K=>match x,y with
 | .lst xs,.int k=>(-(2^63)<=k/\k<2^63/\xs.length*k.toNat<=sizeLine)/\K (.ref st.length) (st++[.lst (List.replicate k.toNat xs).flatten])
 |_,_=>False
theorem K7:cw X (binaryOp .Mult) (LR GW):=fun pins s σ H x y v u Q I rx ry ⟨α,d,e,st,K,G,F',P,r1,r2,S,q,k⟩=>by
 cases d<;>cases e<;>try exact q.elim
 unfold Rep at r1 r2;obtain⟨a,vs,rfl,na,ha,ra⟩:=r1;refine AZ pins s σ H _ _ v u Q I rx ry ⟨a,_,vs,rfl,r2,gq P ha,q.1.1,q.1.2.1,by rw[<-ra.length];exact q.1.2.2,fun p hp=>?_⟩;exact k.new P q.2 S (bo.mpr (lK (bo.mp ra) _)) hp
@[irreducible] def ve:dw:=GW
theorem K9:cw X (binaryOp .Mult) (LR ve):=by unfold ve;exact K7
end
theorem HQ{st:ag}{K:DK}{xs:List D}{i:Int}(h: -(2^63)<=i/\i<2^63/\xs.length*i.toNat<=sizeLine)(k:K (.ref st.length) (st++[.lst (List.replicate i.toNat xs).flatten])):ve (.lst xs) (.int i) st K:=by unfold ve;exact⟨h,k⟩
theorem EG{n:Nat}{d:D}(h:d∈dm 0 n):∃i:Nat,i<n/\d= .int (i:Int):=by
 unfold dm at h;obtain⟨i,hi,rfl⟩:=List.mem_map.mp h;rw[List.mem_range]at hi;exact⟨i,hi,by rw[Int.zero_add]⟩
theorem D7{f:Nat->D}(n:Nat):(dm 0 n).map (fun d=>match d with| .int i=>f i.toNat|_=> .aK)=(List.range n).map f:=by
 unfold dm;rw[List.map_map];refine List.map_congr_left fun i _=>?_;show f ((0:Int)+(i:Int)).toNat=f i;have:((0:Int)+(i:Int)).toNat=i:=by omega
 rw[this]
theorem gN{tg:fo}{te:DE}{σc:bL}{st:ag}{K:List D->ag->Prop}(f:Nat->D)(n:Nat)(hx:∀i:Nat,i<n->∀K',K' (f i) st->∃σ2,tg (.int (i:Int)) σc=some σ2/\te σ2 st K')(k:K ((List.range n).map f) st):dD tg cz te (fun _=>True) σc (dm 0 n) [] st K:=by
 refine comp_map (g:=fun d=>match d with| .int i=>f i.toNat|_=> .aK) trivial _ (fun d hd K' q=>?_) (by rw[D7];exact k);obtain⟨i,hi,rfl⟩:=EG hd;exact hx i hi K' q
theorem mn{tg:fo}{body:DS}{E:iC}(n:Nat)(I:Nat->bL->ag->Prop)(hend:∀σ st,I n σ st->E.nx σ st)
 (hstep:∀(j:Nat) σ st (rest:List D),j<n->I j σ st->(∀σ' st',I (j+1) σ' st'->iD tg body (fun _=>True) E rest σ' st')->∃σ1,tg (.int (j:Int)) σ=some σ1/\body {E with nx:=iD tg body (fun _=>True) E rest,ct:=iD tg body (fun _=>True) E rest,bk:=E.nx} σ1 st)
 {σ:bL} {st:ag} (h0:I 0 σ st):iD tg body (fun _=>True) E (dm 0 n) σ st:=by
 refine ib (fun rest σ st=>∃j:Nat,j<=n/\rest=(List.range (n-j)).map (fun i=>D.int (((j+i:Nat):Int)))/\I j σ st) ?_ ?_ _ _ _ ⟨0,Nat.zero_le _,by unfold dm;simp,h0⟩
 . rintro σ st ⟨j,hj,hr,hI⟩
   have:n-j=0:=by
    cases q:n-j with
    |zero=>rfl
    |succ m=>rw[q,List.range_succ_eq_map]at hr;cases hr
   have hjn:j=n:=by omega
   subst hjn;exact⟨trivial,hend σ st hI⟩
 . rintro d rest σ st ⟨j,hj,hr,hI⟩ next
   cases q:n-j with
   |zero=>rw[q]at hr;cases hr
   |succ m=>
    rw[q,List.range_succ_eq_map,List.map_cons,List.map_map]at hr;simp only[List.cons.injEq]at hr;obtain⟨rfl,hrest⟩:=hr;refine⟨trivial,hstep j σ st rest (by omega) hI fun σ' st' h'=>next σ' st' ⟨j+1,by omega,?_,h'⟩⟩;have:n-(j+1)=m:=by omega
    rw[this,hrest];refine List.map_congr_left fun i _=>?_;show D.int (((j+(i+1):Nat):Int))=D.int (((j+1+i:Nat):Int));congr 2;omega
abbrev DM:=Nat->List D->ag->DK->Prop
def LiftM(r:DM)(rM:V->List V->Hp->VK->Prop):Prop:=∀(α:List (Option Addr)) (G F H:Hp) (st:ag) (K:DK) (Q:VK) (n:Nat) (a:Addr) (ds:List D) (ws:List V),cx G F H->aP α st G->α[n]?=some (some a)->aJ α G ds ws->r n ds st K->LK α G F K Q->rM (.ref a) ws H Q
@[irreducible] def qj(r:DM)(to:DE)(ta:DA):DE:=fun σ st K=>to σ st fun x st1=>match x with
 | .ref n=>(match st1[n]? with|some (.lst _)=>ta σ st1 fun ds st2=>(∃xs,st2[n]?=some (.lst xs))/\r n ds st2 K|_=>False)
 |_=>False
section
variable {X:Cx}
theorem LE.OX{r:DM}{rM:V->List V->Hp->VK->Prop}(L:LiftM r rM){to:DE}{ta:DA}{σ:L2.St}{H:Hp}{Q:VK}(h:LE (qj r to ta) σ H Q):KC X.K "list" rM (LE to) (LA ta) σ H Q:=by
 obtain⟨α,σd,st,K,G,F,P,R,S,t,k⟩:=h;unfold qj at t;refine⟨α,σd,st,_,G,F,P,R,S,t,fun x st1 q α1 G1 H1 v s1 P1 S1 r1=>?_⟩;cases x<;>try exact q.elim
 rename_i n;simp only at q;split at q
 . rename_i ys e;obtain⟨p,ep,vs,h1,h2⟩:=S1.f7 e;have r1':=eL ep r1;subst r1';refine⟨.inl ⟨rfl,vs,.inl (.of (P1.get h1))⟩,α1,σd,st1,_,G1,F,P1,R.step s1,S1,q,?_⟩;rintro ds st2 ⟨⟨xs,e2⟩,q2⟩ α2 G2 H2 ws s2 P2 S2 r2;obtain⟨p2,ep2,_⟩:=S2.f7 e2
   have:p2=p:=by
    rcases s2.pre _ _ ep with z|z<;>(rw[z]at ep2;cases ep2)
    rfl
   subst this;exact L α2 G2 F H2 st2 K Q n p2 ds ws P2 S2 ep2 r2 q2 ((k.at s1).at s2)
 . exact q.elim
theorem Lb{r:DM}{rM:V->List V->Hp->VK->Prop}{name:Str}{id:String}(L:LiftM r rM)(slot:Slot "list" name id)(hty:typeOf (.builtin id)=pure (.type "method_descriptor"))(hm:K2 X id rM){o e:Expr}{es:List Expr}{to:DE}{ta:DA}{apos cpos:Pos}(ho:PE X o (LE to))(ha:PA X (e::es) (LA ta))
 (hbase:attributeBase o name X.env (eval o X.env)=eval o X.env) (hfew:((backTo cpos (starEach (e::es) X.env)).all (fun x=> !x.1)&&(backToKw cpos (keywordEach [] X.env)).all (fun x=>x.1.isSome)
   &&decide ((e::es).length+([]:List Keyword).length+(if([]:List Keyword).isEmpty then 0 else 1)<30))=true)
 (hline:(apos.endLine==cpos.line)=true) (hs:starEach (e::es) X.env=(false,eval e X.env)::starEach es X.env) (hplain:(backTo cpos (starEach es X.env)).any (·.1)=false):PE X (.Call (.Attribute o name apos) (e::es) [] cpos) (LE (qj r to ta)):=
 PE.imp (Gb PySem.F.plainAttrs_list slot hty hm ho ha hbase hfew hline hs hplain) fun _ _ _ h=>LE.OX L h
def oo:DM:=fun n ds st K=>match ds with
 | [.int i]=>(match st[n]? with|some (.lst xs)=>(-(2^63)<=i/\i<2^63)/\(match jl xs.length i with|some j=>(match xs[j]? with|some d=>K d (st.set n (.lst (xs.eraseIdx j)))|none=>False)|none=>False)|_=>False)
 |_=>False
theorem se{A B:Type}{F:A->B->Prop}:∀ {xs:List A} {ys:List B} (i:Nat),Paired F xs ys->Paired F (xs.eraseIdx i) (ys.eraseIdx i)
 |_,_,_,.nil=> .nil
 |_,_,0,.cons _ t=>t
 |_,_,i+1,.cons r t=> .cons r (se i t)
theorem DG:LiftM oo Df:=by
 intro α G F H st K Q n a ds ws P S ea rs q k;unfold oo at q;split at q
 . rename_i i;split at q
   . rename_i xs e;obtain⟨h63,q⟩:=q;split at q
     . rename_i j ej;split at q
       . rename_i d ed;obtain⟨v,rfl,r1⟩:=gu rs rfl;unfold Rep at r1;subst r1;obtain⟨a',ea',vs,h1,h2⟩:=S.f7 e;rw[ea]at ea';cases ea';obtain⟨y,ey,ry⟩:=h2.get ed;have hm:some a∈α:=List.mem_of_getElem? ea;refine⟨a,vs,i,j,y,rfl,rfl,P.get h1,h63.1,h63.2,by rw[<-h2.length];exact(wy ej).1,ey,?_⟩;refine k d _ q α (upd G a (.lst (vs.eraseIdx j))) _ y (Step.write hm) (P.write h1) ?_ (ry.step (Step.write hm));exact S.write ea ⟨vs.eraseIdx j,aX,(bo.mpr (se j (bo.mp h2))).step (Step.write hm)⟩
       . exact q.elim
     . exact q.elim
   . exact q.elim
 . exact q.elim
theorem JH{o e:Expr}{to te:DE}{apos cpos:Pos}(ho:JE X o to)(he:JE X e te)(hbase:attributeBase o "pop" X.env (eval o X.env)=eval o X.env:=by rfl)(hline:(apos.endLine==cpos.line)=true:=by rfl)(hs:notStar e=true:=by rfl):JE X (.Call (.Attribute o "pop" apos) [e] [] cpos) (qj oo to (af te ak)):=by
 unfold JE at*;refine Lb DG PySem.F.slot_list_pop PySem.F.type_list_pop E5 ho (sM he uQ (cF hs)) hbase ?_ hline (cF hs) rfl;rw[cF hs];rfl
end
section
variable {X:Cx}{pos:Pos}
end
section
variable {X:Cx}
theorem wD{M:Model}{A:Around}{E:Value->Shared->Prop}{s:Shared}{Q:Value->Shared->Prop}{x:V}{v:Value}{b:Bool}(r:RelV x v)(h:Q (.bool (!(v== .bool b))) s):wpAny M A (compareOp .IsNot v (.bool b)) Q E s:=by
 cases x
 case bl c=>
  cases r;cases c<;>cases b<;>exact wpAny_pure h
 all_goals first
  |(cases r;exact wpAny_pure h)
  |(obtain⟨t,rfl⟩:=r;exact wpAny_pure h)
def yH:dw:=fun x y st K=>match y with| .aK=>live st x=true/\K (.bl (!NX x)) st| .bl b=>live st x=true/\K (.bl (!Kv x b)) st|_=>False
theorem FQ:cw X (compareOp .IsNot) (LR yH):=fun pins s σ H x y v u Q I rx ry ⟨α,d,e,st,K,G,F',P,r1,r2,S,q,k⟩=>by
 cases e<;>try exact q.elim
 . refine H_ pins s σ H x y v u Q I rx ry ⟨α,d,.aK,st,K,G,F',P,r1,r2,S,⟨q.1,?_⟩,k⟩;have q2:=q.2;cases d<;>exact q2
 . rename_i b;unfold Rep at r2;subst r2;cases ry;refine wD rx ?_;rw[Hq S q.1 r1 rx];exact⟨.bl (!Kv d b),H,I,rfl,k.here P q.2 S (by unfold Rep;rfl)⟩
@[irreducible] def uX:dw:=yH
theorem Lk:cw X (compareOp .IsNot) (LR uX):=by unfold uX;exact FQ
end
section
variable {st:ag}{K:DK}{d:D}{b:Bool}
theorem L5(h:live st d=true)(k:K (.bl (!NX d)) st):uX d .aK st K:=by unfold uX;exact⟨h,k⟩
end
section
variable {X:Cx}
theorem HY{o i elt:Expr}{gs:List Comprehension}{sc:Scope}{p:Pos}{to ti te:TE}{pos pos':Pos}(he:PE X (.ListComp elt gs sc p) te)(ho:PE X o to)(hi:PE X i ti)(h2:jG i=true:=by rfl):PS X (.Assign [.Subscript o i pos'] (.ListComp elt gs sc p) pos) (mF te (zQ to ti vd)):=
 yy he (C6 ho hi set_list (by intro v;cases i<;>first|rfl|cases h2)) (by unfold swapsWithSole swapsWith;rfl) rfl rfl
theorem DZ{o i elt:Expr}{gs:List Comprehension}{sc:Scope}{p pos pos':Pos}{te to ti:DE}(he:JE X (.ListComp elt gs sc p) te)(ho:JE X o to)(hi:JE X i ti)(h2:jG i=true:=by rfl):JS X (.Assign [.Subscript o i pos'] (.ListComp elt gs sc p) pos) (eR to ti te):=by
 unfold JS;unfold JE at*;exact yg (HY he ho hi h2)
end
end L3
namespace L3
open PySem L2
open PySem.Spec hiding items?
open PyProof.Rows hiding St
open AutoSeq1 (wpAny_loadPart')
theorem IZ{P:Program}{w:World}{A:Around}(hh:A.handled=none)(k:SK)(t a:Addr)(hne:a≠t)(us:Array Value):Draws P w A t [t,a] us.size (fun i v=>us[i]?=some v) (fun n g=>qP k t a n g/\kT k g a us) where
 live:=fun i h z=>((mV (P:=P) (w:=w) k t a hne us).lv i h z).1
 frame:=fun i h h' z kp=>(mV (P:=P) (w:=w) k t a hne us).fr i h h' z fun b hb o e=>kp b (by rcases hb with rfl|rfl<;>simp) o e
 item:=fun i s Q E hi z q=>(mV (P:=P) (w:=w) k t a hne us).nx i A s Q E us[i] z (by simp[hi]) fun g j sb=>q _ g s.toks (by simp[hi]) j sb
 done:=fun s Q E z q=>(mV (P:=P) (w:=w) k t a hne us).en us.size A s Q E hh z (by simp) q
theorem qH(l:Addr)(items:Array Value)(n:Nat)(dct:Option Addr)(sl:Array (Option Value)):
 Meets (Builtin.«enumerate.__new__» ⟨[.type "enumerate",.ref l],[]⟩) (fun _ R s=>s.heap.get? l=some {cls:= .type "tuple",dict:=dct,data:= .seq items n,slots:=sl}/\
  R (.ok (.ret (.ref (s.heap.push {cls:= .type "tuple_iterator",data:= .fields #[.ref l,.int 0 0]}).objs.size)))
   {s with heap:=(s.heap.push {cls:= .type "tuple_iterator",data:= .fields #[.ref l,.int 0 0]}).push {cls:= .type "enumerate",data:= .fields #[.none,.bool false,.ref s.heap.objs.size,rawInt 0,.none,.none]}}):=
 .of_wp fun prog w A R s h=>by
  obtain⟨hp,g,d,tk,os⟩:=s;obtain⟨hl,h⟩:=h;have hsub:=sub_enumerate;have hL:Heap.IsTuple (Shared.heap ⟨hp,g,d,tk,os⟩) l items:=⟨_,hl,rfl,n,rfl⟩
  wp_walk using wpAny_loadPart' hl
  refine wpAny_stack_any fun st=>wpAny_pure ?_;split
  . rename_i c _ _ _ _ _;cases (c==Value.type "enumerate")
    . wp_walk using wpAny_loadPart' hl,wpAny_pyIter_tuple hL
      exact⟨_,rfl,h⟩
    . wp_walk using wpAny_loadPart' hl,wpAny_pyIter_tuple hL
      exact⟨_,rfl,h⟩
  . wp_walk using wpAny_loadPart' hl,wpAny_pyIter_tuple hL
    exact⟨_,rfl,h⟩
theorem Ef{P:Program}{w:World}{A:Around}{s:Shared}{E:Value->Shared->Prop}{k:SK}{a:Addr}{us:Array Value}{Q:Value->Shared->Prop}(c:kT k s.heap a us)
 (q:∀g,IsEnum g (s.heap.objs.size+1) s.heap.objs.size 0 .none->qP k s.heap.objs.size a 0 g->(∀b o,s.heap.get? b=some o->g.get? b=some o)->Q (.ref (s.heap.objs.size+1)) {s with heap:=g}):
 wpAny (model P w) A (call (.type "enumerate") [.ref a]) Q E s:=by
 cases k
 . exact call_enumerate_list c fun g h1 h2 _ h4=>q g h1 h2 h4
 . obtain⟨⟨c,dct,dt,sl⟩,hl,hc,n,hd⟩:=c;replace hc:c= .type "tuple":=hc;replace hd:dt= .seq us n:=hd;subst hc hd
   refine callType_new F.called_enumerate (by decide) (F.typeCall_enumerate_1 _) (F.newCall_enumerate_1 _) (fun obj=>F.args_object_init_2 obj _) F.entry_enumerate_new
    (qH a us n dct sl) ⟨hl,?_⟩
   have hz:(s.heap.push {cls:= .type "tuple_iterator",data:= .fields #[.ref a,.int 0 0]}).objs.size=s.heap.objs.size+1:=Heap.size_push ..;show _/\_;rw[hz]
   have he:IsEnum ((s.heap.push {cls:= .type "tuple_iterator",data:= .fields #[.ref a,.int 0 0]}).push
    {cls:= .type "enumerate",data:= .fields #[.none,.bool false,.ref s.heap.objs.size,rawInt 0,.none,.none]}) (s.heap.objs.size+1) s.heap.objs.size 0 .none:=by
    have:=Heap.get?_push_size (s.heap.push {cls:= .type "tuple_iterator",data:= .fields #[.ref a,.int 0 0]})
     (o:={cls:= .type "enumerate",data:= .fields #[.none,.bool false,.ref s.heap.objs.size,rawInt 0,.none,.none]}) rfl
    rw[hz]at this;exact this
   exact⟨⟨_,he,rfl⟩,q _ he ⟨_,Heap.get?_push_of_some _ (Heap.get?_push_size _ rfl),rfl,rfl⟩ fun b o x=>Heap.get?_push_of_some _ (Heap.get?_push_of_some _ x)⟩
def NU(K:PySem.W.Frag)(k:SK)(a:Addr):It:=
 ⟨fun i H=>∃xs x,pW k K H a xs/\xs[i]?=some x,
  fun i H v H'=>∃T x,H T=none/\v= .ref T/\H'=upd H T (.tup [.int (i:Int),x])/\∀xs,pW k K H a xs->xs[i]?=some x,
  fun i H=>∃xs,pW k K H a xs/\xs.length<=i⟩
def OC(e t a:Addr)(k:SK)(i:Nat)(h:Heap):Prop:=(∃old,IsEnum h e t i old)/\qP k t a i h
theorem CQ{P:Program}{w:World}{K:PySem.W.Frag}{elts:List Expr}{kx:Nat}{pos:Pos}{e t a:Addr}(k:SK)(n1:e≠t)(n2:a≠e)(n3:a≠t):
 Turn P w K (.Tuple elts kx pos) (NU K k a) [e,t] e (OC e t a k) where
 mem:=by simp
 obj:=fun i h st b hb=>by
  obtain⟨⟨old,he⟩,i1⟩:=st;simp only[List.mem_cons,List.not_mem_nil,or_false]at hb;rcases hb with rfl|rfl
  . exact⟨_,he,fun v z=>by cases z⟩
  . exact nD i1
 keep:=fun i h h' st kp=>by
  obtain⟨⟨old,he⟩,i1⟩:=st;exact⟨⟨old,kp e (by simp) _ he⟩,pV i1 (kp t (by simp))⟩
 item:=by
  intro X hP hw hK hc i pins s σ H E I hf st hg;subst hP hw hK;obtain⟨⟨old,he⟩,i1⟩:=st;obtain⟨xs,x,q1,ex⟩:=hg;obtain⟨us,r1,l1⟩:=kc I q1;obtain⟨u,eu,ru⟩:=r1.get ex
  have hlt:i<us.toArray.size:=by
   have:=(List.getElem?_eq_some_iff.mp eu).1;simpa using this
  refine wpAny_pyNext_enum_itemD (IZ (A:=X.A.in1) (show X.A.in1.handled=none from I.ok.hd hc) k t a n3 us.toArray) he ⟨i1,l1⟩ hlt n1 (by simp only[List.mem_cons,List.not_mem_nil,or_false,not_or];exact⟨n1,Ne.symm n2⟩) fun y h' tk py ho hs hT hsz kp=>⟨_,rfl,?_⟩
  have hy:y=u:=by
   have:us[i]?=some y:=by simpa using py
   rw[eu]at this;cases this;rfl
  subst hy;refine wpAny_letOwnedTupleGo_enum (s:={s with heap:=h',toks:=tk+1}) ho fun k' he' sb=>?_;have hTe:s.heap.objs.size≠e:=Nat.ne_of_gt (Heap.lt_size he)
  have kp3:∀b o,b∉[e,t]->s.heap.get? b=some o->k'.get? b=some o:=fun b o hb eb=>by
   simp only[List.mem_cons,not_or,List.not_mem_nil,not_false_eq_true,and_true]at hb;exact sb.extBut _ _ hb.1 (kp b o hb.1 hb.2 eb)
  refine⟨.ref s.heap.objs.size,upd H s.heap.objs.size (.tup [.int (i:Int),x]),F7 (s:=s) (tk:=tk+1) I hf kp3 (Nat.le_refl _) ?_,rfl,⟨s.heap.objs.size,x,I.aM.fresh (Nat.le_refl _),rfl,rfl,?_⟩,?_,?_⟩
  . refine⟨Nat.le_of_ble_eq_true rfl,[.int (i:Int) tk,y],.cons ⟨tk,rfl⟩ (.cons ru .nil),?_⟩;exact⟨_,sb.extBut _ _ hTe hT,rfl,_,rfl⟩
  . intro xs' q';rw[vT I q' q1];exact ex
  . refine⟨⟨_,by simpa using he'⟩,pV hs.1 fun o eo=>sb.extBut _ _ (Ne.symm n1) eo⟩
  . intro b hb
    have:b≠s.heap.objs.size:=by
     obtain⟨o,eb⟩:∃o,s.heap.get? b=some o:=by
      simp only[List.mem_cons,List.not_mem_nil,or_false]at hb;rcases hb with rfl|rfl
      . exact⟨_,he⟩
      . obtain⟨o,eo,_⟩:=nD i1;exact⟨o,eo⟩
     exact Nat.ne_of_lt (Heap.lt_size eb)
    rw[aA this];exact(hf b hb).1
 done:=by
  intro X hP hw hK hc i pins s σ H E I hf st hg;subst hP hw hK;obtain⟨⟨old,he⟩,i1⟩:=st;obtain⟨xs,q1,hle⟩:=hg;obtain⟨us,r1,l1⟩:=kc I q1;have e1:=r1.length;have tz:s.TypeIs (.ref e) "enumerate":=⟨_,he,rfl⟩
  unfold pyNext;refine wpAny_bind (wpAny_attempt (wpAny_callSpecial?_slot (name:=Str.ofString "__next__") tz F.slot_enumerate_next (wpAny_call_entry F.slot_enumerate_next tz F.entry_enumerate_next ?_ (F.args_enumerate_next_1 _))));show wpAny _ _ (field (.ref e) 2 >>= _) _ _ _;refine wpAny_bind (wpAny_field he rfl (x:= .ref t) rfl ?_);refine wpAny_bind ((mV k t a n3 us.toArray).en i _ s _ _ (I.ok.hd hc) ⟨i1,l1⟩ (by simp;omega) fun g x sb hx=>?_);obtain⟨o,ho,hc2⟩:=hx;refine wpAny_bind (wpAny_isInstance (T:="StopIteration") (b:=true) ⟨o,ho,hc2⟩ isSubtype_stop ?_);refine wpAny_pure ⟨rfl,F8 (s:=s) (tk:=s.toks) I hf fun b o hb eb=>?_⟩;simp only[List.mem_cons,not_or,List.not_mem_nil,not_false_eq_true,and_true]at hb;exact sb b o hb.2 eb
 self:=fun _ _ _ _ _ st h=>wpAny_pyIter_enum st.1.choose_spec h
def jy:Nat->List D->List D
 |_,[]=>[]
 |i,x::xs=> .tup [.int (i:Int),x]::jy (i+1) xs
theorem xt:∀ {xs:List D} {i:Nat},(jy i xs).length=xs.length
 | [],_=>rfl
 |_::xs,i=>by unfold jy;rw[List.length_cons,List.length_cons,xt]
theorem rJ:∀ {xs:List D} {i n:Nat} {d:D},(jy i xs)[n]?=some d->∃x,xs[n]?=some x/\d= .tup [.int ((i+n:Nat):Int),x]
 | [],_,_,_,e=>by unfold jy at e;cases e
 |x::xs,i,0,d,e=>by
  unfold jy at e;rw[List.getElem?_cons_zero]at e;cases e;exact⟨x,rfl,rfl⟩
 |x::xs,i,n+1,d,e=>by
  unfold jy at e;rw[List.getElem?_cons_succ]at e;obtain⟨y,h1,h2⟩:=rJ e;refine⟨y,by rw[List.getElem?_cons_succ];exact h1,?_⟩;rw[h2,show i+1+n=i+(n+1) by omega]
theorem HG{K:PySem.W.Frag}{k:SK}{a:Addr}{α:List (Option Addr)}{G:Hp}{ok:ag->Prop}{xs:List D}
 (h:∀α' G' st',Step α G α' G'->aP α' st' G'->ok st'->∃vs,DU k G' a vs/\aJ α' G' xs vs):uo (NU K k a) α G ok (jy 0 xs) where
 stop:=fun n α' G' F' H' st' s P S o hn=>by
  obtain⟨vs,h1,r1⟩:=h α' G' st' s S o;rw[xt]at hn;refine⟨vs,jB P h1,?_⟩;have:=r1.length;omega
 go:=fun n d α' G' F' H' st' s P S o hn=>by
  obtain⟨vs,h1,r1⟩:=h α' G' st' s S o;obtain⟨x,ex,rfl⟩:=rJ hn;obtain⟨v,ev,_⟩:=r1.get ex;exact⟨vs,v,jB P h1,ev⟩
 oH:=fun n d α' G' F' H' st' x H'' s P S o hn y=>by
  obtain⟨vs,h1,r1⟩:=h α' G' st' s S o;obtain⟨c,ec,rfl⟩:=rJ hn;obtain⟨T,v,hT,rfl,rfl,y1⟩:=y;obtain⟨v',ev,rv⟩:=r1.get ec;rw[y1 vs (jB P h1)]at ev;cases ev;have hg:=(P.none hT).1;refine⟨upd G' T (.tup [.int (n:Int),v]),Step.laid hg,P.laid hT,S.laid hg,?_⟩;unfold Rep;refine⟨T,[.int (n:Int),v],rfl,S.kF hg,aX,?_⟩;unfold aJ;refine⟨.int (n:Int),[v],rfl,?_,?_⟩
  . unfold Rep;rw[Nat.zero_add]
  unfold aJ;exact⟨v,[],rfl,rv.step (Step.laid hg),by unfold aJ;rfl⟩
def Cn(ds:List D)(st1:ag)(K:List D->(ag->Prop)->ag->Prop):Prop:=match ds with
 | [x]=>(match items? st1 x with
   |some xs=>K (jy 0 xs) (fun st'=>items? st' x=some xs) st1
   |_=>False)
 |_=>False
@[irreducible] def qZ:List D->ag->(List D->(ag->Prop)->ag->Prop)->Prop:=Cn
def BQ(t:DA):DI:=fun σ st K=>t σ st fun ds st1=>qZ ds st1 K
theorem C7:bootBuiltins "enumerate"=some (.type "enumerate"):=by decide+kernel
theorem Ju{X:Cx}{a:Expr}{elts:List Expr}{kx:Nat}{tpos p pos:Pos}{t:DA}(hg:Gl X "enumerate")(hm:X.mg "enumerate"=none)(ha:PA X [a] (LA t))(hs:starEach [a] X.env=[(false,eval a X.env)]):
 PI X (.Tuple elts kx tpos) (.Call (.Name "enumerate" p) [a] [] pos) (LI (BQ t)):=by
 intro pins s σ H R I h;obtain⟨α,σd,st,K,G,F,P,RS,S,t,k⟩:=h;refine Call_ (kL I hg hm C7 (PyProof.Rows.callWith_type1 (cu (ha pos pins s σ H (fun vs H1=>∃ds α1 G1 st1,Step α G α1 G1/\cx G1 F H1/\aP α1 st1 G1/\aJ α1 G1 ds vs/\qZ ds st1 K) I ⟨α,σd,st,_,G,F,P,RS,S,t,fun ds st1 q α1 G1 H1 vs s1 P1 S1 r1=>⟨ds,α1,G1,st1,s1,P1,S1,r1,q⟩⟩) fun us s1 ⟨vs,H1,I1,rv,ds,α1,G1,st1,w1,P1,S1,r1,q⟩=>?_) (by rw[hs];rfl) (by rfl)));unfold qZ Cn at q;split at q
 . rename_i x;split at q
   . rename_i xs ex;obtain⟨v1,rfl,q1⟩:=gu r1 rfl;obtain⟨p1,vs1,rfl,g1,c1⟩:=nt S1 q1 ex;obtain⟨u1,rfl,ru1⟩:=vals1 rv;cases ru1;obtain⟨its1,_,l1⟩:=kc I1 (jB P1 c1);refine Ef l1 fun g he i1 kp=>?_;obtain⟨o1,eo1⟩:=l1.some;have hp1:p1<s1.heap.objs.size:=Heap.lt_size eo1;refine wpAny_pyIter_enum (s:={s1 with heap:=g}) he ?_;refine⟨s1.heap.objs.size+1,[s1.heap.objs.size+1,s1.heap.objs.size],_,_,H1,rfl,I1.kept (t':=s1.toks) kp,CQ (Hc x) (Nat.ne_of_gt (Nat.lt_succ_self _)) (Nat.ne_of_lt (Nat.lt_succ_of_lt hp1)) (Nat.ne_of_lt hp1),⟨⟨_,he⟩,i1⟩,fun b hb=>?_,?_⟩
     . have hb':s1.heap.objs.size<=b:=by
        simp only[List.mem_cons,List.not_mem_nil,or_false]at hb;rcases hb with rfl|rfl
        . exact Nat.le_succ _
        . exact Nat.le_refl _
       exact I1.t_ hb' (I1.aM.fresh hb')
     . refine k _ _ st1 q _ α1 G1 H1 w1 P1 S1 (HG fun α' G' st' s' S' o=>?_);obtain⟨p1',ws1,e1,f1,d1⟩:=nt S' (q1.step s') o;cases e1;exact⟨ws1,d1,f1⟩
   . exact q.elim
 . exact q.elim
theorem IA{st:ag}{x:D}{xs:List D}{K:List D->(ag->Prop)->ag->Prop}(ex:items? st x=some xs)(k:∀ok:ag->Prop,(∀st',items? st' x=some xs->ok st')->K (jy 0 xs) ok st):qZ [x] st K:=by
 unfold qZ Cn;simp only[ex];exact k _ fun st' h1=>h1
theorem Ls{X:Cx}{a:Expr}{elts:List Expr}{kx:Nat}{tpos p pos:Pos}{ar:DA}(hg:Gl X "enumerate")(hm:X.mg "enumerate"=none)(ha:JA X [a] ar)(hs:notStar a=true:=by rfl):JI X (.Tuple elts kx tpos) (.Call (.Name "enumerate" p) [a] [] pos) (BQ ar):=by
 unfold JI;unfold JA at ha;exact Ju hg hm ha (cF hs)
end L3
namespace L3
open PySem L2
open PySem.Spec hiding items?
open PyProof.Rows hiding St
section
variable {prog:Program}{w:World}{A:Around}{E:Value->Shared->Prop}{s:Shared}
end
section
variable {X:Cx}{tg:Expr}
end
section
variable {X:Cx}
end
end L3
namespace L3
open PySem L2
open PySem.Spec hiding items?
open PyProof.Rows hiding St
open PySem PySem.Spec L2 PySem.SeqAt
section
variable {X:Cx}
end
end L3
namespace L3
open PySem L2
open PySem.Spec hiding items?
open PyProof.Rows hiding St
section
variable {X:Cx}
theorem AN{k:Nat}{x:Str}{e:Expr}{te:DE}{pos pos':Pos}(hN:X.N.Nodup)(hx:Loc X.env.scope x)(he:JE X e te)(hsw:swapsWith e (some (.Name x pos')) pos.line X.env=pure false:=by rfl)(hf:X.fn x=true\/X.env.scope.names.lookup x=some .local:=by first|exact .inl rfl|exact .inr rfl)(hi:X.N[k]?=some x:=by rfl):JS X (.Assign [.Name x pos'] e pos) (a6 k te):=by
 unfold JS;unfold JE at he;exact C9 (CI hN hi hx he hsw hf)
end
def kill:List Nat->ag->ag
 | [],st=>st
 |c::cs,st=>kill cs (st.set c .dead)
theorem A3:∀ {cs:List Nat} {st:ag} {m:Nat},m∉cs->(kill cs st)[m]?=st[m]?
 | [],_,_,_=>rfl
 |c::cs,st,m,h=>by
  unfold kill;have hc:c≠m:=fun z=>h (by rw[z];exact List.mem_cons_self);rw[A3 fun z=>h (List.mem_cons_of_mem _ z),List.getElem?_set_ne hc]
theorem yr:∀ {cs:List Nat} {st:ag},(kill cs st).length=st.length
 | [],_=>rfl
 |c::cs,st=>by unfold kill;rw[yr,List.length_set]
theorem AB{G:Hp}:∀(cs:List Nat) (xss:List (List D)) {α:List (Option Addr)} {st:ag} {vs:List V},aP α st G->aJ α G (cs.map D.ref) vs->cs.Nodup->cs.length=xss.length->(∀(k c:Nat) (xs:List D),cs[k]?=some c->xss[k]?=some xs->st[c]?=some (.lst xs))->∃α',Step α G α' G/\aP α' (kill cs st) G/\aJ α' G (xss.map D.lst) vs
 | [],[],α,st,vs,S,r,_,_,_=>⟨α,Step.refl,S,r⟩
 |c::cs,xs::xss,α,st,vs,S,r,nd,hl,h=>by
  have e:=h 0 c xs rfl rfl
  obtain⟨v,vs',rfl,r1,r2⟩:∃v r,vs=v::r/\Rep α G (.ref c) v/\aJ α G (cs.map D.ref) r:=by
   rw[List.map_cons]at r;unfold aJ at r;exact r
  obtain⟨hc,nd⟩:=List.nodup_cons.mp nd;have S1:=S.et (List.getElem?_eq_some_iff.mp e).1
  obtain⟨α',s,S2,r3⟩:=AB cs xss S1 (r2.step Step.et) nd (by simpa using hl) fun k d ys e1 e2=>by
   have hd:c≠d:=fun z=>hc (z▸List.mem_of_getElem? e1);rw[List.getElem?_set_ne hd];exact h (k+1) d ys (by simpa using e1) (by simpa using e2)
  refine⟨α',Step.et.trans s,S2,?_⟩;rw[List.map_cons];unfold aJ;exact⟨v,vs',rfl,(S.vX e r1).step s,r3⟩
@[irreducible] def td(i:Nat)(t:DS):DS:=fun D σ st=>∃(n:Nat) (cs:List Nat) (xss:List (List L3.D)),σ[i]?=some (some (.ref n))/\st[n]?=some (.lst (cs.map L3.D.ref))/\cs.Nodup/\n∉cs/\cs.length=xss.length/\(∀(k c:Nat) (xs:List L3.D),cs[k]?=some c->xss[k]?=some xs->st[c]?=some (.lst xs))/\t D (σ.set i (some (.lst (xss.map L3.D.lst)))) (kill (n::cs) st)
section
variable {X:Cx}
theorem Hy{s:Stmt}{i:Nat}{t:DS}(h:PS X s (LS t)):PS X s (LS (td i t)):=PS.imp h fun D σ H ⟨α,σd,st,DD,G,F,P,R,S,q,k⟩=>by
 unfold td at q;obtain⟨n,cs,xss,e,e2,nd,hn,hl,hc,q⟩:=q;have hlt:n<st.length:=(List.getElem?_eq_some_iff.mp e2).1;obtain⟨v,ev,rv⟩:=R.at' i _ e;have r1:=S.vX e2 rv;unfold Rep at r1;obtain⟨a,vs,rfl,na,h1,h2⟩:=r1
 obtain⟨α',s1,S2,r3⟩:=AB cs xss (S.et hlt) h2 nd hl fun k c xs e1 e2=>by
  have hd:n≠c:=fun z=>hn (z▸List.mem_of_getElem? e1);rw[List.getElem?_set_ne hd];exact hc k c xs e1 e2
 have s:Step α G α' G:=Step.et.trans s1
 have r4:Rep α' G (.lst (xss.map L3.D.lst)) (.ref a):=by
  unfold Rep;refine⟨a,vs,rfl,fun z=>?_,h1,r3⟩;have:=s1.new a z na;rcases h1 with h1|⟨ob,h1⟩<;>(rw[this]at h1;cases h1)
 have R2:dU α' G (σd.set i (some (.lst (xss.map L3.D.lst)))) (σ.set i (some (.ref a))):=(R.step s).set i r4
 have es:σ.set i (some (.ref a))=σ:=by
  refine List.ext_getElem? fun j=>?_;by_cases hj:i=j
  . subst hj;rw[List.getElem?_set_self (List.getElem?_eq_some_iff.mp ev).1,ev]
  . rw[List.getElem?_set_ne hj]
 rw[es]at R2;exact⟨α',_,_,DD,G,F,P,R2,S2,q,k.at s⟩
theorem Hz{s:Stmt}{i:Nat}{t:DS}(h:JS X s t):JS X s (td i t):=by unfold JS at*;exact Hy h
end
theorem HB{σ:bL}{st:ag}{E:iC}{i n:Nat}{t:DS}{cs:List Nat}{xss:List (List L3.D)}(e:σ[i]?=some (some (.ref n)))(e2:st[n]?=some (.lst (cs.map L3.D.ref)))(nd:cs.Nodup)(hn:n∉cs)(hl:cs.length=xss.length)(hc:∀(k c:Nat) (xs:List L3.D),cs[k]?=some c->xss[k]?=some xs->st[c]?=some (.lst xs))(k:t E (σ.set i (some (.lst (xss.map L3.D.lst)))) (kill (n::cs) st)):td i t E σ st:=by
 unfold td;exact⟨n,cs,xss,e,e2,nd,hn,hl,hc,k⟩
section
variable {X:Cx}
end
section
variable {P:Program}{w:World}
section
variable {z ti to t1 t2 t3 a1 a2 a3:Addr}
end
end
def u_:DS:=fun _ _ _=>False
theorem uj{X:Cx}{s:Stmt}:JS X s u_:=by
 unfold JS;intro pins s σ H D I h;obtain⟨α,σd,st,DD,G,F,P,R,S,q,k⟩:=h;exact q.elim
section
variable {X:Cx}
end
end L3
namespace L3
open PySem L2
open PySem.Spec hiding items?
open PyProof.Rows hiding St
open Sem (wp)
section
variable {prog:Program}{w:World}{A:Around}{s:Shared}{E:Value->Shared->Prop}
end
section
variable {prog:Program}{w:World}{A:Around}{R:Result->Shared->Prop}{I:Addr}{fp wr:List Addr}{G:Array GenState->Array GenState->Prop}{n:Nat}{P:Nat->Value->Prop}{Sx:Nat->Shared->Prop}
end
section
variable {prog:Program}{w:World}{A:Around}{E:Value->Shared->Prop}{s:Shared}
end
section
variable {X:Cx}{pins:List (Addr×Obj)}{σ:L2.St}{H:Hp}{s:Shared}{α:List (Option Addr)}
end
end L3
namespace L3
open PySem L2
open PySem.Spec hiding items?
open PyProof.Rows hiding St
section
variable {X:Cx}
theorem range_any{α:Type}(l:List α)(f:α->Bool)(tr:Nat->Bool)(h:∀i x,l[i]?=some x->tr i=f x):(List.range l.length).any tr=l.any f:=by
 induction l generalizing tr with
 |nil=>rfl
 |cons a l ih=>
  rw[List.length_cons,List.range_succ_eq_map,List.any_cons,List.any_cons,List.any_map,h 0 a rfl];congr 1;exact ih (tr∘Nat.succ) fun i x e=>h (i+1) x (by simpa using e)
end
def putD(f:Str)(v:D):List (Str×D)->List (Str×D)
 | []=>[(f,v)]
 |(g,x)::r=>if g=f then(g,v)::r else(g,x)::putD f v r
theorem jH.look{α:List (Option Addr)}{H:Hp}{f:Str}{v:D}:∀ {fs:List (Str×D)} {vs:List (Str×V)},jH α H fs vs->fs.lookup f=some v->∃u,vs.lookup f=some u/\Rep α H v u
 | [],_,_,e=>by cases e
 |(g,x)::fs,_,.cons (b:=q) h t,e=>by
  obtain⟨g',y⟩:=q;obtain⟨h1,h2⟩:=h;simp only at h1 h2;subst h1;rw[List.lookup_cons]at e⊢;cases hb:f==g with
  |true=>rw[hb]at e;cases e;exact⟨y,rfl,h2⟩
  |false=>rw[hb]at e;exact jH.look t e
theorem jH.none{α:List (Option Addr)}{H:Hp}{f:Str}:∀ {fs:List (Str×D)} {vs:List (Str×V)},jH α H fs vs->fs.lookup f=Option.none->vs.lookup f=Option.none
 | [],_,.nil,_=>rfl
 |(g,x)::fs,_,.cons (b:=q) h t,e=>by
  obtain⟨g',y⟩:=q;obtain⟨h1,h2⟩:=h;simp only at h1 h2;subst h1;rw[List.lookup_cons]at e⊢;cases hb:f==g with
  |true=>rw[hb]at e;cases e
  |false=>rw[hb]at e;exact jH.none t e
theorem jH.put{α:List (Option Addr)}{H:Hp}{f:Str}{d:D}{v:V}(r:Rep α H d v):∀ {fs:List (Str×D)} {vs:List (Str×V)},jH α H fs vs->jH α H (putD f d fs) (gw f v vs)
 | [],_,.nil=> .cons ⟨rfl,r⟩ .nil
 |(g,x)::fs,_,.cons (b:=q) h t=>by
  obtain⟨g',y⟩:=q;obtain⟨h1,h2⟩:=h;simp only at h1 h2;subst h1;unfold putD gw;by_cases hb:g=f
  . rw[if_pos hb,if_pos hb];exact .cons ⟨rfl,r⟩ t
  . rw[if_neg hb,if_neg hb];exact .cons ⟨rfl,h2⟩ (jH.put r t)
def FR(C:Addr)(f:Str)(d:D)(st:ag)(K:DK):Prop:=match d with
 | .ref n=>(match st[n]? with|some (.ins C' fs)=>C'=C/\∃v,fs.lookup f=some v/\K v st|_=>False)
 |_=>False
@[irreducible] def CA(C:Addr)(f:Str):D->ag->DK->Prop:=FR C f
def dZ(C:Addr)(f:Str)(te:DE):DE:=fun σ st K=>te σ st fun d st1=>CA C f d st1 K
theorem cM{C:Addr}{f:Str}{n:Nat}{st:ag}{K:DK}{fs:List (Str×D)}{v:D}(e:st[n]?=some (.ins C fs))(h:fs.lookup f=some v)(k:K v st):CA C f (.ref n) st K:=by
 unfold CA FR;simp only[e];exact⟨trivial,v,h,k⟩
def Bz(C:Addr)(f:Str)(x d:D)(st:ag)(K:ag->Prop):Prop:=match x with
 | .ref n=>(match st[n]? with|some (.ins C' fs)=>C'=C/\fs.length<1000/\K (st.set n (.ins C (putD f d fs)))|_=>False)
 |_=>False
@[irreducible] def x6(C:Addr)(f:Str):D->D->ag->(ag->Prop)->Prop:=Bz C f
def oJ(C:Addr)(f:Str)(to te:DE):DS:=fun D σ st=>te σ st fun d st1=>to σ st1 fun x st2=>x6 C f x d st2 fun st3=>D.nx σ st3
theorem ng{C:Addr}{f:Str}{n:Nat}{d:D}{st:ag}{K:ag->Prop}{fs:List (Str×D)}(e:st[n]?=some (.ins C fs))(h:fs.length<1000)(k:K (st.set n (.ins C (putD f d fs)))):x6 C f (.ref n) d st K:=by
 unfold x6 Bz;simp only[e];exact⟨trivial,h,k⟩
def BM(C:Addr)(m:Str)(x:D)(st:ag)(k:Prop):Prop:=match x with
 | .ref n=>(match st[n]? with|some (.ins C' fs)=>C'=C/\fs.lookup m=none/\k|_=>False)
 |_=>False
@[irreducible] def xU(C:Addr)(m:Str):D->ag->Prop->Prop:=BM C m
theorem jX{C:Addr}{m:Str}{n:Nat}{st:ag}{k:Prop}{fs:List (Str×D)}(e:st[n]?=some (.ins C fs))(h:fs.lookup m=none)(q:k):xU C m (.ref n) st k:=by
 unfold xU BM;simp only[e];exact⟨trivial,h,q⟩
def js(C:Addr)(m:Str)(S:cK)(to:DE)(t:DA):DE:=fun σ st K=>to σ st fun x st1=>xU C m x st1 (t σ st1 fun ds st2=>S (x::ds) st2 K)
def Bs(C:Addr)(S:cK)(t:DA):DE:=fun σ st K=>t σ st fun ds st1=>S (.ref st1.length::ds) (st1++[.ins C []]) fun r st2=>r= .aK/\K (.ref st1.length) st2
section
variable {X:Cx}{C f g:Addr}{fd:FuncData}{k:Nat}{x m fl:Str}{e o value:Expr}{es:List Expr}{p pos pos' apos:Pos}{te to:DE}{t:DA}{S:cK}{ps:List Str}
theorem Nj(c:nV X.K C)(na:f_ X.K C fl)(he:PE X e (LE te))(hb:attributeBase e fl X.env (eval e X.env)=eval e X.env):PE X (.Attribute e fl pos) (LE (dZ C fl te)):=PE.imp (Kf he hb) fun σ H Q ⟨α,σd,st,K,G,F,P,R,S,t,k⟩=>by
 refine⟨α,σd,st,_,G,F,P,R,S,t,fun d st1 q α1 G1 H1 v s1 P1 S1 r1=>?_⟩;unfold CA FR at q;cases d<;>try exact q.elim
 simp only at q;split at q
 . rename_i C' fs e';obtain⟨rfl,w,hw,q⟩:=q;obtain⟨a,ea,dx,vs,h1,h2⟩:=S1.ya e';have r1':=eL ea r1;subst r1';obtain⟨u,hu,ru⟩:=h2.look hw;exact⟨a,_,dx,vs,u,rfl,P1.get h1,c,na,hu,(k.at s1).here P1 q S1 ru⟩
 . exact q.elim
theorem LQ(c:nV X.K C)(na:f_ X.K C fl)(ho:PE X o (LE to))(hv:PE X value (LE te))(hs:swapsWith value (some (.Attribute o fl pos')) pos.line X.env=pure false):PS X (.Assign [.Attribute o fl pos'] value pos) (LS (oJ C fl to te)):=PS.imp (JD ho hv hs) fun D σ H ⟨α,σd,st,DD,G,F,P,R,S,t,k⟩=>by
 refine⟨α,σd,st,_,G,F,P,R,S,t,fun d st1 q α1 G1 H1 v s1 P1 S1 r1=>?_⟩;refine⟨α1,σd,st1,_,G1,F,P1,R.step s1,S1,q,fun x st2 q2 α2 G2 H2 v2 s2 P2 S2 r2=>?_⟩;unfold x6 Bz at q2;cases x<;>try exact q2.elim
 simp only at q2;split at q2
 . rename_i C' fs e';obtain⟨rfl,hl,q2⟩:=q2;obtain⟨a,ea,dx,vs,h1,h2⟩:=S2.ya e';have r2':=eL ea r2;subst r2';have hm:some a∈α2:=List.mem_of_getElem? ea;have lv:vs.length<1000:=by rw[<-h2.length];exact hl
   refine⟨a,_,dx,vs,rfl,P2.get h1,c,na,lv,?_⟩;refine((k.nx.at s1).at s2) σd _ q2 α2 (upd G2 a (.ins _ dx (gw fl v vs))) _ σ (Step.write hm) (P2.write h1) (((R.step s1).step s2).step (Step.write hm)) ?_;exact S2.write ea ⟨dx,gw fl v vs,aX,(h2.put (r1.step s2)).step (Step.write hm)⟩
 . exact q2.elim
theorem LE.Mp{σ:L2.St}{H:Hp}{Q:VK}(h:LE (js C m S to t) σ H Q):G0 C m (cQ S) [] E0 (LE to) (LA t) σ H Q:=by
 obtain⟨α,σd,st,K,G,F,P,R,Sr,tt,k⟩:=h;refine⟨α,σd,st,_,G,F,P,R,Sr,tt,fun d st1 q α1 G1 H1 v s1 P1 S1 r1=>?_⟩;unfold xU BM at q;cases d<;>try exact q.elim
 simp only at q;split at q
 . rename_i n C' fs e';obtain⟨rfl,hl,q⟩:=q;obtain⟨a,ea,dx,vs,h1,h2⟩:=S1.ya e';have r1':=eL ea r1;subst r1';refine⟨a,dx,vs,rfl,P1.get h1,h2.none hl,?_⟩;refine⟨α1,σd,st1,_,G1,F,P1,R.step s1,S1,q,fun ds st2 q2 α2 G2 H2 us s2 P2 S2 r2=>?_⟩;try dsimp only
   rw[List.append_nil];exact⟨α2,_,st2,K,G2,F,P2,by unfold aJ;exact⟨_,_,rfl,r1.step s2,r2⟩,S2,q2,(k.at s1).at s2⟩
 . exact q.elim
theorem LE.make{σ:L2.St}{H:Hp}{Q:VK}(h:LE (Bs C S t) σ H Q):F_ C (cQ S) [] E0 (LA t) σ H Q:=by
 obtain⟨α,σd,st,K,G,F,P,R,Sr,tt,k⟩:=h;refine⟨α,σd,st,_,G,F,P,R,Sr,tt,fun ds st1 q α1 G1 H1 us s1 P1 S1 r1=>?_⟩;intro x dx hx hdx hne;have hgd:=(P1.none hdx).1;have P2:=P1.laid (o:= .own x) hdx;have S2:=S1.laid (o:= .own x) hgd;have hx2:upd H1 dx (.own x) x=none:=by rw[aA (Ne.symm hne)];exact hx
 have hg2:=(P2.none hx2).1;have P3:=P2.laid (o:= .ins C dx []) hx2;have S3:=S2.cell (o:= .ins C dx []) (c:= .ins C []) hg2 ⟨dx,[],aX,.nil⟩;have s2:Step α1 G1 α1 (upd G1 dx (.own x)):=Step.laid hgd;have s3:Step α1 (upd G1 dx (.own x)) (α1++[some x]) (upd (upd G1 dx (.own x)) x (.ins C dx [])):=Step.cell hg2
 have rx:Rep (α1++[some x]) (upd (upd G1 dx (.own x)) x (.ins C dx [])) (.ref st1.length) (.ref x):=by
  unfold Rep;refine .inr ⟨x,?_,rfl⟩;rw[List.getElem?_append_right (by rw[S1.len];exact Nat.le_refl _),S1.len,Nat.sub_self];rfl
 rw[List.append_nil];refine⟨α1++[some x],.ref st1.length::ds,st1++[.ins C []],_,_,F,P3,by unfold aJ;exact⟨_,_,rfl,rx,(r1.step s2).step s3⟩,S3,q,fun d st2 q2 α' G' H' v s' P' S' r'=>?_⟩;obtain⟨rfl,q2⟩:=q2;unfold Rep at r';exact⟨r',(((k.at s1).at s2).at s3) _ st2 q2 α' G' H' _ s' P' S' (rx.step s')⟩
end
def Kd(a:Int)(n:Nat):It:=⟨fun i _=>i<n,fun i H x H'=>H'=H/\x= .int (a+(i:Nat)*(-1)),fun i _=>n<=i⟩
theorem Dq{P:Program}{w:World}{K:PySem.W.Frag}{tg:Expr}(it:Addr)(a:Int)(n:Nat):Turn P w K tg (Kd a n) [it] it (fun i h=>IsRangeIter h it (a+(i:Nat)*(-1)) ((n:Int)-(i:Nat)) (-1)) where
 mem:=by simp
 obj:=fun i h st b hb=>by
  have e:b=it:=by simpa using hb
  subst e
  exact⟨_,st,fun v z=>by
   have z':Data.fields _=Data.cell v:=z;cases z'⟩
 keep:=fun i h h' st k=>k it (by simp) _ st
 item:=by
  intro X hP hw hK hc i pins s σ H E I hf st hg;subst hP hw hK;obtain⟨f0,f1,f2,f3,f4,f5⟩:=hf it (by simp);have W:=Walks.range (prog:=X.prog) (w:=X.w) (I.ok.hd hc) it a (-1) n;refine W.item i s _ _ hg st fun v h' tk hv st' kk=>?_;obtain⟨t,rfl⟩:=hv;have I1:Inv X pins σ H {s with heap:=h',toks:=tk}:=I.turned (fun b o hb e=>kk b o (by simpa using hb) e) f0 f1 f3 f4 f5;exact⟨_,rfl,yc (s:={s with heap:=h',toks:=tk}) (n:="range_iterator") st' rfl rfl (by decide) ⟨.int (a+(i:Nat)*(-1)),H,I1,⟨t,rfl⟩,⟨rfl,rfl⟩,st',fun b hb=>(hf b hb).1⟩⟩
 done:=by
  intro X hP hw hK hc i pins s σ H E I hf st hg;subst hP hw hK;obtain⟨f0,f1,f2,f3,f4,f5⟩:=hf it (by simp);exact wpAny_pyNext_range_end (I.ok.hd hc) st (by have:n<=i:=hg;omega) fun h' eb=>⟨rfl,I.turned (t':=s.toks) (fun b o hb e=>eb b o hb e) f0 f1 f3 f4 f5⟩
 self:=fun _ _ _ _ _ st h=>wpAny_pyIter_rangeiter st h
theorem xi(a b:Int):Builtin.Range.rangeSize a b (-1)=((a-b).toNat:Int):=by
 unfold Builtin.Range.rangeSize;rw[if_neg (by decide)];have e:(a-b-1)/(- -1:Int)=a-b-1:=by simp
 rw[e];split<;>omega
theorem small_down{a b:Int}(ha: -(2^62)<=a)(ha':a<2^62)(hb: -(2^62)<=b)(hb':b<2^62):Builtin.Range.small a b (-1)=true:=by
 unfold Builtin.Range.small;rw[xi];simp only[Builtin.Range.rangeFitsLong,Bool.and_eq_true,Bool.or_eq_true,decide_eq_true_eq,beq_iff_eq,show¬((-1:Int)>0) by decide,if_false];omega
def G9(ta:TA):TI:=fun σ H R=>ta σ H fun vs H1=>∃i j:Int,vs=[.int i,.int j,.int (-1)]/\(-(2^62)<=i/\i<2^62/\ -(2^62)<=j/\j<2^62)/\R (Kd i (i-j).toNat) H1
section
variable {X:Cx}{tg:Expr}
theorem Dy{a b c:Expr}{ta:TA}{p pos:Pos}(hg:Gl X "range")(hm:X.mg "range"=none)(ha:PA X [a,b,c] ta)(hs:notStar a=true:=by rfl)(hs2:notStar b=true:=by rfl)(hs3:notStar c=true:=by rfl):
 PI X tg (.Call (.Name "range" p) [a,b,c] [] pos) (G9 ta):=by
 intro pins s σ H R I h;refine Call_ (kL I hg hm boot_range (PyProof.Rows.callWith_type1 (cu (ha pos pins s σ H _ I h) fun us s1 ⟨vs,H1,I1,r1,q1⟩=>?_) (cF hs) (jM (by simp[fT,hs2,hs3]))));obtain⟨i,j,e,⟨q1,q2,q3,q4⟩,q⟩:=q1;subst e;cases r1 with
 |cons r rr=>
  cases rr with
  |cons r' rr=>
   cases rr with
   |cons r'' rr=>
    cases rr;obtain⟨t,rfl⟩:=r;obtain⟨t',rfl⟩:=r';obtain⟨t'',rfl⟩:=r'';refine call_range_3 (by decide) ?_ (Or.inl (PyProof.noPylong_of_log2 (by decide+kernel)));refine wpAny_pyIter_range (IsRange.new ..) (small_down q1 q2 q3 q4) ?_;have I2:Inv X pins σ H1 {s1 with heap:=s1.heap.push {cls:= .type "range",data:= .fields #[.int i t,.int j t',.int (-1) t'']},toks:=s1.toks}:=I1.kept fun b o e=>Heap.get?_push_of_some _ e;generalize({s1 with heap:=s1.heap.push {cls:= .type "range",data:= .fields #[.int i t,.int j t',.int (-1) t'']},toks:=s1.toks}:Shared)=s2 at I2⊢;refine⟨s2.heap.objs.size,[s2.heap.objs.size],_,_,H1,rfl,I2.kept (t':=s2.toks) fun b o e=>Heap.get?_push_of_some _ e,Dq _ i (i-j).toNat,?_,fun b hb=>?_,q⟩
    . show IsRangeIter _ _ (i+((0:Nat):Int)*(-1)) ((((i-j).toNat:Nat):Int)-((0:Nat):Int)) (-1);have e1:i+((0:Nat):Int)*(-1)=i:=by omega
      have e2:(((i-j).toNat:Nat):Int)-((0:Nat):Int)=Builtin.Range.rangeSize i j (-1):=by rw[xi];omega
      rw[e1,e2];exact Heap.get?_push_size _ rfl
    . have e:b=s2.heap.objs.size:=by simpa using hb
      subst e;exact I2.t_ (Nat.le_refl _) (I2.aM.fresh (Nat.le_refl _))
end
def gO(a:Int)(n:Nat):List D:=(List.range n).map fun(k:Nat)=>D.int (a+(k:Nat)*(-1))
theorem w4{a:Int}{n k:Nat}:(gO a n)[k]?=if k<n then some (.int (a+(k:Nat)*(-1)))else none:=by
 unfold gO;rw[List.getElem?_map];by_cases h:k<n
 . rw[List.getElem?_range h,if_pos h];rfl
 . rw[List.getElem?_eq_none (by simpa using h),if_neg h];rfl
theorem mi{a:Int}{n:Nat}:(gO a n).length=n:=by unfold gO;simp
theorem IW{α:List (Option Addr)}{G:Hp}{a:Int}{n:Nat}:uo (Kd a n) α G (fun _=>True) (gO a n) where
 stop:=fun m α' G' F' H' st' s P S o hn=>by rw[mi]at hn;exact hn
 go:=fun m d α' G' F' H' st' s P S o hn=>by
  rw[w4]at hn;split at hn
  . assumption
  . cases hn
 oH:=fun m d α' G' F' H' st' x H'' s P S o hn y=>by
  obtain⟨rfl,rfl⟩:=y;rw[w4]at hn;split at hn
  . cases hn;exact⟨G',Step.refl,P,S,by unfold Rep;rfl⟩
  . cases hn
def Nh(ds:List D)(st1:ag)(K:List D->(ag->Prop)->ag->Prop):Prop:=match ds with
 | [.int i,.int j,.int c]=>(c= -1/\ -(2^62)<=i/\i<2^62/\ -(2^62)<=j/\j<2^62)/\K (gO i (i-j).toNat) (fun _=>True) st1
 |_=>False
@[irreducible] def x9:List D->ag->(List D->(ag->Prop)->ag->Prop)->Prop:=Nh
def wc(t:DA):DI:=fun σ st K=>t σ st fun ds st1=>x9 ds st1 K
theorem CV{X:Cx}{tg iter:Expr}{t:DA}(h:PI X tg iter (G9 (LA t))):PI X tg iter (LI (wc t)):=PI.imp h fun σ H R ⟨α,σd,st,K,G,F,P,RS,S,t,k⟩=>by
 refine⟨α,σd,st,_,G,F,P,RS,S,t,fun ds st1 q α1 G1 H1 vs s1 P1 S1 r1=>?_⟩;unfold x9 at q;match ds,q,r1 with
 | [.int i,.int j,.int c],q,r1=>
   obtain⟨v,u,w,rfl,r2,r3,r4⟩:=GH r1 rfl;unfold Rep at r2 r3 r4;subst r2 r3 r4;obtain⟨⟨rfl,q1⟩,q2⟩:=q;exact⟨i,j,rfl,q1,k _ _ st1 q2 _ α1 G1 H1 s1 P1 S1 IW⟩
theorem Iu{st:ag}{i j:Int}{K:List D->(ag->Prop)->ag->Prop}(h: -(2^62)<=i/\i<2^62/\ -(2^62)<=j/\j<2^62)(k:K (gO i (i-j).toNat) (fun _=>True) st):x9 [.int i,.int j,.int (-1)] st K:=by unfold x9;exact⟨⟨rfl,h⟩,k⟩
theorem E4{X:Cx}{tg a b c:Expr}{p pos:Pos}{ar:DA}(hg:Gl X "range")(hm:X.mg "range"=none)(ha:JA X [a,b,c] ar)(hs:notStar a=true:=by rfl)(hs2:notStar b=true:=by rfl)(hs3:notStar c=true:=by rfl):JI X tg (.Call (.Name "range" p) [a,b,c] [] pos) (wc ar):=by
 unfold JI;unfold JA at ha;exact CV (Dy hg hm ha hs hs2 hs3)
section
variable {X:Cx}
end
section
variable {X:Cx}{e o i value:Expr}{es:List Expr}{te to ti:DE}{t:DA}{pos pos' tpos apos p:Pos}{C f:Addr}{fl m x:Str}{S:cK}{k:Nat}{fd:FuncData}{ps:List Str}
theorem Dv{value o:Expr}{fl:Str}{pos':Pos}{n:Nat}{env:Env}:swapsWith value (some (.Attribute o fl pos')) n env=pure false:=by cases value<;>rfl
theorem df(c:nV X.K C)(na:f_ X.K C fl)(he:JE X e te)(hb:attributeBase e fl X.env (eval e X.env)=eval e X.env:=by rfl):JE X (.Attribute e fl pos) (dZ C fl te):=by unfold JE at*;exact Nj c na he hb
theorem nj(c:nV X.K C)(na:f_ X.K C fl)(ho:JE X o to)(hv:JE X value te):JS X (.Assign [.Attribute o fl pos'] value pos) (oJ C fl to te):=by unfold JS;unfold JE at*;exact LQ c na ho hv Dv
theorem lZ{pl:Sem Bool}(he:JE X o to)(c:nV X.K C)(hm:Meth X.K C m f)(F:bE X.prog X.w X.K X.mg X.base cL k f fd ps (cQ S))(hr:cT k X.A)(hb:Binds X.K fd ps [])(ha:JA X (e::es) t)
 (hs:notStar e=true:=by rfl) (hs2:fT es=true:=by rfl)
 (ht:eval (.Call (.Attribute o m apos) (e::es) [] pos) X.env=(do
   let ov <-eval o X.env
   standAt apos.atName
   let(f,first) <-holding [ov] (getMethod ov m pl)
   callWith pos f first (backTo pos (starEach (e::es) X.env)) (backToKw pos (keywordEach [] X.env))):=by rfl):
 JE X (.Call (.Attribute o m apos) (e::es) [] pos) (js C m S to t):=by
 unfold JE at*;unfold JA at ha;exact PE.imp (Im he c hm F hr hb .nil BW ha (cF hs) (jM hs2) ht) fun _ _ _ h=>LE.Mp h
theorem Lh(M:Mk X.K C f)(F:bE X.prog X.w X.K X.mg X.base cL k f fd ps (cQ S))(hr:cT (k+1) X.A)(hg:Gl X x)(hmg:X.mg x=some (.ref C))(hb:Binds X.K fd ps [])(ha:JA X (e::es) t)(hdb:(x==("__debug__":Str))=false)
 (hs:notStar e=true:=by rfl) (hs2:fT es=true:=by rfl):JE X (.Call (.Name x p) (e::es) [] pos) (Bs C S t):=by
 unfold JE;unfold JA at ha;exact PE.imp (Jl M F hr hg hmg hb .nil BW ha hdb (cF hs) (jM hs2)) fun _ _ _ h=>LE.make h
end
end L3
namespace L3
open PySem PySem.Spec L2
open PyProof.Rows hiding St
def Jn(xs:Array Keyed)(i:Nat):Int:=match xs[i]? with
 |some p=>numOf p.2
 |none=>0
theorem og{xs ys:Array Keyed}{i j:Nat}(h:xs[i]?=ys[j]?):Jn xs i=Jn ys j:=by unfold Jn;rw[h]
theorem l_{xs:Array Keyed}{i j:Nat}(hj:j<=xs.size)(k:Nat):
 K (mirror xs i j ((j-i)/2)) k=K xs (if i<=k/\k<j then i+j-1-k else k)/\Jn (mirror xs i j ((j-i)/2)) k=Jn xs (if i<=k/\k<j then i+j-1-k else k):=by
 have e:=getElem?_mirror_all (i:=i) hj k;split at e<;>rename_i h
 . rw[if_pos h];exact⟨K_congr e,og e⟩
 . rw[if_neg h];exact⟨K_congr e,og e⟩
theorem CJ{xs:Array Keyed}{src d:Nat}(hs:src<xs.size)(hd:d<=src)(k:Nat):
 K (bubble xs src d) k=K xs (if k=src-d then src else if src-d<k/\k<=src then k-1 else k)/\Jn (bubble xs src d) k=Jn xs (if k=src-d then src else if src-d<k/\k<=src then k-1 else k):=by
 have e:=getElem?_bubble hs d hd k;split at e<;>rename_i h
 . rw[if_pos h];exact⟨K_congr e,og e⟩
 . rw[if_neg h];split at e<;>rename_i h2
   . rw[if_pos h2];exact⟨K_congr e,og e⟩
   . rw[if_neg h2];exact⟨K_congr e,og e⟩
def mB(xs:Array Keyed)(i j:Nat):Prop:=K xs i<K xs j\/(K xs i=K xs j/\Jn xs i<Jn xs j)
def jr(xs:Array Keyed)(k:Nat):Prop:=∀i j,i<j->j<k->mB xs i j
def iV(n:Nat)(xs:Array Keyed)(k:Nat):Prop:=∀i j,i<j->k<=j->j<n->Jn xs i<Jn xs j
theorem jr.to{xs:Array Keyed}{k:Nat}(h:jr xs k):SortedTo xs k:=fun i j hij hj=>by
 rcases Nat.lt_or_eq_of_le hij with e|e
 . rcases h i j e hj with q|q<;>omega
 . subst e;exact Int.le_refl _
theorem jr.more{xs:Array Keyed}{n k m:Nat}(h:jr xs k)(t:iV n xs k)(s:SortedTo xs m)(hm:m<=n):jr xs m:=fun i j hij hj=>by
 by_cases hk:j<k
 . exact h i j hij hk
 . have a:=s i j (Nat.le_of_lt hij) hj;have b:=t i j hij (Nat.le_of_not_lt hk) (Nat.lt_of_lt_of_le hj hm);unfold mB;omega
theorem iV.up{xs:Array Keyed}{n k m:Nat}(t:iV n xs k)(h:k<=m):iV n xs m:=fun i j a b c=>t i j a (Nat.le_trans h b) c
theorem iV.mix{xs ys:Array Keyed}{n k:Nat}(t:iV n xs k)(f:Nat->Nat)(hf:∀i,Jn ys i=Jn xs (f i))(h1:∀i,i<k->f i<k)(h2:∀i,k<=i->f i=i):iV n ys k:=fun i j a b c=>by
 rw[hf,hf,h2 j b];refine t _ _ ?_ b c;by_cases hi:i<k
 . exact Nat.lt_of_lt_of_le (h1 i hi) b
 . rw[h2 i (Nat.le_of_not_lt hi)];exact a
section
variable {prog:Program}{w:World}{A:Around}{E:Value->Shared->Prop}{s:Shared}{a₀:Array Keyed}
theorem DW{st:SortSt}{ok:Nat}{Q:Bool->SortSt->Prop}(h0:IntKeys a₀)(h1:1<=ok)(aM:ok<=a₀.size)(hB:SBase a₀ st)(hs:jr (arrOf st) ok)(ht:iV a₀.size (arrOf st) ok)
 (h:∀st',SBase a₀ st'->jr (arrOf st') a₀.size->Q true st'):wpS (model prog w) A E s (binarySort' 0 a₀.size ok) Q st:=by
 rw[binarySort'_eq];simp only[Nat.zero_add]
 refine wpS_bind (wpS_mono (wpS_forRange (I:=fun k c q=>c=(none,())/\SBase a₀ q/\k<=a₀.size/\jr (arrOf q) k/\iV a₀.size (arrOf q) k)
  (Q:=fun c q=>c=(none,())/\SBase a₀ q/\jr (arrOf q) a₀.size) ?st ?en ?be) ?po)
 case po=>rintro c q ⟨rfl,b1,b2⟩;exact wpS_pure (h q b1 b2)
 case be=>rw[show max ok 1=ok by omega];exact⟨rfl,hB,aM,hs,ht⟩
 case en=>
  rintro c q ⟨rfl,b1,b2,b3,_⟩;rw[show max (max ok 1) a₀.size=a₀.size by omega]at b3;exact⟨rfl,b1,b3⟩
 case st=>
  rintro k c q hk1 hk2 ⟨rfl,qB,_,qS,qT⟩
  refine wpS_bind (wpS_mono (wpS_forRange (I:=fun x c q'=>q'=q/\∃l r,c=(none,l,r)/\l<=r/\r<=k/\r-l<=k-x/\(∀i,i<l->K (arrOf q) i<=K (arrOf q) k)/\(∀i,r<=i->i<k->K (arrOf q) k<K (arrOf q) i))
   (Q:=fun c q'=>q'=q/\∃l,c=(none,l,l)/\l<=k/\(∀i,i<l->K (arrOf q) i<=K (arrOf q) k)/\(∀i,l<=i->i<k->K (arrOf q) k<K (arrOf q) i)) ?a ?b ?c) ?d)
  case c=>exact⟨rfl,0,k,rfl,by omega,by omega,by omega,fun i hi=>by omega,fun i x y=>by omega⟩
  case b=>
   rintro c q' ⟨rfl,l,r,rfl,e1,e2,e3,e4,e5⟩;have:r=l:=by omega
   subst this;exact⟨rfl,r,rfl,e2,e4,e5⟩
  case a=>
   rintro x c q' _ hx ⟨rfl,l,r,rfl,e1,e2,e3,e4,e5⟩;dsimp only;by_cases hlr:l>=r
   . rw[if_pos hlr];have:r=l:=by omega
     subst this;exact wpS_pure ⟨rfl,r,rfl,e2,e4,e5⟩
   . rw[if_neg hlr];refine wpS_bind (wpS_ltK qB h0 hk2 (by omega) ?_);have so:=qS.to;by_cases hl:K (arrOf q') k<K (arrOf q') ((l+r)/2)
     . simp only[hl,decide_true,if_true];exact wpS_pure ⟨rfl,l,(l+r)/2,rfl,by omega,by omega,by omega,e4,fun i x y=>Int.lt_of_lt_of_le hl (so _ _ x y)⟩
     . simp only[hl,decide_false,Bool.false_eq_true,if_false];refine wpS_pure ⟨rfl,(l+r)/2+1,r,rfl,by omega,by omega,by omega,fun i x=>?_,e5⟩;have:=so i ((l+r)/2) (by omega) (by omega);omega
  case d=>
   rintro c q' ⟨rfl,l,rfl,hlk,e4,e5⟩;show wpS _ _ _ _ (do moveDown' k l;pure (ForInStep.yield (none,()))) _ _;rw[moveDown'_eq];have hks:k<(arrOf q').size:=by rw[qB.size];exact hk2
   have bb:=CJ (xs:=arrOf q') hks (show k-l<=k by omega);rw[show k-(k-l)=l by omega]at bb;refine wpS_bind (wpS_modify (wpS_pure ⟨rfl,qB.setArr (bubble_perm _ _ _),by omega,fun i j hij hj=>?_,iV.mix (qT.up (Nat.le_succ k)) _ (fun i=>(bb i).2) (fun i hi=>?_) (fun i hi=>?_)⟩))
   . show mB (bubble (arrOf q') k (k-l)) i j;unfold mB;rw[(bb i).1,(bb i).2,(bb j).1,(bb j).2];by_cases hil:i<l
     . rw[if_neg (show¬i=l by omega),if_neg (show¬(l<i/\i<=k) by omega)];by_cases hjl:j=l
       . rw[if_pos hjl];have x:=e4 i hil;have y:=qT i k (by omega) (Nat.le_refl _) hk2;omega
       . rw[if_neg hjl];by_cases hj2:l<j/\j<=k
         . rw[if_pos hj2];exact qS i (j-1) (by omega) (by omega)
         . rw[if_neg hj2];exact qS i j hij (by omega)
     . by_cases hie:i=l
       . rw[if_pos hie,if_neg (show¬j=l by omega),if_pos (show l<j/\j<=k by omega)];exact .inl (e5 _ (by omega) (by omega))
       . rw[if_neg hie,if_pos (show l<i/\i<=k by omega),if_neg (show¬j=l by omega),if_pos (show l<j/\j<=k by omega)];exact qS _ _ (by omega) (by omega)
   . show(if i=l then k else if l<i/\i<=k then i-1 else i)<k+1;split
     . omega
     . split<;>omega
   . show(if i=l then k else if l<i/\i<=k then i-1 else i)=i;rw[if_neg (by omega),if_neg (by omega)]
def wV(xs:Array Keyed)(m q:Nat):Prop:=q+1<=m/\∀i j,i<j->j<m->(m<=i+(q+1)->K xs i=K xs j/\Jn xs i<Jn xs j)/\(i+(q+1)<m->(m<=j+(q+1)->K xs j<K xs i)/\mB xs j i)
theorem wV.all{xs:Array Keyed}{m q:Nat}(h:wV xs m q)(hm:m<=xs.size):(q=0\/0<q)/\∀i j,i<j->j<m->mB (mirror xs (m-(q+1)) m ((m-(m-(q+1)))/2)) j i:=by
 refine⟨by omega,fun i j hij hj=>?_⟩;have b:=l_ (i:=m-(q+1)) (j:=m) hm;unfold mB;rw[(b i).1,(b i).2,(b j).1,(b j).2];by_cases hi:m-(q+1)<=i/\i<m
 . rw[if_pos hi,if_pos (show m-(q+1)<=j/\j<m by omega)];have:=(h.2 (m-(q+1)+m-1-j) (m-(q+1)+m-1-i) (by omega) (by omega)).1 (by omega);omega
 . rw[if_neg hi];by_cases hj2:m-(q+1)<=j/\j<m
   . rw[if_pos hj2];have:=((h.2 i (m-(q+1)+m-1-j) (by omega) (by omega)).2 (by omega)).1 (by omega);omega
   . rw[if_neg hj2];exact((h.2 i j hij hj).2 (by omega)).2
theorem wV.zero{xs:Array Keyed}{m:Nat}(h:wV xs m 0):∀i j,i<j->j<m->mB xs j i:=fun i j hij hj=>((h.2 i j hij hj).2 (by omega)).2
theorem mQ{n:Nat}{xs:Array Keyed}{i j k:Nat}(t:iV n xs k)(hj:j<=xs.size)(hk:j<=k):iV n (mirror xs i j ((j-i)/2)) k:=
 t.mix _ (fun a=>(l_ hj a).2) (fun a ha=>by split<;>omega) fun a ha=>by rw[if_neg (by omega)]
theorem EC{st:SortSt}{n:Nat}{Q:DescSt->SortSt->Prop}(h0:IntKeys a₀)(hn:n<=a₀.size)(hB:SBase a₀ st)(hs:wV (arrOf st) n 0)(ht:iV a₀.size (arrOf st) n)
 (h:∀m q st',SBase a₀ st'->n<=m->m<=a₀.size->wV (arrOf st') m q->iV a₀.size (arrOf st') m->Q (none,m,q) st'):
 wpS (model prog w) A E s (descLoop n a₀.size) Q st:=by
 unfold descLoop;refine wpS_forRange (I:=fun x c st'=>∃q,c=(none,x,q)/\SBase a₀ st'/\wV (arrOf st') x q/\iV a₀.size (arrOf st') x) ?st ?en ⟨0,rfl,hB,hs,ht⟩
 case en=>
  rintro c st' ⟨q,rfl,b1,b2,b3⟩;rw[show max n a₀.size=a₀.size by omega]at b2 b3⊢;exact h _ q st' b1 hn (Nat.le_refl _) b2 b3
 case st=>
  rintro x c st' hx1 hx2 ⟨q,rfl,b1,b2,b3⟩;dsimp only;have hq:=b2.1;have hsz:x<=(arrOf st').size:=by rw[b1.size];omega
  refine wpS_bind (wpS_ltK b1 h0 hx2 (by omega) ?_);by_cases hl:K (arrOf st') x<K (arrOf st') (x-1)
  . simp only[hl,decide_true,if_true];by_cases hq0:q>0
    . rw[if_pos hq0];have al:=(b2.all hsz).2;have km:=l_ (i:=x-(q+1)) (j:=x) hsz;refine wpS_bind (wpS_reverse (wpS_pure ⟨0,rfl,b1.setArr (mirror_perm _ _ _ _),⟨by omega,fun i j hij hj=>⟨fun hh=>by omega,fun hh=>⟨fun hj2=>?_,?_⟩⟩⟩,(mQ b3 hsz (Nat.le_refl _)).up (Nat.le_succ x)⟩))
      . have hjx:j=x:=by omega
        subst hjx;show K (mirror (arrOf st') _ _ _) j<K (mirror (arrOf st') _ _ _) i;rw[(km i).1,(km j).1,if_neg (show¬(j-(q+1)<=j/\j<j) by omega)]
        have key:∀t,t<j->K (arrOf st') (j-1)<=K (arrOf st') t:=fun t ht=>by
         by_cases e:t=j-1
         . rw[e];exact Int.le_refl _
         . have z:=b2.2 t (j-1) (by omega) (by omega);by_cases g:j<=t+(q+1)
           . have:=(z.1 g).1;omega
           . have:=(z.2 (by omega)).2;unfold mB at this;omega
        split
        . have:=key (j-(q+1)+j-1-i) (by omega);omega
        . have:=key i hij;omega
      . show mB (mirror (arrOf st') _ _ _) j i;by_cases hjx:j<x
        . exact al i j hij hjx
        . have hjx:j=x:=by omega
          subst hjx;refine .inl ?_;rw[(km i).1,(km j).1,if_neg (show¬(j-(q+1)<=j/\j<j) by omega)]
          have key:∀t,t<j->K (arrOf st') (j-1)<=K (arrOf st') t:=fun t ht=>by
           by_cases e:t=j-1
           . rw[e];exact Int.le_refl _
           . have z:=b2.2 t (j-1) (by omega) (by omega);by_cases g:j<=t+(q+1)
             . have:=(z.1 g).1;omega
             . have:=(z.2 (by omega)).2;unfold mB at this;omega
          split
          . have:=key (j-(q+1)+j-1-i) (by omega);omega
          . have:=key i hij;omega
    . rw[if_neg hq0];have hq0:q=0:=by omega
      subst hq0;have z0:=b2.zero
      have lx:∀i,i<x->K (arrOf st') x<K (arrOf st') i:=fun i hi=>by
       by_cases e:i=x-1
       . rw[e];exact hl
       . have:=z0 i (x-1) (by omega) (by omega);unfold mB at this;omega
      refine wpS_pure ⟨0,rfl,b1,⟨by omega,fun i j hij hj=>⟨fun hh=>by omega,fun hh=>⟨fun hj2=>?_,?_⟩⟩⟩,b3.up (Nat.le_succ x)⟩
      . have hjx:j=x:=by omega
        subst hjx;exact lx i hij
      . by_cases hjx:j<x
        . exact z0 i j hij hjx
        . have hjx:j=x:=by omega
          subst hjx;exact .inl (lx i hij)
  . simp only[hl,decide_false,Bool.false_eq_true,if_false];refine wpS_bind (wpS_ltK b1 h0 (by omega) hx2 ?_);by_cases hg:K (arrOf st') (x-1)<K (arrOf st') x
    . simp only[hg,decide_true,if_true];exact wpS_pure (h x q st' b1 hx1 (by omega) b2 b3)
    . simp only[hg,decide_false,Bool.false_eq_true,if_false];have he:K (arrOf st') x=K (arrOf st') (x-1):=by omega
      refine wpS_pure ⟨q+1,rfl,b1,⟨by omega,fun i j hij hj=>⟨fun hh=>?_,fun hh=>⟨fun hj2=>?_,?_⟩⟩⟩,b3.up (Nat.le_succ x)⟩
      . by_cases hjx:j<x
        . exact(b2.2 i j hij hjx).1 (by omega)
        . have hjx:j=x:=by omega
          subst hjx;refine⟨?_,b3 i j hij (Nat.le_refl _) hx2⟩;rw[he];by_cases e:i=j-1
          . rw[e]
          . exact((b2.2 i (j-1) (by omega) (by omega)).1 (by omega)).1
      . by_cases hjx:j<x
        . exact((b2.2 i j hij hjx).2 (by omega)).1 (by omega)
        . have hjx:j=x:=by omega
          subst hjx;rw[he];exact((b2.2 i (j-1) (by omega) (by omega)).2 (by omega)).1 (by omega)
      . by_cases hjx:j<x
        . exact((b2.2 i j hij hjx).2 (by omega)).2
        . have hjx:j=x:=by omega
          subst hjx;refine .inl ?_;rw[he];exact((b2.2 i (j-1) (by omega) (by omega)).2 (by omega)).1 (by omega)
theorem xy{st:SortSt}{n:Nat}{Q:Option Nat->SortSt->Prop}(h0:IntKeys a₀)(h1:1<=n)(hn:n<=a₀.size)(hB:SBase a₀ st)(hs:∀i j,i<j->j<n->mB (arrOf st) j i)(ht:iV a₀.size (arrOf st) n)
 (h:∀m st',SBase a₀ st'->1<=m->m<=a₀.size->jr (arrOf st') m->iV a₀.size (arrOf st') m->Q (some m) st'):wpS (model prog w) A E s (tail3 n a₀.size) Q st:=by
 unfold tail3;have hsz:n<=(arrOf st).size:=by rw[hB.size];exact hn
 refine wpS_bind (wpS_reverse ?_);have km:=l_ (xs:=arrOf st) (i:=0) (j:=n) hsz
 have s1:jr (mirror (arrOf st) 0 n ((n-0)/2)) n:=fun i j hij hj=>by
  unfold mB;rw[(km i).1,(km i).2,(km j).1,(km j).2,if_pos (by omega),if_pos (by omega)];exact hs _ _ (by omega) (by omega)
 have t1:=mQ (i:=0) ht hsz (Nat.le_refl _);have hB':SBase a₀ (setArr st (mirror (arrOf st) 0 n ((n-0)/2))):=hB.setArr (mirror_perm _ _ _ _);refine wpS_bind (wpS_ascLoop h0 (Nat.le_refl _) h1 hn hB' s1.to fun m m1 m2 sm _=>wpS_pure (h m _ hB' (by omega) m2 (s1.more t1 sm m2) (t1.up m1)))
theorem xn{st:SortSt}{n:Nat}{Q:Option Nat->SortSt->Prop}(h0:IntKeys a₀)(hn:n+1<=a₀.size)(hB:SBase a₀ st)(hs:wV (arrOf st) (n+1) 0)(ht:iV a₀.size (arrOf st) (n+1))
 (h:∀m st',SBase a₀ st'->1<=m->m<=a₀.size->jr (arrOf st') m->iV a₀.size (arrOf st') m->Q (some m) st'):wpS (model prog w) A E s (descPart n a₀.size) Q st:=by
 unfold descPart;refine wpS_bind (wpS_lift (wpAny_rule ⟨rfl,?_⟩));refine wpS_bind (EC h0 hn hB hs ht fun m q st' b1 b2 b3 b4 b5=>?_);dsimp only;have hsz:m<=(arrOf st').size:=by rw[b1.size];exact b3
 by_cases hq:q>0
 . rw[if_pos hq];exact wpS_bind (wpS_reverse (xy h0 (by omega) b3 (b1.setArr (mirror_perm _ _ _ _)) (b4.all hsz).2 (mQ b5 hsz (Nat.le_refl _)) h))
 . rw[if_neg hq];have:q=0:=by omega
   subst this;exact xy h0 (by omega) b3 b1 b4.zero b5 h
theorem Eu{st:SortSt}{Q:Option Nat->SortSt->Prop}(h0:IntKeys a₀)(h1:1<=a₀.size)(hB:SBase a₀ st)(ht:iV a₀.size (arrOf st) 1)
 (h:∀m st',SBase a₀ st'->1<=m->m<=a₀.size->jr (arrOf st') m->iV a₀.size (arrOf st') m->Q (some m) st'):wpS (model prog w) A E s (countRun' 0 a₀.size) Q st:=by
 rw[countRun0_eq];have s1:jr (arrOf st) 1:=fun i j hij hj=>by omega
 refine wpS_bind (wpS_ascLoop h0 (Nat.le_refl _) (Nat.le_refl 1) h1 hB s1.to fun n n1 n2 sn hor=>?_);dsimp only;have s2:=s1.more ht sn n2;by_cases hn:n=a₀.size
 . rw[if_pos (by simpa using hn)];exact wpS_pure (h n st hB n1 n2 s2 (ht.up n1))
 . rw[if_neg (by simpa using hn)];have hl:=hor.resolve_left hn;by_cases hg:n>1
   . rw[if_pos hg];refine wpS_bind (wpS_ltK hB h0 (by omega) (by omega) ?_);by_cases hr:K (arrOf st) 0<K (arrOf st) (n-1)
     . simp only[hr,decide_true,if_true];exact wpS_pure (h n st hB n1 n2 s2 (ht.up n1))
     . simp only[hr,decide_false,Bool.false_eq_true,if_false];have hsz:n<=(arrOf st).size:=by rw[hB.size];exact n2
       have eqs:∀k,k<n->K (arrOf st) k=K (arrOf st) (n-1):=fun k hk=>by
        have x:=sn 0 k (by omega) hk;have y:=sn k (n-1) (by omega) (by omega);omega
       have km:=l_ (xs:=arrOf st) (i:=0) (j:=n) hsz;refine wpS_bind (wpS_reverse (xn h0 (by omega) (hB.setArr (mirror_perm _ _ _ _)) ⟨by omega,fun i j hij hj=>⟨fun hh=>by omega,fun hh=>⟨fun hj2=>?_,?_⟩⟩⟩ (mQ (ht.up (by omega)) hsz (by omega)) h))
       . have hjn:j=n:=by omega
         subst hjn;show K (mirror (arrOf st) _ _ _) j<K (mirror (arrOf st) _ _ _) i;rw[(km i).1,(km j).1,if_neg (show¬(0<=j/\j<j) by omega),if_pos (by omega),eqs (0+j-1-i) (by omega)];exact hl
       . show mB (mirror (arrOf st) _ _ _) j i;unfold mB;rw[(km i).1,(km i).2,(km j).1,(km j).2,if_pos (show 0<=i/\i<n by omega)];by_cases hjn:j<n
         . rw[if_pos (by omega)];refine .inr ⟨(eqs _ (by omega)).trans (eqs _ (by omega)).symm,ht _ _ (by omega) (by omega) (by omega)⟩
         . have hjn:j=n:=by omega
           subst hjn;rw[if_neg (by omega),eqs (0+j-1-i) (by omega)];exact .inl hl
   . rw[if_neg hg];have hn1:n=1:=by omega
     subst hn1;refine xn h0 (by omega) hB ⟨by omega,fun i j hij hj=>⟨fun hh=>by omega,fun hh=>?_⟩⟩ (ht.up (by omega)) h;have hi0:i=0:=by omega
     have hj1:j=1:=by omega
     subst hi0;subst hj1;exact⟨fun _=>hl,.inl hl⟩
theorem EE{st:SortSt}{Q:Unit->SortSt->Prop}(h0:IntKeys a₀)(hB:SBase a₀ st)(ht:iV a₀.size (arrOf st) 1)(h2:2<=a₀.size)(h64:a₀.size<64)
 (h:∀st',(arrOf st').Perm a₀->failedOf st'=none->jr (arrOf st') a₀.size->Q () st'):wpS (model prog w) A E s sortRuns' Q st:=by
 rw[sortRuns'_eq];refine wpS_bind (wpS_get ?_);dsimp only
 have hmr:minRun' a₀.size a₀.size 0=a₀.size:=by
  cases e:a₀.size with
  |zero=>rw[e]at h2;omega
  |succ f=>rw[minRun'_succ,if_pos (by omega)]
 simp only[hB.size,hmr]
 have dn:∀ {q:SortSt},SBase a₀ q->jr (arrOf q) a₀.size->∃p,p=setPending q ((pendingOf q).push (0,a₀.size,0))/\(arrOf p).Perm a₀/\failedOf p=none/\pendingOf p= #[(0,a₀.size,0)]/\jr (arrOf p) a₀.size:=fun{q} b s=>
  ⟨_,rfl,b.perm,b.failed,by show(pendingOf q).push _=_;rw[b.pend];rfl,s⟩
 refine wpS_bind (wpS_mono (wpS_forRange
  (I:=fun x c q=>(x=0/\c=(none,0)/\q=st)\/(1<=x/\c=(none,a₀.size)/\(arrOf q).Perm a₀/\failedOf q=none/\pendingOf q= #[(0,a₀.size,0)]/\jr (arrOf q) a₀.size))
  (Q:=fun c q=>c=(none,a₀.size)/\(arrOf q).Perm a₀/\failedOf q=none/\pendingOf q= #[(0,a₀.size,0)]/\jr (arrOf q) a₀.size) ?st ?en (.inl ⟨rfl,rfl,rfl⟩)) ?po)
 case en=>
  rintro c q (⟨hx,_,_⟩|⟨_,hc,hD⟩)
  . omega
  . exact⟨hc,hD⟩
 case st=>
  rintro x c q _ hx (⟨rfl,rfl,rfl⟩|⟨_,rfl,hD⟩)
  . dsimp only;rw[if_neg (by omega)];simp only[Nat.sub_zero,Nat.min_self,Nat.zero_add];refine wpS_bind (Eu h0 (by omega) hB ht fun m q2 b1 b2 b3 b4 b5=>?_);dsimp only;by_cases hm:m<a₀.size
    . rw[if_pos hm];refine wpS_bind (wpS_lift (wpAny_rule ⟨rfl,?_⟩));refine wpS_bind (DW h0 b2 b3 b1 b4 b5 fun q3 d1 d2=>?_);simp only[Bool.not_true,Bool.false_eq_true,if_false];refine wpS_bind (wpS_get ?_);have hb:(pendingOf q3).back?=none:=by rw[d1.pend];rfl
      rw[hb];dsimp only;obtain⟨p,rfl,z⟩:=dn d1 d2;exact wpS_bind (wpS_modify (wpS_pure (.inr ⟨by omega,rfl,z⟩)))
    . rw[if_neg hm];have hm:m=a₀.size:=by omega
      subst hm;refine wpS_bind (wpS_get ?_);have hb:(pendingOf q2).back?=none:=by rw[b1.pend];rfl
      rw[hb];dsimp only;obtain⟨p,rfl,z⟩:=dn b1 b4;exact wpS_bind (wpS_modify (wpS_pure (.inr ⟨by omega,rfl,z⟩)))
  . dsimp only;rw[if_pos (Nat.le_refl _)];exact wpS_pure ⟨rfl,hD⟩
 case po=>
  rintro c q ⟨rfl,d1,d2,d3,d4⟩;dsimp only;refine wpS_bind (wpS_mono (wpS_forRange (I:=fun _ c q'=>q'=q/\c=(none,())) (Q:=fun c q'=>q'=q/\c=(none,())) ?_ (fun _ _ z=>z) ⟨rfl,rfl⟩) ?_)
  . rintro x c q' _ _ ⟨rfl,rfl⟩;refine wpS_bind (wpS_get ?_);rw[if_pos (by rw[d3];exact Nat.le_refl 1)];exact wpS_pure ⟨rfl,rfl⟩
  . rintro c q' ⟨rfl,rfl⟩;exact wpS_pure (h _ d1 d2 d4)
end
end L3
namespace L2
open PySem PySem.Spec PyProof.Rows
structure Entry(K:PySem.W.Frag)(ts:List (Addr×Addr))(a:Addr)(ns:List Int)(H:Hp):Prop where
 lst:md K H a (ns.map V.int)
 tab:∀q∈ts,H q.2=some (.j7 #[])/\q.2≠a
theorem w_:∀ {vs:List Value} {ns:List Int},IntsAre vs ns->Vals (ns.map V.int) vs
 |_,_,.nil=> .nil
 |_,_,.cons n t h=> .cons ⟨t,rfl⟩ (w_ h)
structure Jw(K:PySem.W.Frag)(ts:List (Addr×Addr))(h:Heap):Prop where
 hd:∀q∈ts,PySem.W.codeHdIn K q.1 q.2=true
 no:∀q∈ts,K.lookup q.2=none
 at':∀q∈ts,h.get? q.2=some (PySem.W.tabObj #[])
theorem DH{P:Program}{w:World}{K:PySem.W.Frag}{mg mb:Str->Option Value}{k:Nat}{fa a:Addr}{fd:FuncData}{x:Str}{sp:Sp}{s₁:Shared}{vs:List Value}{ns:List Int}{ts:List (Addr×Addr)}
 (KX:K.In s₁.heap) (hns:s₁.heap.Ns mainGlobals mg) (hb:s₁.heap.Ns builtinsNs mb) (hbb:∀x:Str,x≠"__name__"->mb x=bootBuiltins x) (hlim:s₁.heap.NoLimit) (hse:s₁.heap.NoSeer) (hgt:P.given.tree=none)
 (hbm:∃bm ob,mg "__builtins__"=some (.ref bm)/\bm≠builtinsNs/\s₁.heap.get? bm=some ob/\ob.cls= .type "module"/\ob.dict=some builtinsNs/\ob.data= .plain) (hT:Jw K ts s₁.heap) (hg:s₁.gens= #[])
 (ha:s₁.heap.get? a=some {cls:= .type "list",data:= .seq vs.toArray}) (hi:IntsAre vs ns) (hl:ns.length<=sizeLine) (hr:cT k callerA)
 (F:∀base:Heap,K.In base->base.Ns mainGlobals mg->bE P w K mg base (fun _ _ _ _ _ _=>False) k fa fd [x] sp) (hbind:∀(s:Shared) (u:Value),BindsTo s fd ⟨[u],[]⟩ [(x,u)])
 (hsp:∀H:Hp,Entry K ts a ns H->sp [.ref a] H (fun v _=>v= .bl true) fun _ _ _=>False):
 codeAny (model P w) callerA (.call (.ref fa) ⟨[.ref a],[]⟩) (fun r s'=>r= .ok (.ret (.bool true))/\OldK s₁.heap s'.heap/\s'.os=s₁.os/\AllBare s'.gens) s₁:=by
 have rv:=w_ hi;have lenV:=hi.length
 have nta:∀q∈ts,q.2≠a:=fun q hq z=>by
  have:=hT.at' q hq;rw[z,ha]at this;cases this
 let sc:Option HO:=match K.lookup a with
  |some _=>none
  |none=>some (.et {cls:= .type "list",data:= .seq vs.toArray} (.lst (ns.map V.int)))
 let H:Hp:=fun b=>if b=a then sc else if b∈ts.map (·.2)then some (.j7 #[])else none
 have Ha:H a=sc:=if_pos rfl
 have Ht:∀q∈ts,H q.2=some (.j7 #[]):=fun q hq=>by
  show(if q.2=a then sc else if q.2∈ts.map (·.2)then some (HO.j7 #[])else none)=_;rw[if_neg (nta q hq),if_pos (List.mem_map_of_mem hq)]
 have Hs:∀b u,H b=some u->(b=a/\K.lookup a=none/\u= .et {cls:= .type "list",data:= .seq vs.toArray} (.lst (ns.map V.int)))\/(∃q∈ts,q.2=b/\u= .j7 #[]):=fun b u e=>by
  have e':(if b=a then sc else if b∈ts.map (·.2)then some (HO.j7 #[])else none)=some u:=e;by_cases hba:b=a
  . rw[if_pos hba]at e'
    have e2:(match K.lookup a with
     |some _=>none
     |none=>some (HO.et {cls:= .type "list",data:= .seq vs.toArray} (.lst (ns.map V.int))))=some u:=e'
    cases q:K.lookup a with
    |some o=>rw[q]at e2;cases e2
    |none=>rw[q]at e2;cases e2;exact .inl ⟨hba,rfl,rfl⟩
  . rw[if_neg hba]at e';by_cases hbt:b∈ts.map (·.2)
    . rw[if_pos hbt]at e';cases e';obtain⟨q,hq,e⟩:=List.mem_map.mp hbt;exact .inr ⟨q,hq,e,rfl⟩
    . rw[if_neg hbt]at e';cases e'
 have aM:g7 P w H s₁.heap:=fun b u e=>by
  rcases Hs b u e with⟨rfl,_,rfl⟩|⟨q,hq,rfl,rfl⟩
  . exact⟨ha,by rw[List.length_map];exact hl,vs,_,rv,ha⟩
  . exact hT.at' q hq
 have hE:Entry K ts a ns H:=by
  refine⟨?_,fun q hq=>⟨Ht q hq,nta q hq⟩⟩;cases q:K.lookup a with
  |some o=>
   have e:=KX a o q;rw[ha]at e;cases e;exact .inr ⟨_,vs.toArray,_,q,rfl,rfl,rfl,by rw[List.size_toArray,lenV];exact hl,by simpa using rv⟩
  |none=>
   refine .inl (.inr ⟨{cls:= .type "list",data:= .seq vs.toArray},?_⟩);rw[Ha]
   show(match K.lookup a with
    |some _=>none
    |none=>some (HO.et {cls:= .type "list",data:= .seq vs.toArray} (.lst (ns.map V.int))))=_
   rw[q]
 have dictNo:∀ {b:Addr} {o:Obj},s₁.heap.get? b=some o->(∀es ep,o.data≠ .seq es ep)->o.cls≠ .none->H b=none:=fun{b o} e d1 d2=>by
  cases q:H b with
  |none=>rfl
  |some u=>
   rcases Hs b u q with⟨rfl,_,_⟩|⟨t,ht,rfl,_⟩
   . rw[ha]at e;cases e;exact absurd rfl (d1 _ _)
   . rw[hT.at' t ht]at e;cases e;exact absurd rfl d2
 have nsK:∀ {b:Addr} {m:Str->Option Value},s₁.heap.Ns b m->(oX s₁.heap H).Ns b m:=fun{b m} ⟨o,es,ep,e,d,r⟩=>by
  refine⟨o,es,ep,qJ e ?_,d,r⟩;cases q:H b with
  |none=>rfl
  |some u=>
   rcases Hs b u q with⟨rfl,_,_⟩|⟨t,ht,rfl,_⟩
   . rw[ha]at e;cases e;cases d
   . rw[hT.at' t ht]at e;cases e;cases d
 have hKb:K.In (oX s₁.heap H):=fun b o e=>qJ (KX b o e) (by
  cases q:H b with
  |none=>rfl
  |some u=>
   rcases Hs b u q with⟨rfl,z,_⟩|⟨t,ht,rfl,_⟩
   . rw[z]at e;cases e
   . rw[hT.no t ht]at e;cases e)
 obtain⟨bm,ob,b1,b2,b3,b4,b5,b6⟩:=hbm;have hbmK:(oX s₁.heap H).get? bm=some ob:=qJ b3 (dictNo b3 (fun es ep z=>by rw[b6]at z;cases z) (fun z=>by rw[b4]at z;cases z))
 have seK:(oX s₁.heap H).NoSeer:=by
  obtain⟨⟨m1,a1,a2⟩,⟨m2,c1,c2⟩,⟨m3,d1,d2⟩,⟨mg',bm',ob',e1,e2,e3,e4,e5⟩⟩:=hse;refine⟨⟨m1,nsK a1,a2⟩,⟨m2,nsK c1,c2⟩,⟨m3,nsK d1,d2⟩,⟨mg',bm',ob',nsK e1,e2,qJ e3 ?_,e4,e5⟩⟩;cases q:H bm' with
  |none=>rfl
  |some u=>
   rcases Hs bm' u q with⟨rfl,_,_⟩|⟨t,ht,rfl,_⟩
   . rw[ha]at e3;cases e3;exact absurd (show Value.type "list"=Value.type "module" from e4) (by intro z;injection z with z;exact absurd z (by decide))
   . rw[hT.at' t ht]at e3;cases e3;cases e4
 have hM:Mod K mg (oX s₁.heap H):=⟨hKb,nsK hns,⟨mb,nsK hb,hbb⟩,let⟨mc,h1,h2⟩:=hlim;⟨mc,nsK h1,h2⟩,seK,⟨bm,ob,b1,b2,hbmK,b4,b5,b6⟩⟩
 have e0:uk P w K mg (oX s₁.heap H) callerA [] s₁ H:=⟨rfl,hM,fun b o e=>IE e,Nat.le_of_eq (DQ _ _),trivial,fun b hb=>absurd (show b∈([]:List Addr)from hb) (by simp),aM,.of_eq hg,hgt⟩
 refine codeAny_mono ((F _ hKb (nsK hns)).run callerA [] s₁ H ⟨[.ref a],[]⟩ [.ref a] [.ref a] _ _ hr e0 (hbind s₁ (.ref a)) (.cons rfl .nil) (hsp H hE)) fun r s' h=>?_;cases r with
 |error e=>exact False.elim h
 |ok fl=>
  cases fl with
  |next=>exact False.elim h
  |brk=>exact False.elim h
  |cont=>exact False.elim h
  |ret u=>
   obtain⟨v,H',os,bare,un,hok',r',q⟩:=h;have q':v= .bl true:=q;subst q';obtain rfl:u=Value.bool true:=r';have noF:∀b:Addr,b∉pK ([]:List Env):=fun b z=>absurd (show b∈([]:List Addr)from z) (by simp);refine⟨rfl,⟨fun b o e=>?_,fun b o e=>un.there b o e (by simp)⟩,os,bare⟩;cases q:H b with
   |none=>exact .inl (un.keep b o e q (noF b) (by simp))
   |some u=>
    rcases Hs b u q with⟨rfl,_,rfl⟩|⟨t,ht,rfl,rfl⟩
    . obtain⟨e2,_⟩:=hok' b _ (un.nX b _ _ q);rw[ha]at e;cases e;exact .inl e2
    . obtain⟨more,e1⟩:=un.nR _ _ q;have e2:s'.heap.get? t.2=some {cls:= .none,data:= .fields (#[]++more)}:=hok' _ _ e1;have e3:=hT.at' t ht;rw[e3]at e;cases e;have C:PySem.W.CodeHd s₁.heap t.1 t.2:=PySem.W.codeHd_of_K KX (hT.hd t ht);exact .inr (.inl ⟨(C.tab e3).isCodeTable,rfl,#[],more,rfl,e2⟩)
theorem Mw{l:PySem.W.OpenLaw}{n k:Nat}{q:Program}{loose:List Str}{XP:(Str->Option Value)->Heap->Prop}{YP:World->Heap->Prop}{d:DefRec}{K:Params->PySem.W.Frag}{sp:World->Sp}{x:Str}{ts:List (Addr×Addr)}
 (hn:l.most=some n) (hn2:n<=sizeLine) (hdf:d.params.defaults=[]) (hr:cT k callerA) (hq:importsNone q=true) (hgt:l.prog.given.tree=none)
 (hY:∀(w:World) (h:Heap),YP w h->(K w.params).In h/\Jw (K w.params) ts h)
 (F:∀(w:World) (mg:Str->Option Value) (fa:Addr) (h:Heap),(K w.params).In h->h.Ns mainGlobals mg->mg d.name=some (.ref fa)->
   ∃fd:FuncData,(∀(s:Shared) (u:Value),BindsTo s fd ⟨[u],[]⟩ [(x,u)])/\
    ∀base:Heap,(K w.params).In base->base.Ns mainGlobals mg->bE l.prog w (K w.params) mg base (fun _ _ _ _ _ _=>False) k fa fd [x] (sp w))
 (hsp:∀(w:World) (H:Hp) (a:Addr) (ns:List Int),ns.length<=n->Entry (K w.params) ts a ns H->sp w [.ref a] H (fun v _=>v= .bl true) fun _ _ _=>False):
 PySem.W.WalkO q loose XP YP l.row.toRowW d [] (fun f vs=>PySem.call f vs):=by
 refine Att.Ap hn hdf fun w s₀ s₁ mg mb fa o pm cd doc a vs ns G Y ho hd hcd hmg hobj hints hlen hg=>?_;obtain⟨KX,hT⟩:=hY w _ Y;obtain⟨fd,hb,hF⟩:=F w mg fa _ KX G.T.g hmg;exact DH KX G.T.g G.T.b G.T.builtins G.T.nolimit (G.T.seer hq) hgt G.T.bmain hT hg hobj hints (Nat.le_trans hlen hn2) hr hF hb fun H hE=>hsp w H a ns hlen hE
end L2
namespace L3
open PySem PySem.Spec L2
open PyProof.Rows hiding St
section
variable {X:Cx}{pins:List (Addr×Obj)}{σ:L2.St}{H:Hp}{s:Shared}{p:Addr}{o o':Obj}{h':Heap}
theorem lq{t':Nat}(I:Inv X pins σ H s)(hd:∀v,o.data≠ .cell v)(hfr:o.isFreed=false:=by rfl):Inv X (pins++[(s.heap.objs.size,o)]) σ H {s with heap:=s.heap.push o,toks:=t'}:=by
 have I':=I.kept (h':=s.heap.push o) (t':=t') (fun b u e=>Heap.get?_push_of_some _ e);refine I'.sL fun q hq=>?_;rcases List.mem_append.mp hq with hq|hq
 . exact I'.pin q (List.mem_append_right _ hq)
 . have e:q=(s.heap.objs.size,o):=by simpa using hq
   subst e;exact⟨Heap.get?_push_size _ hfr,I.aM.fresh (Nat.le_refl _),Nat.ne_of_gt I.lt,I.Mh (Nat.le_refl _),hd⟩
theorem fL(I:Inv X (pins++[(p,o)]) σ H s):s.heap.get? p=some o/\H p=none/\p≠X.env.locals/\p∉X.fs/\∀v,o.data≠ .cell v:=
 I.pin (p,o) (List.mem_append_right _ (List.mem_append_right _ (List.mem_singleton.mpr rfl)))
theorem zy(I:Inv X (pins++[(p,o)]) σ H s):∀x c,X.env.cells.lookup x=some c->c≠p:=fun x c e z=>by
 obtain⟨v,u,hu,hd⟩:=I.cell x c e;obtain⟨h1,_,_,_,h5⟩:=fL I;rw[z,h1]at hu;cases hu;exact h5 v hd
theorem nU{t':Nat}(I:Inv X (pins++[(p,o)]) σ H s)(hs:Heap.SameBut p s.heap h')(hn:h'.get? p=some o')(hd:∀v,o'.data≠ .cell v)(h0:X.s₀.heap.objs.size<=p)(hp:∀q∈X.pn++pins,q.1≠p):
 Inv X (pins++[(p,o')]) σ H {s with heap:=h',toks:=t'}:=by
 obtain⟨_,n,neL,nfs,_⟩:=fL I;have I0:Inv X pins σ H s:=I.gS;have I1:=I0.turned (t':=t') (h':=h') (it:=p) (fun b u hb e=>(hs.2 b hb).trans e) n neL (.inr h0) (zy I) hp;refine I1.sL fun q hq=>?_;rcases List.mem_append.mp hq with hq|hq
 . exact I1.pin q (List.mem_append_right _ hq)
 . have e:q=(p,o'):=by simpa using hq
   subst e;exact⟨hn,n,neL,nfs,hd⟩
theorem EA{u:HO}(I:Inv X (pins++[(p,o)]) σ H s)(h0:X.s₀.heap.objs.size<=p)(hp:∀q∈X.pn++pins,q.1≠p)(new:dz X.prog X.w (upd H p u) s.heap p u):Inv X pins σ (upd H p u) s:=by
 obtain⟨e0,n,neL,nfs,_⟩:=fL I;have ne:∀ {b:Addr} {w:HO},H b=some w->b≠p:=fun e=>dE e n;have ne0:∀ {b:Addr} {w:Obj},X.s₀.heap.get? b=some w->b≠p:=fun e=>Nat.ne_of_lt (Nat.lt_of_lt_of_le (Heap.lt_size e) h0);refine⟨I.ok,I.os,I.bare,⟨I.base.keep,I.base.slot,fun b w e q hx=>?_,I.base.there,fun b xs e=>?_,fun b w y e=>?_,fun b ps e=>?_⟩,I.loc,I.cell,?_,fun x c e=>?_,fun q hq=>?_,fun b w e=>?_,I.len⟩
 . rw[aA (ne0 e)];exact I.base.free b w e q hx
 . have:=I.base.oS b xs e;rw[aA (ne this)];exact this
 . have:=I.base.nX b w y e;rw[aA (ne this)];exact this
 . obtain⟨m,q⟩:=I.base.nR b ps e;exact⟨m,by rw[aA (ne q)];exact q⟩
 . rw[aA (Ne.symm neL)];exact I.free
 . rw[aA (zy I x c e)];exact I.ix x c e
 . have hq':q∈X.pn++(pins++[(p,o)]):=by
    rcases List.mem_append.mp hq with z|z
    . exact List.mem_append_left _ z
    . exact List.mem_append_right _ (List.mem_append_left _ z)
   obtain⟨a1,a2,a3⟩:=I.pin q hq';exact⟨a1,by rw[aA (hp q hq)];exact a2,a3⟩
 . by_cases hb:b=p
   . subst hb;rw[aX]at e;cases e;exact new
   . rw[aA hb]at e;exact(I.aM b w e).o6 (fun _ _ _ q=>q) (fun c q=>by rw[aA (ne q)];exact q) fun c xs q=>by rw[aA (ne q)];exact q
end
def mO(X:Cx)(pins:List (Addr×Obj))(σ:L2.St)(R:Hp->Prop)(own:List (Addr×Obj))(s:Shared):Prop:=∃H,Inv X (pins++own) σ H s/\R H
section
variable {X:Cx}{pins:List (Addr×Obj)}{σ:L2.St}{R:Hp->Prop}{s:Shared}{A:Around}{E:Value->Shared->Prop}{a kS:Addr}{e1 e:Nat}{keys:Array Value}{P:PySem.Fin->Shared->Prop}
structure Own(X:Cx)(pins:List (Addr×Obj))(p:Addr):Prop where
 ge:X.s₀.heap.objs.size<=p
 ne:∀q∈X.pn++pins,q.1≠p
theorem sT{H:Hp}(I:Inv X pins σ H s):Own X pins s.heap.objs.size:=⟨I.sz,fun q hq=>Nat.ne_of_lt (Heap.lt_size (I.pin q hq).1)⟩
theorem yW{p:Addr}{q:Addr×Obj}(h:Own X pins p)(hq:q.1≠p):Own X (pins++[q]) p:=⟨h.ge,fun r hr=>by
 rcases List.mem_append.mp hr with z|z
 . exact h.ne r (List.mem_append_left _ z)
 . rcases List.mem_append.mp z with z|z
   . exact h.ne r (List.mem_append_right _ z)
   . have e:r=q:=by simpa using z
     rw[e];exact hq⟩
theorem yi{x y:Addr×Obj}(J:mO X pins σ R [x,y] s):∃H,Inv X ((pins++[x])++[y]) σ H s/\R H:=by
 obtain⟨H,I,r⟩:=J;exact⟨H,by rw[List.append_assoc];exact I,r⟩
theorem CO{x y:Addr×Obj}{H:Hp}(I:Inv X ((pins++[x])++[y]) σ H s)(r:R H):mO X pins σ R [x,y] s:=⟨H,by rw[List.append_assoc]at I;exact I,r⟩
theorem yk{st:SortSt}(J:mO X pins σ R [(a,seqObj "list" #[] e1),(kS,seqObj "list" keys e)] s)(ha:Own X pins a)(hk:Own X pins kS)(hka:kS≠a)(hz1:keys.size<=sizeLine)(hz2:(arrOf st).size<=sizeLine)(hf:failedOf st=none)
 (h:∀s' c,mO X pins σ R [(a,seqObj "list" ((arrOf st).map (·.2)) c)] s'->P (.done (.ret .none)) s'):
 wpAny (model X.prog X.w) A (PyProof.Rows.ksk_tail a false e1 (.ref kS) st) P E s:=by
 obtain⟨H,I,r⟩:=yi J;have k1:=(fL I).1;have s1:=Heap.SameBut.update s.heap kS (Obj.mapSeq fun _=>(#[]:Array Value));have I1:=nU (t':=s.toks) I s1 (get?_update_seq k1 fun _=> #[]) (fun v z=>by cases z) hk.ge (yW hk hka.symm).ne;have I2:Inv X (pins++[(a,seqObj "list" #[] e1)]) σ H {s with heap:=s.heap.update kS (Obj.mapSeq fun _=>(#[]:Array Value)),toks:=s.toks}:=I1.gS;have a1:=(fL I2).1;have s2:=Heap.SameBut.update (s.heap.update kS (Obj.mapSeq fun _=>(#[]:Array Value))) a (Obj.mapSeq fun _=>(arrOf st).map (·.2));have I3:=nU (t':=s.toks) I2 s2 (get?_update_seq a1 fun _=>(arrOf st).map (·.2)) (fun v z=>by cases z) ha.ge ha.ne;unfold ksk_tail;simp only[Bool.false_eq_true,if_false];refine wpAny_bind (listUpdate_at k1 rfl ?_ hz1 (Nat.zero_le _));refine wpAny_bind (wpAny_letGo ?_);refine wpAny_bind (seqEpoch_at a1 rfl ?_);refine wpAny_bind (listUpdate_at a1 rfl ?_ (Nat.zero_le _) (Nat.le_succ_of_le (by rw[Array.size_map];exact hz2)));rw[hf];simp only[bne_self_eq_false,Bool.false_eq_true,if_false];exact wpAny_pure (h _ _ ⟨H,I3,r⟩)
def Br(kz:List Int)(vs out:List Value):Prop:=
 ∃ps:List (Int×Value),ps.Perm (kz.zip vs)/\out=ps.map Prod.snd/\ps.Pairwise fun p q=>p.1<q.1\/(p.1=q.1/\numOf p.2<numOf q.2)
theorem A6{kz:List Int}{vs:List Value}(hk:IntsAre keys.toList kz){xs:Array Keyed}(hp:xs.Perm (keys.zip vs.toArray))(hs:jr xs xs.size):Br kz vs (xs.map (·.2)).toList:=by
 have hl:xs.toList.Perm (keys.toList.zip vs):=by rw[<-ksk_zip];exact Array.perm_iff_toList_perm.mp hp
 refine⟨xs.toList.map fun p=>(numOf p.1,p.2),?_,?_,?_⟩
 . have e2:(keys.toList.zip vs).map (fun p:Keyed=>(numOf p.1,p.2))=kz.zip vs:=by
    rw[<-hk.nums,List.zip_map_left];exact List.map_congr_left fun⟨x,y⟩ _=>rfl
   rw[<-e2];exact hl.map _
 . rw[Array.toList_map,List.map_map];rfl
 . rw[List.pairwise_iff_getElem];intro i j hi hj hij;have hi':i<xs.size:=by simpa using hi
   have hj':j<xs.size:=by simpa using hj
   have q:=hs i j hij hj';unfold mB Jn at q;rw[K_eq hi',K_eq hj',getElem?_pos xs i hi',getElem?_pos xs j hj']at q;simpa using q
theorem Js{kz:List Int}{vs:List Value}(J:mO X pins σ R [(a,seqObj "list" #[] e1),(kS,seqObj "list" keys e)] s)(ha:Own X pins a)(hk:Own X pins kS)(hka:kS≠a)(hi:IntsAre keys.toList kz)(hl:kz.length=vs.length)(h64:vs.length<64)
 (hup:vs.Pairwise fun x y=>numOf x<numOf y)
 (h:∀s' out c,mO X pins σ R [(a,seqObj "list" out c)] s'->Br kz vs out.toList->P (.done (.ret .none)) s'):
 wpAny (model X.prog X.w) A (ksk_end a false vs.toArray e1 (.ref kS) keys) P E s:=by
 have hsz:keys.size=vs.length:=by have:=hi.length;rw[Array.length_toList]at this;omega
 have hzs:(keys.zip vs.toArray).size=vs.length:=by rw[Array.size_zip,hsz,List.size_toArray,Nat.min_self]
 have hbig:vs.length<=sizeLine:=Nat.le_trans (Nat.le_of_lt h64) (by decide)
 have hta:iV (keys.zip vs.toArray).size (keys.zip vs.toArray) 1:=fun i j hij _ hj=>by
  rw[hzs]at hj
  have e1:(keys.zip vs.toArray)[i]?=some (keys.toList[i]'(by rw[Array.length_toList];omega),vs[i]'(by omega)):=by
   rw[<-Array.getElem?_toList,ksk_zip,List.getElem?_eq_getElem (by rw[List.length_zip,Array.length_toList];omega),List.getElem_zip]
  have e2:(keys.zip vs.toArray)[j]?=some (keys.toList[j]'(by rw[Array.length_toList];omega),vs[j]'(by omega)):=by
   rw[<-Array.getElem?_toList,ksk_zip,List.getElem?_eq_getElem (by rw[List.length_zip,Array.length_toList];omega),List.getElem_zip]
  unfold Jn;rw[e1,e2];exact List.pairwise_iff_getElem.mp hup i j (by omega) (by omega) hij
 unfold ksk_end;simp only[Bool.false_eq_true,if_false];by_cases h2:vs.toArray.size<2
 . rw[if_pos h2,if_pos h2];refine wpAny_bind (wpAny_pure ?_);rw[StateT.run_pure];refine wpAny_bind (wpAny_pure ?_);refine yk (st:=SortSt.mk' general' (keys.zip vs.toArray) #[] 7 none) J ha hk hka (by omega) (by show(keys.zip vs.toArray).size<=_;omega) rfl fun s' c J'=>h s' _ c J' ?_;refine A6 hi (Array.Perm.refl _) fun i j hij hj=>?_;have hj':j<(keys.zip vs.toArray).size:=hj;rw[List.size_toArray]at h2;omega
 . rw[if_neg h2,if_neg h2];rw[List.size_toArray]at h2;rw[ksk_kind hi (by omega)];refine wpAny_bind (wpAny_pure ?_)
   refine wpAny_bind (wpAny_mono (EE (a₀:=keys.zip vs.toArray) (st:=SortSt.mk' oneType' (keys.zip vs.toArray) #[] 7 none)
    (Q:=fun _ st'=>(arrOf st').Perm (keys.zip vs.toArray)/\failedOf st'=none/\jr (arrOf st') (keys.zip vs.toArray).size)
    (ksk_intKeys hi) ⟨Array.Perm.refl _,rfl,rfl,rfl⟩ hta (by omega) (by omega) fun st' b1 b2 b3=>⟨b1,b2,b3⟩) ?_ fun _ _ z=>z)
   rintro⟨⟨⟩,st'⟩ s' ⟨rfl,hp,hf,hs⟩;have hz2:=hp.size_eq;refine yk (st:=st') J ha hk hka (by omega) (by rw[hz2];omega) hf fun s' c J'=>h s' _ c J' (A6 hi hp (by rw[hz2];exact hs))
theorem EN{f:Value}{kz:List Int}{vs:List Value}(J:mO X pins σ R [(a,seqObj "list" #[] e1),(kS,seqObj "list" #[] 0)] s)(ha:Own X pins a)(hk:Own X pins kS)(hka:kS≠a)(hl:kz.length=vs.length)(h64:vs.length<64)
 (hup:vs.Pairwise fun x y=>numOf x<numOf y)
 (turn:∀(i:Nat) (v:Value) (k:Int),vs[i]?=some v->kz[i]?=some k->∀(own:List (Addr×Obj)) (s:Shared),mO X pins σ R own s->wpAny (model X.prog X.w) A (call f [v]) (fun u s'=>(∃t,u= .int k t)/\mO X pins σ R own s') (fun _ _=>False) s)
 (h:∀s' out c,mO X pins σ R [(a,seqObj "list" out c)] s'->Br kz vs out.toList->P (.done (.ret .none)) s'):
 wpAny (model X.prog X.w) A (ksk_rest a f false vs.toArray e1 (.ref kS)) P E s:=by
 have hbig:vs.length<=sizeLine:=Nat.le_trans (Nat.le_of_lt h64) (by decide);unfold ksk_rest;refine wpAny_bind (wpAny_rule ?_)
 first
  |rw[List.forIn_toArray]
  |(rw[<-Array.forIn_toList];simp only[List.toList_toArray])
  |rw[<-Array.forIn_toList]
 refine wpAny_bind (ksk_fold (fun i s'=>∃kA e,mO X pins σ R [(a,seqObj "list" #[] e1),(kS,seqObj "list" kA e)] s'/\IntsAre kA.toList (kz.take i)) vs 0 s ⟨#[],0,J,by simpa using IntsAre.nil⟩ ?st ?en)
 case st=>
  rintro j x s' hx ⟨kA,e,J',hk'⟩;simp only[Nat.zero_add]at hk'⊢;have hj:j<vs.length:=(List.getElem?_eq_some_iff.mp hx).1;have hkj:kz[j]?=some (kz[j]'(by omega)):=List.getElem?_eq_getElem _
  have hz:kA.size<=vs.length:=by
   have:=hk'.length;rw[Array.length_toList,List.length_take]at this;omega
  refine wpAny_bind (wpAny_attempt (wpAny_mono (turn j x _ hx hkj _ s' J') (fun v s2 he=>?_) fun _ _ z=>z.elim));obtain⟨⟨t,rfl⟩,J2⟩:=he;obtain⟨H,I,r⟩:=yi J2;have k1:=(fL I).1;have s1:=Heap.SameBut.update s2.heap kS (Obj.mapSeq (·.push (.int (kz[j]'(by omega)) t)));have I1:=nU (t':=s2.toks) I s1 (get?_update_seq k1 (·.push (.int (kz[j]'(by omega)) t))) (fun v z=>by cases z) hk.ge (yW hk hka.symm).ne;refine wpAny_bind (listUpdate_at k1 rfl ?_ (by omega) (Nat.le_trans (Nat.le_of_eq (Array.size_push ..)) (by omega)));refine wpAny_pure ⟨rfl,_,_,CO I1 r,?_⟩;have ek:kz.take (j+1)=kz.take j++[kz[j]'(by omega)]:=by rw[List.take_add_one,hkj];simp
  rw[ek,Array.toList_push];exact ksk_snoc hk'
 case en=>
  rintro s' ⟨kA,e,J',hk'⟩;rw[show kz.take (0+vs.length)=kz from List.take_of_length_le (by omega)]at hk';obtain⟨H,I,r⟩:=yi J';refine wpAny_bind (listItems_at (fL I).1 rfl ?_);exact Js J' ha hk hka hk' hl h64 hup h
theorem Cd{f:Addr}{l:Addr}{kz:List Int}{vs:List Value}{H:Hp}{Q:Value->Shared->Prop}(I:Inv X pins σ H s)(r:R H)(hli:s.heap.IsList l vs.toArray)(hl:kz.length=vs.length)(h64:vs.length<64)
 (hup:vs.Pairwise fun x y=>numOf x<numOf y)
 (turn:∀(i:Nat) (v:Value) (k:Int),vs[i]?=some v->kz[i]?=some k->∀(own:List (Addr×Obj)) (s:Shared),mO X pins σ R own s->wpAny (model X.prog X.w) A.in1.in1 (call (.ref f) [v]) (fun u s'=>(∃t,u= .int k t)/\mO X pins σ R own s') (fun _ _=>False) s)
 (h:∀D s' out c,Own X pins D->mO X pins σ R [(D,seqObj "list" out c)] s'->Br kz vs out.toList->Q (.ref D) s'):
 wpAny (model X.prog X.w) A (call (.builtin "sorted") [.ref l] [(Str.ofString "key",.ref f)]) Q E s:=by
 have hbig:vs.length<=sizeLine:=Nat.le_trans (Nat.le_of_lt h64) (by decide);refine call_function_entry_kw kind_sorted plain_sorted entry_sorted (ksk_s1 _ _) ?_;unfold Builtin.«sorted»;refine wpAny_bind (m:=checkCount "sorted" 1 1 _) (wpAny_pure ?_);refine wpAny_bind (collect_list hli ?_ hbig);have I1:=lq (o:=seqObj "list" #[] 0) (t':=s.toks) I (fun v z=>by cases z);have s1:=Heap.SameBut.update (s.heap.push (seqObj "list" #[] 0)) s.heap.objs.size (Obj.mapSeq (· ++vs.toArray));have I2:=nU (t':=s.toks) I1 s1 (get?_update_seq (fL I1).1 (· ++vs.toArray)) (fun v z=>by cases z) (sT I).ge (sT I).ne;have I3:Inv X pins σ H {s with heap:=(s.heap.push (seqObj "list" #[] 0)).update s.heap.objs.size (Obj.mapSeq (· ++vs.toArray)),toks:=s.toks}:=I2.gS;refine wpAny_bind (wpAny_newList ?_ hbig);generalize hs3:({s with heap:=(s.heap.push (seqObj "list" #[] 0)).update s.heap.objs.size (Obj.mapSeq (· ++vs.toArray))}:Shared)=s3;have I3':Inv X pins σ H s3:=by rw[<-hs3];exact I3
 have oD:=sT I3';have I4:=lq (o:=seqObj "list" vs.toArray 0) (t':=s3.toks) I3' (fun v z=>by cases z);have hD:=(fL I4).1;refine wpAny_bind (wpAny_holding (wpAny_call_entry_kw slot_list_sort ⟨_,hD,rfl⟩ entry_list_sort ?body (ksk_l1 _ _)))
 case body=>
  show wpAny (model X.prog X.w) A.in1.in1 (Builtin.«list.sort» ⟨[.ref s3.heap.objs.size],[(Str.ofString "key",.ref f)]⟩) _ _ _;rw[ksk_t1];unfold ksk_tree;refine wpAny_bind (listItems_at hD rfl ?_);have s5:=Heap.SameBut.update (s3.heap.push (seqObj "list" vs.toArray 0)) s3.heap.objs.size (Obj.mapSeq fun _=>(#[]:Array Value));have I5:=nU (t':=s3.toks) I4 s5 (get?_update_seq hD fun _=> #[]) (fun v z=>by cases z) oD.ge oD.ne;have hD5:=(fL I5).1;refine wpAny_bind (listUpdate_at hD rfl ?_ (by rw[List.size_toArray];exact hbig) (Nat.zero_le _));refine wpAny_bind (seqEpoch_at hD5 rfl ?_);refine wpAny_bind (wpAny_newTuple ?_ (by show vs.length<=_;exact hbig));have I6:=(lq (o:=seqObj "tuple" vs.toArray 0) (t':=s3.toks) I5 (fun v z=>by cases z)).gS;refine wpAny_bind (wpAny_newList ?_ (Nat.zero_le _));have ok:=sT I6;have I7:=lq (o:=seqObj "list" #[] 0) (t':=s3.toks) I6 (fun v z=>by cases z);refine wpAny_holding ?_
  have okp:Own X pins _:=⟨ok.ge,fun q hq=>ok.ne q (by
   rcases List.mem_append.mp hq with z|z
   . exact List.mem_append_left _ z
   . exact List.mem_append_right _ (List.mem_append_left _ z))⟩
  refine EN (CO I7 r) oD okp (fun z=>ok.ne (s3.heap.objs.size,_) (List.mem_append_right _ (List.mem_append_right _ (List.mem_singleton.mpr rfl))) z.symm) hl h64 hup turn fun s' out c J' so=>⟨_,rfl,?_⟩
  exact wpAny_pure ⟨_,rfl,h _ s' out c oD J' so⟩
end
structure mZ(X:Cx)(scope:Scope)(Nc:List Str)(fr:List (Option Nat))(p:Str):Prop where
 sc:bz X scope Nc fr
 D1:∀x∈scope.names,x.2≠ .cell
 co:scope.isCoroutine=false
 gen:scope.isGenerator=false
 p0:Nc[0]?=some p
 f0:fr[0]?=some none
 loc:scope.names.lookup p=some .local
abbrev BC(X:Cx)(scope:Scope)(qual:Str)(f c:Addr)(s:Shared):Env:=PySem.W.envX qual scope s.heap.objs.size f (.ref c) (dh X.env.cells scope.names [])
def DJ(X:Cx)(scope:Scope)(Nc:List Str)(qual:Str)(f c:Addr)(s:Shared)(H:Hp):Cx:=
 {X with A:=X.A.in1.in1.deeper (BC X scope qual f c s),N:=Nc,s₀:=s,H₀:=H,env:=BC X scope qual f c s,outer:=X.stack,stack:=BC X scope qual f c s::X.stack,ex:=[],fn:=fun _=>false,calm:=true,pn:=[],xe:=fun _ _=>False}
section
variable {X:Cx}{scope:Scope}{Nc:List Str}{fr:List (Option Nat)}{p qual:Str}{f c:Addr}{pins:List (Addr×Obj)}{σ:L2.St}{H:Hp}{s:Shared}
theorem JZ(S:mZ X scope Nc fr p)(I:Inv X pins σ H s)(hc:X.calm=true):(DJ X scope Nc qual f c s H).Ok where
 mod:=I.ok.mod
 kind:=S.sc.kind
 glob:=rfl
 blt:=rfl
 above:=Nat.le_refl _
 inj:=fun x y a h1 h2=>I.ok.inj x y a (cW _ [] (fun _ _ e=>by cases e) x a h1) (cW _ [] (fun _ _ e=>by cases e) y a h2)
 has:=fun x hx=>by
  have hx':scope.names.lookup x=some .cell\/scope.names.lookup x=some .free:=hx;rcases hx' with hx|hx
  . exact absurd rfl (S.D1 _ (PySem.mem_of_lookup hx))
  . exact iI scope.names [] (I.ok.has x (S.sc.free _ (PySem.mem_of_lookup hx) rfl)) (.inl (PySem.mem_of_lookup hx))
 yX:=fun x a hf _=>by cases hf
 hd:=fun _=>I.ok.hd hc
 frames:=Around.frames_deeper (by show X.A.frames=_;exact I.ok.frames)
 AW:= .inr ⟨rfl,rfl⟩
 Ey:=fun b hb=>by cases hb
 bs:=I.bs
 sj:=Nat.le_trans I.ok.sj I.sz
 ur:=fun b o e hb=>by cases hb
 uh:=fun b hb=>by cases hb
 ka:=I.stack
 uR:=I.wg
 gt:=I.ok.gt
theorem HD{h':Heap}{t':Nat}{v:V}{u:Value}(S:mZ X scope Nc fr p)(I:Inv X pins σ H s)(hc:X.calm=true)(r:RelV v u)(hn:h'.Ns s.heap.objs.size (fun x=>[(p,u)].reverse.lookup x))
 (k:∀b o,s.heap.get? b=some o->h'.get? b=some o):Inv (DJ X scope Nc qual f c s H) [] ((σC fr σ).set 0 (some v)) H {s with heap:=h',toks:=t'} where
 ok:=JZ S I hc
 os:=rfl
 bare:=I.bare
 base:=Un.kept k
 loc:=⟨_,hn,fun i x w h1 h2 h3=>by
  by_cases hi:i=0
  . subst hi;have hp:=S.p0;have e:p=x:=Option.some.inj (hp.symm.trans h1);subst e
    have hl:0<(σC fr σ).length:=by
     have:=(List.getElem?_eq_some_iff.mp h2).1;rw[List.length_set]at this;exact this
    rw[List.getElem?_set_self hl]at h2;cases h2;exact⟨u,r,.inl ⟨S.loc,by simp⟩⟩
  . rw[List.getElem?_set_ne (Ne.symm hi)]at h2;obtain⟨j,q1,q2⟩:=Bb h2;obtain⟨n1,n2,n3⟩:=S.sc.map i j x h1 q1;obtain⟨m,hm,hl⟩:=I.loc;obtain⟨u',r',lk⟩:=hl j x w n1 q2 (n3.elim (fun z=> .inr (.inl z)) fun z=> .inr (.inr z));refine⟨u',r',?_⟩;rcases lk with⟨z,_⟩|⟨_,a,e,ic⟩
    . rcases n3 with y|y<;>(rw[y]at z;cases z)
    . obtain⟨a',e'⟩:=iI scope.names [] ⟨a,e⟩ (.inl (PySem.mem_of_lookup n2));have e2:=cW _ [] (fun _ _ e=>by cases e) x a' e';rw[e]at e2;cases e2;exact .inr ⟨.inr n2,a,e',ic.keeps k⟩⟩
 cell:=fun x a h=>by
  obtain⟨v,q⟩:=I.cell x a (cW _ [] (fun _ _ e=>by cases e) x a h);exact⟨v,q.keeps k⟩
 free:=I.aM.fresh (Nat.le_refl _)
 ix:=fun x a h=>I.ix x a (cW _ [] (fun _ _ e=>by cases e) x a h)
 pin:=fun q hq=>by cases hq
 aM:=I.aM.kept k
 len:=by rw[List.length_set];unfold σC;rw[List.length_map];exact S.sc.len
theorem FT{R:Hp->Prop}{params:Arguments}{body:Expr}{tb:TE}{own:List (Addr×Obj)}{k:Int}{v:V}{u pm ctv:Value}(S:mZ X scope Nc fr p)(hc:X.calm=true)(hr:X.A.depth<recursionLimit)
 (hb:∀(s:Shared) (H:Hp),PE (DJ X scope Nc qual f c s H) body tb)
 (hbind:∀(cl:List (Str×Addr)) (pm cd ct v:Value),bindArgs (PySem.W.kla_fn "<lambda>" qual params body scope cl pm cd ct) ⟨[v],[]⟩=pure [(p,v)])
 (r:RelV v u) (hf:(f,PySem.W.kla_obj "<lambda>" qual params body scope (dh X.env.cells scope.names []) pm c ctv)∈pins)
 (hcr:∀(H:Hp) (s:Shared),Inv X (pins++own) σ H s->R H->s.heap.CodeRec (.ref c) qual)
 (hq:∀H,R H->tb ((σC fr σ).set 0 (some v)) H fun x H'=>x= .int k/\R H') (J:mO X pins σ R own s):
 wpAny (model X.prog X.w) X.A.in1.in1 (call (.ref f) [u]) (fun u' s'=>(∃t,u'= .int k t)/\mO X pins σ R own s') (fun _ _=>False) s:=by
 obtain⟨H,I,rH⟩:=J;have ho:=(I.pin _ (List.mem_append_right _ (List.mem_append_left _ hf))).1;refine wpAny_call (PySem.W.kla_callFunE (fd:=PySem.W.kla_fn "<lambda>" qual params body scope (dh X.env.cells scope.names []) pm (.ref c) ctv) (by show X.A.depth<_;exact hr) ho rfl S.co S.gen rfl (hcr H s I rH) ?_);rw[hbind]
 refine wpAny_pure (wpAny_newFunctionEnv S.D1 (fun y hy=>by
  have e:y=(p,u):=by simpa using hy
  rw[e];exact S.loc) (fun h₁ hns hsb=>?_) S.sc.kind)
 have hk:∀b o,s.heap.get? b=some o->h₁.get? b=some o:=fun b o e=>hsb.extBut b o (Nat.ne_of_lt (Heap.lt_size e)) (Heap.get?_push_of_some _ e);refine⟨I.nolimit.keeps hk,?_⟩;show codeAny _ X.A.in1.in1 (.expr body (BC X scope qual f c s)) _ _;refine PySem.W.kla_codeExpr (wpAny_mono (hb s H [] _ _ H _ (HD S I hc r hns hk) (hq H rH)) (fun w s' he=>?_) fun e s' z=>False.elim z);obtain⟨x,H',I',rx,rfl,rH'⟩:=he;exact⟨rx,H',I.Bw (s':=s') (ch:=[]) I'.os I'.base I'.aM I'.bare (fun b z=>absurd z (by simp)),rH'⟩
theorem set_same{α:Type}:∀ {l:List α} {n:Nat} {x:α},l[n]?=some x->l.set n x=l
 | [],n,x,h=>by simp at h
 |a::l,0,x,h=>by simp at h;subst h;rfl
 |a::l,n+1,x,h=>by
  rw[List.set_cons_succ,set_same (n:=n) (by simpa using h)]
theorem ES{params:Arguments}{body:Expr}{lpos:Pos}{c0 T:Addr}{α:List (Option Addr)}{G F:Hp}{st:ag}{n0:Nat}{b:Bool}{E:Value->Shared->Prop}{Q:Value->Shared->Prop}(S:mZ X scope Nc fr p)(hcode:X.env.code= .ref c0)(hC:PySem.W.codeHdIn X.K c0 T=true)
 (hdef:defaultsOf params X.env=([],[])) (hql:X.env.qual++"<lambda>"=qual) (I:Inv X pins σ H s) (Sp:cx G F H) (SR:aP α st G) (hn0:st[n0]?=some (.tab T lpos qual b))
 (h:∀(f c:Addr) (ctv pm:Value) (G2 H2:Hp) (s2:Shared),Inv X (pins++[(f,PySem.W.kla_obj "<lambda>" qual params body scope (dh X.env.cells scope.names []) pm c ctv)]) σ H2 s2->Step α G α G2->cx G2 F H2->aP α (st.set n0 (.tab T lpos qual true)) G2->
   (some c∉α/\∃o vs t,G2 c=some (.et o (.own c))/\o.data= .fields vs/\vs[1]?=some (.str qual t))->Q (.ref f) s2):
 wpAny (model X.prog X.w) X.A (eval (.Lambda params body scope lpos) X.env) Q E s:=by
 refine PySem.W.kla_eval hdef ?_;rw[hql];rcases SR.at' n0 _ hn0 with⟨z,_⟩|⟨a,ha,rfl,ps,gP,tr,cs⟩
 . cases z
 have hP:=I.aM a _ (Sp.get gP);have hP:s.heap.get? a=some (PySem.W.tabObj ps):=hP;have hg:s.heap.Ns mainGlobals X.mg:=I.mod.glob.keeps I.bk;obtain⟨bm,ob,b1,b2,b3,b4,b5,b6⟩:=I.mod.bmain;have b3':=I.bk _ _ b3
 have hgP:mainGlobals≠a:=fun q=>by
  obtain⟨o,es,ep,e,hd,_⟩:=hg;rw[q,hP]at e;cases e;cases hd
 have n1:bm≠mainGlobals:=fun q=>by
  obtain⟨o,es,ep,e,hd,_⟩:=hg;rw[q,e]at b3';cases b3';rw[hd]at b6;cases b6
 have n2:bm≠a:=fun q=>by rw[q,hP]at b3';cases b3';cases b4
 have hB:s.heap.BuiltinsAt X.mg a:=⟨bm,ob,b1,b2,n1,n2,b3',b4,b5,b6⟩
 have hcl:closureFor scope X.env=pure (dh X.env.cells scope.names []):=mI fun x hx hk=>I.ok.has x.1 (S.sc.free x hx hk);have C:PySem.W.CodeHd s.heap c0 a:=PySem.W.codeHd_of_K I.gI hC;rcases cs with⟨rfl,hnf⟩|⟨rfl,c,o,vs,t,q1,q2,q3,q4,q5⟩
 . refine PySem.W.kla_makeFunction hcl I.ok.glob hg hcode C hP tr hnf hgP hB fun c' ctv h' tk hx hge hlt hrec htb=>?_;obtain⟨c2,oc,vs,t,e2,hoc,hd,hv⟩:=hrec;cases e2;have hHc:H c'=none:=I.aM.fresh hge;have hGc:G c'=none:=(Sp.none hHc).1;have hHa:H a=some (.j7 ps):=Sp.get gP;have hac:a≠c':=dE hHa hHc
   let ps':=ps++ #[rawInt lpos.line,rawInt lpos.col,.ref c']
   have nb:∀ {b:Addr},H b=none->b≠a:=fun e z=>by rw[z,hHa]at e;cases e
   have I1:Inv X pins σ (upd (upd H c' (.et oc (.own c'))) a (.j7 ps')) {s with heap:=h',gens:=s.gens,drawn:=s.drawn,toks:=tk}:=by
    have old:∀ {b:Addr} {u:HO},H b=some u->b≠a->upd (upd H c' (.et oc (.own c'))) a (.j7 ps') b=some u:=fun e n=>by rw[aA n,aA (dE e hHc)];exact e
    refine I.step (ch:=[]) (fun _ z=>nomatch z) (fun b o _ _ _ e n=>hx b o (nb n) e) (fun b o _ _ _ e n=>⟨o.slots,hx b o (nb n) e⟩) (fun b o _ e n=>?_) (fun b o _ e=>?_) (fun b xs e=>?_) (fun b o u e=>?_) (fun b qs e=>?_) (fun m hm=>?_) (fun b u e=>?_) I.bare
    . rw[aA (nb n),aA (Nat.ne_of_lt (Nat.lt_of_lt_of_le (Heap.lt_size e) hge))];exact n
    . by_cases hb:b=a
      . exact⟨_,by rw[hb];exact htb⟩
      . exact⟨o,hx b o hb e⟩
    . exact old e fun z=>by rw[z,hHa]at e;cases e
    . exact old e fun z=>by rw[z,hHa]at e;cases e
    . by_cases hb:b=a
      . subst hb;rw[hHa]at e;cases e;exact⟨_,aX⟩
      . exact⟨#[],by rw[old e hb];simp⟩
    . obtain⟨o,es,ep,ho,r⟩:=hm;exact⟨o,es,ep,hx _ o (nb I.free) ho,r⟩
    . by_cases hb:b=a
      . subst hb;rw[aX]at e;cases e;exact htb
      . rw[aA hb]at e;by_cases hbc:b=c'
        . subst hbc;rw[aX]at e;cases e;exact⟨hoc,_,hoc⟩
        . rw[aA hbc]at e;refine(I.aM b u e).o6 (fun d w hd q=>hx d w ?_ q) (fun d q=>old q fun z=>by rw[z,hHa]at q;cases q) fun d xs q=>old q fun z=>by rw[z,hHa]at q;cases q
          rcases hd with rfl|hd
          . exact hb
          . intro z;rw[z,hHa]at hd;cases hd
   have I2:=lq (o:=PySem.W.kla_obj "<lambda>" qual params body scope (dh X.env.cells scope.names []) ((X.mg "__name__").getD .none) c' ctv) (t':=tk) I1 (fun v z=>by cases z);have gP':upd G c' (.et oc (.own c')) a=some (.j7 ps):=by rw[aA hac];exact gP
   refine h _ c' ctv _ (upd (upd G c' (.et oc (.own c'))) a (.j7 ps')) _ _ I2 ((Step.laid hGc).trans (Step.write (List.mem_of_getElem? ha))) ((Sp.laid hHc).write gP') ((SR.laid hGc).write ha ⟨rfl,ps',aX,?_,.inr ⟨rfl,c',oc,vs,t,?_,SR.kF hGc,?_,hd,hv⟩⟩) ⟨SR.kF hGc,oc,vs,t,?_,hd,hv⟩
   . show TriplesOk (ps++ #[rawInt lpos.line,rawInt lpos.col,.ref c']).toList;rw[Array.toList_append];exact TriplesOk_snoc _ _ _ _ tr
   . show codeAmong lpos (ps++ #[rawInt lpos.line,rawInt lpos.col,.ref c']).toList=_;rw[Array.toList_append];exact codeAmong_snoc _ tr hnf
   . rw[aA hac.symm,aX]
   . rw[aA hac.symm,aX]
 . refine PySem.W.kla_makeFunctionHit hcl I.ok.glob hg hcode C hP tr q1 hB fun ctv h' tk hk hsz=>?_;have I1:=I.kept (t':=tk) hk;have I2:=lq (o:=PySem.W.kla_obj "<lambda>" qual params body scope (dh X.env.cells scope.names []) ((X.mg "__name__").getD .none) c ctv) (t':=tk) I1 (fun v z=>by cases z);refine h _ c ctv _ G H _ I2 Step.refl Sp (by rw[set_same hn0];exact SR) ⟨q2,o,vs,t,q3,q4,q5⟩
end
def slt(p q:Int×Int):Prop:=p.1<q.1\/(p.1=q.1/\p.2<q.2)
def yK(n0:Nat)(T:Addr)(lpos:Pos)(qual:Str)(fr:List (Option Nat))(tb te:DE):DE:=fun σ st K=>te σ st fun d st1=>∃(ns ks:List Int) (b:Bool),d= .lst (ns.map .int)/\ns.length<64/\ns.Pairwise (· < ·)/\ks.length=ns.length/\
 st1[n0]?=some (.tab T lpos qual b)/\(∀(i:Nat) (n k:Int),ns[i]?=some n->ks[i]?=some k->tb ((gB fr σ).set 0 (some (.int n))) (st1.set n0 (.tab T lpos qual true)) fun v st2=>v= .int k/\st2=st1.set n0 (.tab T lpos qual true))/\
 ∀os:List (Int×Int),os.Perm (ks.zip ns)->os.Pairwise slt->K (.lst (os.map fun p=> .int p.2)) (st1.set n0 (.tab T lpos qual true))
theorem yQ{α:List (Option Addr)}{H:Hp}:∀ {ns:List Int} {vs:List V},aJ α H (ns.map D.int) vs->vs=ns.map V.int
 | [],vs,h=>by unfold aJ at h;exact h
 |n::ns,vs,h=>by
  unfold aJ at h;obtain⟨v,r,rfl,h1,h2⟩:=h;unfold Rep at h1;rw[h1,yQ h2];rfl
theorem yN{α:List (Option Addr)}{H:Hp}:∀(ns:List Int),aJ α H (ns.map D.int) (ns.map V.int)
 | []=>by unfold aJ;rfl
 |n::ns=>by unfold aJ;exact⟨_,_,rfl,by unfold Rep;rfl,yN ns⟩
theorem yC:∀ {ns:List Int} {us:List Value},Vals (ns.map V.int) us->IntsAre us ns
 | [],_,.nil=> .nil
 |n::ns,_,.cons ⟨t,rfl⟩ h=> .cons n t (yC h)
section
variable {X:Cx}{scope:Scope}{Nc:List Str}{fr:List (Option Nat)}{p x qual:Str}{params:Arguments}{e body:Expr}{te tb:DE}{lpos kpos pos ppos:Pos}{c0 T:Addr}{n0:Nat}
theorem HI(S:mZ X scope Nc fr p)(hc:X.calm=true)(hr:cT 2 X.A)(hcode:X.env.code= .ref c0)(hC:PySem.W.codeHdIn X.K c0 T=true)(hdef:defaultsOf params X.env=([],[]))(hql:X.env.qual++"<lambda>"=qual)
 (hbind:∀(cl:List (Str×Addr)) (pm cd ct v:Value),bindArgs (PySem.W.kla_fn "<lambda>" qual params body scope cl pm cd ct) ⟨[v],[]⟩=pure [(p,v)])
 (hb:∀(f c:Addr) (s:Shared) (H:Hp),PE (DJ X scope Nc qual f c s H) body (LE tb)) (ha:PA X [e] (LA (af te ak)))
 (hg:Gl X "sorted") (hm:X.mg "sorted"=none) (hv:bootBuiltins "sorted"=some (.builtin "sorted"))
 (he:backTo pos (starEach [e] X.env)=(false,eval e X.env)::backTo pos (starEach [] X.env):=by rfl) (hpl:(backTo pos (starEach [e] X.env)).any (·.1)=false:=by rfl):
 PE X (.Call (.Name "sorted" ppos) [e] [⟨some "key",.Lambda params body scope lpos,kpos⟩] pos) (LE (yK n0 T lpos qual fr tb te)):=by
 intro pins s σ H Q I h;obtain⟨α,σd,st,K,G,F,Sp,RS,SR,t,k⟩:=h;refine wpAny_Call_Name_kw (kL I hg hm hv ?_);refine callWith_kw ?_ he hpl
 let K1:DK:=fun d st1=>∃(ns ks:List Int) (b:Bool),d= .lst (ns.map .int)/\ns.length<64/\ns.Pairwise (· < ·)/\ks.length=ns.length/\
  st1[n0]?=some (.tab T lpos qual b)/\(∀(i:Nat) (n k:Int),ns[i]?=some n->ks[i]?=some k->tb ((gB fr σd).set 0 (some (.int n))) (st1.set n0 (.tab T lpos qual true)) fun v st2=>v= .int k/\st2=st1.set n0 (.tab T lpos qual true))/\
  ∀os:List (Int×Int),os.Perm (ks.zip ns)->os.Pairwise slt->K (.lst (os.map fun p=> .int p.2)) (st1.set n0 (.tab T lpos qual true))
 refine cu (ha pos pins s σ H (fun vs H1=>∃d v st1 α1 G1,vs=[v]/\K1 d st1/\Step α G α1 G1/\cx G1 F H1/\aP α1 st1 G1/\Rep α1 G1 d v) I
  ⟨α,σd,st,fun ds st1=>match ds with| [d]=>K1 d st1|_=>False,G,F,Sp,RS,SR,t,fun ds st1 q α1 G1 H1 vs s1 P1 S1 r1=>?_⟩) fun us s1 ⟨vs,H1,I1,rv,d,v,st1,α1,G1,hvs,kd,s1',P1,S1,r1⟩=>?_
 . match ds,q,r1 with
   | [d],q,r1=>
     unfold aJ at r1;obtain⟨v,r,rfl,h1,h2⟩:=r1;unfold aJ at h2;subst h2;exact⟨d,v,st1,α1,G1,rfl,q,s1,P1,S1,h1⟩
 subst hvs;obtain⟨ns,ks,b,rfl,h64,hup,hlen,hn0,hkey,hK⟩:=kd;show wpAny _ _ (evalAll ((do let v <-eval (.Lambda params body scope lpos) X.env;standAt pos;pure v)::[])) _ _ s1;refine wpAny_evalAll_cons (wpAny_bind (ES S hcode hC hdef hql I1 P1 S1 hn0 fun f c ctv pm G2 H2 s2 I2 st2 P2 S2 ⟨hc1,o,vs,tq,hc2,hc3,hc4⟩=>wpAny_bind (wpAny_standAt (wpAny_pure (wpAny_evalAll_nil ?_)))));have r2:=r1.step st2;unfold Rep at r2;obtain⟨l,xs,rfl,hl1,hl2,hl3⟩:=r2;have exs:=yQ hl3;subst exs;cases rv with
 |cons ru rn=>
  cases rn;cases ru
  have hrd:Rd H2 l (.lst (ns.map V.int)):=by
   rcases hl2 with z|⟨w,z⟩
   . exact .inl (P2.get z)
   . exact .inr ⟨w,P2.get z⟩
  obtain⟨_,aq,nn,vv,hobj⟩:=hrd.ok I2.aM;have hints:=yC vv;have hlen2:=hints.length;have key:∀(H':Hp),(∃α' G',Step α1 G2 α' G'/\cx G' F H'/\aP α' (st1.set n0 (.tab T lpos qual true)) G')->H' c=some (.et o (.own c)):=fun H' ⟨α',G',q1,q2,q3⟩=>q2.get (q1.ext c _ hc1 hc2);show wpAny _ _ (call (.builtin "sorted") [.ref l] [(Str.ofString "key",.ref f)]) _ _ _
  refine Cd (X:=X) (pins:=pins++[(f,PySem.W.kla_obj "<lambda>" qual params body scope (dh X.env.cells scope.names []) pm c ctv)]) (R:=fun H'=>∃α' G',Step α1 G2 α' G'/\cx G' F H'/\aP α' (st1.set n0 (.tab T lpos qual true)) G') (kz:=ks) (vs:=aq)
   I2 ⟨α1,G2,Step.refl,P2,S2⟩ ⟨_,hobj,rfl,nn,rfl⟩ (by omega) (by omega) ?_ (fun i u kk hu hk own s' J=>?_) fun D s' out cc oD J so=>?_
  . rw[<-List.pairwise_map,hints.nums];exact hup
  . have hi:i<ns.length:=by
     have:=(List.getElem?_eq_some_iff.mp hu).1;omega
    obtain⟨tt,ht⟩:=hints.get i ns[i] (List.getElem?_eq_getElem hi);have ht:some u=some (Value.int ns[i] tt):=by rw[<-hu];exact ht
    cases ht;refine FT (v:= .int ns[i]) (u:= .int ns[i] tt) S hc (by have:=hr.dp;omega) (hb f c) hbind ⟨tt,rfl⟩ (List.mem_append_right _ (List.mem_singleton.mpr rfl)) (fun H' s'' J' r'=>?_) (fun H' r'=>?_) J
    . have q:=J'.aM c _ (key H' r');exact⟨c,o,vs,tq,rfl,q.1,hc3,hc4⟩
    . obtain⟨α',G',q1,q2,q3⟩:=r';refine⟨α',(gB fr σd).set 0 (some (.int ns[i])),_,_,G',F,q2,?_,q3,hkey i ns[i] kk (List.getElem?_eq_getElem hi) hk,fun d' st' hd α'' G'' H'' v' s'' P'' S'' r''=>?_⟩
      . exact((RS.step ((s1'.trans st2).trans q1)).comp).set 0 (by unfold Rep;rfl)
      . obtain⟨rfl,rfl⟩:=hd;unfold Rep at r'';exact⟨r'',α'',G'',q1.trans s'',P'',S''⟩
  . obtain⟨H',I',α',G',q1,q2,q3⟩:=J;obtain⟨ps,hp,ho,hs⟩:=so
    have hps:∀q∈ps,∃t,q.2= .int (numOf q.2) t:=fun q hq=>by
     have h1:=hp.mem_iff.mp hq;have h2:q.2∈aq:=(List.of_mem_zip (show(q.1,q.2)∈ks.zip aq from h1)).2;obtain⟨n,t,e⟩:=hints.all _ h2;exact⟨t,by rw[e];rfl⟩
    have hos:(ps.map fun q=>(q.1,numOf q.2)).Perm (ks.zip ns):=by
     have h1:=hp.map fun q:Int×Value=>(q.1,numOf q.2)
     have e:(ks.zip aq).map (fun q:Int×Value=>(q.1,numOf q.2))=ks.zip ns:=by
      rw[<-hints.nums,List.zip_map_right];exact List.map_congr_left fun⟨a,b⟩ _=>rfl
     rw[e]at h1;exact h1
    have hpw:(ps.map fun q=>(q.1,numOf q.2)).Pairwise slt:=by rw[List.pairwise_map];exact hs
    have kk:=hK _ hos hpw;rw[List.map_map]at kk;have hD0:=fL I'
    have vout:Vals ((ps.map fun q=>numOf q.2).map V.int) out.toList:=by
     rw[ho];clear hos hpw kk hs hp ho;induction ps with
     |nil=>exact .nil
     |cons q r ih=>
      obtain⟨t,e⟩:=hps q (List.mem_cons_self ..);exact .cons ⟨t,e⟩ (ih fun z hz=>hps z (List.mem_cons_of_mem _ hz))
    have hlo:(ps.map fun q=>numOf q.2).length<=sizeLine:=by
     rw[List.length_map,hp.length_eq,List.length_zip];exact Nat.le_trans (Nat.min_le_left _ _) (Nat.le_trans (show ks.length<=64 by omega) (by decide))
    have I3:=EA (u:= .lst ((ps.map fun q=>numOf q.2).map V.int)) I' oD.ge oD.ne ⟨by rw[List.length_map];exact hlo,out.toList,cc,vout,hD0.1⟩;have hG:=(q2.none hD0.2.1).1;refine⟨.ref D,_,I3.gS,rfl,k _ _ kk α' _ _ _ ((s1'.trans st2).trans (q1.trans (Step.laid hG))) (q2.laid hD0.2.1) (q3.laid hG) ?_⟩;unfold Rep;refine⟨D,_,rfl,q3.kF hG,.inl aX,?_⟩;have e:List.map ((fun p:Int×Int=>L3.D.int p.snd)∘fun q:Int×Value=>(q.fst,numOf q.snd)) ps=(ps.map fun q=>numOf q.2).map L3.D.int:=by rw[List.map_map];rfl
    rw[e];exact yN _
end
end L3
namespace L3
open PySem L2
open PySem.Spec hiding items?
open PyProof.Rows hiding St
def EM(sc:Scope)(N gl:List Str):Bool:=
 N.all (fun x=>(sc.names.lookup x==some .local||sc.names.lookup x==some .cell)&&x != "__debug__"&&x != "__classdict__")&&gl.all (fun x=>sc.names.lookup x==some .globalImplicit&&x != "__debug__")
structure VS(sc:Scope)(N gl:List Str):Prop where
 ok:EM sc N gl=true
theorem VS.at_{sc:Scope}{N gl:List Str}(V:VS sc N gl){i:Nat}{x:Str}(h:N[i]?=some x):Loc sc x/\(x==("__debug__":Str))=false/\(x==("__classdict__":Str))=false:=by
 have o:=V.ok;unfold EM at o;have:=List.all_eq_true.mp (Bool.and_eq_true_iff.mp o).1 x (List.mem_of_getElem? h);simp only[Bool.and_eq_true,Bool.or_eq_true,beq_iff_eq,bne_iff_ne,ne_eq]at this;exact⟨this.1.1,beq_false_of_ne this.1.2,beq_false_of_ne this.2⟩
theorem VS.Of{sc:Scope}{N gl:List Str}(V:VS sc N gl){i:Nat}{x:Str}(h:gl[i]?=some x):sc.names.lookup x=some .globalImplicit/\(x==("__debug__":Str))=false:=by
 have o:=V.ok;unfold EM at o;have:=List.all_eq_true.mp (Bool.and_eq_true_iff.mp o).2 x (List.mem_of_getElem? h);simp only[Bool.and_eq_true,beq_iff_eq,bne_iff_ne,ne_eq]at this;exact⟨this.1,beq_false_of_ne this.2⟩
section
variable {X:Cx}{sc:Scope}{N gl:List Str}{x:Str}{pos:Pos}
theorem VS.nm(V:VS X.env.scope X.N gl)(i:Nat)(h:X.N[i]?=some x:=by rfl):JE X (.Name x pos) (aa i):=
 let q:=V.at_ h
 C0 q.2.1 q.2.2 (q.1.elim .inl fun z=> .inr (.inl z)) h
theorem VS.l(V:VS sc N gl)(i:Nat)(h:N[i]?=some x:=by rfl):Loc sc x:=(V.at_ h).1
theorem VS.g(V:VS sc N gl)(i:Nat)(h:gl[i]?=some x:=by rfl):sc.names.lookup x=some .globalImplicit:=(V.Of h).1
theorem VS.d(V:VS sc N gl)(i:Nat)(h:gl[i]?=some x:=by rfl):(x==("__debug__":Str))=false:=(V.Of h).2
theorem cO{n:Nat}(hN:X.N[n]?=some x:=by rfl)(hd:((x==("__debug__":Str))||(x==("__classdict__":Str)))=false:=by decide+kernel)
 (hv:zd X.env.scope x:=by first|exact Or.inl rfl|exact Or.inr (Or.inl rfl)|exact Or.inr (Or.inr rfl)):JE X (.Name x pos) (aa n):=
 C0 (Bool.or_eq_false_iff.mp hd).1 (Bool.or_eq_false_iff.mp hd).2 hv hN
@[irreducible] def iJ:dw:=vf (fun _ j=>j≠0) fun i j=> .int (i.fdiv j)
theorem sZ{k:Nat}(hr:cT k X.A)(hs:X.stack=X.env::X.outer)(hgen:X.env.scope.isGenerator=false)(hco:X.env.scope.isCoroutine=false):cw X (binaryOp .FloorDiv) (LR iJ):=by
 unfold iJ;refine kQ (g':=fun i j=> .int (i.fdiv j)) (fun _ _ _ _=>by unfold Rep;rfl) ?_;intro pins s σ H x y v u Q I rx ry h;obtain⟨i,j,rfl,rfl,hc,q⟩:=h;obtain⟨t,rfl⟩:=rx;obtain⟨t',rfl⟩:=ry;refine floordiv_int hc ⟨.int (i.fdiv j),H,I.tok _,⟨_,rfl⟩,q⟩ (.inr (PySem.PylongRoom.of I.nolimit ?_ ?_))
 . have:=hr.dp;show X.A.depth+100<_;omega
 . exact PySem.SeerAt.of (env:=X.env) (l:=X.outer) (I.mod.seer.keeps I.bk) I.ok.gt (by rw[I.ok.frames,hs]) hgen hco I.ok.blt I.ok.glob
theorem jL{st:ag}{K:DK}{i j:Int}(h0:j≠0)(k:K (.int (i.fdiv j)) st):iJ (.int i) (.int j) st K:=by unfold iJ;exact⟨h0,k⟩
theorem mZ.look{scope:Scope}{Nc:List Str}{fr:List (Option Nat)}{p:Str}(S:bz X scope Nc fr)(h:(scope.names.all (fun x=>x.2 != .cell)&&(!scope.isCoroutine&& !scope.isGenerator)&&(scope.names.lookup p==some .local))=true:=by decide+kernel)
 (p0:Nc[0]?=some p:=by rfl) (f0:fr[0]?=some none:=by rfl):mZ X scope Nc fr p:=by
 simp only[Bool.and_eq_true,Bool.not_eq_true',beq_iff_eq]at h;exact⟨S,fun x hx=>by simpa using List.all_eq_true.mp h.1.1 x hx,h.1.2.1,h.1.2.2,p0,f0,h.2⟩
theorem HS{scope:Scope}{Nc:List Str}{fr:List (Option Nat)}{p qual:Str}{params:Arguments}{e body:Expr}{te tb:DE}{lpos kpos pos ppos:Pos}{c0 T:Addr}{n0 k:Nat}(S:mZ X scope Nc fr p)(hc:X.calm=true)(hr:cT k X.A)(hcode:X.env.code= .ref c0)(hC:PySem.W.codeHdIn X.K c0 T=true)
 (hb:∀(f c:Addr) (s:Shared) (H:Hp),JE (DJ X scope Nc qual f c s H) body tb) (he:JE X e te) (hg:X.env.kindOf "sorted"=some .globalImplicit) (hm:X.mg "sorted"=none)
 (hdef:defaultsOf params X.env=([],[]):=by rfl) (hql:X.env.qual++"<lambda>"=qual:=by rfl)
 (hbind:∀(cl:List (Str×Addr)) (pm cd ct v:Value),bindArgs (PySem.W.kla_fn "<lambda>" qual params body scope cl pm cd ct) ⟨[v],[]⟩=pure [(p,v)]:=by(intros;rfl)) (hk:2<=k:=by decide)
 (he1:starEach [e] X.env=(false,eval e X.env)::starEach [] X.env:=by rfl):
 JE X (.Call (.Name "sorted" ppos) [e] [⟨some "key",.Lambda params body scope lpos,kpos⟩] pos) (yK n0 T lpos qual fr tb te):=by
 unfold JE at he hb⊢;refine HI S hc (hr.mono hk) hcode hC hdef hql hbind hb (sM he uQ he1) hg hm rfl ?_ ?_
 . rw[he1];rfl
 . rw[he1];rfl
end
structure JV(K:PySem.W.Frag)(x qual:Str)(st:Stmt)(f:Addr)(fd:FuncData)(c:Addr):Prop where
 ex:∃(oc:Value) (od:Option Addr) (kV doc pm:Value) (an:Option Addr) (ct:Value) (osl:Array (Option Value)),
  fd=PySem.W.fnOf x qual (j0 st) (gF st) (ai st) .none kV doc pm an (.ref c) ct/\K.lookup f=some ⟨oc,od,.func fd,osl⟩/\PySem.W.codeIn K (.ref c) qual=true
theorem KI{P:Program}{w:World}{K:PySem.W.Frag}{mg:Str->Option Value}{base:Heap}{x qual:Str}{st:Stmt}{f c:Addr}{fd:FuncData}{N ps:List Str}{k:Nat}{sp:cK}{t:DS}(F:JV K x qual st f fd c)(S:aU N ps (ai st))
 (hbody:∀(A:Around) (outer:List Env) (s:Shared) (H:Hp) (E:XK),cT k (A.deeper (envOfC qual (ai st) s.heap.objs.size f (.ref c)))->JB (qA cL P w K mg base N qual (ai st) f (.ref c) A outer s H E).uJ (gF st) t)
 (hsp:∀ds st K,sp ds st K->ds.length=ps.length/\t {nx:=fun _ st'=>K .aK st',rt:=K} (a_ N ds) st):bE P w K mg base cL (k+1) f fd ps (cQ sp):=by
 obtain⟨oc,od,kV,doc,pm,an,ct,osl,rfl,lk,hcd⟩:=F.ex;unfold JB at hbody;refine Gn lk hcd S (fun vs H Q E h=>?_) fun A outer s H vs Q E hr h=>?_
 . obtain⟨α,ds,st,K,G,F,P,R,S,q,k⟩:=h;rw[<-R.length];exact(hsp ds st K q).1
 . obtain⟨α,ds,st,K,G,F',P,R,SR,q,k⟩:=h;refine⟨_,(hbody A outer s H E hr).uJ,α,a_ N ds,st,_,G,F',P,dU.start R,SR,(hsp ds st K q).2,?_,k,?_,?_⟩
   . intro σd' st' kk α' G' H' σ' s' P' R' S';exact k .aK st' kk α' G' H' .aK s' P' S' (by unfold Rep;rfl)
   . intro σd' st' kk;exact kk.elim
   . intro σd' st' kk;exact kk.elim
def Dx(tl:List (Addr×Pos×Str)):cK:=fun ds st K=>∃ns:List Int,ds=[.lst (ns.map .int)]/\ns.length<=63/\st=tl.map (fun q=> .tab q.1 q.2.1 q.2.2 false)/\∀st',K (.bl true) st'
def ED(K:PySem.W.Frag)(ts:List (Addr×Addr)):Sp:=fun vs H Q _=>∃(a:Addr) (ns:List Int),vs=[.ref a]/\Entry K ts a ns H/\ns.length<=63/\∀H',Q (.bl true) H'
theorem Dm{K:PySem.W.Frag}{ts:List (Addr×Addr)}{tl:List (Addr×Pos×Str)}(nl:Dw K=true)(hts:ts.map (·.2)=tl.map (·.1))(nd:(tl.map (·.1)).Nodup){vs:List V}{H:Hp}{Q:VK}{E:XK}(h:ED K ts vs H Q E):cQ (Dx tl) vs H Q E:=by
 obtain⟨a,ns,rfl,hE,hl,q⟩:=h
 have tabs:∀q∈tl,H q.1=some (.j7 #[])/\q.1≠a:=fun q hq=>by
  have h1:q.1∈ts.map (·.2):=by rw[hts];exact List.mem_map_of_mem hq
  obtain⟨t,ht,e⟩:=List.mem_map.mp h1;rw[<-e];exact hE.tab t ht
 have at_:∀(i:Nat) (x:Addr),(tl.map fun q=>some q.1)[i]?=some (some x)->∃q,tl[i]?=some q/\q.1=x:=fun i x e=>by
  rw[List.getElem?_map]at e;cases z:tl[i]? with
  |none=>rw[z]at e;cases e
  |some w=>rw[z]at e;simp at e;exact⟨w,rfl,e⟩
 have nota:some a∉tl.map fun q=>some q.1:=fun z=>by
  obtain⟨w,hw,e⟩:=List.mem_map.mp z;exact(tabs w hw).2 (Option.some.inj e)
 rcases hE.lst with hS|⟨o,aq,n,e,hc,_⟩
 . refine⟨tl.map fun q=>some q.1,[.lst (ns.map .int)],tl.map (fun q=> .tab q.1 q.2.1 q.2.2 false),fun d _=>d= .bl true,H,fun _=>none,⟨fun b=>by cases H b<;>rfl,fun _ _ _=>rfl⟩,?_,⟨by simp,fun i j x e1 e2=>?_,fun n c e=>?_⟩,⟨ns,rfl,hl,rfl,fun _=>rfl⟩,?_⟩
   . unfold aJ;refine⟨.ref a,[],rfl,?_,by unfold aJ;rfl⟩;unfold Rep;exact⟨a,ns.map V.int,rfl,nota,hS,wY ns⟩
   . obtain⟨p,hp,e3⟩:=at_ i x e1;obtain⟨r,hr,e4⟩:=at_ j x e2;have k1:(tl.map (·.1))[i]?=some x:=by rw[List.getElem?_map,hp,<-e3];rfl
     have k2:(tl.map (·.1))[j]?=some x:=by rw[List.getElem?_map,hr,<-e4];rfl
     have hi:=(List.getElem?_eq_some_iff.mp k1).1;exact(List.getElem?_inj hi nd).mp (k1.trans k2.symm)
   . rw[List.getElem?_map]at e;cases z:tl[n]? with
     |none=>rw[z]at e;cases e
     |some w=>
      rw[z]at e;have e':Cell.tab w.1 w.2.1 w.2.2 false=c:=Option.some.inj e;subst e';refine .inr ⟨w.1,by rw[List.getElem?_map,z];rfl,rfl,#[],(tabs w (List.mem_of_getElem? z)).1,trivial,.inl ⟨rfl,rfl⟩⟩
   . rintro d st' rfl α' G' H' v _ _ _ r;unfold Rep at r;subst r;exact q H'
 . exact absurd hc (xQ nl e)
section
variable {K:PySem.W.Frag}{x qual p1 p2 p3 p4 p5:Str}{st:Stmt}{f:Addr}{fd:FuncData}
abbrev tR(x qual:Str)(st:Stmt)(kV doc pm:Value)(an:Option Addr)(cdv ct:Value):FuncData:=PySem.W.fnOf x qual (j0 st) (gF st) (ai st) .none kV doc pm an cdv ct
theorem gf{α:Type}{n:Nat}{us:List α}(h:us.length=n+1):∃a r,us=a::r/\r.length=n:=by
 cases us with
 |nil=>cases h
 |cons a r=>exact⟨a,r,rfl,Nat.succ.inj h⟩
theorem sY{α:Type}{us:List α}(h:us.length=0):us=[]:=List.length_eq_zero_iff.mp h
theorem O9(F:oj K x qual st f fd)(h:∀kV doc pm an cdv ct a,bindArgs (tR x qual st kV doc pm an cdv ct) ⟨[a],[]⟩=pure [(p1,a)]):Binds K fd [p1] []:=
 F.binds fun kV doc pm an cdv ct us hl=>by
  obtain⟨a,r1,rfl,h1⟩:=gf hl;cases sY h1;exact h kV doc pm an cdv ct a
theorem N7(F:oj K x qual st f fd)(h:∀kV doc pm an cdv ct a b,bindArgs (tR x qual st kV doc pm an cdv ct) ⟨[a,b],[]⟩=pure [(p1,a),(p2,b)]):Binds K fd [p1,p2] []:=
 F.binds fun kV doc pm an cdv ct us hl=>by
  obtain⟨a,r1,rfl,h1⟩:=gf hl;obtain⟨b,r2,rfl,h2⟩:=gf h1;cases sY h2;exact h kV doc pm an cdv ct a b
theorem Oc(F:oj K x qual st f fd)(h:∀kV doc pm an cdv ct a b c,bindArgs (tR x qual st kV doc pm an cdv ct) ⟨[a,b,c],[]⟩=pure [(p1,a),(p2,b),(p3,c)]):Binds K fd [p1,p2,p3] []:=
 F.binds fun kV doc pm an cdv ct us hl=>by
  obtain⟨a,r1,rfl,h1⟩:=gf hl;obtain⟨b,r2,rfl,h2⟩:=gf h1;obtain⟨c,r3,rfl,h3⟩:=gf h2;cases sY h3;exact h kV doc pm an cdv ct a b c
theorem Pp(F:oj K x qual st f fd)(h:∀kV doc pm an cdv ct a b c d,bindArgs (tR x qual st kV doc pm an cdv ct) ⟨[a,b,c,d],[]⟩=pure [(p1,a),(p2,b),(p3,c),(p4,d)]):Binds K fd [p1,p2,p3,p4] []:=
 F.binds fun kV doc pm an cdv ct us hl=>by
  obtain⟨a,r1,rfl,h1⟩:=gf hl;obtain⟨b,r2,rfl,h2⟩:=gf h1;obtain⟨c,r3,rfl,h3⟩:=gf h2;obtain⟨d,r4,rfl,h4⟩:=gf h3;cases sY h4;exact h kV doc pm an cdv ct a b c d
end
section
variable {X:Cx}
end
mutual
theorem AV{α:List (Option Addr)}{G:Hp}:∀(n:Nat) {d:D} {v:V},pl n d=true->Rep α G d v->Rep [] G d v
 |_,.aK,_,_,h=>by unfold Rep at h⊢;exact h
 |_,.bl _,_,_,h=>by unfold Rep at h⊢;exact h
 |_,.int _,_,_,h=>by unfold Rep at h⊢;exact h
 |_,.str _,_,_,h=>by unfold Rep at h⊢;exact h
 |_,.ty _,_,p,_=>by unfold pl at p;cases p
 |_,.ref _,_,p,_=>by unfold pl at p;cases p
 |0,.lst _,_,p,_=>by unfold pl at p;cases p
 |0,.tup _,_,p,_=>by unfold pl at p;cases p
 |n+1,.lst xs,_,p,h=>by
  unfold pl at p;unfold Rep at h⊢;obtain⟨a,vs,e,_,r,q⟩:=h;exact⟨a,vs,e,by simp,r,qt n p q⟩
 |n+1,.tup xs,_,p,h=>by
  unfold pl at p;unfold Rep at h⊢;obtain⟨a,vs,e,_,r,q⟩:=h;exact⟨a,vs,e,by simp,r,qt n p q⟩
theorem qt{α:List (Option Addr)}{G:Hp}:∀(n:Nat) {ds:List D} {vs:List V},ds.all (pl n)=true->aJ α G ds vs->aJ [] G ds vs
 |_,[],_,_,h=>by unfold aJ at h⊢;exact h
 |n,d::ds,_,p,h=>by
  rw[List.all_cons,Bool.and_eq_true]at p;unfold aJ at h⊢;obtain⟨v,r,e,h1,h2⟩:=h;exact⟨v,r,e,AV n p.1 h1,qt n p.2 h2⟩
end
section
variable {X:Cx}
theorem Jf(n:Int):(n != 0)=decide (n≠0):=by
 by_cases h:n=0
 . subst h;rfl
 . rw[decide_eq_true h];simpa using h
def xT:e8:=fun ds st K=>match ds with| [.tup xs]=>(match lO xs with|some ns=>K (.bl (ns.any fun n=>decide (n≠0))) st|none=>False)|_=>False
theorem Mj(hc:X.calm=true):bI X (.builtin "any") (fN xT):=fun pins s σ H xs us Q I rs ⟨α,ds,st,K,G,F',P,r,S,q,k⟩=>by
 unfold xT at q;split at q
 . rename_i ys;split at q
   . rename_i ns e;obtain⟨v,rfl,r1⟩:=gu r rfl;unfold Rep at r1;obtain⟨a,vs,rfl,na,h1,h2⟩:=r1;obtain⟨u,rfl,ru⟩:=vals1 rs;cases ru;have hv:=rY h2 e;subst hv;obtain⟨aq,rv,p,hl⟩:=I.tuple (.of (P.get h1));have isT:s.heap.IsTuple a aq.toArray:=p;obtain⟨o,eo,_⟩:=id isT;refine call_any_walk (wpAny_pyIter_tuple isT ?_);have hne:a≠s.heap.objs.size:=Nat.ne_of_lt (Heap.lt_size eo);have hn:aq.length=ns.length:=by rw[<-rv.length,List.length_map]
     have hval:∀(i:Nat) (w:Value),aq.toArray[i]?=some w->∃t,w=Value.int (ns.getD i 0) t:=fun i w hw=>mv rv i w (by simpa using hw);refine⟨s.heap.objs.size,_,_,_,_,_,fun i=>decide (ns.getD i 0≠0),rfl,Walks.tuple (A:=X.A.in1) (I.ok.hd hc) _ a hne aq.toArray,⟨⟨_,Heap.get?_push_size _ rfl,rfl,rfl⟩,kT.push (k:= .t) isT _⟩,?_,?_⟩
     . intro i w s' Q' E' hP hQ;obtain⟨t,rfl⟩:=hval i w hP;refine PyProof.Rows.truthy_int ?_;rw[Jf];exact hQ
     . intro h' tk hk
       have kp:∀b o,s.heap.get? b=some o->h'.get? b=some o:=fun b o q=>hk b o (by
        intro hb;have:b=s.heap.objs.size:=by simpa using hb
        exact absurd (Heap.lt_size q) (by rw[this];exact Nat.lt_irrefl _)) (Heap.get?_push_of_some _ q)
       have ea:(List.range aq.toArray.size).any (fun i=>decide (ns.getD i 0≠0))=ns.any fun n=>decide (n≠0):=by
        rw[List.size_toArray,hn];exact range_any ns _ _ fun i x e=>by rw[List.getD_eq_getElem?_getD,e];rfl
       rw[ea];exact⟨.bl (ns.any fun n=>decide (n≠0)),H,I.kept (t':=tk) kp,rfl,k.here P q S (by unfold Rep;rfl)⟩
   . exact q.elim
 . exact q.elim
@[irreducible] def vA:e8:=xT
theorem KU(hc:X.calm=true):bI X (.builtin "any") (fN vA):=by unfold vA;exact Mj hc
end
theorem Jb{st:ag}{K:DK}{xs:List D}{ns:List Int}(h:lO xs=some ns)(k:K (.bl (ns.any fun n=>decide (n≠0))) st):vA [.tup xs] st K:=by unfold vA xT;simp only[h];exact k
section
variable {X:Cx}
def uJ(X:Cx):Cx:={X with xe:=fun _ _=>False}
end
variable {st:ag}{K:D->ag->Prop}{i j:Int}
section
variable {X:Cx}{pos:Pos}
end
end L3
namespace L3
open PySem L2
structure ClsAt(K:PySem.W.Frag)(mg:Str->Option Value)(x:Str)(C:Addr):Prop where
 cl:nV K C
 mg:mg x=some (.ref C)
 Py:PySem.W.makesIn K C=true
 kp:PySem.W.keepIn K (.ref C)=true
structure MethAt(K:PySem.W.Frag)(C:Addr)(m qual:Str)(st:Stmt)(ps:List Str)(f:Addr)(fd:FuncData):Prop where
 fn:oj K m qual st f fd
 me:Meth K C m f
 bd:Binds K fd ps []
end L3
namespace Hd
open PySem PySem.W L2 L3
open PySem.Spec hiding items?
open PyProof.Rows hiding St
section
variable {K:Frag}{mg:Str->Option Value}{h:Heap}{x q:Str}{st:Stmt}{f c C:Addr}{pm:Value}{p1 p2 p3 p4 p5 p6:Str}
abbrev Ed(K:Frag)(x:Str)(st:Stmt)(f:Addr)(pm:Value)(c:Addr):Prop:=(nsIn K mainGlobals x,K.lookup f,codeIn K (.ref c) x,keepIn K (.ref f))=(some (some (.ref f)),some (fq st x x pm c),true,true)
abbrev Em(K:Frag)(C:Addr)(x q:Str)(st:Stmt)(f:Addr)(pm:Value)(c:Addr):Prop:=(findIn K (.ref C) x,isFn K (.ref f),K.lookup f,codeIn K (.ref c) q,keepIn K (.ref f))=(some (some (.ref f)),true,some (fq st x q pm c),true,true)
theorem Ed.fn(e:Ed K x st f pm c):oj K x x st f (fd st x x pm c)/\nsIn K mainGlobals x=some (some (.ref f)):=by
 obtain⟨e1,e2,e3,e4⟩:_/\_/\_/\_:=by simpa only[Prod.mk.injEq]using e
 exact⟨Es (st:=st) e2 e3 e4,e1⟩
theorem Em.fn(e:Em K C x q st f pm c):oj K x q st f (fd st x q pm c)/\Meth K C x f:=by
 obtain⟨e1,e2,e3,e4,e5⟩:_/\_/\_/\_/\_:=by simpa only[Prod.mk.injEq]using e
 exact⟨Es (st:=st) e3 e4 e5,e1,e2,e5⟩
theorem oE(X:K.In h)(G:h.Ns mainGlobals mg)(e:Ed K x st f pm c)(b:∀kV doc pm an cdv ct a,bindArgs (tR x x st kV doc pm an cdv ct) ⟨[a],[]⟩=pure [(p1,a)]):b_ K mg x x st [p1] f (fd st x x pm c):=⟨e.fn.1,mg_of X G e.fn.2,O9 e.fn.1 b⟩
theorem ki(X:K.In h)(G:h.Ns mainGlobals mg)(e:Ed K x st f pm c)(b:∀kV doc pm an cdv ct a1 a2,bindArgs (tR x x st kV doc pm an cdv ct) ⟨[a1,a2],[]⟩=pure [(p1,a1),(p2,a2)]):b_ K mg x x st [p1,p2] f (fd st x x pm c):=⟨e.fn.1,mg_of X G e.fn.2,N7 e.fn.1 b⟩
theorem Ew(X:K.In h)(G:h.Ns mainGlobals mg)(e:Ed K x st f pm c)(b:∀kV doc pm an cdv ct a1 a2 a3,bindArgs (tR x x st kV doc pm an cdv ct) ⟨[a1,a2,a3],[]⟩=pure [(p1,a1),(p2,a2),(p3,a3)]):b_ K mg x x st [p1,p2,p3] f (fd st x x pm c):=⟨e.fn.1,mg_of X G e.fn.2,Oc e.fn.1 b⟩
theorem N4(e:Em K C x q st f pm c)(b:∀kV doc pm an cdv ct a1 a2,bindArgs (tR x q st kV doc pm an cdv ct) ⟨[a1,a2],[]⟩=pure [(p1,a1),(p2,a2)]):MethAt K C x q st [p1,p2] f (fd st x q pm c):=⟨e.fn.1,e.fn.2,N7 e.fn.1 b⟩
theorem GV(e:Em K C x q st f pm c)(b:∀kV doc pm an cdv ct a1 a2 a3,bindArgs (tR x q st kV doc pm an cdv ct) ⟨[a1,a2,a3],[]⟩=pure [(p1,a1),(p2,a2),(p3,a3)]):MethAt K C x q st [p1,p2,p3] f (fd st x q pm c):=⟨e.fn.1,e.fn.2,Oc e.fn.1 b⟩
theorem O7(e:Em K C x q st f pm c)(b:∀kV doc pm an cdv ct a1 a2 a3 a4,bindArgs (tR x q st kV doc pm an cdv ct) ⟨[a1,a2,a3,a4],[]⟩=pure [(p1,a1),(p2,a2),(p3,a3),(p4,a4)]):MethAt K C x q st [p1,p2,p3,p4] f (fd st x q pm c):=⟨e.fn.1,e.fn.2,Pp e.fn.1 b⟩
theorem fc(e:(K.lookup f,codeIn K (.ref c) q)=(some (fq st x q pm c),true)):JV K x q st f (fd st x q pm c) c:=by
 obtain⟨e1,e2⟩:_/\_:=by simpa only[Prod.mk.injEq]using e
 exact⟨_,_,_,_,_,_,_,_,rfl,e1,e2⟩
theorem na{a:Str}(e:findIn K (.ref C) a=some none):f_ K C a:=e
end
end Hd
namespace L3
open PySem L2
open PySem.Spec hiding items?
open PyProof.Rows hiding St
section
variable {X:Cx}{pos:Pos}
end
end L3
namespace L3
open PySem L2
open PySem.Spec hiding items?
@[irreducible] def zB:dw:=fun x y st K=>∃(n:Nat) (xs:List D),x= .ref n/\st[n]?=some (.lst xs)/\xs.all (pl 39)=true/\pl 40 y=true/\K (.bl (!cP (.lst xs) y)) st
theorem Nt{X:Cx}{k:Nat}(hr:cT k X.A):cw X (compareOp .NotEq) (LR zB):=fun pins s σ H x y v u Q I rx ry ⟨α,d,e,st,K,G,F',P,r1,r2,S,q,k⟩=>by
 have hu:=hr.units;unfold zB at q;obtain⟨n,xs,rfl,hn,h2,h3,q⟩:=q
 have r1':Rep [] G (.lst xs) x:=by
  obtain⟨a,ea,vs,g1,g2⟩:=S.f7 hn;have:=eL ea r1;subst this;unfold Rep;exact⟨a,vs,rfl,by simp,.inl g1,qt 39 h2 g2⟩
 exact Ho I 40 X.A _ e x y v u (by unfold pl;exact h2) h3 (r1'.mono P.same) ((AV 40 h3 r2).mono P.same) rx ry (by omega) _ _ _ _ ⟨.bl _,H,I,rfl,k.here P q S (by unfold Rep;rfl)⟩
theorem Lw{st:ag}{K:DK}{n:Nat}{xs:List D}{y:D}(h0:st[n]?=some (.lst xs))(h2:xs.all (pl 39)=true)(h3:pl 40 y=true)(k:K (.bl (!cP (.lst xs) y)) st):zB (.ref n) y st K:=by
 unfold zB;exact⟨n,xs,rfl,h0,h2,h3,k⟩
end L3
namespace L3
open PySem PySem.Spec L2
open PyProof.Rows hiding St
def ph(i j k:Nat):fo:=fun d σ=>match d with| .tup [.tup [x,y],z]=>some (((σ.set i (some x)).set j (some y)).set k (some z))|_=>none
section
variable {X:Cx}{pos:Pos}
theorem IS{tg:Expr}{i j l:Nat}(h:PG X tg (yF X.K 2 (lB (yF X.K 2 (lB (gp i) (lB (gp j) zt))) (lB (gp l) zt)))):PG X tg (LG (ph i j l)):=PG.imp h fun v σ H Q ⟨α,σd,st,d,K,G,F,P,R,S,r,⟨σ',e,q⟩,k⟩=>by
 unfold ph at e;split at e
 . rename_i x y z;cases e;unfold Rep at r;obtain⟨a,vs,rfl,na,h1,h2⟩:=r;obtain⟨v1,v2,rfl,r1,r2⟩:=kD h2 rfl;unfold Rep at r1;obtain⟨a1,vs1,rfl,na1,h3,h4⟩:=r1;obtain⟨w1,w2,rfl,s1,s2⟩:=kD h4 rfl;exact⟨a,_,rfl,.of (P.get h1),rfl,_,_,rfl,a1,_,rfl,.of (P.get h3),rfl,w1,_,rfl,w2,_,rfl,rfl,v2,_,rfl,rfl,k.here P q (((R.set i s1).set j s2).set l r2) S⟩
 . cases e
theorem Mo{i j k n m:Nat}{x y z:Str}{px py pz pt:Pos}(hc:X.calm=true)(hN:X.N.Nodup)(hx:Loc X.env.scope x)(hf:X.fn x=true\/X.env.scope.names.lookup x=some .local)(hy:Loc X.env.scope y)(hg:X.fn y=true\/X.env.scope.names.lookup y=some .local)(hz:Loc X.env.scope z)(hh:X.fn z=true\/X.env.scope.names.lookup z=some .local)
 (hi:X.N[i]?=some x:=by rfl) (hj:X.N[j]?=some y:=by rfl) (hk:X.N[k]?=some z:=by rfl):JG X (.Tuple [.Tuple [.Name x px,.Name y py] m pt,.Name z pz] n pos) (ph i j k):=by
 unfold JG;exact IS (vH hc (gL (vH hc (gL (i5 hN hi hx hf) (gL (i5 hN hj hy hg) s_))) (gL (i5 hN hk hz hh) s_)))
theorem FO{fr:List (Option Nat)}{i j k:Nat}(h:fr[i]?=some none:=by rfl)(h':fr[j]?=some none:=by rfl)(h'':fr[k]?=some none:=by rfl):pq fr (ph i j k):=fun σ d σ2 e=>by
 unfold ph at e;split at e
 . cases e;refine⟨by rw[List.length_set,List.length_set,List.length_set],fun m x q=>?_⟩;by_cases h1:m=i
   . subst h1;exact(jZ h q).elim
   . by_cases h2:m=j
     . subst h2;exact(jZ h' q).elim
     . by_cases h3:m=k
       . subst h3;exact(jZ h'' q).elim
       . rw[List.getElem?_set_ne (Ne.symm h3),List.getElem?_set_ne (Ne.symm h2),List.getElem?_set_ne (Ne.symm h1)];exact q
 . cases e
end
theorem IM{X:Cx}{scope:Scope}{Nc:List Str}{C:Addr}{s0:Shared}{H0:Hp}{ex:List Addr}{k:Nat}(hr:cT k X.A)(hs:X.stack=X.env::X.outer)(hgen:X.env.scope.isGenerator=false)(hco:X.env.scope.isCoroutine=false):cw (fe X scope Nc C s0 H0 ex) (binaryOp .FloorDiv) (LR iJ):=by
 unfold iJ;refine kQ (g':=fun i j=> .int (i.fdiv j)) (fun _ _ _ _=>by unfold Rep;rfl) ?_;intro pins s σ H x y v u Q I rx ry h;obtain⟨i,j,rfl,rfl,hc,q⟩:=h;obtain⟨t,rfl⟩:=rx;obtain⟨t',rfl⟩:=ry;refine floordiv_int hc ⟨.int (i.fdiv j),H,I.tok _,⟨_,rfl⟩,q⟩ (.inr (PySem.PylongRoom.of I.nolimit ?_ ?_))
 . have:=hr.dp;show X.A.depth+100<_;omega
 . exact PySem.SeerAt.of (env:=X.env) (l:=X.outer) (I.mod.seer.keeps I.bk) I.ok.gt (I.ok.frames.trans (congrArg some hs)) hgen hco I.ok.blt I.ok.glob
end L3
namespace Mx
def S:Nat->(Nat->Int)->Int
 |0,_=>0
 |n+1,f=>S n f+f n
theorem aL{n:Nat}{f g:Nat->Int}(h:∀i,i<n->f i=g i):S n f=S n g:=by
 induction n with
 |zero=>rfl
 |succ n ih=>unfold S;rw[ih fun i hi=>h i (by omega),h n (by omega)]
theorem pA{n:Nat}{f:Nat->Int}(h:∀i,i<n->f i=0):S n f=0:=by
 induction n with
 |zero=>rfl
 |succ n ih=>unfold S;rw[ih fun i hi=>h i (by omega),h n (by omega)];rfl
theorem jw(n:Nat)(f g:Nat->Int):S n (fun i=>f i+g i)=S n f+S n g:=by
 induction n with
 |zero=>rfl
 |succ n ih=>unfold S;rw[ih];dsimp only;omega
theorem fk(n:Nat)(c:Int)(f:Nat->Int):S n (fun i=>c*f i)=c*S n f:=by
 induction n with
 |zero=>unfold S;rw[Int.mul_zero]
 |succ n ih=>unfold S;rw[ih,Int.mul_add]
theorem D_(n:Nat)(c:Int)(f:Nat->Int):S n (fun i=>f i*c)=S n f*c:=by
 induction n with
 |zero=>unfold S;rw[Int.zero_mul]
 |succ n ih=>unfold S;rw[ih,Int.add_mul]
theorem BS(n:Nat)(f:Nat->Int):S n (fun i=> -f i)= -S n f:=by
 induction n with
 |zero=>rfl
 |succ n ih=>unfold S;rw[ih];dsimp only;omega
theorem vq(m n:Nat)(f:Nat->Nat->Int):S m (fun i=>S n fun j=>f i j)=S n fun j=>S m fun i=>f i j:=by
 induction m with
 |zero=>exact(pA (n:=n) (fun i _=>rfl)).symm
 |succ m ih=>
  have:S n (fun j=>S (m+1) fun i=>f i j)=S n fun j=>(S m fun i=>f i j)+f m j:=aL fun j _=>rfl;rw[this,jw,<-ih];rfl
theorem qE{n:Nat}{k:Nat}(hk:k<n){f:Nat->Int}(h:∀i,i<n->i≠k->f i=0):S n f=f k:=by
 induction n with
 |zero=>omega
 |succ n ih=>
  unfold S;by_cases e:k=n
  . subst e;rw[pA fun i hi=>h i (by omega) (by omega),Int.zero_add]
  . rw[ih (by omega) fun i hi hn=>h i (by omega) hn,h n (by omega) (by omega),Int.add_zero]
theorem zu(n:Nat)(f:Nat->Int):S (n+1) f=f 0+S n fun i=>f (i+1):=by
 induction n with
 |zero=>unfold S S;omega
 |succ n ih=>
  have:S (n+1+1) f=S (n+1) f+f (n+1):=rfl;rw[this,ih];have:S (n+1) (fun i=>f (i+1))=S n (fun i=>f (i+1))+f (n+1):=rfl;rw[this];omega
def dl(i j:Nat):Int:=if i=j then 1 else 0
theorem eN(i:Nat):dl i i=1:=if_pos rfl
theorem e_{i j:Nat}(h:i≠j):dl i j=0:=if_neg h
theorem pH{n k:Nat}(hk:k<n)(f:Nat->Int):S n (fun i=>dl k i*f i)=f k:=by
 rw[qE hk (fun i _ h=>by rw[e_ (Ne.symm h),Int.zero_mul]),eN,Int.one_mul]
theorem sr{n k:Nat}(hk:k<n)(f:Nat->Int):S n (fun i=>f i*dl i k)=f k:=by
 rw[qE hk (fun i _ h=>by rw[e_ h,Int.mul_zero]),eN,Int.mul_one]
abbrev Row:=List Int
abbrev Rows:=List (List Int)
def g(A:Rows)(i j:Nat):Int:=(A.getD i []).getD j 0
structure cS(m n:Nat)(A:Rows):Prop where
 len:A.length=m
 f6:∀r∈A,r.length=n
theorem aW{α:Type}{l:List α}{i:Nat}{d:α}(h:i<l.length):l.getD i d=l[i]:=by
 rw[List.getD_eq_getElem?_getD,List.getElem?_eq_getElem h];rfl
theorem nz{α:Type}{l:List α}{i:Nat}{d:α}(h:l.length<=i):l.getD i d=d:=by
 rw[List.getD_eq_getElem?_getD,List.getElem?_eq_none h];rfl
theorem cS.row{m n:Nat}{A:Rows}(h:cS m n A){i:Nat}(hi:i<m):(A.getD i []).length=n:=by
 have hl:=h.len;rw[aW (by omega)];exact h.f6 _ (List.getElem_mem _)
def eH(r:Row)(t:Int)(s:Row):Row:=List.zipWith (fun a b=>a+t*b) r s
theorem qc{r s:Row}{t:Int}(h:r.length=s.length):(eH r t s).length=r.length:=by unfold eH;simp[h]
theorem vU{r s:Row}{t:Int}(h:r.length=s.length)(j:Nat):(eH r t s).getD j 0=r.getD j 0+t*s.getD j 0:=by
 unfold eH;by_cases hj:j<r.length
 . rw[aW (by simp;omega),aW hj,aW (by omega)];simp
 . rw[nz (by simp;omega),nz (by omega),nz (by omega)];simp
def m7:Row->Rows->Row->Row
 |w::ws,r::rs,acc=>m7 ws rs (eH acc w r)
 |_,_,acc=>acc
theorem yt{n:Nat}:∀ {ws:Row} {rs:Rows} {acc:Row} (j:Nat),acc.length=n->(∀r∈rs,r.length=n)->ws.length=rs.length->(m7 ws rs acc).getD j 0=acc.getD j 0+S rs.length fun k=>ws.getD k 0*g rs k j
 | [],[],acc,j,h,_,_=>by unfold m7;show _=_+(0:Int);rw[Int.add_zero]
 | [],_::_,acc,j,h,_,hl=>by cases hl
 |_::_,[],acc,j,h,_,hl=>by cases hl
 |w::ws,r::rs,acc,j,h,hr,hl=>by
  have e1:acc.length=r.length:=by rw[h,hr r List.mem_cons_self]
  unfold m7;rw[yt j (by rw[qc e1,h]) (fun r hr'=>hr r (List.mem_cons_of_mem _ hr')) (by simpa using hl),vU e1,List.length_cons,zu]
  have:(fun k=>(w::ws).getD (k+1) 0*g (r::rs) (k+1) j)=fun k=>ws.getD k 0*g rs k j:=by
   funext k;unfold g;simp
  rw[this];unfold g;simp;omega
theorem eL(n j:Nat):(List.replicate n (0:Int)).getD j 0=0:=by
 by_cases h:j<n
 . rw[aW (by simpa using h)];simp
 . rw[nz (by simp;omega)]
def d9(n i:Nat):Row:=(List.range n).map fun k=>dl k i
def units(n:Nat):Rows:=(List.range n).map fun i=>d9 n i
theorem range_getD{α:Type}{f:Nat->α}{n i:Nat}{d:α}(h:i<n):((List.range n).map f).getD i d=f i:=by
 rw[aW (by simpa using h)];simp
theorem nG(n:Nat):cS n n (units n):=⟨by simp[units],fun r hr=>by unfold units at hr;obtain⟨i,_,rfl⟩:=List.mem_map.mp hr;simp[d9]⟩
theorem jE{n i j:Nat}(hi:i<n)(hj:j<n):g (units n) i j=dl i j:=by
 unfold g units d9;rw[range_getD hi,range_getD hj];unfold dl;by_cases h:i=j
 . subst h;rfl
 . rw[if_neg (Ne.symm h),if_neg h]
def nF(A:Rows)(j:Nat):Row:=A.map fun r=>r.getD j 0
def e9(A:Rows)(n:Nat):Rows:=(List.range n).map fun j=>nF A j
theorem zU{m n:Nat}{A:Rows}(ha:cS m n A):cS n m (e9 A n):=⟨by simp[e9],fun r hr=>by
 unfold e9 at hr;obtain⟨j,_,rfl⟩:=List.mem_map.mp hr;unfold nF;rw[List.length_map,ha.len]⟩
theorem Ic{A:Rows}{i:Nat}(j:Nat)(h:i<A.length):(nF A j).getD i 0=g A i j:=by
 unfold nF g;rw[aW (by simpa using h),aW h];simp
theorem q_{m n:Nat}{A:Rows}(ha:cS m n A){i j:Nat}(hi:i<m)(hj:j<n):g (e9 A n) j i=g A i j:=by
 show((e9 A n).getD j []).getD i 0=_;unfold e9;rw[range_getD hj,Ic j (by rw[ha.len];exact hi)]
def cU:Row->Row->Int
 |a::as,b::bs=>a*b+cU as bs
 |_,_=>0
theorem zc:∀ {a b:Row},a.length=b.length->cU a b=S b.length fun k=>a.getD k 0*b.getD k 0
 | [],[],_=>rfl
 | [],_::_,h=>by cases h
 |_::_,[],h=>by cases h
 |x::a,y::b,h=>by
  unfold cU;rw[zc (by simpa using h),List.length_cons,zu];simp
theorem vL(i j:Nat):dl i j=dl j i:=by
 unfold dl;by_cases h:i=j
 . rw[if_pos h,if_pos h.symm]
 . rw[if_neg h,if_neg (Ne.symm h)]
def sw(i j k:Nat):Nat:=if k=i then j else if k=j then i else k
theorem OP{n i j:Nat}(hi:i<n)(hj:j<n)(hij:i≠j)(f:Nat->Int):S n (fun k=>f (sw i j k))=S n f:=by
 have:S n (fun k=>f (sw i j k))=S n fun k=>f k+(f j-f i)*dl k i+(f i-f j)*dl k j:=aL fun k _=>by
  unfold sw;by_cases h1:k=i
  . subst h1;rw[if_pos rfl,eN,e_ hij];omega
  . rw[if_neg h1,e_ h1];by_cases h2:k=j
    . subst h2;rw[if_pos rfl,eN];omega
    . rw[if_neg h2,e_ h2];omega
 rw[this,jw,jw,sr (f:=fun _=>f j-f i) hi,sr (f:=fun _=>f i-f j) hj];omega
abbrev Fn:=Nat->Nat->Int
def sk(j c:Nat):Nat:=if c<j then c else c+1
def sg(j:Nat):Int:=if j%2=0 then 1 else-1
theorem wJ(j:Nat):sg (j+1)= -sg j:=by unfold sg;split<;>split<;>omega
theorem vY:sg 0=1:=rfl
theorem kC{j c n:Nat}(h:c<n):sk j c<n+1:=by unfold sk;split<;>omega
theorem MY{j k c:Nat}(h:k<j):sk j (sk k c)=sk k (sk (j-1) c):=by unfold sk;grind
def D:Nat->Fn->Int
 |0,_=>1
 |n+1,M=>S (n+1) fun j=>sg j*M 0 j*D n fun r c=>M (r+1) (sk j c)
theorem CM(M:Fn):D 0 M=1:=rfl
theorem dG(n:Nat)(M:Fn):D (n+1) M=S (n+1) fun j=>sg j*M 0 j*D n fun r c=>M (r+1) (sk j c):=rfl
theorem dg:∀ {n:Nat} {M M':Fn},(∀r c,r<n->c<n->M r c=M' r c)->D n M=D n M'
 |0,_,_,_=>rfl
 |n+1,M,M',h=>by
  rw[dG,dG];refine aL fun j hj=>?_;have e:D n (fun r c=>M (r+1) (sk j c))=D n (fun r c=>M' (r+1) (sk j c)):=dg fun r c hr hc=>h (r+1) (sk j c) (by omega) (kC hc);rw[h 0 j (by omega) hj,e]
theorem GU:∀ {n:Nat} {M P Q:Fn} {a b:Int} {i:Nat},i<n->(∀c,c<n->M i c=a*P i c+b*Q i c)->(∀r c,r<n->c<n->r≠i->M r c=P r c/\M r c=Q r c)->D n M=a*D n P+b*D n Q
 |0,_,_,_,_,_,_,h,_,_=>by omega
 |n+1,M,P,Q,a,b,0,_,h0,h=>by
  rw[dG,dG,dG,<-fk,<-fk,<-jw];refine aL fun j hj=>?_;have e1:D n (fun r c=>M (r+1) (sk j c))=D n (fun r c=>P (r+1) (sk j c)):=dg fun r c hr hc=>(h (r+1) (sk j c) (by omega) (kC hc) (by omega)).1;have e2:D n (fun r c=>M (r+1) (sk j c))=D n (fun r c=>Q (r+1) (sk j c)):=dg fun r c hr hc=>(h (r+1) (sk j c) (by omega) (kC hc) (by omega)).2;rw[h0 j hj,<-e1,<-e2];grind
 |n+1,M,P,Q,a,b,i+1,hi,h0,h=>by
  rw[dG,dG,dG,<-fk,<-fk,<-jw];refine aL fun j hj=>?_;have e:=GU (n:=n) (M:=fun r c=>M (r+1) (sk j c)) (P:=fun r c=>P (r+1) (sk j c)) (Q:=fun r c=>Q (r+1) (sk j c)) (a:=a) (b:=b) (i:=i) (by omega) (fun c hc=>h0 (sk j c) (kC hc)) fun r c hr hc hne=>h (r+1) (sk j c) (by omega) (kC hc) (by omega);have p:=h 0 j (by omega) hj (by omega);rw[e,<-p.1,<-p.2];grind
theorem Om{n:Nat}{M:Fn}(h:∀c,c<n+2->M 0 c=M 1 c):D (n+2) M=0:=by
 let T:Nat->Nat->Int:=fun j k=>sg j*M 0 j*(sg k*M 1 (sk j k)*D n fun r c=>M (r+2) (sk j (sk k c)))
 have e1:∀j,j<n+2->sg j*M 0 j*D (n+1) (fun r c=>M (r+1) (sk j c))=S (n+1) fun k=>T j k:=fun j hj=>by
  rw[dG,<-fk]
 rw[dG,aL e1]
 have e2:∀j,j<n+2->S (n+1) (fun k=>T j k)=S (n+1) (fun k=>if k<j then T j k else 0)+S (n+1) (fun k=>if k<j then 0 else T j k):=fun j _=>by
  rw[<-jw];refine aL fun k _=>?_;split<;>omega
 rw[aL e2,jw]
 have e3:∀j k,j<n+2->k<n+1->¬k<j->T j k= -T (k+1) j:=fun j k hj hk hjk=>by
  have s1:sk (k+1) j=j:=by unfold sk;rw[if_pos (by omega)]
  have s2:sk j k=k+1:=by unfold sk;rw[if_neg hjk]
  have s3:(fun r c=>M (r+2) (sk (k+1) (sk j c)))=fun r c=>M (r+2) (sk j (sk k c)):=by
   funext r c;rw[MY (show j<k+1 by omega)];rfl
  show sg j*M 0 j*(sg k*M 1 (sk j k)*D n fun r c=>M (r+2) (sk j (sk k c)))= -(sg (k+1)*M 0 (k+1)*(sg j*M 1 (sk (k+1) j)*D n fun r c=>M (r+2) (sk (k+1) (sk j c))));rw[s1,s2,s3,wJ,<-h j hj,<-h (k+1) (by omega)];grind
 have e4:S (n+2) (fun j=>S (n+1) fun k=>if k<j then 0 else T j k)= -S (n+2) (fun j=>S (n+1) fun k=>if k<j then T j k else 0):=by
  rw[vq,zu (n+1) (fun j=>S (n+1) fun k=>if k<j then T j k else 0)];have z:S (n+1) (fun k=>if k<0 then T 0 k else 0)=0:=pA fun k _=>if_neg (by omega);rw[z,Int.zero_add,<-BS];refine aL fun k hk=>?_;have:S (n+2) (fun j=>if k<j then 0 else T j k)=S (n+1) (fun j=>if k<j then 0 else T j k)+(if k<n+1 then 0 else T (n+1) k):=rfl;rw[this,if_pos hk,Int.add_zero,<-BS];refine aL fun j hj=>?_;by_cases hkj:k<j
  . rw[if_pos hkj,if_neg (by omega)];rfl
  . rw[if_neg hkj,if_pos (by omega)];exact e3 j k (by omega) hk hkj
 rw[e4];omega
theorem GY:∀ {n:Nat} {M:Fn} {i:Nat},i+1<n->(∀c,c<n->M i c=M (i+1) c)->D n M=0
 |0,_,_,h,_=>by omega
 |1,_,_,h,_=>by omega
 |n+2,M,0,_,h=>Om h
 |n+2,M,i+1,hi,h=>by
  rw[dG];refine pA fun j hj=>?_;rw[GY (n:=n+1) (M:=fun r c=>M (r+1) (sk j c)) (i:=i) (by omega) fun c hc=>h (sk j c) (kC hc),Int.mul_zero]
structure Alt(n:Nat)(φ:Fn->Int):Prop where
 cg:∀M M':Fn,(∀r c,r<n->c<n->M r c=M' r c)->φ M=φ M'
 pY:∀(i:Nat) (M P Q:Fn) (a b:Int),i<n->(∀c,c<n->M i c=a*P i c+b*Q i c)->(∀r c,r<n->c<n->r≠i->M r c=P r c/\M r c=Q r c)->φ M=a*φ P+b*φ Q
 alt:∀(i j:Nat) (M:Fn),i<n->j<n->i≠j->(∀c,c<n->M i c=M j c)->φ M=0
def upd(M:Fn)(i:Nat)(x:Nat->Int):Fn:=fun r c=>if r=i then x c else M r c
theorem cD(M:Fn)(i:Nat)(x:Nat->Int)(c:Nat):upd M i x i c=x c:=if_pos rfl
theorem aA{M:Fn}{i r:Nat}{x:Nat->Int}(h:r≠i)(c:Nat):upd M i x r c=M r c:=if_neg h
theorem NW{n i j:Nat}{φ:Fn->Int}(cg:∀M M':Fn,(∀r c,r<n->c<n->M r c=M' r c)->φ M=φ M')
 (pY:∀(i:Nat) (M P Q:Fn) (a b:Int),i<n->(∀c,c<n->M i c=a*P i c+b*Q i c)->(∀r c,r<n->c<n->r≠i->M r c=P r c/\M r c=Q r c)->φ M=a*φ P+b*φ Q)
 (hi:i<n) (hj:j<n) (hij:i≠j) (alt:∀N:Fn,(∀c,c<n->N i c=N j c)->φ N=0) (M:Fn):φ (fun r=>M (sw i j r))= -φ M:=by
 have l1:φ (upd (upd M i fun c=>M i c+M j c) j fun c=>M i c+M j c)=1*φ (upd (upd M i (M i)) j fun c=>M i c+M j c)+1*φ (upd (upd M i (M j)) j fun c=>M i c+M j c):=
  pY i _ _ _ 1 1 hi (fun c _=>by rw[aA hij,aA hij,aA hij,cD,cD,cD];omega) fun r c _ _ hr=>by
   unfold upd;grind
 have l2:∀x:Nat->Int,φ (upd (upd M i x) j fun c=>M i c+M j c)=1*φ (upd (upd M i x) j (M i))+1*φ (upd (upd M i x) j (M j)):=fun x=>
  pY j _ _ _ 1 1 hj (fun c _=>by rw[cD,cD,cD];omega) fun r c _ _ hr=>by
   rw[aA hr,aA hr,aA hr];exact⟨rfl,rfl⟩
 have z0:φ (upd (upd M i fun c=>M i c+M j c) j fun c=>M i c+M j c)=0:=alt _ fun c _=>by rw[aA hij,cD,cD]
 have z1:φ (upd (upd M i (M i)) j (M i))=0:=alt _ fun c _=>by rw[aA hij,cD,cD]
 have z2:φ (upd (upd M i (M j)) j (M j))=0:=alt _ fun c _=>by rw[aA hij,cD,cD]
 have s1:φ (upd (upd M i (M i)) j (M j))=φ M:=cg _ _ fun r c _ _=>by
  unfold upd;split
  . rename_i e;rw[e]
  . split
    . rename_i e;rw[e]
    . rfl
 have s2:φ (upd (upd M i (M j)) j (M i))=φ (fun r=>M (sw i j r)):=cg _ _ fun r c _ _=>by
  unfold upd sw;by_cases h1:r=j
  . rw[if_pos h1];by_cases h2:r=i
    . omega
    . rw[if_neg h2,if_pos h1]
  . rw[if_neg h1];by_cases h2:r=i
    . rw[if_pos h2,if_pos h2]
    . rw[if_neg h2,if_neg h2,if_neg h1]
 have a1:=l2 (M i);have a2:=l2 (M j);rw[z1,s1]at a1;rw[z2,s2]at a2;rw[z0,a1,a2]at l1;omega
theorem Alt.swap{n i j:Nat}{φ:Fn->Int}(A:Alt n φ)(hi:i<n)(hj:j<n)(hij:i≠j)(M:Fn):φ (fun r=>M (sw i j r))= -φ M:=
 NW A.cg A.pY hi hj hij (fun N h=>A.alt i j N hi hj hij h) M
theorem u3{n:Nat}{φ:Fn->Int}(cg:∀M M':Fn,(∀r c,r<n->c<n->M r c=M' r c)->φ M=φ M')
 (pY:∀(i:Nat) (M P Q:Fn) (a b:Int),i<n->(∀c,c<n->M i c=a*P i c+b*Q i c)->(∀r c,r<n->c<n->r≠i->M r c=P r c/\M r c=Q r c)->φ M=a*φ P+b*φ Q)
 (adj:∀(i:Nat) (M:Fn),i+1<n->(∀c,c<n->M i c=M (i+1) c)->φ M=0):Alt n φ:=by
 have far:∀(d i:Nat) (M:Fn),i+d+1<n->(∀c,c<n->M i c=M (i+d+1) c)->φ M=0:=by
  intro d;induction d with
  |zero=>exact fun i M h1 h2=>adj i M h1 h2
  |succ d ih=>
   intro i M h1 h2;have hs:=NW cg pY (i:=i+d+1) (j:=i+d+1+1) (by omega) (by omega) (by omega) (fun N h=>adj (i+d+1) N (by omega) h) M
   have:φ (fun r=>M (sw (i+d+1) (i+d+1+1) r))=0:=ih i _ (by omega) fun c hc=>by
    have e1:sw (i+d+1) (i+d+1+1) i=i:=by unfold sw;rw[if_neg (by omega),if_neg (by omega)]
    have e2:sw (i+d+1) (i+d+1+1) (i+d+1)=i+d+1+1:=by unfold sw;rw[if_pos rfl]
    rw[e1,e2];exact h2 c hc
   omega
 refine⟨cg,pY,fun i j M hi hj hij h=>?_⟩;by_cases hlt:i<j
 . obtain⟨d,rfl⟩:∃d,j=i+d+1:=⟨j-i-1,by omega⟩
   exact far d i M hj h
 . obtain⟨d,rfl⟩:∃d,i=j+d+1:=⟨i-j-1,by omega⟩
   exact far d j M hi fun c hc=>(h c hc).symm
theorem sU(n:Nat):Alt n (D n):=u3 (fun _ _ h=>dg h) (fun _ _ _ _ _ _ hi h0 h=>GU hi h0 h) fun _ _ h1 h2=>GY h1 h2
theorem Alt.Lr{n i:Nat}{φ:Fn->Int}(A:Alt n φ)(hi:i<n){M:Fn}(h:∀c,c<n->M i c=0):φ M=0:=by
 have:=A.pY i M M M 0 0 hi (fun c hc=>by rw[h c hc];rfl) fun _ _ _ _ _=>⟨rfl,rfl⟩
 omega
theorem Alt.D8{n i:Nat}{φ:Fn->Int}(A:Alt n φ)(hi:i<n)(M:Fn)(t:Int)(x:Nat->Int):φ (upd M i fun c=>t*x c)=t*φ (upd M i x):=by
 have:=A.pY i (upd M i fun c=>t*x c) (upd M i x) (upd M i x) t 0 hi (fun c hc=>by rw[cD,cD];omega) fun r c _ _ hr=>by rw[aA hr,aA hr];exact⟨rfl,rfl⟩
 omega
theorem Alt.DX{n i:Nat}{φ:Fn->Int}(A:Alt n φ)(hi:i<n)(M:Fn)(x y:Nat->Int):φ (upd M i fun c=>x c+y c)=φ (upd M i x)+φ (upd M i y):=by
 have:=A.pY i (upd M i fun c=>x c+y c) (upd M i x) (upd M i y) 1 1 hi (fun c hc=>by rw[cD,cD,cD];omega) fun r c _ _ hr=>by rw[aA hr,aA hr,aA hr];exact⟨rfl,rfl⟩
 omega
theorem Alt.vc{n i:Nat}{φ:Fn->Int}(A:Alt n φ)(hi:i<n)(M:Fn)(a:Nat->Int)(x:Nat->Nat->Int):∀m,φ (upd M i fun c=>S m fun j=>a j*x j c)=S m fun j=>a j*φ (upd M i (x j))
 |0=>A.Lr hi fun c _=>by rw[cD];rfl
 |m+1=>by
  have:(fun c=>S (m+1) fun j=>a j*x j c)=fun c=>(S m fun j=>a j*x j c)+a m*x m c:=rfl;rw[this,A.DX hi,A.vc hi M a x m,A.D8 hi];rfl
def un(j c:Nat):Nat:=if c<j then c else c-1
def grow(j:Nat)(B:Fn):Fn:=fun r c=>if r=0 then dl j c else if c=j then 0 else B (r-1) (un j c)
theorem uN{n j c:Nat}(hj:j<n+1)(hc:c<n+1)(h:c≠j):un j c<n:=by unfold un;split<;>omega
theorem BX{j c:Nat}(h:c≠j):sk j (un j c)=c:=by unfold sk un;grind
theorem Alt.grow{n j:Nat}{φ:Fn->Int}(A:Alt (n+1) φ)(hj:j<n+1):Alt n fun B=>φ (Mx.grow j B) where
 cg:=fun M M' h=>A.cg _ _ fun r c hr hc=>by
  have:=h (r-1) (un j c);have:=uN (c:=c) hj hc;unfold Mx.grow;grind
 pY:=fun i M P Q a b hi h0 h=>A.pY (i+1) _ _ _ a b (by omega) (fun c hc=>by
  have:=h0 (un j c);have:=uN (c:=c) hj hc;have e:i+1-1=i:=by omega
  unfold Mx.grow;rw[e];grind) fun r c hr hc hne=>by
  have:=h (r-1) (un j c);have:=uN (c:=c) hj hc;unfold Mx.grow;grind
 alt:=fun i k M hi hk hik h=>A.alt (i+1) (k+1) _ (by omega) (by omega) (by omega) fun c hc=>by
  have:=h (un j c);have:=uN (c:=c) hj hc;have e:i+1-1=i:=by omega
  have e2:k+1-1=k:=by omega
  unfold Mx.grow;rw[e,e2];grind
theorem Alt.units{n:Nat}{φ:Fn->Int}(A:Alt (n+1) φ):∀j,j<n+1->φ (Mx.grow j dl)=sg j*φ dl
 |0,_=>by
  rw[vY,Int.one_mul];refine A.cg _ _ fun r c hr hc=>?_;unfold Mx.grow un dl;grind
 |j+1,hj=>by
  have ih:=A.units j (by omega);have s:=A.swap (i:=0) (j:=j+1) (by omega) hj (by omega) (Mx.grow j dl);rw[wJ,Int.neg_mul,<-ih,<-s];refine A.cg _ _ fun r c hr hc=>?_;unfold Mx.grow un dl sw;grind
theorem Alt.Oi{n i k:Nat}{φ:Fn->Int}(A:Alt n φ)(hi:i<n)(hk:k<n)(hik:i≠k)(M:Fn)(x:Nat->Int)(t:Int):φ (upd M i fun c=>x c+t*M k c)=φ (upd M i x):=by
 rw[A.DX hi,A.D8 hi M t (M k),A.alt i k (upd M i (M k)) hi hk hik fun c _=>by rw[cD,aA (Ne.symm hik)],Int.mul_zero,Int.add_zero]
def zr(j m:Nat)(M:Fn):Fn:=fun r c=>if r=0 then dl j c else if r<=m/\c=j then 0 else M r c
theorem Alt.zr{n j:Nat}{φ:Fn->Int}(A:Alt (n+1) φ)(M:Fn):∀m,m<=n->φ (Mx.zr j m M)=φ (upd M 0 (dl j))
 |0,_=>A.cg _ _ fun r c hr hc=>by unfold Mx.zr upd;grind
 |m+1,hm=>by
  rw[<-A.zr M m (by omega)];have e:=A.Oi (i:=m+1) (k:=0) (by omega) (by omega) (by omega) (Mx.zr j m M) (M (m+1)) (-M (m+1) j)
  have e1:φ (Mx.zr j (m+1) M)=φ (upd (Mx.zr j m M) (m+1) fun c=>M (m+1) c+ -M (m+1) j*Mx.zr j m M 0 c):=A.cg _ _ fun r c hr hc=>by
   unfold upd Mx.zr dl;by_cases h0:r=m+1
   . subst h0;by_cases h1:c=j
     . subst h1;simp;omega
     . have:¬j=c:=fun z=>h1 z.symm;simp[h1,this]
   . rw[if_neg h0];grind
  have e2:φ (upd (Mx.zr j m M) (m+1) (M (m+1)))=φ (Mx.zr j m M):=A.cg _ _ fun r c hr hc=>by
   unfold upd Mx.zr;grind
  rw[e1,e,e2]
theorem Cf:∀ {n:Nat} {φ:Fn->Int},Alt n φ->∀M,φ M=φ dl*D n M
 |0,φ,A,M=>by rw[CM,Int.mul_one];exact A.cg _ _ fun r c hr=>by omega
 |n+1,φ,A,M=>by
  have h1:φ M=S (n+1) fun j=>M 0 j*φ (upd M 0 (dl j)):=by
   rw[<-A.vc (by omega) M (M 0) dl (n+1)];refine A.cg _ _ fun r c hr hc=>?_;by_cases h0:r=0
   . subst h0;rw[cD,sr hc]
   . rw[aA h0]
  have h2:∀j,j<n+1->φ (upd M 0 (dl j))=φ (Mx.grow j fun r c=>M (r+1) (sk j c)):=fun j hj=>by
   rw[<-A.zr M n (Nat.le_refl _)];refine A.cg _ _ fun r c hr hc=>?_;unfold Mx.grow Mx.zr;by_cases h0:r=0
   . rw[if_pos h0,if_pos h0]
   . rw[if_neg h0,if_neg h0];by_cases h3:c=j
     . rw[if_pos ⟨by omega,h3⟩,if_pos h3]
     . rw[if_neg (by omega),if_neg h3];dsimp only;rw[BX h3,show r-1+1=r by omega]
  rw[h1,dG,<-fk];refine aL fun j hj=>?_;have h3:=Cf (A.grow hj) fun r c=>M (r+1) (sk j c);have h4:=A.units j hj;have h5:φ (Mx.grow j fun r c=>M (r+1) (sk j c))=φ (Mx.grow j dl)*D n fun r c=>M (r+1) (sk j c):=h3;rw[h2 j hj,h5,h4];grind
theorem wG:∀n,D n dl=1
 |0=>rfl
 |n+1=>by
  rw[dG,qE (k:=0) (by omega) fun j hj h0=>by rw[e_ (Ne.symm h0),Int.mul_zero,Int.zero_mul]]
  have:D n (fun r c=>dl (r+1) (sk 0 c))=D n dl:=dg fun r c _ _=>by
   unfold dl sk;grind
  rw[this,wG n,eN];rfl
theorem Gv(n:Nat)(A B:Fn):D n (fun r c=>S n fun k=>A r k*B k c)=D n A*D n B:=by
 have al:Alt n fun A=>D n (fun r c=>S n fun k=>A r k*B k c):=by
  refine⟨fun M M' h=>dg fun r c hr hc=>aL fun k hk=>by rw[h r k hr hk],fun i M P Q a b hi h0 h=>(sU n).pY i _ _ _ a b hi (fun c hc=>?_) fun r c hr hc hne=>⟨aL fun k hk=>by rw[(h r k hr hk hne).1],aL fun k hk=>by rw[(h r k hr hk hne).2]⟩,fun i j M hi hj hij h=>(sU n).alt i j _ hi hj hij fun c hc=>aL fun k hk=>by rw[h k hk]⟩;show(S n fun k=>M i k*B k c)=a*(S n fun k=>P i k*B k c)+b*S n fun k=>Q i k*B k c;rw[<-fk,<-fk,<-jw];refine aL fun k hk=>?_;rw[h0 k hk];grind
 have h:=Cf al A;have e:D n (fun r c=>S n fun k=>dl r k*B k c)=D n B:=dg fun r c hr hc=>pH hr fun k=>B k c;rw[h,e,Int.mul_comm]
theorem D6:∀ {n:Nat} {M P Q:Fn} {a b:Int} {i:Nat},i<n->(∀r,r<n->M r i=a*P r i+b*Q r i)->(∀r c,r<n->c<n->c≠i->M r c=P r c/\M r c=Q r c)->D n M=a*D n P+b*D n Q
 |0,_,_,_,_,_,_,h,_,_=>by omega
 |n+1,M,P,Q,a,b,i,hi,h0,h=>by
  rw[dG,dG,dG,<-fk,<-fk,<-jw];refine aL fun j hj=>?_;by_cases hij:j=i
  . subst hij;have hs:∀c,sk j c≠j:=fun c=>by unfold sk;split<;>omega
    have e1:D n (fun r c=>M (r+1) (sk j c))=D n (fun r c=>P (r+1) (sk j c)):=dg fun r c hr hc=>(h (r+1) (sk j c) (by omega) (kC hc) (hs c)).1;have e2:D n (fun r c=>M (r+1) (sk j c))=D n (fun r c=>Q (r+1) (sk j c)):=dg fun r c hr hc=>(h (r+1) (sk j c) (by omega) (kC hc) (hs c)).2;rw[h0 0 (by omega),<-e1,<-e2];grind
  . have p:=h 0 j (by omega) hj hij;have hu:sk j (un j i)=i:=BX (Ne.symm hij);have hs:∀c,c≠un j i->sk j c≠i:=fun c hc=>by unfold sk;unfold un at hc;grind
    have hlt:un j i<n:=uN hj hi (Ne.symm hij)
    have e:=D6 (n:=n) (M:=fun r c=>M (r+1) (sk j c)) (P:=fun r c=>P (r+1) (sk j c)) (Q:=fun r c=>Q (r+1) (sk j c)) (a:=a) (b:=b) (i:=un j i) hlt (fun r hr=>by
     rw[hu];exact h0 (r+1) (by omega)) fun r c hr hc hne=>h (r+1) (sk j c) (by omega) (kC hc) (hs c hne)
    rw[e,<-p.1,<-p.2];grind
theorem C3:∀ {n:Nat} {M:Fn} {i:Nat},i+1<n->(∀r,r<n->M r i=M r (i+1))->D n M=0
 |0,_,_,h,_=>by omega
 |n+1,M,i,hi,h=>by
  rw[dG]
  have key:∀j,j<n+1->j≠i->j≠i+1->D n (fun r c=>M (r+1) (sk j c))=0:=fun j hj h1 h2=>by
   refine C3 (i:=un j i) (by unfold un;split<;>omega) fun r hr=>?_;have e1:sk j (un j i)=i:=BX (Ne.symm h1);have e2:sk j (un j i+1)=i+1:=by unfold sk un;grind
   rw[e1,e2];exact h (r+1) (by omega)
  have e:D n (fun r c=>M (r+1) (sk i c))=D n (fun r c=>M (r+1) (sk (i+1) c)):=dg fun r c hr hc=>by
   by_cases hc2:c=i
   . subst hc2;have a1:sk c c=c+1:=by unfold sk;rw[if_neg (by omega)]
     have a2:sk (c+1) c=c:=by unfold sk;rw[if_pos (by omega)]
     rw[a1,a2];exact(h (r+1) (by omega)).symm
   . have a1:sk i c=sk (i+1) c:=by unfold sk;grind
     rw[a1]
  have two:∀(m:Nat) (f:Nat->Int),i+1<m->(∀j,j<m->j≠i->j≠i+1->f j=0)->S m f=f i+f (i+1):=fun m=>by
   induction m with
   |zero=>intro f h;omega
   |succ m ih=>
    intro f hm hf;show S m f+f m=_;by_cases hmi:m=i+1
    . subst hmi;rw[qE (k:=i) (by omega) fun j hj hne=>hf j (by omega) hne (by omega)]
    . rw[ih f (by omega) fun j hj h1 h2=>hf j (by omega) h1 h2,hf m (by omega) (by omega) hmi,Int.add_zero]
  rw[two (n+1) _ hi fun j hj h1 h2=>by rw[key j hj h1 h2,Int.mul_zero],e,wJ,h 0 (by omega)];grind
def tr(M:Fn):Fn:=fun r c=>M c r
theorem yf(n:Nat)(M:Fn):D n (tr M)=D n M:=by
 have al:Alt n fun A=>D n (tr A):=u3 (fun M M' h=>dg fun r c hr hc=>h c r hc hr)
  (fun i M P Q a b hi h0 h=>D6 hi (fun r hr=>h0 r hr) fun r c hr hc hne=>h c r hc hr hne)
  fun i M hi h=>C3 hi fun r hr=>h r hr
 have h:=Cf al M;have e:D n (tr dl)=D n dl:=dg fun r c _ _=>vL c r;have h2:D n (tr M)=D n (tr dl)*D n M:=h;rw[h2,e,wG,Int.one_mul]
def Pr:Nat->(Nat->Int)->Int
 |0,_=>1
 |n+1,f=>Pr n f*f n
theorem AF:∀(n:Nat) (f:Nat->Int),Pr (n+1) f=f 0*Pr n fun i=>f (i+1)
 |0,f=>by show 1*f 0=f 0*1;omega
 |n+1,f=>by
  have:Pr (n+1+1) f=Pr (n+1) f*f (n+1):=rfl;rw[this,AF n f];have:Pr (n+1) (fun i=>f (i+1))=Pr n (fun i=>f (i+1))*f (n+1):=rfl;rw[this,Int.mul_assoc]
theorem Gj:∀ {n:Nat} {M:Fn},(∀r c,r<n->c<n->r<c->M r c=0)->D n M=Pr n fun i=>M i i
 |0,_,_=>rfl
 |n+1,M,h=>by
  rw[dG,qE (k:=0) (by omega) fun j hj h0=>by rw[h 0 j (by omega) hj (by omega),Int.mul_zero,Int.zero_mul],AF,vY,Int.one_mul];have s:∀c,sk 0 c=c+1:=fun c=>by unfold sk;rw[if_neg (by omega)]
  have e:D n (fun r c=>M (r+1) (sk 0 c))=Pr n fun i=>M (i+1) (i+1):=by
   rw[Gj fun r c hr hc hrc=>by rw[s];exact h (r+1) (c+1) (by omega) (by omega) (by omega)];simp only[s]
  rw[e]
theorem OB{n:Nat}{M:Fn}(h:∀r c,r<n->c<n->c<r->M r c=0):D n M=Pr n fun i=>M i i:=by
 rw[<-yf n M,Gj (M:=tr M) fun r c hr hc hrc=>h c r hc hr hrc];rfl
theorem zi:∀ {n:Nat} {M:Fn},(∀c,c<n+1->M n c=dl n c)->D (n+1) M=D n M
 |0,M,h=>by
  rw[dG];show 0+sg 0*M 0 0*D 0 _=1;rw[h 0 (by omega),eN,vY,CM];omega
 |n+1,M,h=>by
  have e1:∀j,j<n+1->D (n+1) (fun r c=>M (r+1) (sk j c))=D n (fun r c=>M (r+1) (sk j c)):=fun j hj=>zi fun c hc=>by
   rw[h (sk j c) (kC hc)];unfold dl sk;grind
  have e2:D (n+1) (fun r c=>M (r+1) (sk (n+1) c))=0:=(sU (n+1)).Lr (i:=n) (by omega) fun c hc=>by
   have s:sk (n+1) c=c:=by unfold sk;rw[if_pos (by omega)]
   rw[s,h c (by omega),e_ (by omega)]
  have e3:D (n+1+1) M=(S (n+1) fun j=>sg j*M 0 j*D (n+1) fun r c=>M (r+1) (sk j c))+sg (n+1)*M 0 (n+1)*D (n+1) (fun r c=>M (r+1) (sk (n+1) c)):=dG (n+1) M;rw[e3,e2,Int.mul_zero,Int.add_zero,dG];exact aL fun j hj=>by rw[e1 j hj]
def gx(R:Fn)(p:Nat)(x:Nat->Int)(j:Nat):Int:=D (p+1) fun r c=>if r<p then R r (if c<p then c else j)else x (if c<p then c else j)
theorem LZ{R:Fn}{p j:Nat}{x:Nat->Int}(h:j<p):gx R p x j=0:=by
 unfold gx;rw[<-yf];refine(sU (p+1)).alt j p _ (by omega) (by omega) (by omega) fun c hc=>?_;unfold tr;dsimp only;rw[if_pos h,if_neg (Nat.lt_irrefl p)]
def bt(R:Fn)(p:Nat)(x:Nat->Int)(k:Nat):Int:=D (p+1) (upd (fun c r=>if r<p then R r c else x c) p (dl k))
theorem MD(R:Fn)(p:Nat)(x:Nat->Int)(j:Nat):gx R p x j=D p R*x j+S p fun k=>bt R p x k*R k j:=by
 have e1:gx R p x j=D (p+1) (upd (fun c r=>if r<p then R r c else x c) p fun r=>S (p+1) fun k=>(if k<p then R k j else x j)*dl k r):=by
  unfold gx;rw[<-yf];refine dg fun c r hc hr=>?_;unfold tr upd;by_cases h:c=p
  . subst h;rw[if_pos rfl];dsimp only;rw[sr hr,if_neg (Nat.lt_irrefl _)]
  . rw[if_neg h];dsimp only;rw[if_pos (show c<p by omega)]
 rw[e1,(sU (p+1)).vc (by omega)]
 have e2:D (p+1) (upd (fun c r=>if r<p then R r c else x c) p (dl p))=D p R:=by
  rw[zi fun c _=>cD _ _ _ _];rw[<-yf];refine dg fun r c hr hc=>?_;unfold tr;rw[aA (by omega),if_pos (by omega)]
 have e3:(S (p+1) fun k=>(if k<p then R k j else x j)*D (p+1) (upd (fun c r=>if r<p then R r c else x c) p (dl k)))=(S p fun k=>(if k<p then R k j else x j)*D (p+1) (upd (fun c r=>if r<p then R r c else x c) p (dl k)))+(if p<p then R p j else x j)*D (p+1) (upd (fun c r=>if r<p then R r c else x c) p (dl p)):=rfl;rw[e3,e2,if_neg (Nat.lt_irrefl p),Int.add_comm,Int.mul_comm];congr 1;refine aL fun k hk=>?_;rw[if_pos hk,Int.mul_comm];rfl
def cl(p j1 j2 c:Nat):Nat:=if c<p then c else if c=p then j1 else j2
theorem GZ{n:Nat}{f:Nat->Int}{m:Nat}(h:∀i,i<n->(f i).natAbs<=m):(S n f).natAbs<=n*m:=by
 induction n with
 |zero=>simp[S]
 |succ n ih=>
  have h1:=ih fun i hi=>h i (by omega);have h2:=h n (by omega);show(S n f+f n).natAbs<=_;rw[Nat.succ_mul];omega
def lam(G:Fn)(i j:Nat):Int:=gx G j (G i) j
def O4(A:Rows):Fn:=fun i j=>cU (A.getD i []) (A.getD j [])
def NO(G:Fn)(i:Nat):Row:=(List.range (i+1)).map fun j=>lam G i j
def LL(G:Fn)(n:Nat):Rows:=(List.range n).map (NO G)
def RA(A:Rows)(N:Nat):Fn:=fun i j=>if j<N then O4 A i j else(A.getD i []).getD (j-N) 0
def ev(A:Rows)(N i k c:Nat):Int:=gx (RA A N) k (RA A N i) (N+c)
theorem Cq(n:Nat)(a b:Int)(f g:Nat->Int):S n (fun c=>a*f c-b*g c)=a*S n f-b*S n g:=by
 induction n with
 |zero=>show(0:Int)=a*0-b*0;omega
 |succ n ih=>
  show S n (fun c=>a*f c-b*g c)+(a*f n-b*g n)=a*(S n f+f n)-b*(S n g+g n);rw[ih,Int.mul_add,Int.mul_add];omega
section
variable {A:Rows}{N w:Nat}
end
def Pk(M:Fn)(k j:Nat)(q:Int):Fn:=fun a b=>if a=k then M a b-q*M j b else M a b
def O8(M:Fn)(k j:Nat)(q:Int):Fn:=fun a b=>if b=k then M a b-q*M a j else M a b
def tk(G:Fn)(k j:Nat)(q:Int):Fn:=O8 (Pk G k j q) k j q
section
variable {G:Fn}{t:Nat}(sym:∀i j,G i j=G j i)
include sym
end
section
variable {A:Rows}{N w:Nat}
theorem cV(hA:cS N w A){i:Nat}(hi:i<N):(A.getD i []).length=w:=hA.f6 _ (by have:=hA.len;rw[aW (by omega)];exact List.getElem_mem _)
end
def bX(A:Rows)(k:Nat)(q:Int)(j:Nat):Rows:=A.set k (eH (A.getD k []) (-q) (A.getD j []))
def bO(A:Rows)(k o:Nat):Rows:=(A.set k (A.getD o [])).set o (A.getD k [])
theorem lb{A:Rows}{k i:Nat}{r:Row}(hk:k<A.length):(A.set k r).getD i []=if i=k then r else A.getD i []:=by
 rw[List.getD_eq_getElem?_getD,List.getElem?_set];by_cases h:k=i
 . rw[if_pos h,if_pos (by omega),if_pos h.symm];rfl
 . rw[if_neg h,if_neg (Ne.symm h),List.getD_eq_getElem?_getD]
theorem DR{A:Rows}{k j:Nat}{q:Int}:(bX A k q j).length=A.length:=by unfold bX;rw[List.length_set]
theorem uw{A:Rows}{N w k j:Nat}{q:Int}(hA:cS N w A)(hk:k<N)(hj:j<N):cS N w (bX A k q j):=by
 refine⟨DR.trans hA.len,fun r hr=>?_⟩;unfold bX at hr;rcases List.mem_or_eq_of_mem_set hr with h|rfl
 . exact hA.f6 r h
 . rw[qc (by rw[cV hA hk,cV hA hj]),cV hA hk]
structure Tn(A0 A U C:Rows)(N w:Nat):Prop where
 isA:cS N w A
 fm:cS N N U
 gj:cS N N C
 ua:∀i c,i<N->c<w->g A i c=S N fun k=>g U i k*g A0 k c
 ub:∀i j,i<N->j<N->S N (fun k=>g U i k*g C j k)=dl i j
 bu:∀i j,i<N->j<N->S N (fun k=>g C k i*g U k j)=dl i j
theorem fx{A:Rows}{N w k j:Nat}{q:Int}(hA:cS N w A)(hk:k<N)(hj:j<N)(i c:Nat):g (bX A k q j) i c=if i=k then g A k c-q*g A j c else g A i c:=by
 unfold g bX;have hl:=hA.len;rw[lb (by omega)];by_cases h:i=k
 . rw[if_pos h,if_pos h,vU (by rw[cV hA hk,cV hA hj]),Int.neg_mul];omega
 . rw[if_neg h,if_neg h]
theorem vz(n:Nat)(a b:Int)(f h:Nat->Int):S n (fun c=>a*f c+b*h c)=a*S n f+b*S n h:=by
 rw[jw,fk,fk]
theorem Tn.take{A0 A U C:Rows}{N w k j:Nat}{q:Int}(T:Tn A0 A U C N w)(hk:k<N)(hj:j<N)(hkj:j≠k):Tn A0 (bX A k q j) (bX U k q j) (bX C j (-q) k) N w where
 isA:=uw T.isA hk hj
 fm:=uw T.fm hk hj
 gj:=uw T.gj hj hk
 ua:=fun i c hi hc=>by
  rw[fx T.isA hk hj];have e:S N (fun m=>g (bX U k q j) i m*g A0 m c)=S N fun m=>(if i=k then g U k m-q*g U j m else g U i m)*g A0 m c:=aL fun m _=>by rw[fx T.fm hk hj]
  rw[e];by_cases h:i=k
  . simp only[if_pos h];rw[T.ua k c hk hc,T.ua j c hj hc];have e2:S N (fun m=>(g U k m-q*g U j m)*g A0 m c)=S N fun m=>1*(g U k m*g A0 m c)-q*(g U j m*g A0 m c):=aL fun m _=>by grind
    rw[e2,Cq];omega
  . simp only[if_neg h];exact T.ua i c hi hc
 ub:=fun i l hi hl=>by
  have e:S N (fun m=>g (bX U k q j) i m*g (bX C j (-q) k) l m)=S N fun m=>(if i=k then g U k m-q*g U j m else g U i m)*(if l=j then g C j m- -q*g C k m else g C l m):=aL fun m _=>by rw[fx T.fm hk hj,fx T.gj hj hk]
  rw[e];have djk:dl j k=0:=e_ hkj;by_cases h:i=k
  . by_cases h2:l=j
    . simp only[if_pos h,if_pos h2];have e2:S N (fun m=>(g U k m-q*g U j m)*(g C j m- -q*g C k m))=S N fun m=>1*(1*(g U k m*g C j m)+q*(g U k m*g C k m))-q*(1*(g U j m*g C j m)+q*(g U j m*g C k m)):=aL fun m _=>by grind
      rw[e2,Cq,vz,vz,T.ub k j hk hj,T.ub k k hk hk,T.ub j j hj hj,T.ub j k hj hk,h,h2,eN,eN,djk,vL k j,djk];omega
    . simp only[if_pos h,if_neg h2];have e2:S N (fun m=>(g U k m-q*g U j m)*g C l m)=S N fun m=>1*(g U k m*g C l m)-q*(g U j m*g C l m):=aL fun m _=>by grind
      rw[e2,Cq,T.ub k l hk hl,T.ub j l hj hl,h,e_ (Ne.symm h2)];omega
  . by_cases h2:l=j
    . simp only[if_neg h,if_pos h2];have e2:S N (fun m=>g U i m*(g C j m- -q*g C k m))=S N fun m=>1*(g U i m*g C j m)+q*(g U i m*g C k m):=aL fun m _=>by grind
      rw[e2,vz,T.ub i j hi hj,T.ub i k hi hk,h2,e_ h];omega
    . simp only[if_neg h,if_neg h2];exact T.ub i l hi hl
 bu:=fun i l hi hl=>by
  have e:S N (fun m=>g (bX C j (-q) k) m i*g (bX U k q j) m l)=S N fun m=>g C m i*g U m l+((q*(g C k i*g U j l))*dl m j+(-(q*(g C k i*g U j l)))*dl m k):=aL fun m _=>by
   rw[fx T.fm hk hj,fx T.gj hj hk];by_cases h1:m=j
   . have h2:m≠k:=by omega
     rw[if_pos h1,if_neg h2,h1,eN,e_ hkj];grind
   . rw[if_neg h1,e_ h1];by_cases h2:m=k
     . rw[if_pos h2,h2,eN];grind
     . rw[if_neg h2,e_ h2];grind
  rw[e,jw,vz,T.bu i l hi hl]
  have e1:S N (fun c=>dl c j)=1:=by
   rw[qE hj fun i _ h=>e_ h,eN]
  have e2:S N (fun c=>dl c k)=1:=by
   rw[qE hk fun i _ h=>e_ h,eN]
  rw[e1,e2];omega
theorem z_{A:Rows}{k o i:Nat}(hk:k<A.length)(ho:o<A.length):(bO A k o).getD i []=A.getD (sw k o i) []:=by
 unfold bO;rw[lb (by rw[List.length_set];exact ho),lb hk];unfold sw;by_cases h1:i=k
 . rw[if_pos h1,if_pos h1];by_cases h2:i=o
   . rw[if_pos h2,<-h1,<-h2]
   . rw[if_neg h2]
 . rw[if_neg h1,if_neg h1];by_cases h2:i=o
   . rw[if_pos h2,if_pos h2]
   . rw[if_neg h2,if_neg h2]
theorem uy{A:Rows}{N w k o:Nat}(hA:cS N w A)(hk:k<N)(ho:o<N):cS N w (bO A k o):=by
 refine⟨by unfold bO;rw[List.length_set,List.length_set];exact hA.len,fun r hr=>?_⟩;unfold bO at hr;rcases List.mem_or_eq_of_mem_set hr with h|rfl
 . rcases List.mem_or_eq_of_mem_set h with h|rfl
   . exact hA.f6 r h
   . exact cV hA ho
 . exact cV hA hk
theorem jQ{A:Rows}{N w k o:Nat}(hA:cS N w A)(hk:k<N)(ho:o<N)(i c:Nat):g (bO A k o) i c=g A (sw k o i) c:=by
 unfold g;rw[z_ (by have:=hA.len;omega) (by have:=hA.len;omega)]
theorem rk{k o N i:Nat}(hk:k<N)(ho:o<N)(hi:i<N):sw k o i<N:=by unfold sw;split<;>(try split)<;>assumption
theorem EF(k o x:Nat):sw k o (sw k o x)=x:=by
 unfold sw;by_cases h1:x=k
 . subst h1;rw[if_pos rfl];by_cases h2:o=x
   . rw[if_pos h2];exact h2
   . rw[if_neg h2,if_pos rfl]
 . rw[if_neg h1];by_cases h2:x=o
   . subst h2;rw[if_pos rfl,if_pos rfl]
   . rw[if_neg h2,if_neg h1,if_neg h2]
theorem MK{k o a b:Nat}:dl (sw k o a) (sw k o b)=dl a b:=by
 by_cases h:a=b
 . rw[h,eN,eN]
 . rw[e_ h,e_ fun z=>h (by rw[<-EF k o a,<-EF k o b,z])]
theorem Ir(k x:Nat):sw k k x=x:=by
 unfold sw;by_cases h:x=k
 . rw[if_pos h,h]
 . rw[if_neg h,if_neg h]
theorem MR{n i j:Nat}(hi:i<n)(hj:j<n)(f:Nat->Int):S n (fun k=>f (sw i j k))=S n f:=by
 by_cases h:i=j
 . subst h;exact aL fun k _=>by rw[Ir]
 . exact OP hi hj h f
theorem Tn.Hn{A0 A U C:Rows}{N w k o:Nat}(T:Tn A0 A U C N w)(hk:k<N)(ho:o<N):Tn A0 (bO A k o) (bO U k o) (bO C k o) N w where
 isA:=uy T.isA hk ho
 fm:=uy T.fm hk ho
 gj:=uy T.gj hk ho
 ua:=fun i c hi hc=>by
  rw[jQ T.isA hk ho,T.ua _ c (rk hk ho hi) hc];exact aL fun m _=>by rw[jQ T.fm hk ho]
 ub:=fun i j hi hj=>by
  rw[<-MK (k:=k) (o:=o),<-T.ub _ _ (rk hk ho hi) (rk hk ho hj)];exact aL fun m _=>by rw[jQ T.fm hk ho,jQ T.gj hk ho]
 bu:=fun i j hi hj=>by
  rw[<-T.bu i j hi hj,<-MR hk ho fun m=>g C m i*g U m j];exact aL fun m _=>by rw[jQ T.fm hk ho,jQ T.gj hk ho]
def gy(A:Rows)(k:Nat):Rows:=A.set k ((A.getD k []).map fun x=> -x)
theorem yh{A:Rows}{N w k:Nat}(hA:cS N w A)(hk:k<N):cS N w (gy A k):=by
 refine⟨by unfold gy;rw[List.length_set];exact hA.len,fun r hr=>?_⟩;unfold gy at hr;rcases List.mem_or_eq_of_mem_set hr with h|rfl
 . exact hA.f6 r h
 . rw[List.length_map];exact cV hA hk
theorem FG(r:Row)(c:Nat):(r.map fun x=> -x).getD c 0= -r.getD c 0:=by
 rw[List.getD_eq_getElem?_getD,List.getD_eq_getElem?_getD,List.getElem?_map];cases r[c]?<;>rfl
theorem kg{A:Rows}{N w k:Nat}(hA:cS N w A)(hk:k<N)(i c:Nat):g (gy A k) i c=if i=k then-g A k c else g A i c:=by
 unfold g gy;rw[lb (by have:=hA.len;omega)];by_cases h:i=k
 . rw[if_pos h,if_pos h,FG]
 . rw[if_neg h,if_neg h]
theorem Tn.neg{A0 A U C:Rows}{N w k:Nat}(T:Tn A0 A U C N w)(hk:k<N):Tn A0 (gy A k) (gy U k) (gy C k) N w where
 isA:=yh T.isA hk
 fm:=yh T.fm hk
 gj:=yh T.gj hk
 ua:=fun i c hi hc=>by
  rw[kg T.isA hk];by_cases h:i=k
  . rw[if_pos h,T.ua k c hk hc,<-BS];exact aL fun m _=>by rw[kg T.fm hk,if_pos h,Int.neg_mul]
  . rw[if_neg h,T.ua i c hi hc];exact aL fun m _=>by rw[kg T.fm hk,if_neg h]
 ub:=fun i j hi hj=>by
  have e:S N (fun m=>g (gy U k) i m*g (gy C k) j m)=S N fun m=>(if i=k then-1 else 1)*(if j=k then-1 else 1)*(g U i m*g C j m):=aL fun m _=>by
   rw[kg T.fm hk,kg T.gj hk];by_cases h1:i=k<;>by_cases h2:j=k<;>simp only[h1,h2,if_true,if_false]<;>grind
  rw[e,fk,T.ub i j hi hj];by_cases h1:i=k
  . by_cases h2:j=k
    . simp[h1,h2]
    . rw[e_ (by omega)];simp
  . by_cases h2:j=k
    . rw[e_ (by omega)];simp
    . simp[h1,h2]
 bu:=fun i j hi hj=>by
  rw[<-T.bu i j hi hj]
  exact aL fun m _=>by
   rw[kg T.fm hk,kg T.gj hk];by_cases h:m=k
   . subst h;rw[if_pos rfl,if_pos rfl];grind
   . rw[if_neg h,if_neg h]
structure iq(A:Rows)(N top p:Nat)(L:List Nat):Prop where
 mem:∀k,k∈L↔top<=k/\k<N/\g A k p≠0
 ord:L.Pairwise fun i j=>(g A i p).natAbs<(g A j p).natAbs\/((g A i p).natAbs=(g A j p).natAbs/\i<j)
theorem vj{f:Nat->Nat}:∀ {l m:List Nat},(∀k,k∈l↔k∈m)->l.Pairwise (fun i j=>f i<f j\/(f i=f j/\i<j))->m.Pairwise (fun i j=>f i<f j\/(f i=f j/\i<j))->l=m
 | [],[],_,_,_=>rfl
 | [],b::m,h,_,_=>by have:=(h b).mpr (List.mem_cons_self ..);simp at this
 |a::l,[],h,_,_=>by have:=(h a).mp (List.mem_cons_self ..);simp at this
 |a::l,b::m,h,h1,h2=>by
  obtain⟨p1,q1⟩:=List.pairwise_cons.mp h1;obtain⟨p2,q2⟩:=List.pairwise_cons.mp h2
  have e:a=b:=by
   rcases List.mem_cons.mp ((h a).mp (List.mem_cons_self ..))with z|z
   . exact z
   . rcases List.mem_cons.mp ((h b).mpr (List.mem_cons_self ..))with y|y
     . exact y.symm
     . have x1:=p1 b y;have x2:=p2 a z;omega
  subst e;have na:a∉l:=fun z=>by have:=p1 a z;omega
  have nb:a∉m:=fun z=>by have:=p2 a z;omega
  rw[vj (l:=l) (m:=m) (fun k=>?_) q1 q2];have:=h k;rw[List.mem_cons,List.mem_cons]at this;constructor
  . intro z;rcases this.mp (.inr z)with y|y
    . subst y;exact absurd z na
    . exact y
  . intro z;rcases this.mpr (.inr z)with y|y
    . subst y;exact absurd z nb
    . exact y
theorem iq.unique{A:Rows}{N top p:Nat}{L M:List Nat}(h:iq A N top p L)(h':iq A N top p M):L=M:=
 vj (f:=fun i=>(g A i p).natAbs) (fun k=>(h.mem k).trans (h'.mem k).symm) h.ord h'.ord
structure B3 where
 A:Rows
 U:Rows
 C:Rows
def qn(x y:Int):Int:=(2*x+y).fdiv (2*y)
def j_(b:B3)(p k j:Nat):B3:=⟨bX b.A k (qn (g b.A k p) (g b.A j p)) j,bX b.U k (qn (g b.A k p) (g b.A j p)) j,bX b.C j (-(qn (g b.A k p) (g b.A j p))) k⟩
def sO(N top p:Nat)(b c:B3):Prop:=∃(L:List Nat) (k j:Nat),iq b.A N top p (L++[j,k])/\c=j_ b p k j
theorem sO.unique{N top p:Nat}{b c d:B3}(h:sO N top p b c)(h':sO N top p b d):c=d:=by
 obtain⟨L,k,j,h1,rfl⟩:=h;obtain⟨M,k',j',h2,rfl⟩:=h';have e:=h1.unique h2;have e2:=congrArg List.reverse e;simp only[List.reverse_append,List.reverse_cons,List.reverse_nil,List.nil_append,List.cons_append,List.cons.injEq]at e2;rw[e2.1,e2.2.1]
inductive gb(N top p:Nat):B3->B3->Prop
 |refl (b:B3):gb N top p b b
 |head {b c d:B3} (h:sO N top p b c) (t:gb N top p c d):gb N top p b d
theorem gb.tail{N top p:Nat}{b c d:B3}(h:gb N top p b c)(t:sO N top p c d):gb N top p b d:=by
 induction h with
 |refl b=>exact .head t (.refl _)
 |head x _ ih=>exact .head x (ih t)
def vk(N top p:Nat)(b:B3):Prop:=∃L,iq b.A N top p L/\L.length<=1
theorem vk.stop{N top p:Nat}{b c:B3}(h:vk N top p b)(s:sO N top p b c):False:=by
 obtain⟨L,h1,h2⟩:=h;obtain⟨M,k,j,h3,_⟩:=s;rw[h1.unique h3]at h2;simp at h2
theorem gb.unique{N top p:Nat}{b c d:B3}(h:gb N top p b c)(hc:vk N top p c)(h':gb N top p b d)(hd:vk N top p d):c=d:=by
 induction h with
 |refl b=>
  cases h' with
  |refl=>rfl
  |head s _=>exact(hc.stop s).elim
 |head s _ ih=>
  cases h' with
  |refl=>exact(hd.stop s).elim
  |head s' t=>
   rw[s'.unique s]at t;exact ih hc t
def jo(X:Rows)(N top m:Nat):Prop:=∀i c,top<=i->i<N->(g X i c).natAbs<=m
def PR(f:Nat->Nat):Nat->Nat
 |0=>1
 |n+1=>PR f n*f n
theorem Er{f:Nat->Nat}(h:∀i,1<=f i):∀n,1<=PR f n
 |0=>Nat.le_refl _
 |n+1=>Nat.mul_le_mul (Er h n) (h n)
theorem y_{f f':Nat->Nat}:∀ {n:Nat},(∀i,i<n->f i=f' i)->PR f n=PR f' n
 |0,_=>rfl
 |n+1,h=>by
  show PR f n*f n=PR f' n*f' n;rw[y_ fun i hi=>h i (Nat.lt_succ_of_lt hi),h n (Nat.lt_succ_self n)]
theorem Dn{f f':Nat->Nat}{k:Nat}:∀ {n:Nat},k<n->(∀i,i≠k->f i=f' i)->PR f n*f' k=PR f' n*f k
 |0,hk,_=>absurd hk (Nat.not_lt_zero _)
 |n+1,hk,h=>by
  show PR f n*f n*f' k=PR f' n*f' n*f k;by_cases e:k=n
  . subst e;rw[y_ (n:=k) fun i hi=>h i (Nat.ne_of_lt hi),Nat.mul_assoc,Nat.mul_comm (f k),Nat.mul_assoc]
  . have:=Dn (n:=n) (by omega) h;rw[h n (Ne.symm e),Nat.mul_right_comm,this,Nat.mul_right_comm]
theorem F9{f:Nat->Nat}{m top:Nat}(hm:1<=m):∀ {n:Nat},(∀i,i<n->i<top->f i<=1)->(∀i,i<n->f i<=m)->PR f n<=m^(n-top)
 |0,_,_=>by simp[PR]
 |n+1,h1,h2=>by
  have ih:=F9 hm (n:=n) (fun i hi=>h1 i (Nat.lt_succ_of_lt hi)) fun i hi=>h2 i (Nat.lt_succ_of_lt hi);show PR f n*f n<=_;by_cases ht:n<top
  . have z:n+1-top=n-top:=by omega
    rw[z];exact Nat.le_trans (Nat.mul_le_mul ih (h1 n (Nat.lt_succ_self n) ht)) (by rw[Nat.mul_one];exact Nat.le_refl _)
  . have z:n+1-top=(n-top)+1:=by omega
    rw[z,Nat.pow_succ];exact Nat.mul_le_mul ih (h2 n (Nat.lt_succ_self n))
def wt(A:Rows)(top p i:Nat):Nat:=if top<=i/\g A i p≠0 then 2*(g A i p).natAbs else 1
theorem CD(A:Rows)(top p i:Nat):1<=wt A top p i:=by
 unfold wt;split<;>omega
theorem Be{x y:Int}(hy:y≠0):2*(x-qn x y*y).natAbs<=y.natAbs:=by
 unfold qn;have h1:=Int.mul_fdiv_add_fmod (2*x+y) (2*y);have h2:(2*x+y).fmod (2*y)=2*x+y-2*y*(2*x+y).fdiv (2*y):=by omega
 generalize(2*x+y).fdiv (2*y)=q at*;have e:2*(x-q*y)=(2*x+y).fmod (2*y)-y:=by rw[h2];grind
 rcases Int.lt_or_gt_of_ne hy with h|h
 . have a0:=Int.neg_fmod_neg (2*x+y) (2*y);have a1:=Int.fmod_nonneg_of_pos (-(2*x+y)) (show 0< -(2*y) by omega);have a2:=Int.fmod_lt_of_pos (-(2*x+y)) (show 0< -(2*y) by omega);omega
 . have a1:=Int.fmod_nonneg_of_pos (2*x+y) (show 0<2*y by omega);have a2:=Int.fmod_lt_of_pos (2*x+y) (show 0<2*y by omega);omega
theorem IT{x y:Int}(hy:y≠0)(hxy:y.natAbs<=x.natAbs):(1+(qn x y).natAbs)*(if x-qn x y*y≠0 then 2*(x-qn x y*y).natAbs else 1)<=2*x.natAbs:=by
 have h2:=Be (x:=x) hy;generalize qn x y=q at*;generalize hr:x-q*y=r at*;have hx:x=q*y+r:=by omega
 have hq:(q*y).natAbs=q.natAbs*y.natAbs:=Int.natAbs_mul ..;by_cases h0:r=0
 . rw[if_neg (fun z=>z h0),Nat.mul_one];subst h0;have hxa:x.natAbs=q.natAbs*y.natAbs:=by rw[<-hq,hx];simp
   have hy1:1<=y.natAbs:=by omega
   have hq1:1<=q.natAbs:=by
    rcases Nat.eq_zero_or_pos q.natAbs with z|z
    . rw[z,Nat.zero_mul]at hxa;omega
    . exact z
   have:q.natAbs<=q.natAbs*y.natAbs:=Nat.le_mul_of_pos_right _ hy1;omega
 . rw[if_pos h0];have hr1:1<=r.natAbs:=by omega
   have key:(1+q.natAbs)*r.natAbs<=x.natAbs:=by
    rcases Nat.lt_or_ge q.natAbs 2 with hlt|hge
    . rcases Nat.lt_or_ge q.natAbs 1 with h|h
      . have z:q.natAbs=0:=by omega
        have zq:q=0:=by omega
        subst zq;simp at hx;subst hx;simp
      . have z:q.natAbs=1:=by omega
        rw[z]at hq⊢;have:(q*y).natAbs=y.natAbs:=by omega
        have h3:x.natAbs=y.natAbs+r.natAbs\/x.natAbs+r.natAbs=y.natAbs\/x.natAbs+y.natAbs=r.natAbs:=by omega
        omega
    . have h3:(q*y).natAbs<=x.natAbs+r.natAbs:=by omega
      rw[hq]at h3;have h4:q.natAbs*(2*r.natAbs)<=q.natAbs*y.natAbs:=Nat.mul_le_mul_left _ h2;have h5:2*r.natAbs<=q.natAbs*r.natAbs:=Nat.mul_le_mul_right _ hge;have h6:q.natAbs*(2*r.natAbs)=q.natAbs*r.natAbs+q.natAbs*r.natAbs:=by rw[Nat.mul_left_comm];omega
      rw[Nat.add_mul,Nat.one_mul];omega
   have:(1+q.natAbs)*(2*r.natAbs)=2*((1+q.natAbs)*r.natAbs):=by rw[Nat.mul_left_comm]
   omega
structure tE(A0:Rows)(N w top p m:Nat)(b0 b:B3)(gr:Nat):Prop where
 tn:Tn A0 b.A b.U b.C N w
 up:∀i,i<top->b.A.getD i []=b0.A.getD i []/\b.U.getD i []=b0.U.getD i []/\b.C.getD i []=b0.C.getD i []
 lA:jo b.A N top (m*gr)
 lU:jo b.U N top (m*gr)
 lC:jo b.C N top (m*gr)
 zs:∀i c,top<=i->i<N->c<p->g b.A i c=0
 Oe:gr*PR (wt b.A top p) N<=PR (wt b0.A top p) N
 pos:1<=gr
 NF:b=b0\/∃j,top<=j/\j<N/\g b.A j p≠0
theorem t6{X:Rows}{N w top k j m gr:Nat}{q:Int}(hX:cS N w X)(hk:k<N)(hj:j<N)(hkt:top<=k)(hjt:top<=j)(h:jo X N top (m*gr)):jo (bX X k q j) N top (m*(gr*(1+q.natAbs))):=fun i c hi hN=>by
 rw[fx hX hk hj];have e:m*(gr*(1+q.natAbs))=m*gr+q.natAbs*(m*gr):=by rw[<-Nat.mul_assoc,Nat.mul_add,Nat.mul_one,Nat.mul_comm (m*gr) q.natAbs]
 rw[e];by_cases hik:i=k
 . rw[if_pos hik];have h1:=h k c hkt hk;have h2:=h j c hjt hj;have h3:(q*g X j c).natAbs<=q.natAbs*(m*gr):=by rw[Int.natAbs_mul];exact Nat.mul_le_mul_left _ h2
   omega
 . rw[if_neg hik];have:=h i c hi hN;omega
theorem j6{X:Rows}{k j i:Nat}{q:Int}(hk:k<X.length)(h:i≠k):(bX X k q j).getD i []=X.getD i []:=by
 unfold bX;rw[lb hk,if_neg h]
theorem tE.step{A0:Rows}{N w top p m gr:Nat}{b0 b:B3}{L:List Nat}{k j:Nat}(G:tE A0 N w top p m b0 b gr)(hp:p<w)(hL:iq b.A N top p (L++[j,k])):
 tE A0 N w top p m b0 (j_ b p k j) (gr*(1+(qn (g b.A k p) (g b.A j p)).natAbs))/\(g (j_ b p k j).A k p).natAbs<(g b.A k p).natAbs/\(∀i,i≠k->g (j_ b p k j).A i p=g b.A i p)/\top<=k/\k<N/\top<=j/\j<N/\j≠k/\g b.A j p≠0:=by
 obtain⟨hk1,hk2,hk3⟩:=(hL.mem k).mp (by simp);obtain⟨hj1,hj2,hj3⟩:=(hL.mem j).mp (by simp);have hord:=hL.ord;rw[List.pairwise_append]at hord;have o2:=(List.pairwise_cons.mp hord.2.1).1 k (by simp);have hjk:j≠k:=by intro z;subst z;omega
 have hle:(g b.A j p).natAbs<=(g b.A k p).natAbs:=by omega
 have gk:g (j_ b p k j).A k p=g b.A k p-qn (g b.A k p) (g b.A j p)*g b.A j p:=by
  show g (bX b.A k _ j) k p=_;rw[fx G.tn.isA hk2 hj2,if_pos rfl]
 have gi:∀i,i≠k->g (j_ b p k j).A i p=g b.A i p:=fun i hi=>by
  show g (bX b.A k _ j) i p=_;rw[fx G.tn.isA hk2 hj2,if_neg hi]
 have hrest:=Be (x:=g b.A k p) hj3;have hgrow:=IT (x:=g b.A k p) hj3 hle;refine⟨⟨G.tn.take hk2 hj2 hjk,fun i hi=>?_,t6 G.tn.isA hk2 hj2 hk1 hj1 G.lA,t6 G.tn.fm hk2 hj2 hk1 hj1 G.lU,?_,fun i c hi hN hc=>?_,?_,?_,.inr ⟨j,hj1,hj2,by rw[gi j hjk];exact hj3⟩⟩,?_,gi,hk1,hk2,hj1,hj2,hjk,hj3⟩
 . obtain⟨a1,a2,a3⟩:=G.up i hi;refine⟨(j6 (by rw[G.tn.isA.len];exact hk2) (by omega)).trans a1,(j6 (by rw[G.tn.fm.len];exact hk2) (by omega)).trans a2,(j6 (by rw[G.tn.gj.len];exact hj2) (by omega)).trans a3⟩
 . have:=t6 (q:= -(qn (g b.A k p) (g b.A j p))) G.tn.gj hj2 hk2 hj1 hk1 G.lC;rw[Int.natAbs_neg]at this;exact this
 . show g (bX b.A k _ j) i c=0;rw[fx G.tn.isA hk2 hj2];by_cases h:i=k
   . rw[if_pos h,G.zs k c hk1 hk2 hc,G.zs j c hj1 hj2 hc,Int.mul_zero];rfl
   . rw[if_neg h];exact G.zs i c hi hN hc
 . have e:=Dn (f:=wt (j_ b p k j).A top p) (f':=wt b.A top p) (k:=k) hk2 fun i hi=>by unfold wt;rw[gi i hi]
   have w1:wt b.A top p k=2*(g b.A k p).natAbs:=by unfold wt;rw[if_pos ⟨hk1,hk3⟩]
   have w2:(1+(qn (g b.A k p) (g b.A j p)).natAbs)*wt (j_ b p k j).A top p k<=wt b.A top p k:=by
    rw[w1];unfold wt;rw[gk];by_cases h0:g b.A k p-qn (g b.A k p) (g b.A j p)*g b.A j p=0
    . rw[if_neg (fun z=>z.2 h0)];rw[if_neg (fun z=>z h0)]at hgrow;exact hgrow
    . rw[if_pos ⟨hk1,h0⟩];rw[if_pos h0]at hgrow;exact hgrow
   have hw:0<wt b.A top p k:=CD _ _ _ _;refine Nat.le_of_mul_le_mul_right (c:=wt b.A top p k) ?_ hw
   have s1:gr*(1+(qn (g b.A k p) (g b.A j p)).natAbs)*PR (wt (j_ b p k j).A top p) N*wt b.A top p k=gr*PR (wt b.A top p) N*((1+(qn (g b.A k p) (g b.A j p)).natAbs)*wt (j_ b p k j).A top p k):=by
    rw[Nat.mul_assoc _ (PR _ N),e];simp only[Nat.mul_assoc,Nat.mul_left_comm]
   rw[s1];exact Nat.mul_le_mul G.Oe w2
 . exact Nat.mul_pos G.pos (by omega)
 . rw[gk];omega
theorem tE.low{A0:Rows}{N w top p e gr:Nat}{b0 b:B3}(G:tE A0 N w top p (2^e) b0 b gr)(h0:jo b0.A N top (2^e)):2^e*gr<=2^((N-top+1)*(e+1)):=by
 have h1:gr<=PR (wt b0.A top p) N:=Nat.le_trans (Nat.le_mul_of_pos_right _ (Er (CD _ _ _) N)) G.Oe
 have h2:PR (wt b0.A top p) N<=(2^(e+1))^(N-top):=F9 Nat.one_le_two_pow (fun i _ ht=>by unfold wt;rw[if_neg (by omega)];exact Nat.le_refl _) fun i hi=>by
  unfold wt;split
  . rename_i h;have:=h0 i p h.1 hi;rw[Nat.pow_succ];omega
  . exact Nat.one_le_two_pow
 refine Nat.le_trans (Nat.mul_le_mul_left _ (Nat.le_trans h1 h2)) ?_;rw[<-Nat.pow_mul,<-Nat.pow_add];refine Nat.pow_le_pow_right (by decide) ?_;have e1:(N-top+1)*(e+1)=(e+1)*(N-top)+(e+1):=by rw[Nat.add_mul,Nat.one_mul,Nat.mul_comm]
 rw[e1];omega
structure jT(A0:Rows)(N w:Nat)(b:B3)(top p:Nat)(ld:Nat->Nat)(e u:Nat):Prop where
 tn:Tn A0 b.A b.U b.C N w
 le:top<=N
 lo:jo b.A N top (2^e)/\jo b.U N top (2^e)/\jo b.C N top (2^e)
 hi:∀i c,i<top->(g b.A i c).natAbs<=2^u/\(g b.U i c).natAbs<=2^u/\(g b.C i c).natAbs<=2^u
 zs:∀i c,top<=i->i<N->c<p->g b.A i c=0
 lead:∀i,i<top->ld i<p/\0<g b.A i (ld i)/\∀c,c<ld i->g b.A i c=0
 mono:∀i j,i<j->j<top->ld i<ld j
 red:∀i j,i<j->j<top->0<=g b.A i (ld j)/\g b.A i (ld j)<g b.A j (ld j)
theorem jT.Po{A0:Rows}{N w top p e u:Nat}{b:B3}{ld:Nat->Nat}(S:jT A0 N w b top p ld e u):tE A0 N w top p (2^e) b b 1:=
 ⟨S.tn,fun _ _=>⟨rfl,rfl,rfl⟩,by rw[Nat.mul_one];exact S.lo.1,by rw[Nat.mul_one];exact S.lo.2.1,by rw[Nat.mul_one];exact S.lo.2.2,S.zs,by rw[Nat.one_mul];exact Nat.le_refl _,Nat.le_refl _,.inl rfl⟩
theorem jT.skip{A0:Rows}{N w top p e u:Nat}{b:B3}{ld:Nat->Nat}(S:jT A0 N w b top p ld e u)(h:iq b.A N top p []):jT A0 N w b top (p+1) ld e u:=
 ⟨S.tn,S.le,S.lo,S.hi,fun i c h1 h2 h3=>by
  by_cases hc:c=p
  . subst hc;exact Classical.byContradiction fun z=>absurd ((h.mem i).mpr ⟨h1,h2,z⟩) (by simp)
  . exact S.zs i c h1 h2 (by omega),fun i hi=>⟨Nat.lt_succ_of_lt (S.lead i hi).1,(S.lead i hi).2⟩,S.mono,S.red⟩
def setB(b:B3)(p top r:Nat):B3:=
 if g (bO b.A top r) top p<0 then⟨gy (bO b.A top r) top,gy (bO b.U top r) top,gy (bO b.C top r) top⟩else⟨bO b.A top r,bO b.U top r,bO b.C top r⟩
theorem uz{X:Rows}{N w top r m:Nat}(hX:cS N w X)(ht:top<N)(hr:r<N)(hrt:top<=r)(h:jo X N top m):jo (bO X top r) N top m:=fun i c hi hN=>by
 rw[jQ hX ht hr];refine h _ c ?_ (rk ht hr hN);unfold sw;split
 . exact hrt
 . split
   . exact Nat.le_refl _
   . exact hi
theorem zj{X:Rows}{N w top m:Nat}(hX:cS N w X)(ht:top<N)(h:jo X N top m):jo (gy X top) N top m:=fun i c hi hN=>by
 rw[kg hX ht];split
 . rw[Int.natAbs_neg];exact h top c (Nat.le_refl _) ht
 . exact h i c hi hN
theorem uA{X:Rows}{N w top r i:Nat}(hX:cS N w X)(ht:top<N)(hr:r<N)(hrt:top<=r)(hi:i<top):(bO X top r).getD i []=X.getD i []:=by
 rw[z_ (by have:=hX.len;omega) (by have:=hX.len;omega)];unfold sw;rw[if_neg (by omega),if_neg (by omega)]
theorem ye{X:Rows}{N w top i:Nat}(hX:cS N w X)(ht:top<N)(hi:i<top):(gy X top).getD i []=X.getD i []:=by
 unfold gy;rw[lb (by have:=hX.len;omega),if_neg (by omega)]
structure we(A0:Rows)(N w top p m:Nat)(b0 b:B3):Prop where
 tn:Tn A0 b.A b.U b.C N w
 up:∀i,i<top->b.A.getD i []=b0.A.getD i []/\b.U.getD i []=b0.U.getD i []/\b.C.getD i []=b0.C.getD i []
 lo:jo b.A N top m/\jo b.U N top m/\jo b.C N top m
 zs:∀i c,top<=i->i<N->c<p->g b.A i c=0
 tp:0<g b.A top p
 z1:∀i,top<i->i<N->g b.A i p=0
theorem tE.set{A0:Rows}{N w top p m gr r:Nat}{b0 b:B3}(G:tE A0 N w top p m b0 b gr)(hL:iq b.A N top p [r]):we A0 N w top p (m*gr) b0 (setB b p top r)/\top<=r/\r<N:=by
 obtain⟨hr1,hr2,hr3⟩:=(hL.mem r).mp (by simp);have ht:top<N:=by omega
 have z:∀i,top<=i->i<N->i≠r->g b.A i p=0:=fun i h1 h2 h3=>Classical.byContradiction fun y=>h3 (by simpa using(hL.mem i).mpr ⟨h1,h2,y⟩);have swg:∀i c,g (bO b.A top r) i c=g b.A (sw top r i) c:=fun i c=>jQ G.tn.isA ht hr2 i c;have gt:g (bO b.A top r) top p=g b.A r p:=by rw[swg];unfold sw;rw[if_pos rfl]
 have T1:=G.tn.Hn ht hr2
 have z1:∀i,top<i->i<N->g (bO b.A top r) i p=0:=fun i h1 h2=>by
  rw[swg];unfold sw;rw[if_neg (by omega)];by_cases h:i=r
  . rw[if_pos h];exact z top (Nat.le_refl _) ht (by omega)
  . rw[if_neg h];exact z i (by omega) h2 h
 have zs:∀i c,top<=i->i<N->c<p->g (bO b.A top r) i c=0:=fun i c h1 h2 h3=>by
  rw[swg];refine G.zs _ c ?_ (rk ht hr2 h2) h3;unfold sw;split
  . exact hr1
  . split
    . exact Nat.le_refl _
    . exact h1
 have up:∀i,i<top->(bO b.A top r).getD i []=b0.A.getD i []/\(bO b.U top r).getD i []=b0.U.getD i []/\(bO b.C top r).getD i []=b0.C.getD i []:=fun i hi=>by
  obtain⟨a1,a2,a3⟩:=G.up i hi;exact⟨(uA G.tn.isA ht hr2 hr1 hi).trans a1,(uA G.tn.fm ht hr2 hr1 hi).trans a2,(uA G.tn.gj ht hr2 hr1 hi).trans a3⟩
 have lo:=And.intro (uz G.tn.isA ht hr2 hr1 G.lA) (And.intro (uz G.tn.fm ht hr2 hr1 G.lU) (uz G.tn.gj ht hr2 hr1 G.lC));refine⟨?_,hr1,hr2⟩;unfold setB;by_cases hs:g (bO b.A top r) top p<0
 . rw[if_pos hs];refine⟨T1.neg ht,fun i hi=>?_,⟨zj T1.isA ht lo.1,zj T1.fm ht lo.2.1,zj T1.gj ht lo.2.2⟩,fun i c h1 h2 h3=>?_,?_,fun i h1 h2=>?_⟩
   . obtain⟨a1,a2,a3⟩:=up i hi;exact⟨(ye T1.isA ht hi).trans a1,(ye T1.fm ht hi).trans a2,(ye T1.gj ht hi).trans a3⟩
   . show g (gy (bO b.A top r) top) i c=0;rw[kg T1.isA ht];split
     . rw[zs top c (Nat.le_refl _) ht h3];rfl
     . exact zs i c h1 h2 h3
   . show 0<g (gy (bO b.A top r) top) top p;rw[kg T1.isA ht,if_pos rfl];omega
   . show g (gy (bO b.A top r) top) i p=0;rw[kg T1.isA ht,if_neg (by omega)];exact z1 i h1 h2
 . rw[if_neg hs];exact⟨T1,up,lo,zs,by show 0<g (bO b.A top r) top p;rw[gt]at hs⊢;omega,z1⟩
def mG(p top:Nat):Nat->B3->B3
 |0,b=>b
 |k+1,b=>
  let c:=mG p top k b
  ⟨bX c.A k ((g c.A k p).fdiv (g c.A top p)) top,bX c.U k ((g c.A k p).fdiv (g c.A top p)) top,bX c.C top (-((g c.A k p).fdiv (g c.A top p))) k⟩
structure qp(A0:Rows)(N w top p e u:Nat)(b:B3)(k:Nat)(c:B3):Prop where
 tn:Tn A0 c.A c.U c.C N w
 rA:∀i,k<=i->c.A.getD i []=b.A.getD i []/\c.U.getD i []=b.U.getD i []
 rC:∀i,i≠top->c.C.getD i []=b.C.getD i []
 ah:∀i q,i<k->q<p->g c.A i q=g b.A i q
 rd:∀i,i<k->0<=g c.A i p/\g c.A i p<g c.A top p
 sz:∀i q,i<k->(g c.A i q).natAbs<=2^(u+e+1)/\(g c.U i q).natAbs<=2^(u+e+1)
 sC:∀q,(g c.C top q).natAbs<=2^e+k*2^(u+u)
theorem qD(a:Int){b:Int}(hb:0<b):(a.fdiv b).natAbs<=a.natAbs:=by
 have h1:=Int.mul_fdiv_add_fmod a b;have h2:=Int.fmod_nonneg_of_pos a hb;have h3:=Int.fmod_lt_of_pos a hb;generalize a.fdiv b=q at*;rcases Int.lt_trichotomy q 0 with h|h|h
 . have h4:0<=(b-1)*(-q-1):=Int.mul_nonneg (by omega) (by omega);have e:(b-1)*(-q-1)= -(b*q)-b+q+1:=by grind
   omega
 . subst h;simp
 . have:q<=b*q:=by
    have:0<=(b-1)*q:=Int.mul_nonneg (by omega) (by omega);grind
   omega
theorem qp.step{A0:Rows}{N w top p e u k:Nat}{b c:B3}(I:qp A0 N w top p e u b k c)(hk:k<top)(ht:top<N)(hp:p<w)(htp:0<g b.A top p)(hz:∀q,q<p->g b.A top q=0)
 (hlo:∀q,(g b.A top q).natAbs<=2^e/\(g b.U top q).natAbs<=2^e) (hhi:∀i q,i<top->(g b.A i q).natAbs<=2^u/\(g b.U i q).natAbs<=2^u/\(g b.C i q).natAbs<=2^u):
 qp A0 N w top p e u b (k+1) ⟨bX c.A k ((g c.A k p).fdiv (g c.A top p)) top,bX c.U k ((g c.A k p).fdiv (g c.A top p)) top,bX c.C top (-((g c.A k p).fdiv (g c.A top p))) k⟩:=by
 have hkN:k<N:=by omega
 have gA:∀i q,k<=i->g c.A i q=g b.A i q:=fun i q hi=>by unfold g;rw[(I.rA i hi).1]
 have gU:∀i q,k<=i->g c.U i q=g b.U i q:=fun i q hi=>by unfold g;rw[(I.rA i hi).2]
 have gC:∀i q,i≠top->g c.C i q=g b.C i q:=fun i q hi=>by unfold g;rw[I.rC i hi]
 have qe:((g c.A k p).fdiv (g c.A top p)).natAbs<=2^u:=by
  rw[gA k p (Nat.le_refl _),gA top p (by omega)];exact Nat.le_trans (qD _ htp) (hhi k p hk).1
 have hq:∀x:Int,x.natAbs<=2^e->((g c.A k p).fdiv (g c.A top p)*x).natAbs<=2^(u+e):=fun x hx=>by
  rw[Int.natAbs_mul,Nat.pow_add];exact Nat.mul_le_mul qe hx
 have le1:2^u<=2^(u+e):=Nat.pow_le_pow_right (by decide) (by omega);refine⟨I.tn.take hkN ht (by omega),fun i hi=>?_,fun i hi=>?_,fun i q hi hqp=>?_,fun i hi=>?_,fun i q hi=>?_,fun q=>?_⟩
 . exact⟨(j6 (by rw[I.tn.isA.len];exact hkN) (by omega)).trans (I.rA i (by omega)).1,(j6 (by rw[I.tn.fm.len];exact hkN) (by omega)).trans (I.rA i (by omega)).2⟩
 . exact(j6 (by rw[I.tn.gj.len];exact ht) hi).trans (I.rC i hi)
 . show g (bX c.A k _ top) i q=_;rw[fx I.tn.isA hkN ht];split
   . rename_i h;rw[gA top q (by omega),hz q hqp,Int.mul_zero,gA k q (Nat.le_refl _),h];omega
   . exact I.ah i q (by omega) hqp
 . show 0<=g (bX c.A k _ top) i p/\g (bX c.A k _ top) i p<g (bX c.A k _ top) top p;rw[fx I.tn.isA hkN ht,fx I.tn.isA hkN ht,if_neg (show¬top=k by omega)];split
   . have h1:=Int.mul_fdiv_add_fmod (g c.A k p) (g c.A top p);have htp':0<g c.A top p:=by rw[gA top p (by omega)];exact htp
     have h2:=Int.fmod_nonneg_of_pos (g c.A k p) htp';have h3:=Int.fmod_lt_of_pos (g c.A k p) htp';rw[Int.mul_comm]at h1;omega
   . exact I.rd i (by omega)
 . show(g (bX c.A k _ top) i q).natAbs<=_/\(g (bX c.U k _ top) i q).natAbs<=_;rw[fx I.tn.isA hkN ht,fx I.tn.fm hkN ht];split
   . have a1:=hq (g c.A top q) (by rw[gA top q (by omega)];exact(hlo q).1);have a2:=hq (g c.U top q) (by rw[gU top q (by omega)];exact(hlo q).2);rw[gA k q (Nat.le_refl _),gU k q (Nat.le_refl _)];have b1:=(hhi k q hk).1;have b2:=(hhi k q hk).2.1;rw[Nat.pow_succ];omega
   . exact I.sz i q (by omega)
 . show(g (bX c.C top _ k) top q).natAbs<=_;rw[fx I.tn.gj ht hkN,if_pos rfl,gC k q (by omega),Int.neg_mul];have a1:=I.sC q
   have a2:((g c.A k p).fdiv (g c.A top p)*g b.C k q).natAbs<=2^(u+u):=by
    rw[Int.natAbs_mul,Nat.pow_add];exact Nat.mul_le_mul qe (hhi k q hk).2.2
   rw[Nat.add_mul,Nat.one_mul];omega
theorem qp.start{A0:Rows}{N w top p e u:Nat}{b:B3}(T:Tn A0 b.A b.U b.C N w)(h:∀q,(g b.C top q).natAbs<=2^e):qp A0 N w top p e u b 0 b:=
 ⟨T,fun _ _=>⟨rfl,rfl⟩,fun _ _=>rfl,fun _ _ h=>absurd h (Nat.not_lt_zero _),fun _ h=>absurd h (Nat.not_lt_zero _),fun _ _ h=>absurd h (Nat.not_lt_zero _),fun q=>by rw[Nat.zero_mul];exact h q⟩
theorem we.next{A0:Rows}{N w top p e u e' u':Nat}{b0 b c:B3}{ld:Nat->Nat}(S:jT A0 N w b0 top p ld e u)(s:we A0 N w top p (2^e') b0 b)(ht:top<N)(I:qp A0 N w top p e' u b top c)(hN:N<=8)
 (h1:u+e'+1<=u') (h2:u+u+4<=u'):jT A0 N w c (top+1) (p+1) (fun i=>if i=top then p else ld i) e' u':=by
 have hup:∀i q,i<top->g b.A i q=g b0.A i q:=fun i q hi=>by unfold g;rw[(s.up i hi).1]
 have hA:∀i q,top<=i->g c.A i q=g b.A i q:=fun i q hi=>by unfold g;rw[(I.rA i hi).1]
 have hU:∀i q,top<=i->g c.U i q=g b.U i q:=fun i q hi=>by unfold g;rw[(I.rA i hi).2]
 have hC:∀i q,i≠top->g c.C i q=g b.C i q:=fun i q hi=>by unfold g;rw[I.rC i hi]
 have le:∀ {a x:Nat},a<=2^x->x<=u'->a<=2^u':=fun h hx=>Nat.le_trans h (Nat.pow_le_pow_right (by decide) hx);refine⟨I.tn,ht,⟨fun i q hi hN=>?_,fun i q hi hN=>?_,fun i q hi hN=>?_⟩,fun i q hi=>?_,fun i q hi hN hq=>?_,fun i hi=>?_,fun i j hij hj=>?_,fun i j hij hj=>?_⟩
 . rw[hA i q (by omega)];exact s.lo.1 i q (by omega) hN
 . rw[hU i q (by omega)];exact s.lo.2.1 i q (by omega) hN
 . rw[hC i q (by omega)];exact s.lo.2.2 i q (by omega) hN
 . by_cases h:i=top
   . subst h;refine⟨?_,?_,?_⟩
     . rw[hA i q (Nat.le_refl _)];exact le (s.lo.1 i q (Nat.le_refl _) ht) (by omega)
     . rw[hU i q (Nat.le_refl _)];exact le (s.lo.2.1 i q (Nat.le_refl _) ht) (by omega)
     . have h3:=I.sC q;have h4:i*2^(u+u)<=2^(u+u+3):=by rw[Nat.pow_add _ _ 3,Nat.mul_comm];exact Nat.mul_le_mul_left _ (by omega)
       have h5:2^(u+u+3)*2<=2^u':=by rw[<-Nat.pow_succ];exact Nat.pow_le_pow_right (by decide) h2
       have h6:2^e'*2<=2^u':=by rw[<-Nat.pow_succ];exact Nat.pow_le_pow_right (by decide) (by omega)
       omega
   . have hi':i<top:=by omega
     refine⟨le (I.sz i q hi').1 h1,le (I.sz i q hi').2 h1,?_⟩;rw[hC i q h];have:g b.C i q=g b0.C i q:=by unfold g;rw[(s.up i hi').2.2]
     rw[this];exact le (S.hi i q hi').2.2 (by omega)
 . rw[hA i q (by omega)];by_cases h:q=p
   . rw[h];exact s.z1 i (by omega) hN
   . exact s.zs i q (by omega) hN (by omega)
 . by_cases h:i=top
   . subst h;rw[if_pos rfl];refine⟨Nat.lt_succ_self p,?_,fun q hq=>?_⟩
     . rw[hA i p (Nat.le_refl _)];exact s.tp
     . rw[hA i q (Nat.le_refl _)];exact s.zs i q (Nat.le_refl _) ht hq
   . have hi':i<top:=by omega
     rw[if_neg h];obtain⟨a1,a2,a3⟩:=S.lead i hi';refine⟨Nat.lt_succ_of_lt a1,?_,fun q hq=>?_⟩
     . rw[I.ah i _ hi' a1,hup i _ hi'];exact a2
     . rw[I.ah i _ hi' (Nat.lt_trans hq a1),hup i _ hi'];exact a3 q hq
 . by_cases h:j=top
   . rw[if_pos h,if_neg (by omega)];exact(S.lead i (by omega)).1
   . rw[if_neg h,if_neg (by omega)];exact S.mono i j hij (by omega)
 . by_cases h:j=top
   . subst h;rw[if_pos rfl];exact I.rd i hij
   . have hj':j<top:=by omega
     rw[if_neg h];have:=S.red i j hij hj';have hl:=(S.lead j hj').1;rw[I.ah i _ (by omega) hl,I.ah j _ hj' hl,hup i _ (by omega),hup j _ hj'];exact this
theorem Tn.start{A:Rows}{N w:Nat}(hA:cS N w A):Tn A A (units N) (units N) N w where
 isA:=hA
 fm:=nG N
 gj:=nG N
 ua:=fun i c hi hc=>by
  rw[<-pH hi fun k=>g A k c];exact aL fun m hm=>by rw[jE hi hm]
 ub:=fun i j hi hj=>by
  rw[vL i j,<-pH hi fun k=>dl j k]
  . exact aL fun m hm=>by rw[jE hi hm,jE hj hm]
 bu:=fun i j hi hj=>by
  rw[<-sr hi fun k=>dl k j];exact aL fun m hm=>by rw[jE hm hi,jE hm hj,Int.mul_comm]
theorem jT.start{A:Rows}{N w e:Nat}(hA:cS N w A)(h:jo A N 0 (2^e)):jT A N w ⟨A,units N,units N⟩ 0 0 (fun _=>0) e 0:=by
 have hu:jo (units N) N 0 (2^e):=fun i c _ hi=>by
  by_cases hc:c<N
  . rw[jE hi hc];unfold dl;split
    . exact Nat.one_le_two_pow
    . exact Nat.zero_le _
  . unfold g;rw[nz (l:=(units N).getD i []) (by rw[cV (nG N) hi];omega)];exact Nat.zero_le _
 exact⟨Tn.start hA,Nat.zero_le _,⟨h,hu,hu⟩,fun _ _ h=>absurd h (Nat.not_lt_zero _),fun _ _ _ _ h=>absurd h (Nat.not_lt_zero _),fun _ h=>absurd h (Nat.not_lt_zero _),fun _ _ _ h=>absurd h (Nat.not_lt_zero _),fun _ _ _ h=>absurd h (Nat.not_lt_zero _)⟩
def SU(f:Nat->Nat):Nat->Nat
 |0=>0
 |n+1=>SU f n+f n
theorem GN{f f':Nat->Nat}:∀ {n:Nat},(∀i,i<n->f' i<=f i)->SU f' n<=SU f n
 |0,_=>Nat.le_refl _
 |n+1,h=>Nat.add_le_add (GN fun i hi=>h i (Nat.lt_succ_of_lt hi)) (h n (Nat.lt_succ_self n))
theorem Gg{f f':Nat->Nat}{k:Nat}(hlt:f' k<f k):∀ {n:Nat},k<n->(∀i,i<n->f' i<=f i)->SU f' n<SU f n
 |0,hk,_=>absurd hk (Nat.not_lt_zero _)
 |n+1,hk,h=>by
  by_cases e:k=n
  . subst e;exact Nat.add_lt_add_of_le_of_lt (GN fun i hi=>h i (Nat.lt_succ_of_lt hi)) hlt
  . exact Nat.add_lt_add_of_lt_of_le (Gg hlt (by omega) fun i hi=>h i (Nat.lt_succ_of_lt hi)) (h n (Nat.lt_succ_self n))
def mu(A:Rows)(N p:Nat):Nat:=SU (fun i=>(g A i p).natAbs) N
inductive Ax(N p:Nat):Nat->B3->Nat->B3->Prop
 |none {top:Nat} {b:B3} (h:iq b.A N top p []):Ax N p top b top b
 |one {top r:Nat} {b c:B3} (h:gb N top p b c) (l:iq c.A N top p [r]):Ax N p top b (top+1) (mG p top top (setB c p top r))
theorem Ax.unique{N p t t1 t2:Nat}{b b1 b2:B3}(h:Ax N p t b t1 b1)(h':Ax N p t b t2 b2):t1=t2/\b1=b2:=by
 have no:∀ {c:B3} {r:Nat},iq b.A N t p []->gb N t p b c->iq c.A N t p [r]->False:=fun{c r} h g l=>by
  cases g with
  |refl=>have:=h.unique l;cases this
  |head s _=>exact vk.stop ⟨[],h,by simp⟩ s
 cases h with
 |none h=>
  cases h' with
  |none _=>exact⟨rfl,rfl⟩
  |one g l=>exact(no h g l).elim
 |one g l=>
  cases h' with
  |none h=>exact(no h g l).elim
  |one g' l'=>
   have e:=g.unique ⟨_,l,by simp⟩ g' ⟨_,l',by simp⟩;subst e;have e2:=l.unique l';cases e2;exact⟨rfl,rfl⟩
inductive nQ(A:Rows)(N:Nat):Nat->Nat->B3->Prop
 |start:nQ A N 0 0 ⟨A,units N,units N⟩
 |next {p t t':Nat} {b b':B3} (h:nQ A N p t b) (c:Ax N p t b t' b'):nQ A N (p+1) t' b'
theorem nQ.unique{A:Rows}{N:Nat}:∀ {p t1 t2:Nat} {b1 b2:B3},nQ A N p t1 b1->nQ A N p t2 b2->t1=t2/\b1=b2
 |0,_,_,_,_,.start,.start=>⟨rfl,rfl⟩
 |p+1,_,_,_,_,.next h c,.next h' c'=>by
  obtain⟨rfl,rfl⟩:=nQ.unique h h';exact c.unique c'
def Ez(N e0:Nat):Nat->Nat
 |0=>e0
 |t+1=>(N-t+1)*(Ez N e0 t+1)
def Vz(N e0:Nat):Nat->Nat
 |0=>0
 |t+1=>Vz N e0 t+Vz N e0 t+Ez N e0 (t+1)+5
theorem OZ:∀N,N<9->∀t,t<N+1->Ez N 48 t<=50000000/\Vz N 48 t<=60000000:=by decide+kernel
def mM(X:Rows)(n w:Nat)(v:Nat->Int):Prop:=∃z:Nat->Int,∀c,c<w->v c=S n fun k=>z k*g X k c
theorem mM.row{X:Rows}{n w k:Nat}(hk:k<n):mM X n w (g X k):=⟨fun i=>dl k i,fun c _=>(pH hk fun i=>g X i c).symm⟩
structure fC(X:Rows)(n w:Nat)(ld:Nat->Nat):Prop where
 lead:∀i,i<n->ld i<w/\0<g X i (ld i)/\∀c,c<ld i->g X i c=0
 mono:∀i j,i<j->j<n->ld i<ld j
theorem fC.inj{X:Rows}{n w:Nat}{ld:Nat->Nat}(s:fC X n w ld){i j:Nat}(hi:i<n)(hj:j<n)(h:ld i=ld j):i=j:=by
 rcases Nat.lt_trichotomy i j with q|q|q
 . exact absurd h (Nat.ne_of_lt (s.mono i j q hj))
 . exact q
 . exact absurd h.symm (Nat.ne_of_lt (s.mono j i q hi))
def nl(A:Rows)(N t p:Nat):Nat:=SU (fun i=>if t<=i/\g A i p≠0 then 1 else 0) N
theorem pE{X:Rows}{n i q:Nat}(h:i<n):g (X.take n) i q=g X i q:=by
 unfold g;rw[List.getD_eq_getElem?_getD (l:=X.take n),List.getD_eq_getElem?_getD (l:=X),List.getElem?_take_of_lt h]
theorem mM.OF{X:Rows}{n w:Nat}{u v:Nat->Int}(x:Int)(hu:mM X n w u)(hv:mM X n w v):mM X n w fun c=>u c+x*v c:=by
 obtain⟨y,hy⟩:=hu;obtain⟨z,hz⟩:=hv;refine⟨fun k=>y k+x*z k,fun c hc=>?_⟩;show u c+x*v c=S n fun k=>(y k+x*z k)*g X k c;rw[hy c hc,hz c hc,<-fk,<-jw];exact aL fun k _=>by rw[Int.add_mul,Int.mul_assoc]
theorem mM.eq{X:Rows}{n w:Nat}{u v:Nat->Int}(hu:mM X n w u)(h:∀c,c<w->v c=u c):mM X n w v:=by
 obtain⟨y,hy⟩:=hu;exact⟨y,fun c hc=>(h c hc).trans (hy c hc)⟩
theorem mM.zero{X:Rows}{n w:Nat}{v:Nat->Int}(h:∀c,c<w->v c=0):mM X n w v:=
 ⟨fun _=>0,fun c hc=>by rw[h c hc,pA fun k _=>Int.zero_mul _]⟩
theorem pJ{X:Rows}{r:Row}{k:Nat}(hk:k<=X.length)(i:Nat):(X.take k++r::X.drop k).getD i []=if i<k then X.getD i []else if i=k then r else X.getD (i-1) []:=by
 have lt:(X.take k).length=k:=by rw[List.length_take];omega
 rw[List.getD_eq_getElem?_getD,List.getD_eq_getElem?_getD,List.getD_eq_getElem?_getD];by_cases h:i<k
 . rw[if_pos h,List.getElem?_append_left (by rw[lt];exact h),List.getElem?_take_of_lt h]
 . rw[if_neg h,List.getElem?_append_right (by rw[lt];omega),lt];by_cases h2:i=k
   . rw[if_pos h2,h2,Nat.sub_self];rfl
   . rw[if_neg h2];have:i-k=(i-1-k)+1:=by omega
     rw[this,List.getElem?_cons_succ,List.getElem?_drop];congr 2;omega
structure pq(F:Rows)(w:Nat)(ld:Nat->Nat)(row:Nat->Int)(i:Nat)(o:Int)(L:Nat->Int):Prop where
 pos:0<o
 sum:mM F i w fun c=>o*row c-L c
 off:∀k,k<i->L (ld k)=0
 least:∀(m:Int) (v:Nat->Int),mM F i w v->(∀k,k<i->m*row (ld k)=v (ld k))->o∣m
structure zD(F:Rows)(n w:Nat)(ld:Nat->Nat)(row:Nat->Int)(i:Nat)(L:Nat->Int):Prop where
 sum:mM F n w fun c=>row c-L c
 red:∀k,k<i->0<=L (ld k)/\L (ld k)<g F k (ld k)
theorem zD.start{F:Rows}{n w:Nat}{ld:Nat->Nat}{row:Nat->Int}:zD F n w ld row 0 row:=⟨mM.zero fun c _=>Int.sub_self _,fun _ h=>absurd h (Nat.not_lt_zero _)⟩
theorem zD.step{F:Rows}{n w i:Nat}{ld:Nat->Nat}{row L:Nat->Int}(s:fC F n w ld)(hi:i<n)(f:zD F n w ld row i L):zD F n w ld row (i+1) fun c=>L c-(L (ld i)).fdiv (g F i (ld i))*g F i c:=by
 obtain⟨l1,l2,l3⟩:=s.lead i hi;refine⟨(f.sum.OF ((L (ld i)).fdiv (g F i (ld i))) (mM.row hi)).eq fun c _=>by omega,fun k hk=>?_⟩;show 0<=L (ld k)-_*g F i (ld k)/\L (ld k)-_*g F i (ld k)<_;rcases Nat.lt_or_ge k i with h|h
 . rw[l3 _ (s.mono k i h hi),Int.mul_zero,Int.sub_zero];exact f.red k h
 . have:k=i:=Nat.le_antisymm (Nat.le_of_lt_succ hk) h;subst this;have e:=Int.fmod_add_mul_fdiv (L (ld k)) (g F k (ld k));have a:=Int.fmod_nonneg_of_pos (L (ld k)) l2;have b:=Int.fmod_lt_of_pos (L (ld k)) l2;rw[Int.mul_comm]at e;omega
theorem zK{K m:Nat}:∀ {n:Nat} {M:Fn},n<=K->(∀r c,r<n->c<n->(M r c).natAbs<=m)->(D n M).natAbs<=(K*m)^n
 |0,_,_,_=>by simp[D]
 |n+1,M,hn,h=>by
  rw[dG]
  have key:∀j,j<n+1->(sg j*M 0 j*D n fun r c=>M (r+1) (sk j c)).natAbs<=m*(K*m)^n:=fun j hj=>by
   have a:=zK (K:=K) (m:=m) (n:=n) (M:=fun r c=>M (r+1) (sk j c)) (by omega) fun r c hr hc=>h (r+1) (sk j c) (by omega) (kC hc);have b:=h 0 j (by omega) hj;have s:(sg j).natAbs=1:=by unfold sg;split<;>rfl
   rw[Int.natAbs_mul,Int.natAbs_mul,s,Nat.one_mul];exact Nat.mul_le_mul b a
  refine Nat.le_trans (GZ key) ?_;rw[Nat.pow_succ,Nat.mul_comm ((K*m)^n),Nat.mul_assoc];exact Nat.mul_le_mul_right _ hn
theorem pick{t N:Nat}{U B:Fn}(h:∀k l,k<t->l<t->S N (fun i=>U k i*B i l)=dl k l):∃I:Nat->Nat,(∀k,k<t->I k<N)/\D t (fun k l=>B (I k) l)≠0:=by
 apply Classical.byContradiction;intro no
 have go:∀s,s<=t->∀I:Nat->Nat,(∀k,k<t->s<=k->I k<N)->D t (fun k l=>if k<s then dl k l else B (I k) l)=0:=by
  intro s;induction s with
  |zero=>
   intro _ I hI;exact Classical.byContradiction fun z=>no ⟨I,fun k hk=>hI k hk (Nat.zero_le _),z⟩
  |succ s ih=>
   intro hs I hI
   have e:D t (fun k l=>if k<s+1 then dl k l else B (I k) l)=D t (upd (fun k l=>if k<s then dl k l else B (I k) l) s fun l=>S N fun j=>U s j*B j l):=dg fun k l hk hl=>by
    unfold upd;by_cases h1:k=s
    . subst h1;rw[if_pos rfl,if_pos (Nat.lt_succ_self _)];exact(h k l hk hl).symm
    . rw[if_neg h1];show _=if k<s then dl k l else B (I k) l
      by_cases h2:k<s
      . rw[if_pos (by omega),if_pos h2]
      . rw[if_neg (by omega),if_neg h2]
   rw[e,(sU t).vc (by omega)];refine pA fun j hj=>?_
   have e2:=ih (by omega) (fun k=>if k=s then j else I k) fun k hk hsk=>by
    by_cases h1:k=s
    . rw[if_pos h1];exact hj
    . rw[if_neg h1];exact hI k hk (by omega)
   have e3:D t (upd (fun k l=>if k<s then dl k l else B (I k) l) s (B j))=D t (fun k l=>if k<s then dl k l else B (if k=s then j else I k) l):=dg fun k l hk hl=>by
    unfold upd;by_cases h1:k=s
    . subst h1;rw[if_pos rfl,if_neg (Nat.lt_irrefl _),if_pos rfl]
    . rw[if_neg h1,if_neg h1]
   rw[e3,e2,Int.mul_zero]
 have z:=go t (Nat.le_refl _) (fun _=>0) fun k h1 h2=>absurd h1 (Nat.not_lt.mpr h2);rw[dg (M':=dl) fun r c hr hc=>if_pos hr,wG]at z;exact absurd z (by decide)
theorem yM:∀ {n:Nat} {f:Nat->Int},(∀i,i<n->0<f i)->0<Pr n f
 |0,_,_=>show(0:Int)<1 by decide
 |n+1,f,h=>Int.mul_pos (yM fun i hi=>h i (Nat.lt_succ_of_lt hi)) (h n (Nat.lt_succ_self n))
theorem GJ:∀ {n:Nat} {f:Nat->Int},(∀i,i<n->0<f i)->∀k,k<n->f k<=Pr n f
 |n+1,f,h,k,hk=>by
  have p:=yM fun i hi=>h i (Nat.lt_succ_of_lt hi);have q:=h n (Nat.lt_succ_self n);show f k<=Pr n f*f n;by_cases e:k=n
  . subst e;have:=Int.mul_le_mul_of_nonneg_right (show(1:Int)<=Pr k f from p) (Int.le_of_lt q);omega
  . have a:=GJ (fun i hi=>h i (Nat.lt_succ_of_lt hi)) k (by omega);have:=Int.mul_le_mul_of_nonneg_left (show(1:Int)<=f n from q) (Int.le_of_lt p);omega
theorem uW{w x:Int}{m:Nat}(hw:w≠0)(h:(w*x).natAbs<=m):x.natAbs<=m:=by
 rw[Int.natAbs_mul]at h;exact Nat.le_trans (Nat.le_mul_of_pos_left _ (by omega)) h
theorem D2{b i j:Nat}(h:1<=b)(l:i<=j):(9*b)^i<=(9*b)^j:=Nat.pow_le_pow_right (by omega) l
theorem E8{A F U B:Fn}{N w t b:Nat}{ld:Nat->Nat}(t8:t<=8)(b1:1<=b)(hA:∀i c,i<N->c<w->(A i c).natAbs<=b)(hAF:∀i c,i<N->c<w->A i c=S t fun k=>B i k*F k c)(hUB:∀k l,k<t->l<t->S N (fun i=>U k i*B i l)=dl k l)(lead:∀i,i<t->ld i<w/\0<F i (ld i)/\∀c,c<ld i->F i c=0)(mono:∀i j,i<j->j<t->ld i<ld j)(red:∀i j,i<j->j<t->0<=F i (ld j)/\F i (ld j)<F j (ld j)):
 Pr t (fun i=>F i (ld i))<=((9*b)^8:Nat)/\∀k c,k<t->c<w->(F k c).natAbs<=8*((9*b)^9*(9*b)^8):=by
 obtain⟨I,hI,hw⟩:=pick hUB;have eE:D t (fun k l=>F k (ld l))=Pr t fun i=>F i (ld i):=OB fun r c hr hc h=>(lead r hr).2.2 _ (mono c r h hr);have pos:0<Pr t fun i=>F i (ld i):=yM fun i hi=>(lead i hi).2.1
 have eM:D t (fun k l=>A (I k) (ld l))=D t (fun k l=>B (I k) l)*D t fun k l=>F k (ld l):=by
  rw[<-Gv];exact dg fun k l hk hl=>hAF _ _ (hI k hk) (lead l hl).1
 have bM:(D t (fun k l=>A (I k) (ld l))).natAbs<=(9*b)^t:=zK (K:=9) (by omega) fun r c hr hc=>hA _ _ (hI r hr) (lead c hc).1;rw[eM,eE]at bM;have bP:(Pr t fun i=>F i (ld i)).natAbs<=(9*b)^8:=Nat.le_trans (uW hw bM) (D2 b1 t8);refine⟨by omega,fun k c hk hc=>?_⟩
 have bF:∀l,l<t->(F k (ld l)).natAbs<=(9*b)^8:=fun l hl=>by
  have p:=GJ (f:=fun i=>F i (ld i)) (fun i hi=>(lead i hi).2.1) l hl;rcases Nat.lt_trichotomy k l with h|h|h
  . have:=red k l h hl;have p':F l (ld l)<=Pr t fun i=>F i (ld i):=p;omega
  . subst h;have q:=(lead k hk).2.1;have p':F k (ld k)<=Pr t fun i=>F i (ld i):=p;omega
  . rw[(lead k hk).2.2 _ (mono l k h hk)];exact Nat.zero_le _
 have e0:=MD (fun l k=>F k (ld l)) t (fun k=>F k c) k;rw[LZ hk]at e0;have eT:D t (fun l k=>F k (ld l))=Pr t fun i=>F i (ld i):=by rw[<-eE];exact yf t fun k l=>F k (ld l)
 rw[eT]at e0
 have bB:∀l,l<t->(D t (fun k l=>B (I k) l)*bt (fun l k=>F k (ld l)) t (fun k=>F k c) l).natAbs<=(9*b)^9:=fun l hl=>by
  have eW:D (t+1) (fun i k=>if i=t then dl t k else if k=t then 0 else B (I i) k)=D t fun k l=>B (I k) l:=by
   rw[zi fun c _=>if_pos rfl];exact dg fun r c hr hc=>by rw[if_neg (by omega),if_neg (by omega)]
  have eX:D (t+1) (upd (fun i r=>if r<t then A (I i) (ld r)else A (I i) c) t (dl l))=D t (fun k l=>B (I k) l)*bt (fun l k=>F k (ld l)) t (fun k=>F k c) l:=by
   unfold bt;rw[<-eW,<-Gv];refine dg fun i r hi hr=>?_;by_cases h:i=t
   . subst h;rw[cD];have:(S (i+1) fun k=>(if i=i then dl i k else if k=i then 0 else B (I i) k)*upd (fun c_1 r=>if r<i then F c_1 (ld r)else F c_1 c) i (dl l) k r)=S (i+1) fun k=>dl i k*upd (fun c_1 r=>if r<i then F c_1 (ld r)else F c_1 c) i (dl l) k r:=aL fun k _=>by rw[if_pos rfl]
     rw[this,pH (Nat.lt_succ_self i),cD]
   . have hi':i<t:=by omega
     rw[aA h];show _=(S t fun k=>(if i=t then dl t k else if k=t then 0 else B (I i) k)*upd (fun c_1 r=>if r<t then F c_1 (ld r)else F c_1 c) t (dl l) k r)+(if i=t then dl t t else if t=t then 0 else B (I i) t)*upd (fun c_1 r=>if r<t then F c_1 (ld r)else F c_1 c) t (dl l) t r;have z:(if i=t then dl t t else if t=t then 0 else B (I i) t)*upd (fun c_1 r=>if r<t then F c_1 (ld r)else F c_1 c) t (dl l) t r=0:=by rw[if_neg h,if_pos rfl,Int.zero_mul]
     rw[z,Int.add_zero]
     have e2:∀k,k<t->(if i=t then dl t k else if k=t then 0 else B (I i) k)*upd (fun c_1 r=>if r<t then F c_1 (ld r)else F c_1 c) t (dl l) k r=B (I i) k*(if r<t then F k (ld r)else F k c):=fun k hk=>by
      rw[if_neg h,if_neg (by omega),aA (by omega)]
     rw[aL e2];by_cases hrt:r<t
     . rw[if_pos hrt,hAF _ _ (hI i hi') (lead r hrt).1];exact aL fun k _=>by rw[if_pos hrt]
     . rw[if_neg hrt,hAF _ _ (hI i hi') hc];exact aL fun k _=>by rw[if_neg hrt]
  rw[<-eX];refine Nat.le_trans (zK (K:=9) (by omega) fun r q hr hq=>?_) (D2 b1 (show t+1<=9 by omega));by_cases h:r=t
  . subst h;rw[cD];unfold dl;split<;>omega
  . rw[aA h];have hr':r<t:=by omega
    split
    . rename_i hq';exact hA _ _ (hI r hr') (lead q hq').1
    . exact hA _ _ (hI r hr') hc
 have e1:D t (fun k l=>B (I k) l)*(Pr t fun i=>F i (ld i))*F k c= -S t fun l=>(D t (fun k l=>B (I k) l)*bt (fun l k=>F k (ld l)) t (fun k=>F k c) l)*F k (ld l):=by
  have:(S t fun l=>(D t (fun k l=>B (I k) l)*bt (fun l k=>F k (ld l)) t (fun k=>F k c) l)*F k (ld l))=D t (fun k l=>B (I k) l)*S t fun l=>bt (fun l k=>F k (ld l)) t (fun k=>F k c) l*F k (ld l):=by
   rw[<-fk];exact aL fun l _=>Int.mul_assoc _ _ _
  rw[this,Int.mul_assoc,<-Int.mul_neg];congr 1;omega
 refine uW (w:=D t (fun k l=>B (I k) l)*(Pr t fun i=>F i (ld i))) (Int.mul_ne_zero hw (Int.ne_of_gt pos)) ?_;rw[e1,Int.natAbs_neg];refine Nat.le_trans (GZ fun l hl=>?_) (Nat.mul_le_mul_right _ t8);rw[Int.natAbs_mul];exact Nat.mul_le_mul (bB l hl) (bF l hl)
theorem jT.back{A0:Rows}{N w top e u:Nat}{c:B3}{ld:Nat->Nat}(H:jT A0 N w c top w ld e u){i q:Nat}(hi:i<N)(hq:q<w):g A0 i q=S top fun k=>g c.C k i*g c.A k q:=by
 have T:=H.tn
 have e1:S N (fun k=>g c.C k i*g c.A k q)=g A0 i q:=by
  have:S N (fun k=>g c.C k i*g c.A k q)=S N fun k=>S N fun m=>g c.C k i*g c.U k m*g A0 m q:=aL fun k hk=>by
   rw[T.ua k q hk hq,<-fk];exact aL fun m _=>(Int.mul_assoc _ _ _).symm
  rw[this,vq];have:(S N fun m=>S N fun k=>g c.C k i*g c.U k m*g A0 m q)=S N fun m=>dl i m*g A0 m q:=aL fun m hm=>by rw[D_,T.bu i m hi hm]
  rw[this,pH hi]
 have cut:∀n,top<=n->n<=N->S n (fun k=>g c.C k i*g c.A k q)=S top fun k=>g c.C k i*g c.A k q:=fun n=>by
  induction n with
  |zero=>intro h _;rw[Nat.le_zero.mp h]
  |succ n ih=>
   intro h h2;by_cases e:top=n+1
   . rw[e]
   . show S n _+g c.C n i*g c.A n q=_;rw[ih (by omega) (by omega),H.zs n q (by omega) (by omega) hq,Int.mul_zero,Int.add_zero]
 rw[<-e1,cut N H.le (Nat.le_refl _)]
theorem jT.small{A0:Rows}{N w top e u b:Nat}{c:B3}{ld:Nat->Nat}(H:jT A0 N w c top w ld e u)(hN:N<=8)(b1:1<=b)(hA:∀i c,i<N->c<w->(g A0 i c).natAbs<=b):
 Pr top (fun i=>g c.A i (ld i))<=((9*b)^8:Nat)/\∀k q,k<top->q<w->(g c.A k q).natAbs<=8*((9*b)^9*(9*b)^8):=
 E8 (A:=g A0) (F:=g c.A) (U:=g c.U) (B:=fun i k=>g c.C k i) (Nat.le_trans H.le hN) b1 hA (fun i q hi hq=>H.back hi hq) (fun k l hk hl=>H.tn.ub k l (Nat.lt_of_lt_of_le hk H.le) (Nat.lt_of_lt_of_le hl H.le)) H.lead H.mono H.red
def cZ(F:Rows)(i:Nat):Nat:=(F.getD i []).findIdx (fun x=>x != 0)
theorem vb:∀ {r:Row} {l:Nat},(∀c,c<l->r.getD c 0=0)->r.getD l 0≠0->r.findIdx (fun x=>x != 0)=l
 | [],l,_,h=>(h rfl).elim
 |x::r,0,_,h=>by
  have h':(x != 0)=true:=bne_iff_ne.mpr h;rw[List.findIdx_cons,h'];rfl
 |x::r,l+1,hz,h=>by
  have x0:(x != 0)=false:=bne_eq_false_iff_eq.mpr (hz 0 (Nat.zero_lt_succ _));rw[List.findIdx_cons,x0,vb (r:=r) (l:=l) (fun c hc=>hz (c+1) (Nat.succ_lt_succ hc)) h];rfl
theorem fC.cZ{F:Rows}{n w:Nat}{ld:Nat->Nat}(s:fC F n w ld){i:Nat}(hi:i<n):Mx.cZ F i=ld i:=by
 obtain⟨_,h2,h3⟩:=s.lead i hi;exact vb h3 (Int.ne_of_gt h2)
theorem fC.Pw{F:Rows}{n w:Nat}{ld:Nat->Nat}(s:fC F n w ld):fC F n w (Mx.cZ F):=
 ⟨fun i hi=>by rw[s.cZ hi];exact s.lead i hi,fun i j h hj=>by rw[s.cZ hj,s.cZ (Nat.lt_trans h hj)];exact s.mono i j h hj⟩
def tN(F:Rows)(L:Row)(i:Nat):Int:=(L.getD (cZ F i) 0).fdiv (g F i (cZ F i))
def eZ(F:Rows)(r:Row):Nat->Row
 |0=>r
 |i+1=>eH (eZ F r i) (-(tN F (eZ F r i) i)) (F.getD i [])
def tO(F:Rows)(r:Row)(n:Nat):Row:=(List.range n).map fun i=>tN F (eZ F r i) i
section
variable {F:Rows}{r:Row}{m w:Nat}(isF:cS m w F)(lr:r.length=w)
include isF lr
theorem pk:∀ {i:Nat},i<=m->(eZ F r i).length=w
 |0,_=>lr
 |i+1,h=>by
  unfold eZ;rw[qc (by rw[pk (by omega),isF.row (by omega)])];exact pk (by omega)
theorem zV{i:Nat}(hi:i<m)(c:Nat):(eZ F r (i+1)).getD c 0=(eZ F r i).getD c 0-tN F (eZ F r i) i*g F i c:=by
 conv=>lhs;unfold eZ
 rw[vU (by rw[pk isF lr (by omega),isF.row hi]),Int.neg_mul];rfl
theorem AH:∀ {i:Nat},i<=m->∀c,r.getD c 0=(eZ F r i).getD c 0+S i fun j=>tN F (eZ F r j) j*g F j c
 |0,_,c=>(Int.add_zero _).symm
 |i+1,h,c=>by
  have e:=AH (i:=i) (by omega) c;rw[zV isF lr (by omega)];show _=_+(S i _+tN F (eZ F r i) i*g F i c);omega
theorem A4(s:fC F m w (cZ F)):∀ {i:Nat},i<=m->zD F m w (cZ F) (fun c=>r.getD c 0) i (fun c=>(eZ F r i).getD c 0)
 |0,_=>zD.start
 |i+1,h=>by
  have:=(A4 s (i:=i) (by omega)).step s h
  have e:(fun c=>(eZ F r (i+1)).getD c 0)=fun c=>(eZ F r i).getD c 0-((eZ F r i).getD (cZ F i) 0).fdiv (g F i (cZ F i))*g F i c:=by
   funext c;rw[zV isF lr h];rfl
  rw[e];exact this
theorem vK{f e:Nat}(s:fC F m w (cZ F))(hF:∀k c,k<m->c<w->(g F k c).natAbs<=2^f)(hr:∀c,c<w->(r.getD c 0).natAbs<=2^e):∀ {i:Nat},i<=m->∀c,c<w->((eZ F r i).getD c 0).natAbs<=2^(e+i*(f+1))
 |0,_,c,hc=>by rw[Nat.zero_mul];exact hr c hc
 |i+1,h,c,hc=>by
  have ih:=vK s hF hr (i:=i) (by omega);obtain⟨l1,l2,_⟩:=s.lead i h;have q:=Nat.le_trans (qD ((eZ F r i).getD (cZ F i) 0) l2) (ih _ l1);rw[zV isF lr h]
  have p:(tN F (eZ F r i) i*g F i c).natAbs<=2^(e+i*(f+1))*2^f:=by
   rw[Int.natAbs_mul];exact Nat.mul_le_mul q (hF i c h hc)
  have b:=ih c hc
  have e1:2^(e+(i+1)*(f+1))=2^(e+i*(f+1))*2^f*2:=by
   rw[show e+(i+1)*(f+1)=e+i*(f+1)+f+1 by rw[Nat.succ_mul];omega,Nat.pow_succ,Nat.pow_add]
  have e2:2^(e+i*(f+1))<=2^(e+i*(f+1))*2^f:=Nat.le_mul_of_pos_right _ (Nat.pow_pos (by decide));rw[e1];omega
end
theorem Fp{A0:Rows}{N w top e u:Nat}{c:B3}{ld:Nat->Nat}(H:jT A0 N w c top w ld e u){r ws:Row}(lw:ws.length=top)(hs:∀q,q<w->r.getD q 0=S top fun j=>ws.getD j 0*g c.A j q){q:Nat}(hq:q<w):(S N fun n=>(m7 ws (c.U.take top) (List.replicate N 0)).getD n 0*g A0 n q)=r.getD q 0:=by
 have T:=H.tn;have hl:(c.U.take top).length=top:=by rw[List.length_take,T.fm.len];exact Nat.min_eq_left H.le
 have e1:∀n,(m7 ws (c.U.take top) (List.replicate N 0)).getD n 0=S top fun j=>ws.getD j 0*g c.U j n:=fun n=>by
  rw[yt (n:=N) n (by simp) (fun r hr=>T.fm.f6 r (List.mem_of_mem_take hr)) (by rw[hl,lw]),eL,Int.zero_add,hl];refine aL fun j hj=>?_;unfold g;rw[aW (l:=c.U.take top) (by omega),List.getElem_take,aW (l:=c.U) (by have:=T.fm.len;have:=H.le;omega)]
 have e2:(S N fun n=>(m7 ws (c.U.take top) (List.replicate N 0)).getD n 0*g A0 n q)=S N fun n=>S top fun j=>ws.getD j 0*(g c.U j n*g A0 n q):=aL fun n _=>by
  rw[e1,<-D_];exact aL fun j _=>Int.mul_assoc _ _ _
 rw[e2,vq,hs q hq];refine aL fun j hj=>?_;rw[fk,<-T.ua j q (Nat.lt_of_lt_of_le hj H.le) hq]
def SQ:Nat->(Nat->Rat)->Rat
 |0,_=>0
 |n+1,f=>SQ n f+f n
theorem qF{n:Nat}{f h:Nat->Rat}(e:∀i,i<n->f i=h i):SQ n f=SQ n h:=by
 induction n with
 |zero=>rfl
 |succ n ih=>unfold SQ;rw[ih fun i hi=>e i (by omega),e n (by omega)]
theorem wA{n:Nat}{f:Nat->Rat}(e:∀i,i<n->f i=0):SQ n f=0:=by
 induction n with
 |zero=>rfl
 |succ n ih=>unfold SQ;rw[ih fun i hi=>e i (by omega),e n (by omega)];grind
theorem CW(n:Nat)(f h:Nat->Rat):SQ n (fun i=>f i+h i)=SQ n f+SQ n h:=by
 induction n with
 |zero=>unfold SQ;grind
 |succ n ih=>unfold SQ;rw[ih];grind
theorem Mg(n:Nat)(x:Rat)(f:Nat->Rat):SQ n (fun i=>x*f i)=x*SQ n f:=by
 induction n with
 |zero=>unfold SQ;grind
 |succ n ih=>unfold SQ;rw[ih];grind
theorem CG{n k:Nat}(hk:k<n){f:Nat->Rat}(h:∀i,i<n->i≠k->f i=0):SQ n f=f k:=by
 induction n with
 |zero=>omega
 |succ n ih=>
  unfold SQ;by_cases e:k=n
  . subst e;rw[wA fun i hi=>h i (by omega) (by omega)];grind
  . rw[ih (by omega) fun i hi hn=>h i (by omega) hn,h n (by omega) (by omega)];grind
theorem Ln{n k:Nat}(hk:k<n){f h:Nat->Rat}(e:∀i,i<n->i≠k->h i=f i):SQ n h=SQ n f+(h k-f k):=by
 induction n with
 |zero=>omega
 |succ n ih=>
  unfold SQ;by_cases q:k=n
  . subst q;rw[qF (f:=h) (h:=f) fun i hi=>e i (by omega) (by omega)];grind
  . rw[ih (by omega) fun i hi hn=>e i (by omega) hn,e n (by omega) (by omega)];grind
def Wh(x:Rat):Prop:=∃z:Int,x=(z:Rat)
theorem Wh.zero:Wh 0:=⟨0,rfl⟩
theorem Wh.add{x y:Rat}(h:Wh x)(k:Wh y):Wh (x+y):=by
 obtain⟨a,rfl⟩:=h;obtain⟨b,rfl⟩:=k;exact⟨a+b,(Rat.intCast_add a b).symm⟩
theorem Wh.mul{x:Rat}(h:Wh x)(c:Int):Wh ((c:Rat)*x):=by
 obtain⟨a,rfl⟩:=h;exact⟨c*a,(Rat.intCast_mul c a).symm⟩
theorem Wh.neg{x:Rat}(h:Wh x):Wh (-x):=by
 obtain⟨a,rfl⟩:=h;exact⟨-a,(Rat.intCast_neg a).symm⟩
def dq(ps:List Rat)(w:Nat)(v:Nat->Int):Rat:=SQ w fun c=>ps.getD c 0*(v c:Rat)
theorem Ec(ps:List Rat)(w n:Nat)(x:Nat->Int)(f:Nat->Nat->Int):dq ps w (fun c=>S n fun k=>x k*f k c)=SQ n fun k=>(x k:Rat)*dq ps w (f k):=by
 induction n with
 |zero=>exact wA fun c _=>by show _*((0:Int):Rat)=0;grind
 |succ n ih=>
  have:dq ps w (fun c=>S (n+1) fun k=>x k*f k c)=dq ps w (fun c=>S n fun k=>x k*f k c)+(x n:Rat)*dq ps w (f n):=by
   unfold dq;rw[<-Mg,<-CW];refine qF fun c _=>?_;show _*(((S n fun k=>x k*f k c)+x n*f n c:Int):Rat)=_;rw[Rat.intCast_add,Rat.intCast_mul];grind
  rw[this,ih];rfl
theorem L6(ps:List Rat)(w:Nat)(u v:Nat->Int):dq ps w (fun c=>u c+v c)=dq ps w u+dq ps w v:=by
 unfold dq;rw[<-CW];exact qF fun c _=>by rw[Rat.intCast_add];grind
theorem zH{ps:List Rat}{w:Nat}{u v:Nat->Int}(h:∀c,c<w->u c=v c):dq ps w u=dq ps w v:=qF fun c hc=>by rw[h c hc]
theorem Gp{n:Nat}{f:Nat->Rat}(h:∀i,i<n->Wh (f i)):Wh (SQ n f):=by
 induction n with
 |zero=>exact Wh.zero
 |succ n ih=>exact(ih fun i hi=>h i (by omega)).add (h n (by omega))
theorem iK{ps:List Rat}{k:Nat}{x:Rat}(hk:k<ps.length)(c:Nat):(ps.set k x).getD c 0=if c=k then x else ps.getD c 0:=by
 rw[List.getD_eq_getElem?_getD,List.getD_eq_getElem?_getD];by_cases h:c=k
 . subst h;rw[List.getElem?_set_self hk,if_pos rfl];rfl
 . rw[List.getElem?_set_ne (Ne.symm h),if_neg h]
theorem Kt{ps:List Rat}{w k:Nat}{x:Rat}(lp:ps.length=w)(hk:k<w)(v:Nat->Int):dq (ps.set k x) w v=dq ps w v+(x-ps.getD k 0)*(v k:Rat):=by
 unfold dq;rw[Ln hk (f:=fun c=>ps.getD c 0*(v c:Rat)) fun c _ hn=>by rw[iK (by omega),if_neg hn]];rw[iK (by omega),if_pos rfl];grind
def D9(F:Rows)(w l:Nat)(ps:List Rat)(k:Nat):List Rat:=if cZ F k<l then ps.set (cZ F k) ((0-dq ps w (g F k))/(g F k (cZ F k):Rat))else ps
def l7(F:Rows)(m w l:Nat)(ps:List Rat):Nat->List Rat
 |0=>ps
 |i+1=>D9 F w l (l7 F m w l ps i) (m-1-i)
def ji(w l:Nat)(b:Int):List Rat:=(List.replicate w 0).set l (Rat.divInt 1 b)
theorem J0(w c:Nat):(List.replicate w (0:Rat)).getD c 0=0:=by
 rw[List.getD_eq_getElem?_getD,List.getElem?_replicate];split<;>rfl
structure nE(F:Rows)(m w l:Nat)(p:Rat)(i:Nat)(ps:List Rat):Prop where
 len:ps.length=w
 nil:∀c,c≠l->(∀k,m-i<=k->k<m->cZ F k≠c)->ps.getD c 0=0
 hi:∀c,l<c->ps.getD c 0=0
 at_:ps.getD l 0=p
 off:∀k,m-i<=k->k<m->cZ F k<l->dq ps w (g F k)=0
theorem nE.start{F:Rows}{m w l:Nat}(b:Int)(hl:l<w):nE F m w l (Rat.divInt 1 b) 0 (ji w l b):=by
 have hw:l<(List.replicate w (0:Rat)).length:=by simpa using hl
 refine⟨by unfold ji;simp,fun c hc _=>?_,fun c hc=>?_,?_,fun k h1 h2=>by omega⟩
 . unfold ji;rw[iK hw,if_neg hc,J0]
 . unfold ji;rw[iK hw,if_neg (by omega),J0]
 . unfold ji;rw[iK hw,if_pos rfl]
theorem nE.step{F:Rows}{m w l i:Nat}{p:Rat}{ps:List Rat}(s:fC F m w (cZ F))(hi:i<m)(P:nE F m w l p i ps):nE F m w l p (i+1) (D9 F w l ps (m-1-i)):=by
 generalize hk:m-1-i=k0;have hk0:k0<m:=by omega
 obtain⟨l1,l2,l3⟩:=s.lead k0 hk0;unfold D9;by_cases h:cZ F k0<l
 . rw[if_pos h]
   have pz:ps.getD (cZ F k0) 0=0:=P.nil _ (by omega) fun k h1 h2 e=>by
    have:=s.mono k0 k (by omega) h2;omega
   have hne:(g F k0 (cZ F k0):Rat)≠0:=fun z=>by
    have:g F k0 (cZ F k0)=0:=Rat.intCast_inj.mp z;omega
   have hlen:cZ F k0<ps.length:=by rw[P.len];exact l1
   refine⟨by rw[List.length_set];exact P.len,fun c hc hn=>?_,fun c hc=>?_,?_,fun k h1 h2 h3=>?_⟩
   . rw[iK hlen,if_neg (Ne.symm (hn k0 (by omega) hk0))];exact P.nil c hc fun k h1 h2=>hn k (by omega) h2
   . rw[iK hlen,if_neg (by omega)];exact P.hi c hc
   . rw[iK hlen,if_neg (by omega)];exact P.at_
   . rw[Kt P.len l1,pz];by_cases e:k=k0
     . subst e;have:(0-dq ps w (g F k))/(g F k (cZ F k):Rat)*(g F k (cZ F k):Rat)=0-dq ps w (g F k):=Rat.div_mul_cancel hne;grind
     . have hk':m-i<=k:=by omega
       rw[P.off k hk' h2 h3,(s.lead k h2).2.2 _ (s.mono k0 k (by omega) h2)];show _+_*((0:Int):Rat)=0;grind
 . rw[if_neg h];refine⟨P.len,fun c hc hn=>P.nil c hc fun k h1 h2=>hn k (by omega) h2,P.hi,P.at_,fun k h1 h2 h3=>?_⟩;by_cases e:k=k0
   . subst e;omega
   . exact P.off k (by omega) h2 h3
theorem nE.all{F:Rows}{m w l:Nat}(b:Int)(s:fC F m w (cZ F))(hl:l<w):∀ {i:Nat},i<=m->nE F m w l (Rat.divInt 1 b) i (l7 F m w l (ji w l b) i)
 |0,_=>nE.start b hl
 |i+1,h=>(nE.all b s hl (i:=i) (by omega)).step s h
def tY(F:Rows)(m l:Nat)(x b:Int):Prop:=(∃k,k<m/\cZ F k=l/\b=g F k l)\/((∀k,k<m->cZ F k≠l)/\b=2*(x.natAbs:Int))
theorem tY.unique{F:Rows}{m w l:Nat}{x b b':Int}(s:fC F m w (cZ F))(h:tY F m l x b)(h':tY F m l x b'):b=b':=by
 rcases h with⟨k,hk,e,rfl⟩|⟨n,rfl⟩
 . rcases h' with⟨k',hk',e',rfl⟩|⟨n',rfl⟩
   . rw[s.inj hk hk' (e.trans e'.symm)]
   . exact absurd e (n' k hk)
 . rcases h' with⟨k',hk',e',rfl⟩|⟨n',rfl⟩
   . exact absurd e' (n k' hk')
   . rfl
theorem tY.pos{F:Rows}{m w l:Nat}{x b:Int}(s:fC F m w (cZ F))(h:tY F m l x b)(hx:x≠0):0<b:=by
 rcases h with⟨k,hk,e,rfl⟩|⟨n,rfl⟩
 . have:=(s.lead k hk).2.1;rw[e]at this;exact this
 . omega
theorem yn{b:Int}(hb:b≠0)(x:Int):Rat.divInt 1 b*(x:Rat)=(x:Rat)/(b:Rat):=by
 rw[Rat.divInt_eq_div];grind
theorem Kc{x b:Int}(h0:0<x.natAbs)(h1:(x.natAbs:Int)<b):¬Wh ((x:Rat)/(b:Rat)):=by
 rintro⟨z,e⟩
 have hb:(b:Rat)≠0:=fun q=>by
  have:b=0:=Rat.intCast_inj.mp q;omega
 have e2:(x:Rat)=(z:Rat)*(b:Rat):=by rw[<-e];exact(Rat.div_mul_cancel hb).symm
 rw[<-Rat.intCast_mul]at e2;have e3:x=z*b:=Rat.intCast_inj.mp e2;have hz:z≠0:=fun q=>by rw[q,Int.zero_mul]at e3;omega
 have:(z*b).natAbs=z.natAbs*b.natAbs:=Int.natAbs_mul _ _;have h2:1*b.natAbs<=z.natAbs*b.natAbs:=Nat.mul_le_mul_right _ (by omega);rw[e3]at h1;omega
theorem nE.whole{F:Rows}{m w l:Nat}{R:Row}{b:Int}{ps:List Rat}(s:fC F m w (cZ F))(hl:l<w)(hb:tY F m l (R.getD l 0) b)(h0:R.getD l 0≠0)(P:nE F m w l (Rat.divInt 1 b) m ps){k:Nat}(hk:k<m):Wh (dq ps w (g F k)):=by
 obtain⟨l1,l2,l3⟩:=s.lead k hk;rcases Nat.lt_trichotomy (cZ F k) l with h|h|h
 . rw[P.off k (by omega) hk h];exact Wh.zero
 . have e:dq ps w (g F k)=ps.getD l 0*(g F k l:Rat):=CG hl fun c hc hn=>by
    rcases Nat.lt_or_gt_of_ne hn with q|q
    . rw[l3 c (by omega)];show _*((0:Int):Rat)=0;grind
    . rw[P.hi c q];grind
   have hb':b=g F k l:=by
    rcases hb with⟨k',hk',e',rfl⟩|⟨n,_⟩
    . rw[s.inj hk hk' (h.trans e'.symm)]
    . exact absurd h (n k hk)
   rw[e,P.at_,hb'];have hp:0<g F k l:=by rw[<-h];exact l2
   rw[yn (by omega)]
   have:(g F k l:Rat)≠0:=fun q=>by
    have:g F k l=0:=Rat.intCast_inj.mp q;omega
   have e1:(g F k l:Rat)/(g F k l:Rat)=1:=by rw[Rat.div_def];exact Rat.mul_inv_cancel _ this
   rw[e1];exact⟨1,rfl⟩
 . have e:dq ps w (g F k)=0:=wA fun c hc=>by
    rcases Nat.lt_or_ge l c with q|q
    . rw[P.hi c q];grind
    . rw[l3 c (by omega)];show _*((0:Int):Rat)=0;grind
   rw[e];exact Wh.zero
theorem nE.not{F:Rows}{m w l:Nat}{R:Row}{b:Int}{ps:List Rat}(s:fC F m w (cZ F))(hl:l<w)(hb:tY F m l (R.getD l 0) b)(h0:R.getD l 0≠0)(hz:∀c,c<l->R.getD c 0=0)(red:∀k,k<m->0<=R.getD (cZ F k) 0/\R.getD (cZ F k) 0<g F k (cZ F k))(P:nE F m w l (Rat.divInt 1 b) m ps):¬Wh (dq ps w fun c=>R.getD c 0):=by
 have bp:=hb.pos s h0
 have e:dq ps w (fun c=>R.getD c 0)=ps.getD l 0*((R.getD l 0:Int):Rat):=CG hl fun c hc hn=>by
  rcases Nat.lt_or_gt_of_ne hn with q|q
  . show _*((R.getD c 0:Int):Rat)=0;rw[hz c q];show _*((0:Int):Rat)=0;grind
  . rw[P.hi c q];grind
 rw[e,P.at_,yn (by omega)];refine Kc (by omega) ?_;rcases hb with⟨k,hk,e,rfl⟩|⟨n,rfl⟩
 . have:=red k hk;rw[e]at this;omega
 . omega
theorem IF(n:Nat)(f:Nat->Rat):SQ (n+1) f=f 0+SQ n fun i=>f (i+1):=by
 induction n with
 |zero=>unfold SQ SQ;grind
 |succ n ih=>
  have:SQ (n+1+1) f=SQ (n+1) f+f (n+1):=rfl;rw[this,ih];have:SQ (n+1) (fun i=>f (i+1))=SQ n (fun i=>f (i+1))+f (n+1):=rfl;rw[this];grind
def jj:Rat->List Rat->Row->Rat
 |t,p::ps,n::r=>jj (t+p*(n:Rat)) ps r
 |t,_,_=>t
theorem zm:∀(ps:List Rat) (r:Row) (t:Rat) {w:Nat},ps.length=w->r.length=w->jj t ps r=t+dq ps w fun c=>r.getD c 0
 | [],[],t,w,h,_=>by
   subst h;unfold jj;show t=t+0;grind
 | [],_::_,t,w,h1,h2=>by subst h1;cases h2
 |_::_,[],t,w,h1,h2=>by subst h2;cases h1
 |p::ps,n::r,t,w,h1,h2=>by
  subst h1;unfold jj;rw[zm ps r _ rfl (Nat.succ.inj h2)];unfold dq;rw[List.length_cons,IF]
  have e:(fun i=>(p::ps).getD (i+1) 0*(((n::r).getD (i+1) 0:Int):Rat))=fun i=>ps.getD i 0*((r.getD i 0:Int):Rat):=by
   funext i;simp
  rw[e];show _=t+(p*(n:Rat)+_);grind
structure Sz(q:Rat)(m:Nat):Prop where
 num:q.num.natAbs<=2^m
 den:q.den<=2^m
theorem Sz.mono{q:Rat}{m n:Nat}(h:Sz q m)(l:m<=n):Sz q n:=⟨Nat.le_trans h.num (Nat.pow_le_pow_right (by decide) l),Nat.le_trans h.den (Nat.pow_le_pow_right (by decide) l)⟩
theorem Sz.int{n:Int}{m:Nat}(h:n.natAbs<=2^m):Sz (n:Rat) m:=⟨h,Nat.pow_pos (by decide)⟩
theorem Sz.of{t b:Int}{m:Nat}(hb:b≠0)(h1:t.natAbs<=2^m)(h2:b.natAbs<=2^m):Sz (Rat.divInt t b) m:=by
 have hg:1<=b.gcd t:=by
  have:b.gcd t≠0:=fun z=>hb (Int.gcd_eq_zero_iff.mp z).1;omega
 constructor
 . rw[Rat.num_divInt];have:((b.sign*t)/((b.gcd t:Nat):Int)).natAbs<=(b.sign*t).natAbs:=Int.natAbs_ediv_le_natAbs _ _
   have e:(b.sign*t).natAbs<=t.natAbs:=by
    rw[Int.natAbs_mul];have:b.sign.natAbs<=1:=by rw[Int.natAbs_sign];split<;>omega
    calc b.sign.natAbs*t.natAbs<=1*t.natAbs:=Nat.mul_le_mul_right _ this
     _=t.natAbs:=Nat.one_mul _
   omega
 . rw[Rat.den_divInt,if_neg hb];exact Nat.le_trans (Nat.div_le_self _ _) h2
theorem gX{x y:Int}{a b:Nat}(hx:x.natAbs<=2^a)(hy:y.natAbs<=2^b):(x*y).natAbs<=2^(a+b):=by
 rw[Int.natAbs_mul,Nat.pow_add];exact Nat.mul_le_mul hx hy
theorem den_nz(q:Rat):((q.den:Nat):Int)≠0:=by have:=q.den_nz;omega
theorem nH(q:Rat):q=Rat.divInt q.num ((q.den:Nat):Int):=(Rat.num_divInt_den q).symm
theorem add_eq(p q:Rat):p+q=Rat.divInt (p.num*((q.den:Nat):Int)+q.num*((p.den:Nat):Int)) (((p.den:Nat):Int)*((q.den:Nat):Int)):=by
 conv=>lhs;rw[nH p,nH q]
 rw[Rat.divInt_add_divInt _ _ (den_nz p) (den_nz q)]
theorem sub_eq(p q:Rat):p-q=Rat.divInt (p.num*((q.den:Nat):Int)-q.num*((p.den:Nat):Int)) (((p.den:Nat):Int)*((q.den:Nat):Int)):=by
 conv=>lhs;rw[nH p,nH q]
 rw[Rat.divInt_sub_divInt _ _ (den_nz p) (den_nz q)]
theorem mul_eq(p q:Rat):p*q=Rat.divInt (p.num*q.num) (((p.den:Nat):Int)*((q.den:Nat):Int)):=by
 conv=>lhs;rw[nH p,nH q]
 rw[Rat.divInt_mul_divInt]
theorem div_eq(p q:Rat):p/q=Rat.divInt (p.num*((q.den:Nat):Int)) (((p.den:Nat):Int)*q.num):=by
 rw[Rat.div_def,Rat.inv_def];conv=>lhs;rw[nH p]
 rw[Rat.divInt_mul_divInt]
theorem Sz.rX{q:Rat}{m:Nat}(h:Sz q m):(((q.den:Nat):Int)).natAbs<=2^m:=h.den
theorem Sz.add{p q:Rat}{a b:Nat}(hp:Sz p a)(hq:Sz q b):Sz (p+q) (a+b+1):=by
 rw[add_eq];have h1:=gX hp.num hq.rX;have h2:=gX hq.num hp.rX;have h3:=gX hp.rX hq.rX;rw[Nat.add_comm b a]at h2;exact Sz.of (Int.mul_ne_zero (den_nz p) (den_nz q)) (by rw[Nat.pow_succ];omega) (Nat.le_trans h3 (Nat.pow_le_pow_right (by decide) (by omega)))
theorem Sz.neg{q:Rat}{b:Nat}(hq:Sz q b):Sz (0-q) b:=by
 have e:(0:Rat)-q= -q:=by grind
 rw[e];exact⟨by rw[show(-q).num= -q.num from rfl,Int.natAbs_neg];exact hq.num,hq.den⟩
theorem Sz.mul{p q:Rat}{a b:Nat}(hp:Sz p a)(hq:Sz q b):Sz (p*q) (a+b):=by
 rw[mul_eq];exact Sz.of (Int.mul_ne_zero (den_nz p) (den_nz q)) (gX hp.num hq.num) (gX hp.rX hq.rX)
theorem Sz.div{p q:Rat}{a b:Nat}(hp:Sz p a)(hq:Sz q b)(h0:q.num≠0):Sz (p/q) (a+b):=by
 rw[div_eq];exact Sz.of (Int.mul_ne_zero (den_nz p) h0) (gX hp.num hq.rX) (gX hp.rX hq.num)
def Pb:List Rat->Nat->Prop
 | [],_=>True
 |q::qs,t=>∃a b,Sz q a/\Pb qs b/\a+b<=t
theorem Pb.mono:∀ {ps:List Rat} {s t:Nat},Pb ps s->s<=t->Pb ps t
 | [],_,_,_,_=>trivial
 |_::_,_,_,⟨a,b,h1,h2,h3⟩,l=>⟨a,b,h1,h2,Nat.le_trans h3 l⟩
theorem Pb.set{x:Rat}{a:Nat}(hx:Sz x a):∀ {ps:List Rat} {t k:Nat},Pb ps t->Pb (ps.set k x) (t+a)
 | [],_,_,_=>trivial
 |q::qs,t,0,⟨a',b,h1,h2,h3⟩=>⟨a,b,hx,h2,by omega⟩
 |q::qs,t,k+1,⟨a',b,h1,h2,h3⟩=>⟨a',b+a,h1,h2.set hx,by omega⟩
theorem Pb.rep:∀n:Nat,Pb (List.replicate n 0) 0
 |0=>trivial
 |n+1=>⟨0,0,⟨by decide,by decide⟩,Pb.rep n,Nat.le_refl _⟩
theorem Pb.jj:∀ {ps:List Rat} {r:Row} {s e t:Nat} {x:Rat},Sz x s->Pb ps t->(∀n∈r,n.natAbs<=2^e)->Sz (jj x ps r) (s+t+ps.length*(e+1))
 | [],r,s,e,t,x,hx,_,_=>by unfold Mx.jj;exact hx.mono (by omega)
 |_::_,[],s,e,t,x,hx,_,_=>by unfold Mx.jj;exact hx.mono (by omega)
 |p::ps,n::r,s,e,t,x,hx,⟨a,b,h1,h2,h3⟩,hr=>by
  unfold Mx.jj;have h4:=hx.add (h1.mul (Sz.int (hr n List.mem_cons_self)));refine(Pb.jj h4 h2 fun k hk=>hr k (List.mem_cons_of_mem _ hk)).mono ?_;rw[List.length_cons,Nat.succ_mul];omega
end Mx
namespace Prog
open PySem L2 L3
open PySem.Spec hiding items?
open PyProof.Rows hiding St
theorem ft{i j:Int}(h1: -(2^64)<i)(h2:i<2^64):IntMulOk i j:= .of_left (intBits_le_64 h1 h2)
theorem pv{i j:Int}(h1: -(2^64)<j)(h2:j<2^64):IntMulOk i j:= .of_right (intBits_le_64 h1 h2)
def isInt:D->Bool
 | .int _=>true
 |_=>false
abbrev ay(r:List Int):List D:=r.map D.int
abbrev cj(r:List Int):D:= .tup (ay r)
abbrev aG(r:List Int):D:= .lst (ay r)
abbrev fj(A:List (List Int)):D:= .tup (A.map cj)
abbrev ox(A:List (List Int)):D:= .lst (A.map aG)
def cA(st:ag):List D->List (List Int)->Prop
 | [],[]=>True
 |d::ds,r::rs=>items? st d=some (ay r)/\cA st ds rs
 |_,_=>False
structure jc(st:ag)(d:D)(A:List (List Int)):Prop where
 ex:∃ds,items? st d=some ds/\cA st ds A
theorem cA.len{st:ag}:∀ {ds:List D} {A:List (List Int)},cA st ds A->ds.length=A.length
 | [],[],_=>rfl
 |_::_,_::_,h=>by simp[cA.len h.2]
theorem cA.tup{st:ag}:∀ {A:List (List Int)},cA st (A.map cj) A
 | []=>trivial
 |_::_=>⟨rfl,cA.tup⟩
theorem cA.lst{st:ag}:∀ {A:List (List Int)},cA st (A.map aG) A
 | []=>trivial
 |_::_=>⟨rfl,cA.lst⟩
theorem cA.get{st:ag}:∀ {ds:List D} {A:List (List Int)} {i:Nat} {d:D},cA st ds A->ds[i]?=some d->∃r,A[i]?=some r/\items? st d=some (ay r)
 |_::_,r::_,0,_,h,e=>by simp at e;subst e;exact⟨r,rfl,h.1⟩
 |_::_,_::_,i+1,d,h,e=>by
  obtain⟨r,e1,e2⟩:=cA.get (i:=i) (d:=d) h.2 (by simpa using e);exact⟨r,by simpa using e1,e2⟩
theorem sI{st:ag}{A:List (List Int)}:jc st (fj A) A:=⟨_,rfl,cA.tup⟩
theorem Il{st:ag}{A:List (List Int)}:jc st (ox A) A:=⟨_,rfl,cA.lst⟩
structure Ext(st st':ag):Prop where
 len:st.length<=st'.length
 same:∀m,m<st.length->st'[m]?=st[m]?
theorem Ext.push{st:ag}{c:List Cell}:Ext st (st++c):=⟨by simp,fun m h=>List.getElem?_append_left h⟩
theorem Ext.set{st:ag}{n:Nat}{c:Cell}{st0:ag}(a:Ext st0 st)(h:st0.length<=n):Ext st0 (st.set n c):=⟨by rw[List.length_set];exact a.len,fun m hm=>by rw[List.getElem?_set_ne (by omega)];exact a.same m hm⟩
theorem Ext.items{st st':ag}{d:D}{xs:List D}(x:Ext st st')(e:items? st d=some xs):items? st' d=some xs:=by
 cases d with
 |ref n=>
  unfold items? at e⊢;simp only at e⊢;cases q:st[n]? with
  |none=>rw[q]at e;cases e
  |some c=>
   have hn:=(List.getElem?_eq_some_iff.mp q).1;rw[x.same n hn];exact e
 |_=>exact e
theorem fU{r:List Int}{k:Nat}(h:k<r.length):eQ (ay r) (k:Int)=some (.int (r.getD k 0)):=by
 refine je ?_;rw[List.getElem?_map,List.getElem?_eq_getElem h,Mx.aW h];rfl
theorem getD_mem{r:List Int}{k:Nat}(h:k<r.length):r.getD k 0∈r:=by rw[Mx.aW h];exact List.getElem_mem _
theorem cA.at{st:ag}{ds:List D}{A:List (List Int)}{k:Nat}(h:cA st ds A)(hk:k<A.length):∃d,eQ ds (k:Int)=some d/\items? st d=some (ay (A.getD k [])):=by
 have hl:=h.len;have e:ds[k]?=some ds[k]:=List.getElem?_eq_getElem (by omega);obtain⟨r,er,hr⟩:=h.get e;refine⟨ds[k],je e,?_⟩;rw[Mx.aW hk];rw[List.getElem?_eq_getElem hk]at er;cases er;exact hr
theorem ints_app{r:List Int}{x:Int}:ay r++[D.int x]=ay (r++[x]):=by simp[ay]
theorem Fw{A:List (List Int)}{r:List Int}:A.map cj++[cj r]=(A++[r]).map cj:=by simp
theorem ue{r s:List Int}{d:D}(h:d∈fE (ay r) (ay s)):∃a b,a∈r/\b∈s/\d= .tup [.int a,.int b]:=by
 obtain⟨n,hn,e⟩:=List.mem_iff_getElem.mp h;have e':(fE (ay r) (ay s))[n]?=some d:=by rw[List.getElem?_eq_getElem hn,e]
 obtain⟨x,y,ex,ey,rfl⟩:=ud e';rw[List.getElem?_map]at ex ey;cases q1:r[n]? with
 |none=>rw[q1]at ex;cases ex
 |some a=>
  cases q2:s[n]? with
  |none=>rw[q2]at ey;cases ey
  |some b=>
   rw[q1]at ex;rw[q2]at ey;cases ex;cases ey;exact⟨a,b,List.mem_of_getElem? q1,List.mem_of_getElem? q2,rfl⟩
theorem EU(n:Nat):(List.replicate n [D.int 0]).flatten=ay (List.replicate n 0):=by
 induction n with
 |zero=>rfl
 |succ n ih=>rw[List.replicate_succ,List.flatten_cons,ih];rfl
theorem Jr{n:Nat}{r:List Int}:(ay r).all (pl n)=true:=by
 refine List.all_eq_true.mpr fun d hd=>?_;obtain⟨i,_,rfl⟩:=List.mem_map.mp hd;cases n<;>rfl
def aD:Addr:=181
abbrev ik(b:Bool):Cell:=Cell.tab 161 ⟨82,32,82,66⟩ "Bench.live_rows.<locals>.<lambda>" b
abbrev LL:List (Addr×Pos×Str):=[(161,⟨82,32,82,66⟩,"Bench.live_rows.<locals>.<lambda>")]
def uF:cK:=fun ds st K=>∃a b,ds=[.int a,.int b]/\K (.int ((Nat.gcd a.natAbs b.natAbs:Nat):Int)) st
def qw:List Str:=["one","other","great","small","rest"]
def Fc:DS:=(aE (a6 2 (bV o3 (af (aa 0) ak)))
 (aE (a6 3 (bV o3 (af (aa 1) ak)))
 (aE (pC (cy (aw pB (aa 3) (dC (.int 0)))) (aE (a6 4 (aw fQ (aa 2) (aa 3)))
 (aE (a6 2 (aa 3))
 (a6 3 (aa 4)))))
 (cm (aa 2)))))
theorem FV{a:Int}{m:Nat}(h:a.natAbs<2^m):Builtin.Int.intBits a<=m:=by
 unfold Builtin.Int.intBits;by_cases h0:a.natAbs=0
 . have:a=0:=by omega
   subst this;simp
 . have:=(Nat.log2_lt h0).mpr h;split<;>omega
theorem dF{a b:Int}{m n:Nat}(ha:a.natAbs<=2^m)(hb:b.natAbs<=2^n)(h:m+n<=130000000):IntMulOk a b:=by
 have q:∀ {x:Int} {k:Nat},x.natAbs<=2^k->Builtin.Int.intBits x<=k+1:=fun{x k} h=>FV (Nat.lt_of_le_of_lt h (Nat.pow_lt_pow_right (by decide) (Nat.lt_succ_self k)));have h1:=q ha;have h2:=q hb;have e:(2:Nat)^27=134217728:=by decide
 have z:Builtin.Int.intTooBig (Builtin.Int.intBits a+Builtin.Int.intBits b)=false:=by
  unfold Builtin.Int.intTooBig bitsLine;exact decide_eq_false (by omega)
 unfold IntMulOk;rw[z];simp
theorem zO(a b:Nat):(a:Int).fmod (b:Int)=((a%b:Nat):Int):=by
 rw[Int.fmod_eq_emod_of_nonneg _ (Int.natCast_nonneg b)];exact(Int.natCast_emod a b).symm
theorem Ej:∀ds st K,uF ds st K->ds.length=2/\Fc {nx:=fun _ st'=>K .aK st',rt:=K} (a_ qw ds) st:=by
 rintro ds st K ⟨a,b,rfl,k⟩;refine⟨rfl,?_⟩;refine pF (pF ?_);refine⟨fun m σ st'=>∃(g s:Nat) (r:Option D),σ=[some (.int a),some (.int b),some (.int g),some (.int s),r]/\st'=st/\Nat.gcd g s=Nat.gcd a.natAbs b.natAbs/\s=m,⟨b.natAbs,a.natAbs,b.natAbs,none,?_,rfl,rfl,rfl⟩,?_⟩
 . rfl
 . rintro m σ st' ⟨g,s,r,rfl,rfl,hg,rfl⟩;refine ne2 (fun h=>gW ?_) fun h=>?_
   . refine iS h ⟨g%s,Nat.mod_lt _ (by omega),s,g%s,some (.int ((g%s:Nat):Int)),?_,rfl,?_,rfl⟩
     . rw[zO];rfl
     . rw[Nat.gcd_comm,<-Nat.gcd_rec,Nat.gcd_comm];exact hg
   . have:s=0:=by omega
     subst this;rw[Nat.gcd_zero_right]at hg;subst hg;exact k
abbrev d8(q:Rat):D:= .tup [.int q.num,.int ((q.den:Nat):Int)]
def nS:cK:=fun ds st K=>∃(t b:Int),ds=[.int t,.int b]/\b≠0/\K (d8 (Rat.divInt t b)) st
def vE:List Str:=["top","bottom","shrink"]
def KL:DS:=(aE (a6 2 (aC uF (af (aa 0) (af (aa 1) ak))))
 (aE (fR (cy (aw pX (aa 1) (dC (.int 0)))) (a6 2 (kI gh (aa 2))) fv)
 (cm (gG (af (aw iJ (aa 0) (aa 2)) (af (aw iJ (aa 1) (aa 2)) ak))))))
theorem rh{g t:Int}(hg:g≠0)(h:g∣t):t.fdiv (-g)=(-1*t).fdiv g:=by
 obtain⟨c,rfl⟩:=h
 have e1:(g*c).fdiv (-g)= -c:=by
  have:g*c=(-g)*(-c):=by rw[Int.neg_mul_neg]
  rw[this,Int.mul_fdiv_cancel_left _ (by omega)]
 have e2:(-1*(g*c)).fdiv g= -c:=by
  have: -1*(g*c)=g*(-c):=by rw[Int.neg_mul,Int.one_mul,Int.mul_neg]
  rw[this,Int.mul_fdiv_cancel_left _ hg]
 rw[e1,e2]
theorem Di(t b:Int):((Nat.gcd t.natAbs b.natAbs:Nat):Int)∣t:=Int.ofNat_dvd_left.mpr (Nat.gcd_dvd_left _ _)
theorem C8(t b:Int):((Nat.gcd t.natAbs b.natAbs:Nat):Int)∣b:=Int.ofNat_dvd_left.mpr (Nat.gcd_dvd_right _ _)
theorem Jk{t b:Int}(hb:b≠0):D.tup [.int (((if b<0 then(-1:Int)else 1)*t).fdiv ((Nat.gcd t.natAbs b.natAbs:Nat):Int)),.int (((if b<0 then(-1:Int)else 1)*b).fdiv ((Nat.gcd t.natAbs b.natAbs:Nat):Int))]=d8 (Rat.divInt t b):=by
 unfold d8;have hg:(b.gcd t:Nat)=Nat.gcd t.natAbs b.natAbs:=by unfold Int.gcd;rw[Nat.gcd_comm]
 have hs:(if b<0 then(-1:Int)else 1)=b.sign:=by
  rcases Int.lt_trichotomy b 0 with h|h|h
  . rw[if_pos h,Int.sign_eq_neg_one_of_neg h]
  . exact absurd h hb
  . rw[if_neg (by omega),Int.sign_eq_one_of_pos h]
 have e1:(Rat.divInt t b).num=((if b<0 then(-1:Int)else 1)*t).fdiv ((Nat.gcd t.natAbs b.natAbs:Nat):Int):=by
  rw[Rat.num_divInt,hs,hg,Int.fdiv_eq_ediv_of_nonneg _ (Int.natCast_nonneg _)]
 have e2:(((Rat.divInt t b).den:Nat):Int)=((if b<0 then(-1:Int)else 1)*b).fdiv ((Nat.gcd t.natAbs b.natAbs:Nat):Int):=by
  rw[Rat.den_divInt,if_neg hb,hs,hg,Int.fdiv_eq_ediv_of_nonneg _ (Int.natCast_nonneg _),Int.natCast_ediv];congr 1;rw[Int.sign_mul_self]
 rw[e1,e2]
theorem Ik:∀ds st K,nS ds st K->ds.length=2/\KL {nx:=fun _ st'=>K .aK st',rt:=K} (a_ vE ds) st:=by
 rintro ds st K ⟨t,b,rfl,hb,k⟩;refine⟨rfl,?_⟩;refine⟨t,b,rfl,?_⟩
 have hg0:Nat.gcd t.natAbs b.natAbs≠0:=fun z=>by
  have:=Nat.eq_zero_of_gcd_eq_zero_right z;omega
 have hne:((Nat.gcd t.natAbs b.natAbs:Nat):Int)≠0:=by omega
 rw[<-Jk hb]at k;refine AJ (fun h=>gW ?_) fun h=>?_
 . rw[if_pos h,<-rh hne (Di t b),<-rh hne (C8 t b)]at k;exact fZ (jL (by omega) (jL (by omega) ⟨Nat.le_of_ble_eq_true rfl,k⟩))
 . rw[if_neg (by omega),Int.one_mul,Int.one_mul]at k;exact jL hne (jL hne ⟨Nat.le_of_ble_eq_true rfl,k⟩)
structure Fq(st:ag)(d:D)(q:Rat)(m:Nat):Prop where
 aq:items? st d=some [.int q.num,.int ((q.den:Nat):Int)]
 sz:Mx.Sz q m
theorem Fq.b{st:ag}{d:D}{q:Rat}{m:Nat}(h:Fq st d q m):(((q.den:Nat):Int)).natAbs<=2^m:=h.sz.den
theorem Fq.of{st:ag}{q:Rat}{m:Nat}(h:Mx.Sz q m):Fq st (d8 q) q m:=⟨rfl,h⟩
def zR:cK:=fun ds st K=>∃x y p q a b,ds=[x,y]/\Fq st x p a/\Fq st y q b/\a+b<=130000000/\K (d8 (p+q)) st
def uU:List Str:=["one","other"]
def KY:DS:=(cm (aC nS (af (aw bW (aw c5 (aw bg (aa 0) (dC (.int 0))) (aw bg (aa 1) (dC (.int 1)))) (aw c5 (aw bg (aa 1) (dC (.int 0))) (aw bg (aa 0) (dC (.int 1))))) (af (aw c5 (aw bg (aa 0) (dC (.int 1))) (aw bg (aa 1) (dC (.int 1)))) ak))))
theorem Ia:∀ds st K,zR ds st K->ds.length=2/\KY {nx:=fun _ st'=>K .aK st',rt:=K} (a_ uU ds) st:=by
 rintro ds st K ⟨x,y,p,q,a,b,rfl,X,Y,h,k⟩;refine⟨rfl,?_⟩;have h':b+a<=130000000:=by omega
 rw[Mx.add_eq]at k;exact aF X.aq rfl (aF Y.aq rfl (cN (dF X.sz.num Y.b h) (aF Y.aq rfl (aF X.aq rfl (cN (dF Y.sz.num X.b h') (du (aF X.aq rfl (aF Y.aq rfl (cN (dF X.b Y.b h) ⟨_,_,rfl,Int.mul_ne_zero (Mx.den_nz p) (Mx.den_nz q),k⟩)))))))))
def wK:cK:=fun ds st K=>∃x y p q a b,ds=[x,y]/\Fq st x p a/\Fq st y q b/\a+b<=130000000/\K (d8 (p-q)) st
def sS:List Str:=["one","other"]
def IL:DS:=(cm (aC nS (af (aw jn (aw c5 (aw bg (aa 0) (dC (.int 0))) (aw bg (aa 1) (dC (.int 1)))) (aw c5 (aw bg (aa 1) (dC (.int 0))) (aw bg (aa 0) (dC (.int 1))))) (af (aw c5 (aw bg (aa 0) (dC (.int 1))) (aw bg (aa 1) (dC (.int 1)))) ak))))
theorem E3:∀ds st K,wK ds st K->ds.length=2/\IL {nx:=fun _ st'=>K .aK st',rt:=K} (a_ sS ds) st:=by
 rintro ds st K ⟨x,y,p,q,a,b,rfl,X,Y,h,k⟩;refine⟨rfl,?_⟩;have h':b+a<=130000000:=by omega
 rw[Mx.sub_eq]at k;exact aF X.aq rfl (aF Y.aq rfl (cN (dF X.sz.num Y.b h) (aF Y.aq rfl (aF X.aq rfl (cN (dF Y.sz.num X.b h') (iN (aF X.aq rfl (aF Y.aq rfl (cN (dF X.b Y.b h) ⟨_,_,rfl,Int.mul_ne_zero (Mx.den_nz p) (Mx.den_nz q),k⟩)))))))))
def vR:cK:=fun ds st K=>∃x y p q a b,ds=[x,y]/\Fq st x p a/\Fq st y q b/\a+b<=130000000/\K (d8 (p*q)) st
def sN:List Str:=["one","other"]
def HW:DS:=(cm (aC nS (af (aw c5 (aw bg (aa 0) (dC (.int 0))) (aw bg (aa 1) (dC (.int 0)))) (af (aw c5 (aw bg (aa 0) (dC (.int 1))) (aw bg (aa 1) (dC (.int 1)))) ak))))
theorem FD:∀ds st K,vR ds st K->ds.length=2/\HW {nx:=fun _ st'=>K .aK st',rt:=K} (a_ sN ds) st:=by
 rintro ds st K ⟨x,y,p,q,a,b,rfl,X,Y,h,k⟩;refine⟨rfl,?_⟩;rw[Mx.mul_eq]at k;exact aF X.aq rfl (aF Y.aq rfl (cN (dF X.sz.num Y.sz.num h) (aF X.aq rfl (aF Y.aq rfl (cN (dF X.b Y.b h) ⟨_,_,rfl,Int.mul_ne_zero (Mx.den_nz p) (Mx.den_nz q),k⟩)))))
def yp:cK:=fun ds st K=>∃x y p q a b,ds=[x,y]/\Fq st x p a/\Fq st y q b/\a+b<=130000000/\q.num≠0/\K (d8 (p/q)) st
def u4:List Str:=["one","other"]
def Kq:DS:=(cm (aC nS (af (aw c5 (aw bg (aa 0) (dC (.int 0))) (aw bg (aa 1) (dC (.int 1)))) (af (aw c5 (aw bg (aa 0) (dC (.int 1))) (aw bg (aa 1) (dC (.int 0)))) ak))))
theorem Jp:∀ds st K,yp ds st K->ds.length=2/\Kq {nx:=fun _ st'=>K .aK st',rt:=K} (a_ u4 ds) st:=by
 rintro ds st K ⟨x,y,p,q,a,b,rfl,X,Y,h,hq,k⟩;refine⟨rfl,?_⟩;rw[Mx.div_eq]at k;exact aF X.aq rfl (aF Y.aq rfl (cN (dF X.sz.num Y.b h) (aF X.aq rfl (aF Y.aq rfl (cN (dF X.b Y.sz.num h) ⟨_,_,rfl,Int.mul_ne_zero (Mx.den_nz p) hq,k⟩)))))
def lu:cK:=fun ds st K=>∃n:Int,ds=[.int n]/\K (d8 (n:Rat)) st
def sv:List Str:=["n"]
def HM:DS:=(cm (gG (af (aa 0) (af (dC (.int 1)) ak))))
theorem E1:∀ds st K,lu ds st K->ds.length=1/\HM {nx:=fun _ st'=>K .aK st',rt:=K} (a_ sv ds) st:=by
 rintro ds st K ⟨n,rfl,k⟩;exact⟨rfl,Nat.le_of_ble_eq_true rfl,k⟩
def oM:cK:=fun ds st K=>∃(d:D) (A:List (List Int)),ds=[d]/\jc st d A/\A.length<=1000/\K (fj A) st
def oO:List Str:=["rows"]
def Dz:DS:=(cm (bV dR (af (c7 (eh (aa 0)) [none] (bG 0) cz (bV dR (af (aa 0) ak))) ak)))
theorem mY{tg:fo}{te:DE}{ok:ag->Prop}{σc:bL}{st:ag}{K:List D->ag->Prop}{ds:List D}{A:List (List Int)}(f:List Int->D)(aM:ok st)(hr:cA st ds A)(hx:∀d r,r∈A->items? st d=some (ay r)->∀K',K' (f r) st->∃σ2,tg d σc=some σ2/\te σ2 st K')(k:K (A.map f) st):dD tg cz te ok σc ds [] st K:=by
 refine iG (fun rest acc st'=>∃(A1 A2:List (List Int)),st=st'/\A1++A2=A/\cA st rest A2/\acc=A1.map f) ?_ ?_ _ _ _ ⟨[],A,rfl,rfl,hr,rfl⟩
 . rintro acc st' ⟨A1,A2,rfl,he,h,rfl⟩;match A2,h with
   | [],_=>
     rw[List.append_nil]at he;subst he;exact⟨aM,k⟩
 . rintro d rest acc st' ⟨A1,A2,rfl,he,h,rfl⟩ next
   match A2,h with
   |r::A2,h=>
    obtain⟨σ2,e2,q⟩:=hx d r (by rw[<-he];simp) h.1 (fun y st2=>dD tg cz te ok σc rest (A1.map f++[y]) st2 K) (next _ _ ⟨A1++[r],A2,rfl,by rw[<-he];simp,h.2,by simp⟩);exact⟨aM,σ2,e2,q⟩
theorem Bq:∀ds st K,oM ds st K->ds.length=1/\Dz {nx:=fun _ st'=>K .aK st',rt:=K} (a_ oO ds) st:=by
 rintro ds st K ⟨d,A,rfl,⟨da,hd,ra⟩,hl,k⟩;refine⟨rfl,?_⟩;refine rW hd fun ok aM=>⟨bH (by rw[ra.len];exact hl),?_⟩
 refine mY cj aM ra (fun e r hr he K' q=>⟨_,rfl,dM he q⟩) ?_;exact dM rfl k
def nh:cK:=fun ds st K=>∃x y t r s,ds=[x,.int t,y]/\items? st x=some (ay r)/\items? st y=some (ay s)/\r.length<=1000/\(∀b∈s,IntMulOk t b)/\K (aG (Mx.eH r t s)) st
def sP:List Str:=["row","times","other"]
def Je:DS:=(cm (c7 (uc (af (aa 0) (af (aa 2) ak))) [none,none,some 1] (i4 0 1) cz (aw bW (aa 0) (aw c5 (aa 2) (aa 1)))))
theorem rm{t:Int}:∀(r s:List Int),(fE (ay r) (ay s)).map (fun d=>match d with| .tup [.int a,.int b]=> .int (a+t*b)|_=> .aK)=ay (Mx.eH r t s)
 | [],_=>rfl
 |_::_,[]=>rfl
 |a::r,b::s=>by
  have:=rm (t:=t) r s;unfold fE Mx.eH at this⊢;simp only[ay,List.map_cons,List.zip_cons_cons,List.zipWith_cons_cons]at this⊢;rw[this]
theorem Fz:∀ds st K,nh ds st K->ds.length=3/\Je {nx:=fun _ st'=>K .aK st',rt:=K} (a_ sP ds) st:=by
 rintro ds st K ⟨x,y,t,r,s,rfl,hx,hy,hl,hm,k⟩;refine⟨rfl,?_⟩;refine rD hx hy fun ok aM=>⟨bH (by rw[nP];simp;omega),?_⟩
 refine comp_map (g:=fun d=>match d with| .tup [.int a,.int b]=> .int (a+t*b)|_=> .aK) (aM st hx hy) _ (fun d hd K' q=>?_) ?_
 . obtain⟨a,b,ha,hb,rfl⟩:=ue hd;exact⟨_,rfl,cN (hm b hb) (du q)⟩
 . rw[rm];exact k
def uf:cK:=fun ds st K=>∃(d:D) (A:List (List Int)) (j:Nat),ds=[d,.int j]/\jc st d A/\(∀r∈A,j<r.length)/\A.length<=1000/\K (cj (Mx.nF A j)) st
def qg:List Str:=["rows","place"]
def EZ:DS:=(cm (bV dR (af (c7 (eh (aa 0)) [none,some 1] (bG 0) cz (aw bg (aa 0) (aa 1))) ak)))
theorem ma{tg:fo}{te:DE}{ok:ag->Prop}{σc:bL}{st:ag}{K:List D->ag->Prop}{ds:List D}{A:List (List Int)}(f:List Int->D)(aM:ok st)(hr:cA st ds A)(hx:∀d r,r∈A->items? st d=some (ay r)->∀K',K' (f r) st->∃σ2,tg d σc=some σ2/\te σ2 st K')(k:K (A.map f) st):dD tg cz te ok σc ds [] st K:=by
 refine iG (fun rest acc st'=>∃(A1 A2:List (List Int)),st=st'/\A1++A2=A/\cA st rest A2/\acc=A1.map f) ?_ ?_ _ _ _ ⟨[],A,rfl,rfl,hr,rfl⟩
 . rintro acc st' ⟨A1,A2,rfl,he,h,rfl⟩;match A2,h with
   | [],_=>
     rw[List.append_nil]at he;subst he;exact⟨aM,k⟩
 . rintro d rest acc st' ⟨A1,A2,rfl,he,h,rfl⟩ next
   match A2,h with
   |r::A2,h=>
    obtain⟨σ2,e2,q⟩:=hx d r (by rw[<-he];simp) h.1 (fun y st2=>dD tg cz te ok σc rest (A1.map f++[y]) st2 K) (next _ _ ⟨A1++[r],A2,rfl,by rw[<-he];simp,h.2,by simp⟩);exact⟨aM,σ2,e2,q⟩
theorem xp(A:List (List Int))(j:Nat):A.map (fun r=>D.int (r.getD j 0))=ay (Mx.nF A j):=by unfold Mx.nF ay;rw[List.map_map];rfl
theorem EI:∀ds st K,uf ds st K->ds.length=2/\EZ {nx:=fun _ st'=>K .aK st',rt:=K} (a_ qg ds) st:=by
 rintro ds st K ⟨d,A,j,rfl,⟨da,hd,ra⟩,hj,hl,k⟩;refine⟨rfl,?_⟩;refine rW hd fun ok aM=>⟨bH (by rw[ra.len];exact hl),?_⟩
 refine ma (fun r=> .int (r.getD j 0)) aM ra (fun e r hr he K' q=>⟨_,rfl,aF he (fU (hj r hr)) q⟩) ?_;rw[xp];exact dM rfl k
def jz:cK:=fun ds st K=>∃(d:D) (A:List (List Int)) (n:Nat),ds=[d,.int n]/\jc st d A/\(∀r∈A,r.length=n)/\A.length<=1000/\n<=1000/\K (fj (Mx.e9 A n)) st
def jA:List Str:=["rows","wide"]
def xO:DS:=(cm (bV dR (af (c7 (dO (af (aa 1) ak)) [none,some 0] (bG 0) cz (aC uf (af (aa 1) (af (aa 0) ak)))) ak)))
theorem E2(A:List (List Int))(n:Nat):(List.range n).map (fun j=>cj (Mx.nF A j))=(Mx.e9 A n).map cj:=by unfold Mx.e9;rw[List.map_map];rfl
theorem wd:∀ds st K,jz ds st K->ds.length=2/\xO {nx:=fun _ st'=>K .aK st',rt:=K} (a_ jA ds) st:=by
 rintro ds st K ⟨d,A,n,rfl,hd,hw,hl,hn,k⟩;refine⟨rfl,?_⟩;refine eV ⟨by omega,by omega⟩ ⟨bH (by rw[cJ];omega),?_⟩;rw[Int.toNat_natCast];refine gN (fun j=>cj (Mx.nF A j)) n (fun i hi K' q=>⟨_,rfl,d,A,i,rfl,hd,fun r hr=>by rw[hw r hr];exact hi,hl,q⟩) ?_;rw[E2];exact dM rfl k
def qi:cK:=fun ds st K=>∃(n i:Nat),ds=[.int n,.int i]/\n<=1000/\K (cj (Mx.d9 n i)) st
def nc:List Str:=["n","place"]
def Ce:DS:=(cm (bV dR (af (c7 (dO (af (aa 0) ak)) [none,some 1] (bG 0) cz (Ky (cy (aw j8 (aa 0) (aa 1))) (dC (.int 1)) (dC (.int 0)))) ak)))
theorem Ag:∀ds st K,qi ds st K->ds.length=2/\Ce {nx:=fun _ st'=>K .aK st',rt:=K} (a_ nc ds) st:=by
 rintro ds st K ⟨n,i,rfl,hn,k⟩;refine⟨rfl,?_⟩;refine eV ⟨by omega,by omega⟩ ⟨bH (by rw[cJ];omega),?_⟩;rw[Int.toNat_natCast];refine gN (fun j=> .int (Mx.dl j i)) n (fun j hj K' q=>⟨_,rfl,?_⟩) ?_
 . refine eq2 (fun h=>gW ?_) fun h=>?_
   . have:j=i:=by omega
     subst this;rw[Mx.eN]at q;exact q
   . rw[Mx.e_ (by omega)]at q;exact q
 . have:(List.range n).map (fun j=>D.int (Mx.dl j i))=ay (Mx.d9 n i):=by unfold Mx.d9 ay;rw[List.map_map];rfl
   rw[this];exact dM rfl k
def lI:cK:=fun ds st K=>∃(n:Nat),ds=[.int n]/\n<=1000/\K (fj (Mx.units n)) st
def lH:List Str:=["n"]
def Ae:DS:=(cm (bV dR (af (c7 (dO (af (aa 0) ak)) [none,some 0] (bG 0) cz (aC qi (af (aa 1) (af (aa 0) ak)))) ak)))
theorem zS:∀ds st K,lI ds st K->ds.length=1/\Ae {nx:=fun _ st'=>K .aK st',rt:=K} (a_ lH ds) st:=by
 rintro ds st K ⟨n,rfl,hn,k⟩;refine⟨rfl,?_⟩;refine eV ⟨by omega,by omega⟩ ⟨bH (by rw[cJ];omega),?_⟩;rw[Int.toNat_natCast];refine gN (fun i=>cj (Mx.d9 n i)) n (fun i hi K' q=>⟨_,rfl,n,i,rfl,hn,q⟩) ?_;have:(List.range n).map (fun i=>cj (Mx.d9 n i))=(Mx.units n).map cj:=by unfold Mx.units;rw[List.map_map];rfl
 rw[this];exact dM rfl k
def jh:List Int->Nat->Option Nat
 | [],_=>none
 |x::xs,i=>if x=0 then jh xs (i+1)else some i
def ko(r:List Int):Option Nat:=jh r 0
def kj(r:List Int):D:=match ko r with
 |some k=> .int (k:Int)
 |none=> .aK
def iL:cK:=fun ds st K=>∃(d:D) (r:List Int),ds=[d]/\items? st d=some (ay r)/\K (kj r) st
def oA:List Str:=["row","place","number"]
def D4:DS:=(aE (iP (BQ (af (aa 0) ak)) (i4 1 2) (fR (cy (aw pB (aa 2) (dC (.int 0)))) (cm (aa 1)) fv))
 (cm (dC .aK)))
theorem BH:∀ds st K,iL ds st K->ds.length=1/\D4 {nx:=fun _ st'=>K .aK st',rt:=K} (a_ oA ds) st:=by
 rintro ds st K ⟨d,r,rfl,hd,k⟩;refine⟨rfl,?_⟩;refine IA hd fun ok aM=>?_;refine ib (fun rest σ st'=>st'=st/\∃(v1 v2:Option D) (s:List Int) (i:Nat),σ=[some d,v1,v2]/\rest=jy i (ay s)/\jh r 0=jh s i) ?_ ?_ _ _ _ ⟨rfl,none,none,r,0,rfl,rfl,rfl⟩
 . rintro σ st' ⟨rfl,v1,v2,s,i,rfl,hr,hl⟩;match s,hr with
   | [],_=>
     refine⟨aM _ hd,?_⟩;have:kj r= .aK:=by unfold kj ko;rw[hl];rfl
     rw[this]at k;exact k
 . rintro x rest σ st' ⟨rfl,v1,v2,s,i,rfl,hr,hl⟩ next
   match s,hr,hl with
   |y::s,hr,hl=>
    simp only[ay,List.map_cons,jy,List.cons.injEq]at hr;obtain⟨rfl,rfl⟩:=hr;refine⟨aM _ hd,_,rfl,?_⟩;refine ne2 (fun h=>gW ?_) fun h=>?_
    . have:kj r= .int (i:Int):=by unfold kj ko;rw[hl];unfold jh;rw[if_neg h]
      rw[this]at k;exact k
    . refine next _ _ ⟨rfl,_,_,s,i+1,rfl,rfl,?_⟩
      rw[hl];unfold jh;rw[if_pos h];cases s<;>rfl
   | [],hr,_=>cases hr
theorem zF:∀(r:List Int) (i l:Nat),(∀c,c<l->r.getD c 0=0)->r.getD l 0≠0->jh r i=some (i+l)
 | [],_,_,_,h=>(h rfl).elim
 |x::r,i,0,_,h=>by
  unfold jh;rw[if_neg (show¬x=0 from h)];rfl
 |x::r,i,l+1,hz,h=>by
  unfold jh;rw[if_pos (show x=0 from hz 0 (Nat.zero_lt_succ _)),zF r (i+1) l (fun c hc=>hz (c+1) (Nat.succ_lt_succ hc)) h,Nat.add_right_comm];rfl
theorem vh:∀(r:List Int) (i:Nat),jh r i=none->∀c,r.getD c 0=0
 | [],_,_,_=>rfl
 |x::r,i,h,c=>by
  unfold jh at h;split at h
  . cases c with
    |zero=>assumption
    |succ c=>exact vh r (i+1) h c
  . cases h
theorem Dl{r:List Int}{l:Nat}(h:∀c,c<l->r.getD c 0=0)(h':r.getD l 0≠0):ko r=some l:=by
 have:=zF r 0 l h h';rw[Nat.zero_add]at this;exact this
def iX:cK:=fun ds st K=>∃(t d:Int),ds=[.int t,.int d]/\d≠0/\K (.int (Mx.qn t d)) st
def fY:List Str:=["top","bottom"]
def r8:DS:=(cm (aw iJ (aw bW (aw c5 (dC (.int 2)) (aa 0)) (aa 1)) (aw c5 (dC (.int 2)) (aa 1))))
theorem qQ:∀ds st K,iX ds st K->ds.length=2/\r8 {nx:=fun _ st'=>K .aK st',rt:=K} (a_ fY ds) st:=by
 rintro ds st K ⟨t,d,rfl,hd,k⟩;exact⟨rfl,cN (ft (by decide) (by decide)) (du (cN (ft (by decide) (by decide)) (jL (by omega) k)))⟩
def ju:cK:=fun ds st K=>∃(n k o:Nat) (A:List (List Int)),ds=[.ref n,.int k,.int o]/\st[n]?=some (.lst (A.map aG))/\k<A.length/\o<A.length/\K (.ref st.length) (st++[.lst ((Mx.bO A k o).map aG)])
def lV:List Str:=["rows","k","other","order"]
def Aj:DS:=(aE (a6 3 (bV pj (af (aa 0) ak)))
 (aE (eR (aa 3) (aa 1) (aw bg (aa 0) (aa 2)))
 (aE (eR (aa 3) (aa 2) (aw bg (aa 0) (aa 1)))
 (cm (aa 3)))))
theorem dP{A:List (List Int)}{j:Nat}(h:j<A.length):eQ (A.map aG) (j:Int)=some (aG (A.getD j [])):=by
 refine je ?_;rw[List.getElem?_map,List.getElem?_eq_getElem h,Mx.aW h];rfl
theorem mj{m k:Nat}(h:k<m):jl m (k:Int)=some k:=by
 have:=K8 (i:=(k:Int)) (m:=m) (by omega) (by omega);rw[Int.toNat_natCast]at this;exact this
theorem h_{A:List (List Int)}{k:Nat}{r:List Int}:(A.map aG).set k (aG r)=(A.set k r).map aG:=by rw[List.map_set]
theorem ze:∀ds st K,ju ds st K->ds.length=3/\Aj {nx:=fun _ st'=>K .aK st',rt:=K} (a_ lV ds) st:=by
 rintro ds st K ⟨n,k,o,A,rfl,e,hk,ho,kk⟩;refine⟨rfl,?_⟩;have hn:n<st.length:=(List.getElem?_eq_some_iff.mp e).1;refine zC (aO e) ?_;have e1:(st++[Cell.lst (A.map aG)])[n]?=some (.lst (A.map aG)):=by rw[List.getElem?_append_left hn];exact e
 have e2:(st++[Cell.lst (A.map aG)])[st.length]?=some (.lst (A.map aG)):=by simp
 refine aF (aO e1) (dP ho) (gH e2 (by rw[List.length_map];exact mj hk) ?_);rw[h_]
 have es:(st++[Cell.lst (A.map aG)]).set st.length (.lst ((A.set k (A.getD o [])).map aG))=st++[Cell.lst ((A.set k (A.getD o [])).map aG)]:=by
  rw[List.set_append_right _ _ (Nat.le_refl _),Nat.sub_self];rfl
 rw[es];have e3:(st++[Cell.lst ((A.set k (A.getD o [])).map aG)])[n]?=some (.lst (A.map aG)):=by rw[List.getElem?_append_left hn];exact e
 have e4:(st++[Cell.lst ((A.set k (A.getD o [])).map aG)])[st.length]?=some (.lst ((A.set k (A.getD o [])).map aG)):=by simp
 refine aF (aO e3) (dP hk) (gH e4 (by rw[List.length_map,List.length_set];exact mj ho) ?_);rw[h_]
 have es2:(st++[Cell.lst ((A.set k (A.getD o [])).map aG)]).set st.length (.lst (((A.set k (A.getD o [])).set o (A.getD k [])).map aG))=st++[Cell.lst ((Mx.bO A k o).map aG)]:=by
  rw[List.set_append_right _ _ (Nat.le_refl _),Nat.sub_self];rfl
 rw[es2];exact kk
def mz:cK:=fun ds st K=>∃(d:D) (r:List Int),ds=[d]/\items? st d=some (ay r)/\r.length<=1000/\K (aG (r.map fun x=> -x)) st
def oy:List Str:=["row"]
def CF:DS:=(cm (c7 (eh (aa 0)) [none] (bG 0) cz (kI gh (aa 0))))
theorem BL:∀ds st K,mz ds st K->ds.length=1/\CF {nx:=fun _ st'=>K .aK st',rt:=K} (a_ oy ds) st:=by
 rintro ds st K ⟨d,r,rfl,hd,hl,k⟩;refine⟨rfl,?_⟩;refine rW hd fun ok aM=>⟨bH (by unfold ay;rw[List.length_map];exact hl),?_⟩
 refine comp_map (g:=fun x=>match x with| .int a=> .int (-a)|_=> .aK) aM _ (fun x hx K' q=>?_) ?_
 . unfold ay at hx;obtain⟨a,_,rfl⟩:=List.mem_map.mp hx;exact⟨_,rfl,fZ q⟩
 . have e:(ay r).map (fun x=>match x with| .int a=> .int (-a)|_=> .aK)=ay (r.map fun x=> -x):=by unfold ay;rw[List.map_map,List.map_map];rfl
   rw[e];exact k
structure Bn(st:ag)(b xb xu xc:Nat)(A U C:List (List Int)):Prop where
 eb:st[b]?=some (Cell.ins aD [("body",.ref xb),("turn",.ref xu),("back_columns",.ref xc)])
 e1:st[xb]?=some (Cell.lst (A.map aG))
 e2:st[xu]?=some (Cell.lst (U.map aG))
 e3:st[xc]?=some (Cell.lst (C.map aG))
 n1:xb≠xu
 n2:xb≠xc
 n3:xu≠xc
theorem kh{st:ag}{b x:Nat}{C:Addr}{fs:List (Str×D)}{xs:List D}(h1:st[b]?=some (Cell.ins C fs))(h2:st[x]?=some (Cell.lst xs)):b≠x:=fun z=>by rw[z,h2]at h1;cases h1
def jF:cK:=fun ds st K=>∃(b N:Nat) (d:D) (A:List (List Int)),ds=[.ref b,d]/\st[b]?=some (.ins aD [])/\jc st d A/\A.length=N/\N<=8/\∀st',Bn st' b st.length (st.length+1) (st.length+2) A (Mx.units N) (Mx.units N)->st'.length=st.length+3->(∀m,m<st.length->m≠b->st'[m]?=st[m]?)->K .aK st'
def g4:List Str:=["self","rows"]
def uC:DS:=(aE (oJ aD "body" (aa 0) (jt (eh (aa 1)) [none] (bG 0) cz (bV lX (af (aa 0) ak))))
 (aE (oJ aD "turn" (aa 0) (jt (eh (aC lI (af (bV fg (af (aa 1) ak)) ak))) [none] (bG 0) cz (bV lX (af (aa 0) ak))))
 (oJ aD "back_columns" (aa 0) (jt (eh (aC lI (af (bV fg (af (aa 1) ak)) ak))) [none] (bG 0) cz (bV lX (af (aa 0) ak))))))
theorem qh(f:Str)(v:D):∀fs:List (Str×D),(putD f v fs).length<=fs.length+1
 | []=>by simp[putD]
 |(g,x)::r=>by
  unfold putD;split
  . simp
  . have:=qh f v r;simp only[List.length_cons];omega
theorem yL{st:ag}{A:List (List Int)}:cA st (A.map cj) A:=cA.tup
theorem xw(n:Nat):(Mx.units n).length=n:=by unfold Mx.units;simp
theorem tf:∀ds st K,jF ds st K->ds.length=2/\uC {nx:=fun _ st'=>K .aK st',rt:=K} (a_ g4 ds) st:=by
 rintro ds st K ⟨b,N,d,A,rfl,eb,hA,hl,hN,k⟩;refine⟨rfl,?_⟩;have hb:b<st.length:=(List.getElem?_eq_some_iff.mp eb).1;obtain⟨da,hd,ra⟩:=hA.ex;have hdl:=ra.len;have lst:∀(e:D) (r:List Int),True:=fun _ _=>trivial;refine rW hd fun ok aM=>⟨bH (by omega),?_⟩
 refine mY aG aM ra (fun e r hr he K' q=>⟨_,rfl,ny he q⟩) ?_;have eb1:(st++[Cell.lst (A.map aG)])[b]?=some (.ins aD []):=by rw[List.getElem?_append_left hb];exact eb
 refine ng eb1 (by decide) ?_;generalize hs1:(st++[Cell.lst (A.map aG)]).set b (.ins aD (putD "body" (.ref st.length) []))=st1;have l1:st1.length=st.length+1:=by rw[<-hs1];simp
 have f1:∀m,m<st.length->m≠b->st1[m]?=st[m]?:=fun m hm hmb=>by rw[<-hs1,List.getElem?_set_ne (Ne.symm hmb),List.getElem?_append_left hm]
 have b1:st1[b]?=some (.ins aD (putD "body" (.ref st.length) [])):=by rw[<-hs1,List.getElem?_set_self (by simp;omega)]
 have x1:st1[st.length]?=some (.lst (A.map aG)):=by rw[<-hs1,List.getElem?_set_ne (by omega)];simp
 clear hs1
 have itd:∃da',items? st1 d=some da'/\da'.length=N:=by
  cases d with
  |ref n=>
   by_cases hnb:n=b
   . subst hnb;unfold items? at hd;simp only[eb]at hd;cases hd
   . have hn:n<st.length:=by
      unfold items? at hd;simp only at hd;cases q:st[n]? with
      |none=>rw[q]at hd;cases hd
      |some c=>exact(List.getElem?_eq_some_iff.mp q).1
     refine⟨da,?_,by omega⟩;unfold items? at hd⊢;simp only at hd⊢;rw[f1 n hn hnb];exact hd
  |_=>exact⟨da,hd,by omega⟩
 obtain⟨da1,hd1,hdl1⟩:=itd;refine d7 hd1 ?_;rw[hdl1];refine⟨N,rfl,by omega,?_⟩;refine hZ ⟨bH (by rw[List.length_map,xw];omega),?_⟩;refine mY aG trivial yL (fun e r hr he K' q=>⟨_,rfl,ny he q⟩) ?_;have b2:(st1++[Cell.lst ((Mx.units N).map aG)])[b]?=some (.ins aD (putD "body" (.ref st.length) [])):=by rw[List.getElem?_append_left (by omega)];exact b1
 refine ng b2 (by have:=qh "body" (.ref st.length) [];simp only[List.length_nil]at this;omega) ?_;generalize hs2:(st1++[Cell.lst ((Mx.units N).map aG)]).set b (.ins aD (putD "turn" (.ref st1.length) (putD "body" (.ref st.length) [])))=st2;have l2:st2.length=st.length+2:=by rw[<-hs2];simp;omega
 have f2:∀m,m<st1.length->m≠b->st2[m]?=st1[m]?:=fun m hm hmb=>by rw[<-hs2,List.getElem?_set_ne (Ne.symm hmb),List.getElem?_append_left hm]
 have b2':st2[b]?=some (.ins aD (putD "turn" (.ref st1.length) (putD "body" (.ref st.length) []))):=by rw[<-hs2,List.getElem?_set_self (by simp;omega)]
 have x2:st2[st1.length]?=some (.lst ((Mx.units N).map aG)):=by rw[<-hs2,List.getElem?_set_ne (by omega)];simp
 clear hs2
 have itd2:items? st2 d=some da1:=by
  cases d with
  |ref n=>
   by_cases hnb:n=b
   . subst hnb;unfold items? at hd1;simp only[b1]at hd1;cases hd1
   . have hn:n<st1.length:=by
      unfold items? at hd1;simp only at hd1;cases q:st1[n]? with
      |none=>rw[q]at hd1;cases hd1
      |some c=>exact(List.getElem?_eq_some_iff.mp q).1
     unfold items? at hd1⊢;simp only at hd1⊢;rw[f2 n hn hnb];exact hd1
  |_=>exact hd1
 refine d7 itd2 ?_;rw[hdl1];refine⟨N,rfl,by omega,?_⟩;refine hZ ⟨bH (by rw[List.length_map,xw];omega),?_⟩;refine mY aG trivial yL (fun e r hr he K' q=>⟨_,rfl,ny he q⟩) ?_;have b3:(st2++[Cell.lst ((Mx.units N).map aG)])[b]?=some (.ins aD (putD "turn" (.ref st1.length) (putD "body" (.ref st.length) []))):=by rw[List.getElem?_append_left (by omega)];exact b2'
 refine ng b3 (by have h1:=qh "body" (.ref st.length) [];have h2:=qh "turn" (.ref st1.length) (putD "body" (.ref st.length) []);simp only[List.length_nil]at h1;omega) ?_;refine k _ ⟨?_,?_,?_,?_,by omega,by omega,by omega⟩ (by simp;omega) fun m hm hmb=>?_
 . rw[List.getElem?_set_self (by simp;omega),l1,l2];rfl
 . rw[List.getElem?_set_ne (by omega),List.getElem?_append_left (by omega),f2 _ (by omega) (by omega)];exact x1
 . rw[List.getElem?_set_ne (by omega),List.getElem?_append_left (by omega)];rw[l1]at x2;exact x2
 . rw[List.getElem?_set_ne (by omega)];rw[show st.length+2=st2.length by omega];simp
 . rw[List.getElem?_set_ne (Ne.symm hmb),List.getElem?_append_left (by omega),f2 m (by omega) hmb,f1 m hm hmb]
def kv:cK:=fun ds st K=>∃(b xb xu xc N w k j:Nat) (A U C:List (List Int)) (q:Int),ds=[.ref b,.int k,.int q,.int j]/\Bn st b xb xu xc A U C/\Mx.cS N w A/\Mx.cS N N U/\Mx.cS N N C/\k<N/\j<N/\N<=8/\w<=9/\(∀x∈A.getD j [],IntMulOk (-q) x)/\(∀x∈U.getD j [],IntMulOk (-q) x)/\(∀x∈C.getD k [],IntMulOk q x)/\
 ∀st',Bn st' b xb xu xc (Mx.bX A k q j) (Mx.bX U k q j) (Mx.bX C j (-q) k)->st'.length=st.length->(∀m,m≠xb->m≠xu->m≠xc->st'[m]?=st[m]?)->K .aK st'
def kb:List Str:=["self","k","times","other"]
def yV:DS:=(aE (eR (dZ aD "body" (aa 0)) (aa 1) (aC nh (af (aw bg (dZ aD "body" (aa 0)) (aa 1)) (af (kI gh (aa 2)) (af (aw bg (dZ aD "body" (aa 0)) (aa 3)) ak)))))
 (aE (eR (dZ aD "turn" (aa 0)) (aa 1) (aC nh (af (aw bg (dZ aD "turn" (aa 0)) (aa 1)) (af (kI gh (aa 2)) (af (aw bg (dZ aD "turn" (aa 0)) (aa 3)) ak)))))
 (eR (dZ aD "back_columns" (aa 0)) (aa 3) (aC nh (af (aw bg (dZ aD "back_columns" (aa 0)) (aa 3)) (af (aa 2) (af (aw bg (dZ aD "back_columns" (aa 0)) (aa 1)) ak)))))))
theorem xI:∀ds st K,kv ds st K->ds.length=4/\yV {nx:=fun _ st'=>K .aK st',rt:=K} (a_ kb ds) st:=by
 rintro ds st K ⟨b,xb,xu,xc,N,w,k,j,A,U,C,q,rfl,B,hA,hU,hC,hk,hj,hN,hw,mA,mU,mC,kk⟩;refine⟨rfl,?_⟩;have lA:=hA.len;have lU:=hU.len;have lC:=hC.len;have rA:=Mx.cV hA hk;have rU:=Mx.cV hU hk;have rC:=Mx.cV hC hj;have bx1:=kh B.eb B.e1;have bx2:=kh B.eb B.e2;have bx3:=kh B.eb B.e3;have n1:=B.n1;have n2:=B.n2;have n3:=B.n3;refine cM B.eb rfl (aF (aO B.e1) (dP (by omega)) (fZ (cM B.eb rfl (aF (aO B.e1) (dP (by omega)) ?_))));refine⟨_,_,-q,A.getD k [],A.getD j [],rfl,rfl,rfl,by omega,mA,?_⟩;refine cM B.eb rfl (gH B.e1 (by rw[List.length_map,lA];exact mj hk) ?_);rw[h_];have g1:∀m,m≠xb->(st.set xb (.lst ((A.set k (Mx.eH (A.getD k []) (-q) (A.getD j []))).map aG)))[m]?=st[m]?:=fun m hm=>List.getElem?_set_ne (Ne.symm hm);have h1:(st.set xb (.lst ((A.set k (Mx.eH (A.getD k []) (-q) (A.getD j []))).map aG)))[xb]?=some (.lst ((Mx.bX A k q j).map aG)):=List.getElem?_set_self (List.getElem?_eq_some_iff.mp B.e1).1;have z1:(st.set xb (.lst ((A.set k (Mx.eH (A.getD k []) (-q) (A.getD j []))).map aG))).length=st.length:=List.length_set;generalize st.set xb (.lst ((A.set k (Mx.eH (A.getD k []) (-q) (A.getD j []))).map aG))=st1 at g1 h1 z1⊢;have eb1:=(g1 b bx1).trans B.eb;have e21:=(g1 xu (Ne.symm n1)).trans B.e2;have e31:=(g1 xc (Ne.symm n2)).trans B.e3;refine cM eb1 rfl (aF (aO e21) (dP (by omega)) (fZ (cM eb1 rfl (aF (aO e21) (dP (by omega)) ?_))));refine⟨_,_,-q,U.getD k [],U.getD j [],rfl,rfl,rfl,by omega,mU,?_⟩;refine cM eb1 rfl (gH e21 (by rw[List.length_map,lU];exact mj hk) ?_);rw[h_];have g2:∀m,m≠xu->(st1.set xu (.lst ((U.set k (Mx.eH (U.getD k []) (-q) (U.getD j []))).map aG)))[m]?=st1[m]?:=fun m hm=>List.getElem?_set_ne (Ne.symm hm);have h2:(st1.set xu (.lst ((U.set k (Mx.eH (U.getD k []) (-q) (U.getD j []))).map aG)))[xu]?=some (.lst ((Mx.bX U k q j).map aG)):=List.getElem?_set_self (List.getElem?_eq_some_iff.mp e21).1;have z2:(st1.set xu (.lst ((U.set k (Mx.eH (U.getD k []) (-q) (U.getD j []))).map aG))).length=st1.length:=List.length_set;generalize st1.set xu (.lst ((U.set k (Mx.eH (U.getD k []) (-q) (U.getD j []))).map aG))=st2 at g2 h2 z2⊢;have eb2:=(g2 b bx2).trans eb1;have e32:=(g2 xc (Ne.symm n3)).trans e31;refine cM eb2 rfl (aF (aO e32) (dP (by omega)) (cM eb2 rfl (aF (aO e32) (dP (by omega)) ?_)));refine⟨_,_,q,C.getD j [],C.getD k [],rfl,rfl,rfl,by omega,mC,?_⟩;refine cM eb2 rfl (gH e32 (by rw[List.length_map,lC];exact mj hj) ?_);rw[h_];have hc:C.set j (Mx.eH (C.getD j []) q (C.getD k []))=Mx.bX C j (-q) k:=by unfold Mx.bX;rw[Int.neg_neg]
 rw[hc];refine kk _ ⟨?_,?_,?_,?_,n1,n2,n3⟩ (by rw[List.length_set];omega) fun m m1 m2 m3=>?_
 . rw[List.getElem?_set_ne (Ne.symm bx3)];exact eb2
 . rw[List.getElem?_set_ne (Ne.symm n2),g2 _ n1];exact h1
 . rw[List.getElem?_set_ne (Ne.symm n3)];exact h2
 . exact List.getElem?_set_self (List.getElem?_eq_some_iff.mp e32).1
 . rw[List.getElem?_set_ne (Ne.symm m3),g2 m m2,g1 m m1]
def jD:cK:=fun ds st K=>∃(b xb xu xc N w k o:Nat) (A U C:List (List Int)),ds=[.ref b,.int k,.int o]/\Bn st b xb xu xc A U C/\Mx.cS N w A/\Mx.cS N N U/\Mx.cS N N C/\k<N/\o<N/\
 ∀st',Bn st' b st.length (st.length+1) (st.length+2) (Mx.bO A k o) (Mx.bO U k o) (Mx.bO C k o)->st'.length=st.length+3->(∀m,m<st.length->m≠b->st'[m]?=st[m]?)->K .aK st'
def gT:List Str:=["self","k","other"]
def uv:DS:=(aE (oJ aD "body" (aa 0) (aC ju (af (dZ aD "body" (aa 0)) (af (aa 1) (af (aa 2) ak)))))
 (aE (oJ aD "turn" (aa 0) (aC ju (af (dZ aD "turn" (aa 0)) (af (aa 1) (af (aa 2) ak)))))
 (oJ aD "back_columns" (aa 0) (aC ju (af (dZ aD "back_columns" (aa 0)) (af (aa 1) (af (aa 2) ak)))))))
theorem tx:∀ds st K,jD ds st K->ds.length=3/\uv {nx:=fun _ st'=>K .aK st',rt:=K} (a_ gT ds) st:=by
 rintro ds st K ⟨b,xb,xu,xc,N,w,k,o,A,U,C,rfl,B,hA,hU,hC,hk,ho,kk⟩;refine⟨rfl,?_⟩;have lA:=hA.len;have lU:=hU.len;have lC:=hC.len;have bx1:=kh B.eb B.e1;have bx2:=kh B.eb B.e2;have bx3:=kh B.eb B.e3;have hb:b<st.length:=(List.getElem?_eq_some_iff.mp B.eb).1;have hu:xu<st.length:=(List.getElem?_eq_some_iff.mp B.e2).1;have hc:xc<st.length:=(List.getElem?_eq_some_iff.mp B.e3).1;refine cM B.eb rfl ?_;refine⟨xb,k,o,A,rfl,B.e1,by omega,by omega,?_⟩;have eb1:(st++[Cell.lst ((Mx.bO A k o).map aG)])[b]?=some (.ins aD [("body",.ref xb),("turn",.ref xu),("back_columns",.ref xc)]):=by rw[List.getElem?_append_left hb];exact B.eb
 refine ng eb1 (by simp) ?_;have pb:putD "body" (.ref st.length) [("body",.ref xb),("turn",.ref xu),("back_columns",.ref xc)]=([("body",.ref st.length),("turn",.ref xu),("back_columns",.ref xc)]:List (Str×D)):=rfl;rw[pb];generalize hs1:(st++[Cell.lst ((Mx.bO A k o).map aG)]).set b (.ins aD [("body",.ref st.length),("turn",.ref xu),("back_columns",.ref xc)])=st1;have l1:st1.length=st.length+1:=by rw[<-hs1];simp
 have f1:∀m,m<st.length->m≠b->st1[m]?=st[m]?:=fun m hm hmb=>by rw[<-hs1,List.getElem?_set_ne (Ne.symm hmb),List.getElem?_append_left hm]
 have b1:st1[b]?=some (.ins aD [("body",.ref st.length),("turn",.ref xu),("back_columns",.ref xc)]):=by rw[<-hs1,List.getElem?_set_self (by simp;omega)]
 have x1:st1[st.length]?=some (.lst ((Mx.bO A k o).map aG)):=by rw[<-hs1,List.getElem?_set_ne (by omega)];simp
 clear hs1 eb1;refine cM b1 rfl ?_;refine⟨xu,k,o,U,rfl,(f1 xu hu (Ne.symm bx2)).trans B.e2,by omega,by omega,?_⟩;have eb1:(st1++[Cell.lst ((Mx.bO U k o).map aG)])[b]?=some (.ins aD [("body",.ref st.length),("turn",.ref xu),("back_columns",.ref xc)]):=by rw[List.getElem?_append_left (by omega)];exact b1
 refine ng eb1 (by simp) ?_;have pb:putD "turn" (.ref st1.length) [("body",.ref st.length),("turn",.ref xu),("back_columns",.ref xc)]=([("body",.ref st.length),("turn",.ref st1.length),("back_columns",.ref xc)]:List (Str×D)):=rfl;rw[pb];generalize hs2:(st1++[Cell.lst ((Mx.bO U k o).map aG)]).set b (.ins aD [("body",.ref st.length),("turn",.ref st1.length),("back_columns",.ref xc)])=st2;have l2:st2.length=st.length+2:=by rw[<-hs2];simp;omega
 have f2:∀m,m<st1.length->m≠b->st2[m]?=st1[m]?:=fun m hm hmb=>by rw[<-hs2,List.getElem?_set_ne (Ne.symm hmb),List.getElem?_append_left hm]
 have b2:st2[b]?=some (.ins aD [("body",.ref st.length),("turn",.ref st1.length),("back_columns",.ref xc)]):=by rw[<-hs2,List.getElem?_set_self (by simp;omega)]
 have x2:st2[st1.length]?=some (.lst ((Mx.bO U k o).map aG)):=by rw[<-hs2,List.getElem?_set_ne (by omega)];simp
 clear hs2 eb1;refine cM b2 rfl ?_;refine⟨xc,k,o,C,rfl,((f2 xc (by omega) (Ne.symm bx3)).trans (f1 xc hc (Ne.symm bx3))).trans B.e3,by omega,by omega,?_⟩;have eb1:(st2++[Cell.lst ((Mx.bO C k o).map aG)])[b]?=some (.ins aD [("body",.ref st.length),("turn",.ref st1.length),("back_columns",.ref xc)]):=by rw[List.getElem?_append_left (by omega)];exact b2
 refine ng eb1 (by simp) ?_;have pb:putD "back_columns" (.ref st2.length) [("body",.ref st.length),("turn",.ref st1.length),("back_columns",.ref xc)]=([("body",.ref st.length),("turn",.ref st1.length),("back_columns",.ref st2.length)]:List (Str×D)):=rfl;rw[pb];refine kk _ ⟨?_,?_,?_,?_,by omega,by omega,by omega⟩ (by simp;omega) fun m hm hmb=>?_
 . rw[List.getElem?_set_self (by simp;omega),l1,l2]
 . rw[List.getElem?_set_ne (by omega),List.getElem?_append_left (by omega),f2 _ (by omega) (by omega)];exact x1
 . rw[List.getElem?_set_ne (by omega),List.getElem?_append_left (by omega)];rw[l1]at x2;exact x2
 . rw[List.getElem?_set_ne (by omega)];rw[show st.length+2=st2.length by omega];simp
 . rw[List.getElem?_set_ne (Ne.symm hmb),List.getElem?_append_left (by omega),f2 m (by omega) hmb,f1 m hm hmb]
def ir:cK:=fun ds st K=>∃(b xb xu xc N w k:Nat) (A U C:List (List Int)),ds=[.ref b,.int k]/\Bn st b xb xu xc A U C/\Mx.cS N w A/\Mx.cS N N U/\Mx.cS N N C/\k<N/\N<=8/\w<=9/\
 ∀st',Bn st' b xb xu xc (Mx.gy A k) (Mx.gy U k) (Mx.gy C k)->st'.length=st.length->(∀m,m≠xb->m≠xu->m≠xc->st'[m]?=st[m]?)->K .aK st'
def fO:List Str:=["self","k"]
def qR:DS:=(aE (eR (dZ aD "body" (aa 0)) (aa 1) (aC mz (af (aw bg (dZ aD "body" (aa 0)) (aa 1)) ak)))
 (aE (eR (dZ aD "turn" (aa 0)) (aa 1) (aC mz (af (aw bg (dZ aD "turn" (aa 0)) (aa 1)) ak)))
 (eR (dZ aD "back_columns" (aa 0)) (aa 1) (aC mz (af (aw bg (dZ aD "back_columns" (aa 0)) (aa 1)) ak)))))
theorem qk:∀ds st K,ir ds st K->ds.length=2/\qR {nx:=fun _ st'=>K .aK st',rt:=K} (a_ fO ds) st:=by
 rintro ds st K ⟨b,xb,xu,xc,N,w,k,A,U,C,rfl,B,hA,hU,hC,hk,hN,hw,kk⟩;refine⟨rfl,?_⟩;have lA:=hA.len;have lU:=hU.len;have lC:=hC.len;have rA:=Mx.cV hA hk;have rU:=Mx.cV hU hk;have rC:=Mx.cV hC hk;have bx1:=kh B.eb B.e1;have bx2:=kh B.eb B.e2;have bx3:=kh B.eb B.e3;have n1:=B.n1;have n2:=B.n2;have n3:=B.n3;refine cM B.eb rfl (aF (aO B.e1) (dP (by omega)) ?_);refine⟨_,A.getD k [],rfl,rfl,by omega,?_⟩;refine cM B.eb rfl (gH B.e1 (by rw[List.length_map,lA];exact mj hk) ?_);rw[h_];have g1:∀m,m≠xb->(st.set xb (.lst ((A.set k ((A.getD k []).map fun x=> -x)).map aG)))[m]?=st[m]?:=fun m hm=>List.getElem?_set_ne (Ne.symm hm);have h1:(st.set xb (.lst ((A.set k ((A.getD k []).map fun x=> -x)).map aG)))[xb]?=some (.lst ((Mx.gy A k).map aG)):=List.getElem?_set_self (List.getElem?_eq_some_iff.mp B.e1).1;have z1:(st.set xb (.lst ((A.set k ((A.getD k []).map fun x=> -x)).map aG))).length=st.length:=List.length_set;generalize st.set xb (.lst ((A.set k ((A.getD k []).map fun x=> -x)).map aG))=st1 at g1 h1 z1⊢;have eb1:=(g1 b bx1).trans B.eb;have e21:=(g1 xu (Ne.symm n1)).trans B.e2;have e31:=(g1 xc (Ne.symm n2)).trans B.e3;refine cM eb1 rfl (aF (aO e21) (dP (by omega)) ?_);refine⟨_,U.getD k [],rfl,rfl,by omega,?_⟩;refine cM eb1 rfl (gH e21 (by rw[List.length_map,lU];exact mj hk) ?_);rw[h_];have g2:∀m,m≠xu->(st1.set xu (.lst ((U.set k ((U.getD k []).map fun x=> -x)).map aG)))[m]?=st1[m]?:=fun m hm=>List.getElem?_set_ne (Ne.symm hm);have h2:(st1.set xu (.lst ((U.set k ((U.getD k []).map fun x=> -x)).map aG)))[xu]?=some (.lst ((Mx.gy U k).map aG)):=List.getElem?_set_self (List.getElem?_eq_some_iff.mp e21).1;have z2:(st1.set xu (.lst ((U.set k ((U.getD k []).map fun x=> -x)).map aG))).length=st1.length:=List.length_set;generalize st1.set xu (.lst ((U.set k ((U.getD k []).map fun x=> -x)).map aG))=st2 at g2 h2 z2⊢;have eb2:=(g2 b bx2).trans eb1;have e32:=(g2 xc (Ne.symm n3)).trans e31;refine cM eb2 rfl (aF (aO e32) (dP (by omega)) ?_);refine⟨_,C.getD k [],rfl,rfl,by omega,?_⟩;refine cM eb2 rfl (gH e32 (by rw[List.length_map,lC];exact mj hk) ?_);rw[h_];refine kk _ ⟨?_,?_,?_,?_,n1,n2,n3⟩ (by rw[List.length_set];omega) fun m m1 m2 m3=>?_
 . rw[List.getElem?_set_ne (Ne.symm bx3)];exact eb2
 . rw[List.getElem?_set_ne (Ne.symm n2),g2 _ n1];exact h1
 . rw[List.getElem?_set_ne (Ne.symm n3)];exact h2
 . exact List.getElem?_set_self (List.getElem?_eq_some_iff.mp e32).1
 . rw[List.getElem?_set_ne (Ne.symm m3),g2 m m2,g1 m m1]
def gm:cK:=fun ds st K=>∃(b xb xu xc N w top p:Nat) (A U C:List (List Int)) (f:Bool),ds=[.ref b,.int top,.int p]/\Bn st b xb xu xc A U C/\Mx.cS N w A/\top<=N/\N<=8/\p<w/\w<=9/\st[0]?=some (ik f)/\
 ∀L,Mx.iq A N top p L->K (.lst (L.map fun(k:Nat)=> .int (k:Int))) (st.set 0 (ik true))
def gn:List Str:=["self","top","place","live"]
def tw:DS:=(aE (a6 3 (c7 (sE (af (aa 1) (af (bV fg (af (dZ aD "body" (aa 0)) ak)) ak))) [none,some 0,some 2] (bG 0) (cy (aw pB (aw bg (aw bg (dZ aD "body" (aa 1)) (aa 0)) (aa 2)) (dC (.int 0)))) (aa 0)))
 (cm (yK 0 161 ⟨82,32,82,66⟩ "Bench.live_rows.<locals>.<lambda>" [none,some 0,some 2] (bV o3 (af (aw bg (aw bg (dZ aD "body" (aa 1)) (aa 0)) (aa 2)) ak)) (aa 3))))
theorem va{a b:Prop}(h:b):if false=true then a else b:=h
theorem HJ{st:ag}{b:Nat}{C:Addr}{fs:List (Str×D)}{f:Bool}(h1:st[b]?=some (Cell.ins C fs))(h2:st[0]?=some (ik f)):b≠0:=fun z=>by rw[z,h2]at h1;cases h1
theorem sR{st:ag}{b:Nat}{xs:List D}{f:Bool}(h1:st[b]?=some (Cell.lst xs))(h2:st[0]?=some (ik f)):b≠0:=fun z=>by rw[z,h2]at h1;cases h1
theorem Bn.keep{st st':ag}{b xb xu xc:Nat}{A U C:List (List Int)}(B:Bn st b xb xu xc A U C)(h:∀m,m=b\/m=xb\/m=xu\/m=xc->st'[m]?=st[m]?):Bn st' b xb xu xc A U C:=
 ⟨(h b (.inl rfl)).trans B.eb,(h xb (.inr (.inl rfl))).trans B.e1,(h xu (.inr (.inr (.inl rfl)))).trans B.e2,(h xc (.inr (.inr (.inr rfl)))).trans B.e3,B.n1,B.n2,B.n3⟩
theorem Bn.tab{st:ag}{b xb xu xc:Nat}{A U C:List (List Int)}{f:Bool}(B:Bn st b xb xu xc A U C)(h:st[0]?=some (ik f))(c:Cell):Bn (st.set 0 c) b xb xu xc A U C:=
 B.keep fun m hm=>List.getElem?_set_ne fun z=>by
  subst z;rcases hm with rfl|rfl|rfl|rfl
  . exact HJ B.eb h rfl
  . exact sR B.e1 h rfl
  . exact sR B.e2 h rfl
  . exact sR B.e3 h rfl
theorem nZ{r:List Int}{k:Nat}(h:k<r.length):eQ (ay r) (k:Int)=some (.int (r.getD k 0)):=by
 refine je ?_;unfold ay;rw[List.getElem?_map,List.getElem?_eq_getElem h,Mx.aW h];rfl
def fV(A:List (List Int))(N top p:Nat):List Nat:=(List.range (N-top)).filterMap fun i=>if Mx.g A (top+i) p≠0 then some (top+i)else none
theorem xj{A:List (List Int)}{N top p k:Nat}:k∈fV A N top p↔top<=k/\k<N/\Mx.g A k p≠0:=by
 unfold fV;rw[List.mem_filterMap];constructor
 . rintro⟨i,hi,e⟩;rw[List.mem_range]at hi;split at e
   . rename_i h;cases e;exact⟨by omega,by omega,h⟩
   . cases e
 . rintro⟨h1,h2,h3⟩;refine⟨k-top,List.mem_range.mpr (by omega),?_⟩;rw[show top+(k-top)=k by omega,if_pos h3]
theorem pw_filterMap{f:Nat->Option Nat}(h:∀i j a b,i<j->f i=some a->f j=some b->a<b):∀ {l:List Nat},l.Pairwise (· < ·)->(l.filterMap f).Pairwise (· < ·)
 | [],_=>by simp
 |x::l,hl=>by
  obtain⟨h1,h2⟩:=List.pairwise_cons.mp hl;rw[List.filterMap_cons];split
  . exact pw_filterMap h h2
  . rename_i a e;refine List.pairwise_cons.mpr ⟨fun b hb=>?_,pw_filterMap h h2⟩;obtain⟨j,hj,ej⟩:=List.mem_filterMap.mp hb;exact h x j a b (h1 j hj) e ej
theorem pw_liveR{A:List (List Int)}{N top p:Nat}:(fV A N top p).Pairwise (· < ·):=by
 unfold fV;refine pw_filterMap (fun i j a b hij ha hb=>?_) List.pairwise_lt_range;split at ha
 . split at hb
   . cases ha;cases hb;omega
   . cases hb
 . cases ha
theorem xG{f:Nat->Option Nat}(l:List Nat):(l.filterMap f).length<=l.length:=List.length_filterMap_le ..
theorem HK{A:List (List Int)}{N top p:Nat}{os:List (Int×Int)}(hp:os.Perm (((fV A N top p).map fun(k:Nat)=>(((Mx.g A k p).natAbs:Nat):Int)).zip ((fV A N top p).map fun(k:Nat)=>(k:Int))))(hs:os.Pairwise slt):
 Mx.iq A N top p (os.map fun q=>q.2.toNat)/\os.map (fun q=>D.int q.2)=(os.map fun q=>q.2.toNat).map fun(k:Nat)=>D.int (k:Int):=by
 have hz:((fV A N top p).map fun(k:Nat)=>(((Mx.g A k p).natAbs:Nat):Int)).zip ((fV A N top p).map fun(k:Nat)=>(k:Int))=(fV A N top p).map fun k=>((((Mx.g A k p).natAbs:Nat):Int),(k:Int)):=by
  exact List.zip_map' ..
 rw[hz]at hp
 have hm:∀q∈os,∃k,k∈fV A N top p/\q=((((Mx.g A k p).natAbs:Nat):Int),(k:Int)):=fun q hq=>by
  obtain⟨k,h1,h2⟩:=List.mem_map.mp (hp.mem_iff.mp hq);exact⟨k,h1,h2.symm⟩
 refine⟨⟨fun k=>?_,?_⟩,?_⟩
 . rw[<-xj];constructor
   . intro h;obtain⟨q,hq,e⟩:=List.mem_map.mp h;obtain⟨j,h1,rfl⟩:=hm q hq;simp only[Int.toNat_natCast]at e;rw[<-e];exact h1
   . intro h;exact List.mem_map.mpr ⟨((((Mx.g A k p).natAbs:Nat):Int),(k:Int)),hp.mem_iff.mpr (List.mem_map.mpr ⟨k,h,rfl⟩),by simp⟩
 . rw[List.pairwise_map];refine hs.imp_of_mem fun{x y} hx hy h=>?_;obtain⟨j,_,rfl⟩:=hm x hx;obtain⟨k,_,rfl⟩:=hm y hy;unfold slt at h;simp only[Int.toNat_natCast];omega
 . rw[List.map_map];refine List.map_congr_left fun q hq=>?_;obtain⟨j,_,rfl⟩:=hm q hq;simp
theorem rR:∀ds st K,gm ds st K->ds.length=3/\tw {nx:=fun _ st'=>K .aK st',rt:=K} (a_ gn ds) st:=by
 rintro ds st K ⟨b,xb,xu,xc,N,w,top,p,A,U,C,f,rfl,B,hA,ht,hN,hp,hw,h0,k⟩;refine⟨rfl,?_⟩;have lA:=hA.len;have rowA:∀i,i<N->(A.getD i []).length=w:=fun i hi=>Mx.cV hA hi;refine cM B.eb rfl (d7 (aO B.e1) ?_);rw[List.length_map,lA];refine HV ⟨by omega,by omega,by omega,by omega⟩ ⟨bH (by unfold dm;simp;omega),?_⟩;have er:((N:Int)-(top:Int)).toNat=N-top:=by omega
 rw[er];refine iG (fun rest acc st'=>∃i:Nat,i<=N-top/\st'=st/\rest=(List.range (N-top-i)).map (fun j=>D.int ((top+i+j:Nat):Int))/\acc=((List.range i).filterMap fun i=>if Mx.g A (top+i) p≠0 then some (top+i)else none).map fun(k:Nat)=>D.int (k:Int)) ?_ ?_ _ _ _ ⟨0,Nat.zero_le _,rfl,by unfold dm;simp,by simp⟩
 . rintro acc st' ⟨i,hi,rfl,hr,rfl⟩
   have hi':i=N-top:=by
    rcases Nat.lt_or_ge i (N-top)with z|z
    . rw[show N-top-i=(N-top-i-1)+1 by omega,List.range_succ_eq_map]at hr;cases hr
    . omega
   subst hi';refine⟨trivial,?_⟩;have e1:((fV A N top p).map fun(k:Nat)=>D.int (k:Int))=((fV A N top p).map fun(k:Nat)=>(k:Int)).map D.int:=by rw[List.map_map];rfl
   refine⟨(fV A N top p).map fun(k:Nat)=>(k:Int),(fV A N top p).map fun(k:Nat)=>(((Mx.g A k p).natAbs:Nat):Int),f,congrArg D.lst e1,?_,?_,by rw[List.length_map,List.length_map],h0,fun i n q hn hq=>?_,fun os hp' hs=>?_⟩
   . rw[List.length_map];have:=xG (f:=fun i=>if Mx.g A (top+i) p≠0 then some (top+i)else none) (List.range (N-top));rw[List.length_range]at this;show(fV A N top p).length<64;unfold fV;omega
   . rw[List.pairwise_map];exact pw_liveR.imp fun h=>by omega
   . rw[List.getElem?_map]at hn hq;cases z:(fV A N top p)[i]? with
     |none=>rw[z]at hn;cases hn
     |some j=>
      rw[z]at hn hq;cases hn;cases hq;obtain⟨j1,j2,j3⟩:=xj.mp (List.mem_of_getElem? z);have B1:=B.tab h0 (ik true);refine cM B1.eb rfl (aF (aO B1.e1) (dP (by omega)) (aF rfl (nZ (by rw[rowA j j2];exact hp)) (pF ⟨rfl,rfl⟩)))
   . obtain⟨h1,h2⟩:=HK hp' hs;rw[h2];exact k _ h1
 . rintro d rest acc st' ⟨i,hi,rfl,hr,rfl⟩ next
   have hlt:i<N-top:=by
    rcases Nat.lt_or_ge i (N-top)with z|z
    . exact z
    . rw[show N-top-i=0 by omega]at hr;cases hr
   rw[show N-top-i=(N-top-i-1)+1 by omega,List.range_succ_eq_map,List.map_cons,List.map_map]at hr;obtain⟨rfl,rfl⟩:=List.cons.inj hr;refine⟨trivial,_,rfl,?_⟩;refine cM B.eb rfl (aF (aO B.e1) (dP (j:=top+i+0) (by omega)) (aF rfl (nZ (by rw[rowA _ (by omega)];exact hp)) ?_));have e2:List.range (i+1)=List.range i++[i]:=List.range_succ
   have e3:((List.range (N-top-i-1)).map ((fun j=>D.int ((top+i+j:Nat):Int))∘Nat.succ))=(List.range (N-top-(i+1))).map fun j=>D.int ((top+(i+1)+j:Nat):Int):=by
    rw[show N-top-i-1=N-top-(i+1) by omega];refine List.map_congr_left fun j _=>?_;show D.int ((top+i+(j+1):Nat):Int)=_;rw[show top+i+(j+1)=top+(i+1)+j by omega]
   refine ne2 (fun h=>?_) fun h=>?_
   . refine(next _ _ ⟨i+1,by omega,rfl,e3,?_⟩);rw[e2,List.filterMap_append,List.map_append];have:Mx.g A (top+i) p≠0:=h;simp[this]
   . refine(next _ _ ⟨i+1,by omega,rfl,e3,?_⟩);rw[e2,List.filterMap_append,List.map_append];have:Mx.g A (top+i) p=0:=h;simp[this]
structure Bo(n0:Nat)(st st':ag)(b xb xu xc:Nat):Prop where
 lo:1<=n0/\n0<=b/\n0<=xb/\n0<=xu/\n0<=xc
 fr:∀m,m<n0->m≠0->st'[m]?=st[m]?
 tb:∃f,st'[0]?=some (ik f)
def k6:cK:=fun ds st K=>∃(n0 b xb xu xc N w top p e u:Nat) (A0 A U C:List (List Int)) (ld:Nat->Nat),ds=[.ref b,.int top,.int p]/\Bn st b xb xu xc A U C/\Bo n0 st st b xb xu xc/\Mx.jT A0 N w ⟨A,U,C⟩ top p ld e u/\N<=8/\w<=9/\p<w/\(N-top+1)*(e+1)<=60000000/\
 (∀st',Bn st' b xb xu xc A U C->Bo n0 st st' b xb xu xc->Mx.iq A N top p []->K (.bl false) st')/\
 ∀st' xb' xu' xc' (c:Mx.B3) (r:Nat),Bn st' b xb' xu' xc' (Mx.setB c p top r).A (Mx.setB c p top r).U (Mx.setB c p top r).C->Bo n0 st st' b xb' xu' xc'->Mx.gb N top p ⟨A,U,C⟩ c->Mx.iq c.A N top p [r]->top<N->
  Mx.we A0 N w top p (2^((N-top+1)*(e+1))) ⟨A,U,C⟩ (Mx.setB c p top r)->K (.bl true) st'
def jd:List Str:=["self","top","place","live","great","small"]
def wa:DS:=(aE (a6 3 (js aD "live_rows" gm (aa 0) (af (aa 1) (af (aa 2) ak))))
 (aE (pC (cy (aw qM (bV fg (af (aa 3) ak)) (dC (.int 1)))) (aE (a6 4 (aw bg (aa 3) (kI gh (dC (.int 1)))))
 (aE (a6 5 (aw bg (aa 3) (kI gh (dC (.int 2)))))
 (aE (jv (js aD "take" kv (aa 0) (af (aa 4) (af (aC iX (af (aw bg (aw bg (dZ aD "body" (aa 0)) (aa 4)) (aa 2)) (af (aw bg (aw bg (dZ aD "body" (aa 0)) (aa 5)) (aa 2)) ak))) (af (aa 5) ak)))))
 (a6 3 (js aD "live_rows" gm (aa 0) (af (aa 1) (af (aa 2) ak))))))))
 (aE (fR (cy (aw j8 (bV fg (af (aa 3) ak)) (dC (.int 0)))) (cm (dC (.bl false))) fv)
 (aE (jv (js aD "exchange" jD (aa 0) (af (aa 1) (af (aw bg (aa 3) (dC (.int 0))) ak))))
 (aE (fR (cy (aw pX (aw bg (aw bg (dZ aD "body" (aa 0)) (aa 1)) (aa 2)) (dC (.int 0)))) (jv (js aD "change_sign" ir (aa 0) (af (aa 1) ak))) fv)
 (cm (dC (.bl true))))))))
theorem Bo.Lc{n0:Nat}{st st':ag}{b xb xu xc:Nat}(h:Bo n0 st st' b xb xu xc):Bo n0 st (st'.set 0 (ik true)) b xb xu xc:=
 ⟨h.lo,fun m hm h0=>by rw[List.getElem?_set_ne (Ne.symm h0)];exact h.fr m hm h0,true,by
  obtain⟨f,e⟩:=h.tb;exact List.getElem?_set_self (List.getElem?_eq_some_iff.mp e).1⟩
theorem Bo.low{n0:Nat}{st st1 st2:ag}{b xb xu xc:Nat}(h:Bo n0 st st1 b xb xu xc)(f:∀m,m≠xb->m≠xu->m≠xc->st2[m]?=st1[m]?):Bo n0 st st2 b xb xu xc:=by
 obtain⟨l1,l2,l3,l4,l5⟩:=h.lo;refine⟨h.lo,fun m hm h0=>?_,?_⟩
 . rw[f m (by omega) (by omega) (by omega)];exact h.fr m hm h0
 . obtain⟨z,e⟩:=h.tb;exact⟨z,by rw[f 0 (by omega) (by omega) (by omega)];exact e⟩
theorem vZ{X:List (List Int)}{N w top m i:Nat}(hX:Mx.cS N w X)(h:Mx.jo X N top m)(hi:top<=i)(hN:i<N):∀x∈X.getD i [],x.natAbs<=m:=fun x hx=>by
 obtain⟨c,hc,rfl⟩:=List.mem_iff_getElem.mp hx;have:=h i c hi hN;unfold Mx.g at this;rwa [Mx.aW hc]at this
theorem yG{n j:Nat}(h:1<=j)(h2:j<=n):jl n (-(j:Int))=some (n-j):=by
 unfold jl;rw[if_neg (by omega),if_pos (by omega)];congr 1;omega
theorem M9{L:List Nat}{j k:Nat}:eQ ((L++[j,k]).map fun(k:Nat)=>D.int (k:Int)) (-1)=some (.int (k:Int)):=by
 unfold eQ;have:=yG (n:=((L++[j,k]).map fun(k:Nat)=>D.int (k:Int)).length) (j:=1) (by decide) (by simp);rw[show(-((1:Nat):Int))= -1 from rfl]at this;rw[this];simp
theorem Nb{L:List Nat}{j k:Nat}:eQ ((L++[j,k]).map fun(k:Nat)=>D.int (k:Int)) (-2)=some (.int (j:Int)):=by
 unfold eQ;have:=yG (n:=((L++[j,k]).map fun(k:Nat)=>D.int (k:Int)).length) (j:=2) (by decide) (by simp);rw[show(-((2:Nat):Int))= -2 from rfl]at this;rw[this];simp
theorem EK:∀ {L:List Nat},1<L.length->∃M j k,L=M++[j,k]:=fun{L} h=>by
 refine⟨L.take (L.length-2),L[L.length-2]'(by omega),L[L.length-1]'(by omega),?_⟩;have e1:L=L.take (L.length-2)++L.drop (L.length-2):=(List.take_append_drop _ _).symm
 have e2:L.drop (L.length-2)=[L[L.length-2]'(by omega),L[L.length-1]'(by omega)]:=by
  rw[List.drop_eq_getElem_cons (by omega),List.drop_eq_getElem_cons (by omega),List.drop_eq_nil_of_le (by omega)];congr 2;congr 1;omega
 rw[<-e2];exact e1
theorem uG:∀ds st K,k6 ds st K->ds.length=3/\wa {nx:=fun _ st'=>K .aK st',rt:=K} (a_ jd ds) st:=by
 rintro ds st K ⟨n0,b,xb,xu,xc,N,w,top,p,e,u,A0,A,U,C,ld,rfl,B,O,S,hN,hw,hp,hz,kf,kt⟩;refine⟨rfl,?_⟩;have hle:=S.le;obtain⟨f,h0⟩:=O.tb;refine jX B.eb rfl ?_;refine⟨b,xb,xu,xc,N,w,top,p,A,U,C,f,rfl,B,S.tn.isA,hle,hN,hp,hw,h0,fun L hL=>?_⟩;have B1:=B.tab h0 (ik true);have O1:=O.Lc;try dsimp only[ak]
 refine lj (fun σ st'=>∃(L:List Nat) (v4 v5:Option D) (c:Mx.B3) (gr:Nat),σ=[some (.ref b),some (.int top),some (.int p),some (.lst (L.map fun(k:Nat)=> .int (k:Int))),v4,v5]/\L.length<=1/\Bn st' b xb xu xc c.A c.U c.C/\Bo n0 st st' b xb xu xc/\Mx.gb N top p ⟨A,U,C⟩ c/\Mx.tE A0 N w top p (2^e) ⟨A,U,C⟩ c gr/\Mx.iq c.A N top p L) (fun nx hnx=>?_) ?_
 . refine⟨fun m σ st'=>∃(L:List Nat) (v4 v5:Option D) (c:Mx.B3) (gr:Nat),σ=[some (.ref b),some (.int top),some (.int p),some (.lst (L.map fun(k:Nat)=> .int (k:Int))),v4,v5]/\Bn st' b xb xu xc c.A c.U c.C/\Bo n0 st st' b xb xu xc/\Mx.gb N top p ⟨A,U,C⟩ c/\Mx.tE A0 N w top p (2^e) ⟨A,U,C⟩ c gr/\Mx.iq c.A N top p L/\m=Mx.mu c.A N p,⟨_,L,none,none,⟨A,U,C⟩,1,rfl,B1,O1,.refl _,S.Po,hL,rfl⟩,?_⟩;rintro m σ st1 ⟨L,v4,v5,c,gr,rfl,B,O,hR,hG,hL,rfl⟩;refine d7 rfl ?_;rw[List.length_map];refine JP (fun h=>gW ?_) fun h=>va (hnx _ _ ⟨L,v4,v5,c,gr,rfl,by omega,B,O,hR,hG,hL⟩);obtain⟨M,j,k,rfl⟩:=EK (L:=L) (by omega);refine fZ (aF rfl M9 (fZ (aF rfl Nb ?_)));obtain⟨G2,hlt,hoth,k1,k2,j1,j2,hjk,hj0⟩:=hG.step hp hL;have T:=hG.tn;have lA:=T.isA.len;have hlow:=G2.low S.lo.1;refine jX B.eb rfl (cM B.eb rfl (aF (aO B.e1) (dP (by omega)) (aF rfl (nZ (by rw[Mx.cV T.isA k2];exact hp)) (cM B.eb rfl (aF (aO B.e1) (dP (by omega)) (aF rfl (nZ (by rw[Mx.cV T.isA j2];exact hp)) ?_))))));refine⟨_,_,rfl,hj0,?_⟩
   have hq:(Mx.qn (Mx.g c.A k p) (Mx.g c.A j p)).natAbs<=2^((N-top+1)*(e+1)):=by
    refine Nat.le_trans ?_ hlow;have a1:=hG.pos;have a2:1<=2^e:=Nat.one_le_two_pow;have a3:1*(Mx.qn (Mx.g c.A k p) (Mx.g c.A j p)).natAbs<=gr*(1+(Mx.qn (Mx.g c.A k p) (Mx.g c.A j p)).natAbs):=Nat.mul_le_mul a1 (by omega);have a4:=Nat.mul_le_mul a2 a3;omega
   have hx:2^e*gr<=2^((N-top+1)*(e+1)):=hG.low S.lo.1
   have hm:∀ {x:Int},x.natAbs<=2^e*gr->IntMulOk (Mx.qn (Mx.g c.A k p) (Mx.g c.A j p)) x/\IntMulOk (-(Mx.qn (Mx.g c.A k p) (Mx.g c.A j p))) x:=fun{x} h=>
    ⟨dF hq (Nat.le_trans h hx) (by omega),dF (by rw[Int.natAbs_neg];exact hq) (Nat.le_trans h hx) (by omega)⟩
   refine⟨b,xb,xu,xc,N,w,k,j,c.A,c.U,c.C,_,rfl,B,T.isA,T.fm,T.gj,k2,j2,hN,hw,fun x hx=>(hm (vZ T.isA hG.lA j1 j2 x hx)).2,fun x hx=>(hm (vZ T.fm hG.lU j1 j2 x hx)).2,fun x hx=>(hm (vZ T.gj hG.lC k1 k2 x hx)).1,fun st2 B2 l2 f2=>?_⟩;have O2:=O.low f2;obtain⟨f',h0'⟩:=O2.tb;refine jX B2.eb rfl ?_;refine⟨b,xb,xu,xc,N,w,top,p,_,_,_,f',rfl,B2,G2.tn.isA,hle,hN,hp,hw,h0',fun L2 hL2=>?_⟩;refine⟨_,?_,L2,_,_,Mx.j_ c p k j,_,rfl,B2.tab h0' (ik true),O2.Lc,hR.tail ⟨M,k,j,hL,rfl⟩,G2,hL2,rfl⟩;unfold Mx.mu;refine Mx.Gg (k:=k) hlt k2 fun i hi=>?_;by_cases h:i=k
   . rw[h];exact Nat.le_of_lt hlt
   . rw[hoth i h];exact Nat.le_refl _
 . rintro σ st1 ⟨L,v4,v5,c,gr,rfl,hl,B,O,hR,hG,hL⟩;refine d7 rfl ?_;rw[List.length_map];match L,hl,hL with
   | [],_,hL=>
     refine eq2 (fun h=>gW ?_) fun h=>absurd rfl h
     have e0:c=⟨A,U,C⟩:=by
      rcases hG.NF with z|⟨j,h1,h2,h3⟩
      . exact z
      . exact absurd ((hL.mem j).mpr ⟨h1,h2,h3⟩) (by simp)
     subst e0;exact kf st1 B O hL
   | [r],_,hL=>
     refine eq2 (fun h=>absurd h (by simp)) fun h=>va ?_;obtain⟨s1,hr1,hr2⟩:=hG.set hL;have ht:top<N:=by omega
     have T:=hG.tn
     have s2:Mx.we A0 N w top p (2^((N-top+1)*(e+1))) ⟨A,U,C⟩ (Mx.setB c p top r):=by
      have hlow:=hG.low S.lo.1;exact⟨s1.tn,s1.up,⟨fun i q h1 h2=>Nat.le_trans (s1.lo.1 i q h1 h2) hlow,fun i q h1 h2=>Nat.le_trans (s1.lo.2.1 i q h1 h2) hlow,fun i q h1 h2=>Nat.le_trans (s1.lo.2.2 i q h1 h2) hlow⟩,s1.zs,s1.tp,s1.z1⟩
     refine jX B.eb rfl (aF rfl (show eQ ([r].map fun(k:Nat)=>D.int (k:Int)) 0=some (.int (r:Int))from rfl) ?_);refine⟨b,xb,xu,xc,N,w,top,r,c.A,c.U,c.C,rfl,B,T.isA,T.fm,T.gj,ht,hr2,fun st2 B2 l2 f2=>?_⟩;obtain⟨l1,l2',l3,l4,l5⟩:=O.lo
     have hst:n0<=st1.length:=by
      have:=(List.getElem?_eq_some_iff.mp B.eb).1;omega
     have O2:Bo n0 st st2 b st1.length (st1.length+1) (st1.length+2):=by
      refine⟨⟨l1,l2',by omega,by omega,by omega⟩,fun m hm h0=>?_,?_⟩
      . rw[f2 m (by omega) (by omega)];exact O.fr m hm h0
      . obtain⟨z,e⟩:=O.tb;exact⟨z,by rw[f2 0 (by omega) (by omega)];exact e⟩
     have T1:=T.Hn ht hr2;refine cM B2.eb rfl (aF (aO B2.e1) (dP (by have:=T1.isA.len;omega)) (aF rfl (nZ (by rw[Mx.cV T1.isA ht];exact hp)) ?_));refine AJ (fun h=>gW ?_) fun h=>va ?_
     . have es:Mx.setB c p top r=⟨Mx.gy (Mx.bO c.A top r) top,Mx.gy (Mx.bO c.U top r) top,Mx.gy (Mx.bO c.C top r) top⟩:=if_pos h;refine jX B2.eb rfl ?_;refine⟨b,_,_,_,N,w,top,_,_,_,rfl,B2,T1.isA,T1.fm,T1.gj,ht,hN,hw,fun st3 B3 l3 f3=>?_⟩;exact kt st3 _ _ _ c r (by rw[es];exact B3) (O2.low f3) hR hL ht s2
     . have es:Mx.setB c p top r=⟨Mx.bO c.A top r,Mx.bO c.U top r,Mx.bO c.C top r⟩:=if_neg (fun z=>by unfold Mx.g at z;omega);exact kt st2 _ _ _ c r (by rw[es];exact B2) O2 hR hL ht s2
def ip:cK:=fun ds st K=>∃(b xb xu xc N w top p e u:Nat) (A0 A U C:List (List Int)),ds=[.ref b,.int top,.int p]/\Bn st b xb xu xc A U C/\Mx.Tn A0 A U C N w/\N<=8/\w<=9/\p<w/\top<N/\0<Mx.g A top p/\(∀q,q<p->Mx.g A top q=0)/\
 (∀q,(Mx.g A top q).natAbs<=2^e/\(Mx.g U top q).natAbs<=2^e/\(Mx.g C top q).natAbs<=2^e)/\(∀i q,i<top->(Mx.g A i q).natAbs<=2^u/\(Mx.g U i q).natAbs<=2^u/\(Mx.g C i q).natAbs<=2^u)/\e<=60000000/\u<=60000000/\
 ∀st',Bn st' b xb xu xc (Mx.mG p top top ⟨A,U,C⟩).A (Mx.mG p top top ⟨A,U,C⟩).U (Mx.mG p top top ⟨A,U,C⟩).C->(∀m,m≠xb->m≠xu->m≠xc->st'[m]?=st[m]?)->Mx.qp A0 N w top p e u ⟨A,U,C⟩ top (Mx.mG p top top ⟨A,U,C⟩)->K .aK st'
def fP:List Str:=["self","top","place","k"]
def qX:DS:=(iP (dO (af (aa 1) ak)) (bG 3) (jv (js aD "take" kv (aa 0) (af (aa 3) (af (aw iJ (aw bg (aw bg (dZ aD "body" (aa 0)) (aa 3)) (aa 2)) (aw bg (aw bg (dZ aD "body" (aa 0)) (aa 1)) (aa 2))) (af (aa 1) ak))))))
theorem Ct{X:List (List Int)}{i:Nat}{x:Int}(hx:x∈X.getD i []):∃q,x=Mx.g X i q:=by
 obtain⟨c,hc,rfl⟩:=List.mem_iff_getElem.mp hx;exact⟨c,by unfold Mx.g;rw[Mx.aW hc]⟩
theorem qz:∀ds st K,ip ds st K->ds.length=3/\qX {nx:=fun _ st'=>K .aK st',rt:=K} (a_ fP ds) st:=by
 rintro ds st K ⟨b,xb,xu,xc,N,w,top,p,e,u,A0,A,U,C,rfl,B,T,hN,hw,hp,ht,htp,hz,hlo,hhi,he,hu,kk⟩;refine⟨rfl,?_⟩;refine eV ⟨by omega,by omega⟩ ?_;rw[Int.toNat_natCast];refine mn top (fun k σ st'=>∃v3:Option D,σ=[some (.ref b),some (.int top),some (.int p),v3]/\Bn st' b xb xu xc (Mx.mG p top k ⟨A,U,C⟩).A (Mx.mG p top k ⟨A,U,C⟩).U (Mx.mG p top k ⟨A,U,C⟩).C/\(∀m,m≠xb->m≠xu->m≠xc->st'[m]?=st[m]?)/\Mx.qp A0 N w top p e u ⟨A,U,C⟩ k (Mx.mG p top k ⟨A,U,C⟩)) ?_ ?_ ⟨none,rfl,B,fun _ _ _ _=>rfl,Mx.qp.start T fun q=>(hlo q).2.2⟩
 . rintro σ st' ⟨v3,rfl,B',f,I⟩;exact kk st' B' f I
 . rintro k σ st' rest hk ⟨v3,rfl,B',f,I⟩ next
   refine⟨_,rfl,?_⟩;have hs:=I.step hk ht hp htp hz (fun q=>⟨(hlo q).1,(hlo q).2.1⟩) hhi;generalize hc:Mx.mG p top k ⟨A,U,C⟩=c at*;have lA:=I.tn.isA.len;have kN:k<N:=by omega
   have gA:∀i q,k<=i->Mx.g c.A i q=Mx.g A i q:=fun i q hi=>by unfold Mx.g;rw[(I.rA i hi).1]
   have gU:∀i q,k<=i->Mx.g c.U i q=Mx.g U i q:=fun i q hi=>by unfold Mx.g;rw[(I.rA i hi).2]
   have gC:∀i q,i≠top->Mx.g c.C i q=Mx.g C i q:=fun i q hi=>by unfold Mx.g;rw[I.rC i hi]
   have hq:((Mx.g c.A k p).fdiv (Mx.g c.A top p)).natAbs<=2^u:=by
    rw[gA k p (Nat.le_refl _),gA top p (by omega)];exact Nat.le_trans (Mx.qD _ htp) (hhi k p hk).1
   have htp':Mx.g c.A top p≠0:=by rw[gA top p (by omega)];omega
   refine jX B'.eb rfl (cM B'.eb rfl (aF (aO B'.e1) (dP (by omega)) (aF rfl (nZ (by rw[Mx.cV I.tn.isA kN];exact hp)) (cM B'.eb rfl (aF (aO B'.e1) (dP (by omega)) (aF rfl (nZ (by rw[Mx.cV I.tn.isA ht];exact hp)) (jL htp' ?_)))))));refine⟨b,xb,xu,xc,N,w,k,top,c.A,c.U,c.C,_,rfl,B',I.tn.isA,I.tn.fm,I.tn.gj,kN,ht,hN,hw,fun x hx=>?_,fun x hx=>?_,fun x hx=>?_,fun st2 B2 l2 f2=>?_⟩
   . obtain⟨q,rfl⟩:=Ct hx;rw[gA top q (by omega)];exact dF (by rw[Int.natAbs_neg];exact hq) (hlo q).1 (by omega)
   . obtain⟨q,rfl⟩:=Ct hx;rw[gU top q (by omega)];exact dF (by rw[Int.natAbs_neg];exact hq) (hlo q).2.1 (by omega)
   . obtain⟨q,rfl⟩:=Ct hx;rw[gC k q (by omega)];exact dF hq (hhi k q hk).2.2 (by omega)
   . have el:Mx.mG p top (k+1) ⟨A,U,C⟩=⟨Mx.bX c.A k ((Mx.g c.A k p).fdiv (Mx.g c.A top p)) top,Mx.bX c.U k ((Mx.g c.A k p).fdiv (Mx.g c.A top p)) top,Mx.bX c.C top (-((Mx.g c.A k p).fdiv (Mx.g c.A top p))) k⟩:=by rw[<-hc];rfl
     refine next _ _ ⟨_,rfl,?_,fun m h1 h2 h3=>(f2 m h1 h2 h3).trans (f m h1 h2 h3),?_⟩
     . rw[el];exact B2
     . rw[el];exact hs
structure Bk(st st':ag):Prop where
 le:st.length<=st'.length
 fr:∀m,m<st.length->m≠0->st'[m]?=st[m]?
 tb:∃f,st'[0]?=some (ik f)
def qb:cK:=fun ds st K=>∃(d:D) (N w e0:Nat) (A:List (List Int)) (f:Bool),ds=[d]/\jc st d A/\Mx.cS N w A/\1<=N/\N<=8/\w<=9/\Mx.jo A N 0 (2^e0)/\(∀t,t<=N->Mx.Ez N e0 t<=50000000/\Mx.Vz N e0 t<=60000000)/\st[0]?=some (ik f)/\
 ∀st' (top:Nat) (c:Mx.B3) (ld:Nat->Nat),Mx.nQ A N w top c->Mx.jT A N w c top w ld (Mx.Ez N e0 top) (Mx.Vz N e0 top)->Bk st st'->K (.tup [fj (c.A.take top),fj c.U,fj (Mx.e9 c.C N)]) st'
def mP:List Str:=["rows","bench","top","place","back"]
def CC:DS:=(aE (a6 1 (Bs aD jF (af (aa 0) ak)))
 (aE (a6 2 (dC (.int 0)))
 (aE (iP (dO (af (bV fg (af (aw bg (aa 0) (dC (.int 0))) ak)) ak)) (bG 3) (fR (cy (js aD "gather" k6 (aa 1) (af (aa 2) (af (aa 3) ak)))) (aE (jv (js aD "lower_above" ip (aa 1) (af (aa 2) (af (aa 3) ak))))
 (Cs 2 (zZ (fun i j=>i+j)) (dC (.int 1)))) fv))
 (aE (a6 4 (aC jz (af (dZ aD "back_columns" (aa 1)) (af (bV fg (af (aa 0) ak)) ak))))
 (cm (gG (af (aC oM (af (eC (dZ aD "body" (aa 1)) dB (fB (aa 2))) ak)) (af (aC oM (af (dZ aD "turn" (aa 1)) ak)) (af (aa 4) ak)))))))))
theorem si{st st':ag}{f:Bool}(h0:st[0]?=some (ik f))(fr:∀m,m<st.length->m≠0->st'[m]?=st[m]?){d:D}{xs:List D}(h:items? st d=some xs):items? st' d=some xs:=by
 cases d with
 |ref n=>
  have e:=rF h;have n0:n≠0:=sR e h0;rw[aO ((fr n (List.getElem?_eq_some_iff.mp e).1 n0).trans e)]
 |_=>exact h
theorem xh{st st':ag}{f:Bool}(h0:st[0]?=some (ik f))(fr:∀m,m<st.length->m≠0->st'[m]?=st[m]?):∀ {ds:List D} {A:List (List Int)},cA st ds A->cA st' ds A
 | [],[],_=>trivial
 |_::_,_::_,h=>⟨si h0 fr h.1,xh h0 fr h.2⟩
theorem uS{st st':ag}{f:Bool}(h0:st[0]?=some (ik f))(fr:∀m,m<st.length->m≠0->st'[m]?=st[m]?){d:D}{A:List (List Int)}(h:jc st d A):jc st' d A:=by
 obtain⟨ds,h1,h2⟩:=h.ex;exact⟨ds,si h0 fr h1,xh h0 fr h2⟩
theorem l9{xs:List D}{j:Nat}:L3.cutD xs none (some (j:Int))=xs.take j:=by
 unfold L3.cutD;rw[HT.AO,HT.zh,List.drop_zero,Nat.sub_zero];by_cases h:j<=xs.length
 . rw[Nat.min_eq_left h]
 . rw[Nat.min_eq_right (by omega),List.take_length,List.take_of_length_le (by omega)]
theorem Al:∀ds st K,qb ds st K->ds.length=1/\CC {nx:=fun _ st'=>K .aK st',rt:=K} (a_ mP ds) st:=by
 rintro ds st K ⟨d,N,w,e0,A,f,rfl,hd,hA,hN1,hN,hw,hlo,hsz,h0,kk⟩;refine⟨rfl,?_⟩;have lA:=hA.len;have h0l:0<st.length:=(List.getElem?_eq_some_iff.mp h0).1;have hd1:jc (st++[Cell.ins aD []]) d A:=uS h0 (fun m hm _=>List.getElem?_append_left hm) hd;refine⟨st.length,N,d,A,rfl,by simp,hd1,lA,hN,fun st1 B1 l1 f1=>⟨rfl,?_⟩⟩;have hl1:(st++[Cell.ins aD []]).length=st.length+1:=by simp
 have fr1:∀m,m<st.length->st1[m]?=st[m]?:=fun m hm=>by rw[f1 m (by omega) (by omega),List.getElem?_append_left hm]
 have O1:Bo st.length st st1 st.length (st.length+1) (st.length+1+1) (st.length+1+2):=⟨⟨h0l,by omega,by omega,by omega,by omega⟩,fun m hm _=>fr1 m hm,f,(fr1 0 h0l).trans h0⟩
 rw[hl1]at B1;have hdk:∀ {st':ag},(∀m,m<st.length->m≠0->st'[m]?=st[m]?)->jc st' d A:=fun h=>uS h0 h hd;obtain⟨da,hda,hra⟩:=(hdk O1.fr).ex;have hdl:=hra.len
 have hrow0:∃d0,da[0]?=some d0/\items? st1 d0=some (ay (A.getD 0 [])):=by
  have hi:0<da.length:=by omega
  obtain⟨r,e1,e2⟩:=cA.get hra (List.getElem?_eq_getElem hi);refine⟨da[0],List.getElem?_eq_getElem hi,?_⟩;have:A.getD 0 []=r:=by rw[List.getD_eq_getElem?_getD,e1];rfl
  rw[this];exact e2
 obtain⟨d0,hd0,hi0⟩:=hrow0;have er:(ay (A.getD 0 [])).length=w:=by unfold ay;rw[List.length_map];exact Mx.cV hA (by omega)
 try dsimp only[ak]
 refine lj (A:=a6 2 _) (fun σ st'=>σ=[some d,some (.ref st.length),some (.int 0),none,none]/\st'=st1) (fun nx h=>h _ _ ⟨rfl,rfl⟩) ?_;rintro _ _ ⟨rfl,rfl⟩;refine lj (A:=iP _ _ _) (fun σ st'=>∃(top xb xu xc:Nat) (v3:Option D) (c:Mx.B3) (ld:Nat->Nat),σ=[some d,some (.ref st.length),some (.int top),v3,none]/\Bn st' st.length xb xu xc c.A c.U c.C/\Bo st.length st st' st.length xb xu xc/\Mx.nQ A N w top c/\Mx.jT A N w c top w ld (Mx.Ez N e0 top) (Mx.Vz N e0 top)) (fun nx hnx=>?_) ?_
 . refine aF hda (show eQ da 0=some d0 from je (j:=0) hd0) (d7 hi0 ?_);rw[er];refine eV ⟨by omega,by omega⟩ ?_;rw[Int.toNat_natCast];refine mn w (fun p σ st'=>∃(top xb xu xc:Nat) (v3:Option D) (c:Mx.B3) (ld:Nat->Nat),σ=[some d,some (.ref st.length),some (.int top),v3,none]/\Bn st' st.length xb xu xc c.A c.U c.C/\Bo st.length st st' st.length xb xu xc/\Mx.nQ A N p top c/\Mx.jT A N w c top p ld (Mx.Ez N e0 top) (Mx.Vz N e0 top)) ?_ ?_ ⟨0,_,_,_,none,⟨A,Mx.units N,Mx.units N⟩,fun _=>0,rfl,B1,O1,.start,Mx.jT.start hA hlo⟩
   . rintro σ st' ⟨top,xb,xu,xc,v3,c,ld,rfl,B,O,hC,S⟩;exact hnx _ _ ⟨top,xb,xu,xc,v3,c,ld,rfl,B,O,hC,S⟩
   . rintro p σ st' rest hp ⟨top,xb,xu,xc,v3,c,ld,rfl,B,O,hC,S⟩ next
     refine⟨_,rfl,?_⟩;have hle:=S.le
     have hz1:(N-top+1)*(Mx.Ez N e0 top+1)<=60000000:=by
      by_cases ht:top<N
      . exact Nat.le_trans (hsz (top+1) ht).1 (by decide)
      . have e:N-top=0:=by omega
        rw[e];have:=(hsz top hle).1;omega
     refine jX B.eb rfl ?_;refine⟨st.length,st.length,xb,xu,xc,N,w,top,p,_,_,A,c.A,c.U,c.C,ld,rfl,B,⟨O.lo,fun _ _ _=>rfl,O.tb⟩,S,hN,hw,hp,hz1,fun st2 B2 O2 hL=>?_,fun st2 xb2 xu2 xc2 c2 r B2 O2 hR hL ht s1=>?_⟩
     . exact va (next _ _ ⟨top,xb,xu,xc,_,c,ld,rfl,B2,⟨O2.lo,fun m h1 h2=>(O2.fr m h1 h2).trans (O.fr m h1 h2),O2.tb⟩,.next hC (.none hL),S.skip hL⟩)
     . refine gW ?_;have O2':Bo st.length st st2 st.length xb2 xu2 xc2:=⟨O2.lo,fun m h1 h2=>(O2.fr m h1 h2).trans (O.fr m h1 h2),O2.tb⟩
       have hup:∀i q,i<top->Mx.g (Mx.setB c2 p top r).A i q=Mx.g c.A i q/\Mx.g (Mx.setB c2 p top r).U i q=Mx.g c.U i q/\Mx.g (Mx.setB c2 p top r).C i q=Mx.g c.C i q:=fun i q hi=>by
        obtain⟨a1,a2,a3⟩:=s1.up i hi;unfold Mx.g;rw[a1,a2,a3];exact⟨rfl,rfl,rfl⟩
       refine jX B2.eb rfl ?_;refine⟨st.length,xb2,xu2,xc2,N,w,top,p,Mx.Ez N e0 (top+1),Mx.Vz N e0 top,A,_,_,_,rfl,B2,s1.tn,hN,hw,hp,ht,s1.tp,fun q hq=>s1.zs top q (Nat.le_refl _) ht hq,fun q=>⟨s1.lo.1 top q (Nat.le_refl _) ht,s1.lo.2.1 top q (Nat.le_refl _) ht,s1.lo.2.2 top q (Nat.le_refl _) ht⟩,fun i q hi=>?_,Nat.le_trans (hsz (top+1) ht).1 (by decide),Nat.le_trans (hsz top hle).2 (by decide),fun st3 B3 f3 I=>?_⟩
       . obtain⟨a1,a2,a3⟩:=hup i q hi;rw[a1,a2,a3];exact S.hi i q hi
       . have hS:=Mx.we.next (e':=Mx.Ez N e0 (top+1)) (u':=Mx.Vz N e0 (top+1)) S s1 ht I hN (by show _<=Mx.Vz N e0 top+Mx.Vz N e0 top+Mx.Ez N e0 (top+1)+5;omega) (by show _<=Mx.Vz N e0 top+Mx.Vz N e0 top+Mx.Ez N e0 (top+1)+5;omega);exact next _ _ ⟨top+1,xb2,xu2,xc2,_,_,_,rfl,B3,O2'.low f3,.next hC (.one hR hL),hS⟩
 . rintro σ st2 ⟨top,xb,xu,xc,v3,c,ld,rfl,B,O,hC,S⟩;have T:=S.tn;have lN:=T.isA.len;refine cM B.eb rfl ?_;obtain⟨da2,hda2,hra2⟩:=(hdk O.fr).ex;refine d7 hda2 ?_;rw[hra2.len,lA];refine⟨_,c.C,N,rfl,⟨_,aO B.e3,cA.lst⟩,T.gj.f6,by rw[T.gj.len];omega,by omega,?_⟩;refine cM B.eb rfl (Eo B.e1 ?_);rw[l9,<-List.map_take];refine⟨_,c.A.take top,rfl,⟨_,rfl,cA.lst⟩,by rw[List.length_take];omega,?_⟩;refine cM B.eb rfl ?_;refine⟨_,c.U,rfl,⟨_,aO B.e2,cA.lst⟩,by rw[T.fm.len];omega,?_⟩;refine⟨by show 3<=sizeLine;decide,?_⟩;refine kk st2 top c ld hC S ⟨?_,O.fr,O.tb⟩;have:=(List.getElem?_eq_some_iff.mp B.eb).1;omega
structure Wf(F:List (List Int))(m w:Nat):Prop where
 is:Mx.cS m w F
 st:Mx.fC F m w (Mx.cZ F)
 m8:m<=8
 w8:w<=8
 sm:∀k c,k<m->c<w->(Mx.g F k c).natAbs<=2^887
theorem Wf.lead{F:List (List Int)}{m w i:Nat}(h:Wf F m w)(hi:i<m):Mx.cZ F i<w/\0<Mx.g F i (Mx.cZ F i)/\(F.getD i []).length=w/\kj (F.getD i [])= .int ((Mx.cZ F i:Nat):Int):=by
 obtain⟨l1,l2,l3⟩:=h.st.lead i hi;refine⟨l1,l2,h.is.row hi,?_⟩;unfold kj;rw[Dl l3 (Int.ne_of_gt l2)]
theorem Wf.row{F:List (List Int)}{m w i:Nat}(h:Wf F m w)(hi:i<m):∀x∈F.getD i [],x.natAbs<=2^887:=fun x hx=>by
 obtain⟨c,hc,rfl⟩:=List.mem_iff_getElem.mp hx;have hw:=h.is.row hi;have:=h.sm i c hi (by omega);unfold Mx.g at this;rwa [Mx.aW hc]at this
theorem HR{x:Int}(h:x.natAbs<=2^887)(h0:x≠0):x.natAbs.log2<9000:=
 (Nat.log2_lt (by omega)).mpr (Nat.lt_of_le_of_lt h (Nat.pow_lt_pow_right (by decide) (by decide)))
theorem drop_cons{F:List (List Int)}{i:Nat}{d:D}{rest:List D}(hr:d::rest=(F.map cj).drop i):i<F.length/\d=cj (F.getD i [])/\rest=(F.map cj).drop (i+1):=by
 have hi:i<F.length:=by
  rcases Nat.lt_or_ge i F.length with h|h
  . exact h
  . rw[List.drop_eq_nil_of_le (by rw[List.length_map];exact h)]at hr;cases hr
 rw[List.drop_eq_getElem_cons (by rw[List.length_map];exact hi),List.getElem_map]at hr;obtain⟨h1,h2⟩:=List.cons.inj hr;exact⟨hi,by rw[Mx.aW hi];exact h1,h2⟩
theorem drop_nil{F:List (List Int)}{i:Nat}(hr: []=(F.map cj).drop i):F.length<=i:=by
 have:=congrArg List.length hr;rw[List.length_drop,List.length_map,List.length_nil]at this;omega
theorem rP{i:Nat}{σ:bL}{st:ag}{K:DK}{d:D}(h:σ[i]?=some (some d))(k:K d st):aa i σ st K:=by
 unfold aa;simp only[h];exact k
def rZ:cK:=fun ds st K=>∃(dr:D) (F:List (List Int)) (r:List Int) (m w e:Nat),ds=[fj F,dr]/\Wf F m w/\items? st dr=some (ay r)/\r.length=w/\(∀c,c<w->(r.getD c 0).natAbs<=2^e)/\e<=10000/\∀st',Ext st st'->K (.tup [cj (Mx.tO F r m),cj (Mx.eZ F r m)]) st'
def oF:List Str:=["form","row","weights","left","each","lead","weight"]
def DB:DS:=(aE (a6 2 (uE ak))
 (aE (a6 3 (bV lX (af (aa 1) ak)))
 (aE (iP (eh (aa 0)) (bG 4) (aE (a6 5 (aC iL (af (aa 4) ak)))
 (aE (a6 6 (aw qv (aw bg (aa 3) (aa 5)) (aw bg (aa 4) (aa 5))))
 (aE (jv (jP (aa 2) (aa 6)))
 (a6 3 (aC nh (af (aa 3) (af (kI gh (aa 6)) (af (aa 4) ak)))))))))
 (cm (gG (af (bV dR (af (aa 2) ak)) (af (bV dR (af (aa 3) ak)) ak)))))))
theorem Bh:∀ds st K,rZ ds st K->ds.length=2/\DB {nx:=fun _ st'=>K .aK st',rt:=K} (a_ oF ds) st:=by
 rintro ds st K ⟨dr,F,r,m,w,e,rfl,hW,hr,lr,br,he,k⟩;refine⟨rfl,?_⟩;have lF:=hW.is.len;have m8:=hW.m8;have w8:=hW.w8;refine⟨Nat.le_of_ble_eq_true rfl,?_⟩;have X0:Ext st (st++[.lst []]):=Ext.push;have e0:(st++[Cell.lst []])[st.length]?=some (.lst (ay [])):=by simp
 refine ny (X0.items hr) (hZ ?_);refine ib (fun rest σ st'=>∃(i:Nat) (v4 v5 v6:Option D),i<=m/\rest=(F.map cj).drop i/\σ=[some (fj F),some dr,some (.ref st.length),some (aG (Mx.eZ F r i)),v4,v5,v6]/\Ext st st'/\st'[st.length]?=some (.lst (ay (Mx.tO F r i)))) ?_ ?_ _ _ _ ⟨0,none,none,none,Nat.zero_le _,rfl,rfl,X0,e0⟩
 . rintro σ st' ⟨i,v4,v5,v6,hi,hrest,rfl,X,ew⟩;have e1:i=m:=Nat.le_antisymm hi (by rw[<-lF];exact drop_nil hrest);subst e1;exact⟨trivial,dM (aO ew) (dM rfl ⟨Nat.le_of_ble_eq_true rfl,k st' X⟩)⟩
 . rintro x rest σ st' ⟨i,v4,v5,v6,hi,hrest,rfl,X,ew⟩ next
   obtain⟨hiF,rfl,rfl⟩:=drop_cons hrest;have him:i<m:=by rw[<-lF];exact hiF
   obtain⟨l1,l2,wF,eld⟩:=hW.lead him;have lL:=Mx.pk hW.is lr (i:=i) (Nat.le_of_lt him);refine⟨trivial,_,rfl,_,F.getD i [],rfl,rfl,?_⟩;rw[eld];have at1:eQ (ay (F.getD i [])) ((Mx.cZ F i:Nat):Int)=some (.int (Mx.g F i (Mx.cZ F i))):=fU (by omega);have at2:eQ (ay (Mx.eZ F r i)) ((Mx.cZ F i:Nat):Int)=some (.int ((Mx.eZ F r i).getD (Mx.cZ F i) 0)):=fU (by omega);refine aF rfl at2 (aF rfl at1 (vV (by omega) (HR (hW.sm i _ him l1) (by omega)) ?_));have bx:=Mx.vK hW.is lr hW.st hW.sm br (Nat.le_of_lt him) _ l1;have bq:(Mx.tN F (Mx.eZ F r i) i).natAbs<=2^(e+i*(887+1)):=Nat.le_trans (Mx.qD _ l2) bx;show aE _ _ _ [_,_,_,_,_,_,some (.int (Mx.tN F (Mx.eZ F r i) i))] _;have lW:(Mx.tO F r i).length=i:=by unfold Mx.tO;simp
   refine u7 (by rfl) ew (rP rfl (sQ ew (by rw[sizeLine_eq,List.length_map,lW];omega) ?_));have hlt:=(List.getElem?_eq_some_iff.mp ew).1;refine fZ ?_;refine⟨_,_,_,Mx.eZ F r i,F.getD i [],rfl,rfl,rfl,by omega,fun b hb=>dF (by rw[Int.natAbs_neg];exact bq) (hW.row him b hb) (by omega),?_⟩;refine next _ _ ⟨i+1,_,_,_,him,rfl,rfl,X.set (Nat.le_refl _),?_⟩
   rw[List.getElem?_set_self hlt,ints_app];congr 3;unfold Mx.tO;rw[List.range_succ,List.map_append];rfl
def yJ(st:ag):List D->List Rat->Prop
 | [],[]=>True
 |d::ds,q::qs=>items? st d=some [.int q.num,.int ((q.den:Nat):Int)]/\yJ st ds qs
 |_,_=>False
theorem yJ.of{st:ag}:∀ {ps:List Rat},yJ st (ps.map d8) ps
 | []=>trivial
 |_::_=>⟨rfl,yJ.of⟩
def oW:cK:=fun ds st K=>∃(dp dr:D) (xs:List D) (ps:List Rat) (r:List Int) (t e:Nat),ds=[dp,dr]/\items? st dp=some xs/\yJ st xs ps/\items? st dr=some (ay r)/\Mx.Pb ps t/\(∀x∈r,x.natAbs<=2^e)/\t+ps.length*(e+1)<=60000000/\K (d8 (Mx.jj 0 ps r)) st
def lD:List Str:=["parts","row","total","one","number"]
def Av:DS:=(aE (a6 2 (aC lu (af (dC (.int 0)) ak)))
 (aE (iP (uc (af (aa 0) (af (aa 1) ak))) (i4 3 4) (a6 2 (aC zR (af (aa 2) (af (aC vR (af (aa 3) (af (aC lu (af (aa 4) ak)) ak))) ak)))))
 (cm (aa 2))))
theorem zY:∀ds st K,oW ds st K->ds.length=2/\Av {nx:=fun _ st'=>K .aK st',rt:=K} (a_ lD ds) st:=by
 rintro ds st K ⟨dp,dr,xs,ps,r,t,e,rfl,hp,hx,hr,hP,hsm,hB,k⟩;refine⟨rfl,?_⟩;refine⟨_,rfl,?_⟩;refine rD hp hr fun ok aM=>?_;refine ib (fun rest σ st'=>st'=st/\∃(xs':List D) (ps':List Rat) (r':List Int) (tot:Rat) (T C:Nat) (v3 v4:Option D),rest=fE xs' (ay r')/\yJ st xs' ps'/\σ=[some dp,some dr,some (d8 tot),v3,v4]/\Mx.Sz tot T/\Mx.Pb ps' C/\(∀x∈r',x∈r)/\Mx.jj tot ps' r'=Mx.jj 0 ps r/\T+C+ps'.length*(e+1)<=60000000) ?_ ?_ _ _ _ ⟨rfl,xs,ps,r,0,0,t,none,none,rfl,hx,rfl,⟨by decide,by decide⟩,hP,fun _ h=>h,rfl,by omega⟩
 . rintro σ st' ⟨rfl,xs',ps',r',tot,T,C,v3,v4,he,hx',rfl,hT,hC,_,hd,hle⟩;refine⟨aM _ hp hr,?_⟩
   have:Mx.jj tot ps' r'=tot:=by
    match xs',ps',r',hx',he with
    | [],[],_,_,_=>unfold Mx.jj;rfl
    |_::_,_::_,[],_,_=>unfold Mx.jj;rfl
    |_::_,_::_,_::_,_,he=>cases he
   rw[<-hd,this]at k;exact k
 . rintro x rest σ st' ⟨rfl,xs',ps',r',tot,T,C,v3,v4,he,hx',rfl,hT,hC,hm,hd,hle⟩ next
   match xs',ps',r',he,hx',hC,hm,hd,hle with
   | [],[],_,he,_,_,_,_,_=>cases he
   |_::_,_::_,[],he,_,_,_,_,_=>cases he
   |d::xs',p::ps',n::r',he,hx',⟨a,C',ha,hC',hbC⟩,hm,hd,hle=>
    have hz:fE (d::xs') (ay (n::r'))= .tup [d,.int n]::fE xs' (ay r'):=rfl;rw[hz,List.cons.injEq]at he;obtain⟨rfl,rfl⟩:=he;have hn:=hsm n (hm n List.mem_cons_self);rw[List.length_cons,Nat.succ_mul]at hle;have s1:=Mx.Sz.int hn;refine⟨aM _ hp hr,_,rfl,?_⟩;refine⟨_,rfl,d,_,p,(n:Rat),a,e,rfl,⟨hx'.1,ha⟩,Fq.of s1,by omega,?_⟩;refine⟨_,_,tot,p*(n:Rat),T,a+e,rfl,Fq.of hT,Fq.of (ha.mul s1),by omega,?_⟩;exact next _ _ ⟨rfl,xs',ps',r',_,_,C',_,_,rfl,hx'.2,rfl,hT.add (ha.mul s1),hC',fun x hx=>hm x (List.mem_cons_of_mem _ hx),hd,by omega⟩
def oZ:cK:=fun ds st K=>∃(F:List (List Int)) (R:List Int) (m w l:Nat),ds=[fj F,cj R,.int l]/\Wf F m w/\R.length=w/\l<w/\∀b:Int,Mx.tY F m l (R.getD l 0) b->K (.int b) st
def lG:List Str:=["form","rest","place","row"]
def Ar:DS:=(aE (iP (eh (aa 0)) (bG 3) (fR (cy (aw j8 (aC iL (af (aa 3) ak)) (aa 2))) (cm (aw bg (aa 3) (aa 2))) fv))
 (cm (aw c5 (dC (.int 2)) (bV o3 (af (aw bg (aa 1) (aa 2)) ak)))))
theorem zE:∀ds st K,oZ ds st K->ds.length=3/\Ar {nx:=fun _ st'=>K .aK st',rt:=K} (a_ lG ds) st:=by
 rintro ds st K ⟨F,R,m,w,l,rfl,hW,lR,hl,k⟩;refine⟨rfl,?_⟩;have lF:=hW.is.len;refine hZ ?_;refine ib (fun rest σ st'=>st'=st/\∃(i:Nat) (v3:Option D),i<=m/\rest=(F.map cj).drop i/\σ=[some (fj F),some (cj R),some (.int l),v3]/\∀k,k<i->Mx.cZ F k≠l) ?_ ?_ _ _ _ ⟨rfl,0,none,Nat.zero_le _,rfl,rfl,fun k h=>absurd h (Nat.not_lt_zero _)⟩
 . rintro σ st' ⟨rfl,i,v3,hi,hrest,rfl,hn⟩;have:=drop_nil hrest;exact⟨trivial,aF rfl (fU (by omega)) (pF (cN (ft (by decide) (by decide)) (k _ (.inr ⟨fun k hk=>hn k (by omega),rfl⟩))))⟩
 . rintro x rest σ st' ⟨rfl,i,v3,hi,hrest,rfl,hn⟩ next
   obtain⟨hiF,rfl,rfl⟩:=drop_cons hrest;have him:i<m:=by rw[<-lF];exact hiF
   obtain⟨l1,l2,wF,eld⟩:=hW.lead him;refine⟨trivial,_,rfl,_,F.getD i [],rfl,rfl,?_⟩;rw[eld];refine eq2 (fun h=>gW ?_) fun h=>next _ _ ⟨rfl,i+1,_,him,rfl,rfl,fun k hk=>?_⟩
   . have hh:Mx.cZ F i=l:=by omega
     exact aF rfl (fU (by omega)) (k _ (.inl ⟨i,him,hh,rfl⟩))
   . by_cases q:k=i
     . subst q;omega
     . exact hn k (by omega)
theorem xv:∀(r:List Int) (i l:Nat),jh r i=some l->∃k,l=i+k/\k<r.length/\r.getD k 0≠0/\∀c,c<k->r.getD c 0=0
 | [],_,_,h=>by cases h
 |x::r,i,l,h=>by
  unfold jh at h;split at h
  . rename_i hx;obtain⟨k,e,hk,hr,hz⟩:=xv r (i+1) l h;refine⟨k+1,by omega,Nat.succ_lt_succ hk,hr,fun c hc=>?_⟩;cases c with
    |zero=>exact hx
    |succ c=>exact hz c (Nat.lt_of_succ_lt_succ hc)
  . cases h;exact⟨0,rfl,Nat.succ_pos _,by assumption,fun c hc=>absurd hc (Nat.not_lt_zero _)⟩
theorem tX{r:List Int}{l:Nat}(h:ko r=some l):l<r.length/\r.getD l 0≠0/\∀c,c<l->r.getD c 0=0:=by
 obtain⟨k,e,h1,h2,h3⟩:=xv r 0 l h;rw[Nat.zero_add]at e;subst e;exact⟨h1,h2,h3⟩
def kJ:cK:=fun ds st K=>∃(F:List (List Int)) (R:List Int) (m w e l:Nat),ds=[fj F,cj R]/\Wf F m w/\R.length=w/\ko R=some l/\(∀c,c<w->(R.getD c 0).natAbs<=2^e)/\e<=10000/\∀st' b,Ext st st'->Mx.tY F m l (R.getD l 0) b->Mx.Pb (Mx.l7 F m w l (Mx.ji w l b) m) 10000000->K (.tup ((Mx.l7 F m w l (Mx.ji w l b) m).map d8)) st'
def iB:List Str:=["form","rest","place","parts","k","lead","owed"]
def u5:DS:=(aE (a6 2 (aC iL (af (aa 1) ak)))
 (aE (a6 3 (aw ve (mL (af (aC lu (af (dC (.int 0)) ak)) ak)) (bV fg (af (aa 1) ak))))
 (aE (eR (aa 3) (aa 2) (aC nS (af (dC (.int 1)) (af (aC oZ (af (aa 0) (af (aa 1) (af (aa 2) ak)))) ak))))
 (aE (iP (wc (af (aw jn (bV fg (af (aa 0) ak)) (dC (.int 1))) (af (kI gh (dC (.int 1))) (af (kI gh (dC (.int 1))) ak)))) (bG 4) (aE (a6 5 (aC iL (af (aw bg (aa 0) (aa 4)) ak)))
 (fR (cy (aw pX (aa 5) (aa 2))) (aE (a6 6 (aC wK (af (aC lu (af (dC (.int 0)) ak)) (af (aC oW (af (aa 3) (af (aw bg (aa 0) (aa 4)) ak))) ak))))
 (eR (aa 3) (aa 5) (aC yp (af (aa 6) (af (aC lu (af (aw bg (aw bg (aa 0) (aa 4)) (aa 5)) ak)) ak))))) fv)))
 (cm (bV dR (af (aa 3) ak)))))))
theorem mi(a:Int)(n:Nat):(gO a n).length=n:=by unfold gO;simp
theorem D0{m i:Nat}{d:D}{rest:List D}(hr:d::rest=(gO ((m:Int)-1) m).drop i):i<m/\d= .int ((m-1-i:Nat):Int)/\rest=(gO ((m:Int)-1) m).drop (i+1):=by
 have hi:i<m:=by
  rcases Nat.lt_or_ge i m with h|h
  . exact h
  . rw[List.drop_eq_nil_of_le (by rw[mi];exact h)]at hr;cases hr
 have hl:i<(gO ((m:Int)-1) m).length:=by rw[mi];exact hi
 rw[List.drop_eq_getElem_cons hl]at hr;obtain⟨h1,h2⟩:=List.cons.inj hr;refine⟨hi,?_,h2⟩;have h3:(gO ((m:Int)-1) m)[i]=D.int ((m:Int)-1+(i:Nat)*(-1)):=by simp[gO]
 rw[h1,h3];congr 1;omega
theorem wC{A:List (List Int)}{k:Nat}(h:k<A.length):eQ (A.map cj) (k:Int)=some (cj (A.getD k [])):=by
 refine je ?_;rw[List.getElem?_map,List.getElem?_eq_getElem h,Mx.aW h];rfl
theorem yw{α:Type}(d:α):∀n:Nat,(List.replicate n [d]).flatten=List.replicate n d
 |0=>rfl
 |n+1=>by rw[List.replicate_succ,List.flatten_cons,yw d n,List.replicate_succ];rfl
theorem O3{ps:List Rat}{r:List Int}{w:Nat}(h1:ps.length=w)(h2:r.length=w):Mx.jj 0 ps r=Mx.dq ps w fun c=>r.getD c 0:=by
 rw[Mx.zm ps r 0 h1 h2];grind
theorem t9:∀ds st K,kJ ds st K->ds.length=2/\u5 {nx:=fun _ st'=>K .aK st',rt:=K} (a_ iB ds) st:=by
 rintro ds st K ⟨F,R,m,w,e,l,rfl,hW,lR,el,bR,he,k⟩;refine⟨rfl,?_⟩;have lF:=hW.is.len;have m8:=hW.m8;have w8:=hW.w8;obtain⟨hl,hne,_⟩:=tX el;rw[lR]at hl;have el':kj R= .int (l:Int):=by unfold kj;rw[el]
 refine⟨_,R,rfl,rfl,?_⟩;rw[el'];refine⟨_,rfl,Nat.le_of_ble_eq_true rfl,d7 rfl (HQ ⟨by omega,by rw[List.length_map];omega,bH (by simp;omega)⟩ ?_)⟩;rw[List.length_map,lR,Int.toNat_natCast,yw];have er:List.replicate w (d8 ((0:Int):Rat))=(List.replicate w (0:Rat)).map d8:=by rw[List.map_replicate];rfl
 rw[er];have X0:Ext st (st++[.lst ((List.replicate w (0:Rat)).map d8)]):=Ext.push;have e0:(st++[Cell.lst ((List.replicate w (0:Rat)).map d8)])[st.length]?=some (.lst ((List.replicate w (0:Rat)).map d8)):=by simp
 generalize st++[Cell.lst ((List.replicate w (0:Rat)).map d8)]=st1 at X0 e0⊢;refine⟨F,R,m,w,l,rfl,hW,lR,hl,fun b hb=>?_⟩;have b0:=hb.pos hW.st hne
 have bb:b.natAbs<=2^(e+888):=by
  rcases hb with⟨k,hk,_,rfl⟩|⟨_,rfl⟩
  . exact Nat.le_trans (hW.sm k l hk hl) (Nat.pow_le_pow_right (by decide) (by omega))
  . have:=bR l hl;rw[show e+888=e+887+1 by omega,Nat.pow_succ];have p:2^e<=2^(e+887):=Nat.pow_le_pow_right (by decide) (by omega);omega
 refine⟨_,_,rfl,by omega,?_⟩
 have hix:∀ {n i:Nat},i<n->jl n (i:Int)=some i:=fun{n i} h=>by
  unfold jl;simp only[Int.natCast_nonneg,Int.toNat_natCast];simp[h]
 refine gH e0 (hix (by simpa using hl)) ?_;have hlt:=(List.getElem?_eq_some_iff.mp e0).1;refine d7 rfl (iN (fZ (fZ ?_)));rw[List.length_map,lF];refine Iu ⟨by omega,by omega,by decide,by decide⟩ ?_;rw[show((m:Int)-1- -1).toNat=m by omega]
 have p0:Mx.Pb (Mx.ji w l b) (e+888):=by
  have:=(Mx.Pb.rep w).set (k:=l) (Mx.Sz.of (t:=1) (by omega) (show(1:Int).natAbs<=2^(e+888)from Nat.pow_pos (by decide)) bb);rwa [Nat.zero_add]at this
 refine ib (fun rest σ st'=>∃(i t:Nat) (v4 v5 v6:Option D),i<=m/\rest=(gO ((m:Int)-1) m).drop i/\σ=[some (fj F),some (cj R),some (.int l),some (.ref st.length),v4,v5,v6]/\Ext st st'/\st'[st.length]?=some (.lst ((Mx.l7 F m w l (Mx.ji w l b) i).map d8))/\Mx.Pb (Mx.l7 F m w l (Mx.ji w l b) i) t/\t+8000<=2^i*(e+8888)) ?_ ?_ _ _ _ ⟨0,e+888,none,none,none,Nat.zero_le _,rfl,rfl,X0.set (Nat.le_refl _),by rw[List.getElem?_set_self hlt,<-List.map_set];rfl,p0,by omega⟩
 . rintro σ st' ⟨i,t,v4,v5,v6,hi,hrest,rfl,X,ep,hP,ht⟩
   have e1:i=m:=by
    have:=congrArg List.length hrest;rw[List.length_drop,mi,List.length_nil]at this;omega
   subst e1;have h2i:2^i<=256:=Nat.le_trans (Nat.pow_le_pow_right (by decide) m8) (by decide);have:=Nat.mul_le_mul h2i (show e+8888<=18888 by omega);exact⟨trivial,dM (aO ep) (k st' b X hb (hP.mono (by omega)))⟩
 . rintro x rest σ st' ⟨i,t,v4,v5,v6,hi,hrest,rfl,X,ep,hP,ht⟩ next
   obtain⟨him,rfl,rfl⟩:=D0 hrest;have P:=Mx.nE.all b hW.st hl (i:=i) hi;have hstep:Mx.l7 F m w l (Mx.ji w l b) (i+1)=Mx.D9 F w l (Mx.l7 F m w l (Mx.ji w l b) i) (m-1-i):=rfl;generalize Mx.l7 F m w l (Mx.ji w l b) i=ps at P hP ep hstep;generalize hj:m-1-i=j at hstep;have hjm:j<m:=by omega
   obtain⟨l1,l2,wF,eld⟩:=hW.lead hjm;have lp:=P.len;have hat:eQ (F.map cj) (j:Int)=some (cj (F.getD j [])):=wC (by omega);refine⟨trivial,_,rfl,aF rfl hat ⟨_,F.getD j [],rfl,rfl,?_⟩⟩;rw[eld];have h2i:2^i<=128:=Nat.le_trans (Nat.pow_le_pow_right (by decide) (show i<=7 by omega)) (by decide);have ht2:=Nat.mul_le_mul h2i (show e+8888<=18888 by omega);have e2:2^(i+1)*(e+8888)=2^i*(e+8888)+2^i*(e+8888):=by rw[Nat.pow_succ,Nat.mul_two,Nat.add_mul]
   unfold Mx.D9 at hstep;refine AJ (fun hlp=>gW ?_) fun hlp=>?_
   . rw[if_pos (by omega)]at hstep;have hpl:ps.length*(887+1)<=8*888:=Nat.mul_le_mul (by omega) (by decide);refine⟨_,rfl,aF rfl hat ⟨_,_,_,ps,F.getD j [],t,887,rfl,aO ep,yJ.of,rfl,hP,hW.row hjm,by omega,?_⟩⟩;have sd:=Mx.Pb.jj (r:=F.getD j []) (x:=0) (s:=0) ⟨by decide,by decide⟩ hP (hW.row hjm);rw[O3 lp wF]at sd⊢;refine⟨_,_,0,_,0,_,rfl,Fq.of ⟨by decide,by decide⟩,Fq.of sd,by omega,?_⟩
     have hnum:(((Mx.g F j (Mx.cZ F j):Int)):Rat).num≠0:=by
      show Mx.g F j (Mx.cZ F j)≠0;omega
     have sg:=Mx.Sz.int (hW.sm j _ hjm l1);refine aF rfl hat (aF rfl (fU (by omega)) ⟨_,rfl,_,_,_,_,_,_,rfl,Fq.of sd.neg,Fq.of sg,by omega,hnum,?_⟩);refine gH ep (hix (by rw[List.length_map];omega)) ?_;have hlt2:=(List.getElem?_eq_some_iff.mp ep).1;refine next _ _ ⟨i+1,t+(0+t+ps.length*(887+1)+887),_,_,_,him,rfl,rfl,X.set (Nat.le_refl _),?_,?_,?_⟩
     . rw[List.getElem?_set_self hlt2,<-List.map_set,hstep];rfl
     . rw[hstep];exact hP.set (sd.neg.div sg hnum)
     . omega
   . rw[if_neg (by omega)]at hstep;refine next _ _ ⟨i+1,t,_,_,_,him,rfl,rfl,X,?_,?_,?_⟩
     . rw[hstep];exact ep
     . rw[hstep];exact hP
     . omega
structure GX(F U:List (List Int))(m N w:Nat)(r:List Int)(x:D):Prop where
 st:Mx.fC F m w (Mx.cZ F)
 or:(ko (Mx.eZ F r m)=none/\x= .tup [.str "told",cj (Mx.m7 (Mx.tO F r m) (U.take m) (List.replicate N 0))])\/∃l b,ko (Mx.eZ F r m)=some l/\Mx.tY F m l ((Mx.eZ F r m).getD l 0) b/\x= .tup [.str "none",.tup ((Mx.l7 F m w l (Mx.ji w l b) m).map d8)]
structure GG(A:List (List Int))(N w:Nat)(r:List Int)(x:D):Prop where
 ex:∃top c,Mx.nQ A N w top c/\GX (c.A.take top) c.U top N w r x
theorem GX.unique{F U:List (List Int)}{m N w:Nat}{r:List Int}{x y:D}(h:GX F U m N w r x)(h':GX F U m N w r y):x=y:=by
 rcases h.or with⟨e,rfl⟩|⟨l,b,e,hb,rfl⟩
 . rcases h'.or with⟨e',rfl⟩|⟨l',b',e',hb',rfl⟩
   . rfl
   . rw[e]at e';cases e'
 . rcases h'.or with⟨e',rfl⟩|⟨l',b',e',hb',rfl⟩
   . rw[e]at e';cases e'
   . rw[e]at e';cases e';rw[hb.unique h.st hb']
theorem GG.unique{A:List (List Int)}{N w:Nat}{r:List Int}{x y:D}(h:GG A N w r x)(h':GG A N w r y):x=y:=by
 obtain⟨t,c,hC,hV⟩:=h.ex;obtain⟨t',c',hC',hV'⟩:=h'.ex;obtain⟨rfl,rfl⟩:=hC.unique hC';exact hV.unique hV'
structure N5(A:List (List Int))(N w:Nat)(r:List Int):Prop where
 is:Mx.cS N w A
 n1:1<=N
 n8:N<=8
 w8:w<=8
 bA:∀r∈A,∀x∈r,x.natAbs<=2^48
 lr:r.length=w
 br:∀x∈r,x.natAbs<=2^70
structure Pg(A:List (List Int))(N w:Nat)(r:List Int)(ps:List Rat):Prop where
 lp:ps.length=w
 pb:Mx.Pb ps 10000000
 wh:∀n,n<N->Mx.Wh (Mx.dq ps w (Mx.g A n))
 no:¬Mx.Wh (Mx.dq ps w fun c=>r.getD c 0)
def oC:cK:=fun ds st K=>∃(d dr:D) (Rw:List (List Int)) (r:List Int) (N w:Nat) (f:Bool),ds=[d,dr]/\jc st d Rw/\Mx.cS w N Rw/\items? st dr=some (ay r)/\N5 (Mx.e9 Rw N) N w r/\1<=w/\(∀z:Nat->Int,¬ ∀c,c<w->r.getD c 0=Mx.S N fun k=>z k*Mx.g (Mx.e9 Rw N) k c)/\st[0]?=some (ik f)/\∀st' y ps,Bk st st'->GG (Mx.e9 Rw N) N w r y->y= .tup [.str "none",.tup (ps.map d8)]->Pg (Mx.e9 Rw N) N w r ps->K y st'
def oR:List Str:=["rows","due","wide","told","form","turn","fallen","steps","answer"]
def Dk:DS:=(aE (a6 2 (bV fg (af (aw bg (aa 0) (dC (.int 0))) ak)))
 (aE (a6 3 (aC qb (af (aC jz (af (aa 0) (af (aa 2) ak))) ak)))
 (aE (a6 4 (aw bg (aa 3) (dC (.int 0))))
 (aE (a6 5 (aw bg (aa 3) (dC (.int 1))))
 (aE (a6 6 (aC rZ (af (aa 4) (af (aa 1) ak))))
 (aE (fR (cy (aw uX (aC iL (af (aw bg (aa 6) (dC (.int 1))) ak)) (dC .aK))) (cm (gG (af (dC (.str "none")) (af (aC kJ (af (aa 4) (af (aw bg (aa 6) (dC (.int 1))) ak))) ak)))) fv)
 (aE u_
 (aE u_
 u_))))))))
theorem Bk.ext{st st1 st2:ag}(B:Bk st st1)(X:Ext st1 st2):Bk st st2:=by
 have l1:=B.le;obtain⟨f,e⟩:=B.tb;have l0:=(List.getElem?_eq_some_iff.mp e).1;exact⟨by have:=X.len;omega,fun m hm h0=>by rw[X.same m (by omega),B.fr m hm h0],f,by rw[X.same 0 l0];exact e⟩
theorem KG:8*((9*2^48)^9*(9*2^48)^8)<=2^887:=by decide+kernel
theorem pE{A:List (List Int)}{t i c:Nat}(h:i<t):Mx.g (A.take t) i c=Mx.g A i c:=by
 have e:(A.take t).getD i []=A.getD i []:=by rw[List.getD_eq_getElem?_getD,List.getD_eq_getElem?_getD,List.getElem?_take,if_pos h]
 unfold Mx.g;rw[e]
theorem J6{A:List (List Int)}{N w top e u:Nat}{c:Mx.B3}{ld:Nat->Nat}(H:Mx.jT A N w c top w ld e u)(hA:Mx.cS N w A)(n8:N<=8)(w8:w<=8)(bA:∀r∈A,∀x∈r,x.natAbs<=2^48):Wf (c.A.take top) top w:=by
 have le:=H.le;have lA:=H.tn.isA.len
 have s:Mx.fC (c.A.take top) top w ld:=⟨fun i hi=>by
  obtain⟨h1,h2,h3⟩:=H.lead i hi;exact⟨h1,by rw[pE hi];exact h2,fun c hc=>by rw[pE hi];exact h3 c hc⟩,H.mono⟩
 have sm:=(H.small n8 (b:=2^48) (Nat.pow_pos (by decide)) fun i c hi hc=>by
  have lN:=hA.len;have hr:=hA.row hi;unfold Mx.g;refine bA _ (by rw[Mx.aW (by omega)];exact List.getElem_mem _) _ (getD_mem (by omega))).2
 exact⟨⟨by rw[List.length_take];omega,fun r hr=>H.tn.isA.f6 r (List.mem_of_mem_take hr)⟩,s.Pw,by omega,w8,fun k q hk hq=>by rw[pE hk];exact Nat.le_trans (sm k q hk hq) KG⟩
theorem Kp{A:List (List Int)}{N w:Nat}(hA:Mx.cS N w A)(bA:∀r∈A,∀x∈r,x.natAbs<=2^48):Mx.jo A N 0 (2^48):=fun i c _ hi=>by
 have lA:=hA.len;unfold Mx.g;by_cases hc:c<(A.getD i []).length
 . exact bA _ (by rw[Mx.aW (by omega)];exact List.getElem_mem _) _ (getD_mem hc)
 . rw[Mx.nz (by omega)];exact Nat.zero_le _
theorem Bv:∀ds st K,oC ds st K->ds.length=2/\Dk {nx:=fun _ st'=>K .aK st',rt:=K} (a_ oR ds) st:=by
 rintro ds st K ⟨d,dr,Rw,r,N,w,f,rfl,hd,iR,hr,⟨hA,n1,n8,w8,bA,lr,br⟩,w1,hno,h0,k⟩;refine⟨rfl,?_⟩;have lR0:=iR.len;obtain⟨da,hda,ra⟩:=hd.ex;obtain⟨e0,ee0,he0⟩:=ra.at (k:=0) (by omega);refine aF hda ee0 (d7 he0 ?_);rw[List.length_map,iR.row (i:=0) w1];refine⟨_,Rw,N,rfl,hd,iR.f6,by omega,by omega,?_⟩;generalize Mx.e9 Rw N=A at hA bA hno k;refine⟨_,N,w,48,A,f,rfl,sI,hA,n1,n8,by omega,Kp hA bA,fun t ht=>Mx.OZ N (by omega) t (by omega),h0,fun st1 top c ld hC H B=>?_⟩;have hW:=J6 H hA n8 w8 bA;have lF:=hW.is.len;have hgF:∀i q,i<top->Mx.g (c.A.take top) i q=Mx.g c.A i q:=fun i q hi=>pE hi;have t8:=hW.m8;generalize hF:c.A.take top=F at hW lF hgF;have br':∀c,c<w->(r.getD c 0).natAbs<=2^70:=fun c hc=>br _ (getD_mem (by omega));refine aF rfl rfl (aF rfl rfl ?_);refine⟨dr,F,r,top,w,70,rfl,hW,si h0 B.fr hr,lr,br',by decide,fun st2 X=>?_⟩;have B2:=B.ext X;have lR:=Mx.pk hW.is lr (Nat.le_refl top);have fal:=Mx.A4 hW.is lr hW.st (Nat.le_refl top);have sm:=Mx.AH hW.is lr (Nat.le_refl top);have ab:=Mx.vK hW.is lr hW.st hW.sm br' (Nat.le_refl top);refine aF rfl rfl ⟨_,Mx.eZ F r top,rfl,rfl,?_⟩;cases el:ko (Mx.eZ F r top)with
 |some l=>
  have eD:kj (Mx.eZ F r top)= .int (l:Int):=by unfold kj;rw[el]
  rw[eD];obtain⟨hl,hne,hz⟩:=tX el;rw[lR]at hl;refine L5 rfl (gW (aF rfl rfl ⟨F,Mx.eZ F r top,top,w,70+top*(887+1),l,rfl,hW,lR,el,ab,by omega,fun st3 b X3 hb hP=>⟨Nat.le_of_ble_eq_true rfl,?_⟩⟩));have P:=Mx.nE.all b hW.st hl (Nat.le_refl top);have wF:∀i,i<top->Mx.Wh (Mx.dq (Mx.l7 F top w l (Mx.ji w l b) top) w (Mx.g F i)):=fun i hi=>P.whole hW.st hl hb hne hi;refine k st3 _ _ (B2.ext X3) ⟨top,c,hC,by rw[hF];exact⟨hW.st,.inr ⟨l,b,el,hb,rfl⟩⟩⟩ rfl ⟨P.len,hP,fun n hn=>?_,fun z=>?_⟩
  . have e1:Mx.dq (Mx.l7 F top w l (Mx.ji w l b) top) w (Mx.g A n)=Mx.dq (Mx.l7 F top w l (Mx.ji w l b) top) w fun q=>Mx.S top fun k=>Mx.g c.C k n*Mx.g F k q:=Mx.zH fun q hq=>by
     rw[H.back hn hq];exact Mx.aL fun k hk=>by rw[hgF k q hk]
    rw[e1,Mx.Ec];exact Mx.Gp fun i hi=>(wF i hi).mul _
  . have e1:Mx.dq (Mx.l7 F top w l (Mx.ji w l b) top) w (fun q=>r.getD q 0)=Mx.dq (Mx.l7 F top w l (Mx.ji w l b) top) w (fun q=>(Mx.eZ F r top).getD q 0)+Mx.dq (Mx.l7 F top w l (Mx.ji w l b) top) w (fun q=>Mx.S top fun j=>Mx.tN F (Mx.eZ F r j) j*Mx.g F j q):=by
     rw[<-Mx.L6];exact Mx.zH fun q _=>sm q
    have w2:Mx.Wh (Mx.dq (Mx.l7 F top w l (Mx.ji w l b) top) w (fun q=>Mx.S top fun j=>Mx.tN F (Mx.eZ F r j) j*Mx.g F j q)):=by
     rw[Mx.Ec];exact Mx.Gp fun i hi=>(wF i hi).mul _
    refine P.not hW.st hl hb hne hz (fun i hi=>fal.red i hi) ?_;have:=z.add w2.neg;rw[e1]at this;have e2:∀a b:Rat,a+b+ -b=a:=by grind
    rwa [e2]at this
 |none=>
  refine(hno (fun n=>(Mx.m7 (Mx.tO F r top) (c.U.take top) (List.replicate N 0)).getD n 0) fun q hq=>?_).elim;have lw:(Mx.tO F r top).length=top:=by unfold Mx.tO;simp
  refine(Mx.Fp H lw (fun q hq=>?_) hq).symm;rw[sm q,vh _ 0 el q,Int.zero_add];refine Mx.aL fun j hj=>?_;rw[<-hgF j q hj];congr 1;unfold Mx.tO;rw[Mx.aW (by simpa using hj),List.getElem_map,List.getElem_range]
structure Hk(st:ag)(n:Nat)(b:Int):Prop where
 ex:∃(cs:List Int) (p q:Int),st[n]?=some (.lst [.lst (ay cs),.int p,.int q])/\1<=cs.length/\0<=p/\p<=b/\0<=q
structure Upd(st:ag)(n:Nat)(st':ag):Prop where
 len:st'.length=st.length
 same:∀m,m≠n->st'[m]?=st[m]?
theorem Upd.refl{st:ag}{n:Nat}:Upd st n st:=⟨rfl,fun _ _=>rfl⟩
theorem Upd.trans{st st1 st2:ag}{n:Nat}(a:Upd st n st1)(b:Upd st1 n st2):Upd st n st2:=⟨b.len.trans a.len,fun m h=>(b.same m h).trans (a.same m h)⟩
theorem Upd.set{st:ag}{n:Nat}{c:Cell}:Upd st n (st.set n c):=⟨List.length_set,fun m h=>List.getElem?_set_ne (Ne.symm h)⟩
theorem Hk.mono{st:ag}{n:Nat}{b b':Int}(h:Hk st n b)(l:b<=b'):Hk st n b':=let⟨cs,p,q,e,h1,h2,h3,h4⟩:=h.ex;⟨cs,p,q,e,h1,h2,by omega,h4⟩
theorem Hk.lt{st:ag}{n:Nat}{b:Int}(B:Hk st n b):n<st.length:=by
 obtain⟨_,_,_,e,_⟩:=B.ex;exact(List.getElem?_eq_some_iff.mp e).1
theorem Hk.cell{st st':ag}{n:Nat}{b:Int}(B:Hk st n b)(e:st'[n]?=st[n]?):Hk st' n b:=by
 obtain⟨cs,p,q,e1,r⟩:=B.ex;exact⟨cs,p,q,e.trans e1,r⟩
theorem Ay{st:ag}{n:Nat}{xs ys:List D}{i:Int}{j:Nat}{d:D}{K:ag->Prop}(h:st[n]?=some (.lst xs))(e:jl xs.length i=some j)(ey:xs.set j d=ys)(k:∀st',st'[n]?=some (.lst ys)->Upd st n st'->K st'):yu (.ref n) (.int i) d st K:=gH h e (by
 rw[ey];exact k _ (List.getElem?_set_self (List.getElem?_eq_some_iff.mp h).1) Upd.set)
def p8:cK:=fun ds st K=>∃ns:List Int,ds=[.lst (ns.map .int)]/\ns.length<=63/\∀st',Hk st' st.length 0->Ext st st'->K (.ref st.length) st'
def m9:List Str:=["_law_script","_law_cells","_law_rest_here"]
def BD:DS:=(aE (a6 1 (aw bW (eC (aa 0) dB (fB (dC (.int 63)))) (mL (af (dC (.int 7)) ak))))
 (aE (a6 2 (bV o3 (af (aw bg (aa 1) (dC (.int 0))) ak)))
 (cm (uE (af (aa 1) (af (dC (.int 0)) (af (aw c5 (aa 2) (bV o4 (af (aw zG (aa 2) (aw zg (dC (.int 10)) (dC (.int 18)))) ak))) ak)))))))
theorem An:∀ds st K,p8 ds st K->ds.length=1/\BD {nx:=fun _ st'=>K .aK st',rt:=K} (a_ m9 ds) st:=by
 rintro ds st K ⟨ns,rfl,hl,k⟩;refine⟨rfl,?_⟩;refine oz ⟨Nat.le_of_ble_eq_true rfl,?_⟩;rw[show(63:Int)=((63:Nat):Int)from rfl,l9,<-List.map_take];refine wo (bH (by rw[List.length_map,List.length_take];simp;omega)) ?_;rw[ints_app];have l1:1<=(ns.take 63++[7]).length:=by simp
 generalize ns.take 63++[7]=cs at l1;refine aF rfl (fU (k:=0) (by omega)) (pF ?_);generalize hx:(((cs.getD 0 0).natAbs:Nat):Int)=x;have x0:0<=x:=by omega
 refine LU ⟨by decide,by decide,by decide⟩ ?_;have fin:∀q:Int,0<=q->(K (.ref st.length) (st++[.lst [.lst (ay cs),.int 0,.int q]])):=fun q hq=>k _ ⟨cs,0,q,by simp,l1,Int.le_refl _,Int.le_refl _,hq⟩ Ext.push;by_cases h:(10:Int)^(18:Int).toNat<=x
 . refine Pj h (kY (cN (pv (by decide) (by decide)) ⟨Nat.le_of_ble_eq_true rfl,?_⟩));exact fin (x*1) (by omega)
 . refine Px (by omega) (kY (cN (pv (by decide) (by decide)) ⟨Nat.le_of_ble_eq_true rfl,?_⟩));exact fin (x*0) (by omega)
def bf:cK:=fun ds st K=>∃(n:Nat) (m b:Int),ds=[.ref n,.int m]/\Hk st n b/\b<=1000000000/\0<m/\m<2^62/\∀r st',0<=r->r<m->Hk st' n (b+1)->Upd st n st'->K (.int r) st'
def mS:List Str:=["_law_hand_here","_law_many","_law_digit","_law_cell","_law_once"]
def Bj:DS:=(aE (fR (cy (aw qM (aw bg (aa 0) (dC (.int 2))) (dC (.int 0)))) (aE (a6 2 (aw fQ (aw bg (aa 0) (dC (.int 2))) (aa 1)))
 (aE (eR (aa 0) (dC (.int 2)) (aw qv (aw bg (aa 0) (dC (.int 2))) (aa 1)))
 (cm (aa 2)))) fv)
 (aE (eR (aa 0) (dC (.int 1)) (aw bW (aw bg (aa 0) (dC (.int 1))) (dC (.int 1))))
 (aE (a6 3 (aw bg (aw bg (aa 0) (dC (.int 0))) (aw fQ (aw bg (aa 0) (dC (.int 1))) (bV fg (af (aw bg (aa 0) (dC (.int 0))) ak)))))
 (aE (a6 4 (aw fQ (aw c5 (aw bW (aw bW (aw fQ (aa 3) (dC (.int 2147483647))) (aw c5 (dC (.int 7919)) (aw bg (aa 0) (dC (.int 1))))) (dC (.int 1))) (dC (.int 48271))) (dC (.int 2147483647))))
 (cm (aw fQ (aw qv (aw fQ (aw c5 (aa 4) (aw bW (aw fQ (aa 4) (dC (.int 1009))) (dC (.int 1)))) (dC (.int 2147483629))) (dC (.int 3))) (aa 1)))))))
theorem CH{m:Int}(h0:0<m)(h:m<2^62):m.natAbs.log2<9000:=by
 have:m.natAbs.log2<62:=(Nat.log2_lt (by omega)).mpr (by omega);omega
def Ev(A:DE)(σ:bL)(st:ag)(d:D):Prop:=∀K:DK,K d st->A σ st K
theorem qI{x:D->D->ag->DK->Prop}{A B:DE}{σ:bL}{st:ag}{a b d:D}(hA:Ev A σ st a)(hB:Ev B σ st b)(hx:∀K:DK,K d st->x a b st K):Ev (aw x A B) σ st d:=fun K k=>hA _ (hB _ (hx K k))
theorem ug{σ:bL}{st:ag}{d:D}:Ev (dC d) σ st d:=fun K k=>k
theorem CT{i:Nat}{σ:bL}{st:ag}{d:D}(h:σ[i]?=some (some d)):Ev (aa i) σ st d:=fun K k=>rP h k
theorem Eh{i:Nat}{A:DE}{B:DS}{E:iC}{σ:bL}{st:ag}{d:D}(h:Ev A σ st d)(k:B E (σ.set i (some d)) st):aE (a6 i A) B E σ st:=h _ k
theorem CU{σ:bL}{st:ag}{n:Nat}{cs:List Int}{x p q:Int}(h3:σ[3]?=some (some (.int x)))(h0:σ[0]?=some (some (.ref n)))(e:st[n]?=some (.lst [.lst (ay cs),.int p,.int q])):Ev (aw fQ (aw c5 (aw bW (aw bW (aw fQ (aa 3) (dC (.int 2147483647))) (aw c5 (dC (.int 7919)) (aw bg (aa 0) (dC (.int 1))))) (dC (.int 1))) (dC (.int 48271))) (dC (.int 2147483647))) σ st (.int (((x.fmod 2147483647+7919*p+1)*48271).fmod 2147483647)):=by
 have a1:Ev (aw fQ (aa 3) (dC (.int 2147483647))) σ st (.int (x.fmod 2147483647)):=qI (CT h3) ug fun K k=>iS (by decide) k;have a0:Ev (aw bg (aa 0) (dC (.int 1))) σ st (.int p):=qI (CT h0) ug fun K k=>aF (aO e) (by rfl) k;have a2:Ev (aw c5 (dC (.int 7919)) (aw bg (aa 0) (dC (.int 1)))) σ st (.int (7919*p)):=qI ug a0 fun K k=>cN (ft (by decide) (by decide)) k;have a3:=qI (d:= .int (x.fmod 2147483647+7919*p)) a1 a2 fun K k=>du k;have a4:=qI (d:= .int (x.fmod 2147483647+7919*p+1)) a3 (ug (d:= .int 1)) fun K k=>du k;have a5:=qI (d:= .int ((x.fmod 2147483647+7919*p+1)*48271)) a4 (ug (d:= .int 48271)) fun K k=>cN (pv (by decide) (by decide)) k;exact qI a5 (ug (d:= .int 2147483647)) fun K k=>iS (by decide) k
theorem Ai:∀ds st K,bf ds st K->ds.length=2/\Bj {nx:=fun _ st'=>K .aK st',rt:=K} (a_ mS ds) st:=by
 rintro ds st K ⟨n,m,b,rfl,⟨cs,p,q,e,hl,hp,hb,hq⟩,hb2,hm0,hm1,k⟩;refine⟨rfl,?_⟩;refine aF (aO e) (by rfl) (JP (fun h=>gW ?_) fun h=>?_)
 . refine aF (aO e) (by rfl) (iS (by omega) (aF (aO e) (by rfl) (vV (by omega) (CH hm0 hm1) ?_)));refine Ay (ys:=[.lst (ay cs),.int p,.int (q.fdiv m)]) e (by rfl) (by rfl) fun st1 e1 U1=>?_;exact k _ _ (Int.fmod_nonneg_of_pos _ hm0) (Int.fmod_lt_of_pos _ hm0) ⟨cs,p,_,e1,hl,hp,by omega,by rw[Int.fdiv_eq_ediv_of_nonneg _ (by omega)];exact Int.ediv_nonneg hq (by omega)⟩ U1
 . refine aF (aO e) (by rfl) (du (Ay (ys:=[.lst (ay cs),.int (p+1),.int q]) e (by rfl) (by rfl) fun st1 e1 U1=>?_));have hcl:(0:Int)<((cs.length:Nat):Int):=by omega
   refine aF (aO e1) (by rfl) (aF (aO e1) (by rfl) (aF (aO e1) (by rfl) (d7 rfl ?_)));rw[List.length_map];refine iS (by omega) ?_;obtain⟨j,hj⟩:=Int.eq_ofNat_of_zero_le (Int.fmod_nonneg_of_pos (p+1) hcl);have hj2:=Int.fmod_lt_of_pos (p+1) hcl;rw[hj]at hj2⊢;refine aF rfl (fU (by omega)) ?_;generalize cs.getD j 0=x;refine Eh (σ:=[some (.ref n),some (.int m),none,some (.int x),none]) (CU (x:=x) (p:=p+1) rfl rfl e1) ?_;have y0:=Int.fmod_nonneg_of_pos ((x.fmod 2147483647+7919*(p+1)+1)*48271) (show(0:Int)<2147483647 by decide);have y1:=Int.fmod_lt_of_pos ((x.fmod 2147483647+7919*(p+1)+1)*48271) (show(0:Int)<2147483647 by decide);generalize((x.fmod 2147483647+7919*(p+1)+1)*48271).fmod 2147483647=u at y0 y1⊢;refine iS (by decide) (du (cN (ft (by omega) (by omega)) (iS (by decide) (vV (by decide) (by decide+kernel) (iS (by omega) ?_)))));exact k _ _ (Int.fmod_nonneg_of_pos _ hm0) (Int.fmod_lt_of_pos _ hm0) ⟨cs,p+1,q,e1,hl,by omega,by omega,hq⟩ U1
def fW:cK:=fun ds st K=>∃(x y:D) (r s:List Int),ds=[x,y]/\items? st x=some (ay r)/\items? st y=some (ay s)/\r.length<=1000/\(∀a∈r,∀b∈s,IntMulOk a b)/\K (.int (Mx.cU r s)) st
def ou:List Str:=["_law_one","_law_other"]
def Dh:DS:=(cm (bV wz (af (c7 (uc (af (aa 0) (af (aa 1) ak))) [none,none] (i4 0 1) cz (aw c5 (aa 0) (aa 1))) ak)))
theorem A7:∀(r s:List Int),∃ns:List Int,(fE (ay r) (ay s)).map (fun d=>match d with| .tup [.int a,.int b]=> .int (a*b)|_=> .aK)=ay ns/\ns.sum=Mx.cU r s
 | [],_=>⟨[],rfl,rfl⟩
 |_::_,[]=>⟨[],rfl,rfl⟩
 |a::r,b::s=>by
  obtain⟨ns,h1,h2⟩:=A7 r s;refine⟨a*b::ns,?_,?_⟩
  . have e:fE (ay (a::r)) (ay (b::s))= .tup [.int a,.int b]::fE (ay r) (ay s):=rfl;rw[e,List.map_cons,h1];rfl
  . rw[List.sum_cons,h2];rfl
theorem Ca:∀ds st K,fW ds st K->ds.length=2/\Dh {nx:=fun _ st'=>K .aK st',rt:=K} (a_ ou ds) st:=by
 rintro ds st K ⟨x,y,r,s,rfl,hx,hy,hl,hm,k⟩;refine⟨rfl,?_⟩;refine rD hx hy fun ok aM=>⟨bH (by rw[nP];simp;omega),?_⟩
 obtain⟨ns,h1,h2⟩:=A7 r s;refine comp_map (g:=fun d=>match d with| .tup [.int a,.int b]=> .int (a*b)|_=> .aK) (aM st hx hy) _ (fun d hd K' q=>?_) ?_
 . obtain⟨a,b,ha,hb,rfl⟩:=ue hd;exact⟨_,rfl,cN (hm a ha b hb) q⟩
 . rw[h1];refine Ea (ints_map _) ?_;rw[h2];exact k
def lS:cK:=fun ds st K=>∃i:Int,ds=[.int i]/\K (.bl true) st
def lJ:List Str:=["_law_found"]
def Ak:DS:=(cm (vt (bV qf (af (aa 0) (af (dC (.ty "int")) ak))) (x3 (cy (bV qf (af (aa 0) (af (dC (.ty "bool")) ak)))))))
theorem y8:∀ds st K,lS ds st K->ds.length=1/\Ak {nx:=fun _ st'=>K .aK st',rt:=K} (a_ lJ ds) st:=by
 rintro ds st K ⟨i,rfl,k⟩;exact⟨rfl,rL rfl (by decide) (rL rfl (by decide) k)⟩
def jb:cK:=fun ds st K=>∃(d:D) (A:List (List Int)) (N w:Nat),ds=[d]/\jc st d A/\Mx.cS N w A/\1<=N/\N<=1000/\w<=1000/\K (.lst ((Mx.e9 A w).map cj)) st
def m5:List Str:=["_law_rows"]
def Cg:DS:=(cm (c7 (dO (af (bV fg (af (aw bg (aa 0) (dC (.int 0))) ak)) ak)) [none,some 0] (bG 0) cz (bV dR (af (c7 (eh (aa 1)) [none,some 0] (bG 0) cz (aw bg (aa 0) (aa 1))) ak))))
theorem Au:∀ds st K,jb ds st K->ds.length=1/\Cg {nx:=fun _ st'=>K .aK st',rt:=K} (a_ m5 ds) st:=by
 rintro ds st K ⟨d,A,N,w,rfl,hd,hA,n1,n8,w8,k⟩;refine⟨rfl,?_⟩;have lA:=hA.len;obtain⟨da,hda,ra⟩:=hd.ex;obtain⟨e0,ee0,he0⟩:=ra.at (k:=0) (by omega);refine aF hda ee0 (d7 he0 ?_);rw[List.length_map,hA.row (i:=0) n1];refine eV ⟨by omega,by omega⟩ ⟨bH (by rw[cJ];omega),?_⟩;rw[Int.toNat_natCast];refine gN (fun j=>cj (Mx.nF A j)) w (fun j hj K' q=>⟨_,rfl,?_⟩) ?_
 . refine rW hda fun ok aM=>⟨bH (by rw[ra.len];omega),?_⟩
   refine ma (fun r=> .int (r.getD j 0)) aM ra (fun e r hr he K' q=>⟨_,rfl,aF he (fU (by rw[hA.f6 r hr];exact hj)) q⟩) ?_;rw[xp];exact dM rfl q
 . have e:(List.range w).map (fun j=>cj (Mx.nF A j))=(Mx.e9 A w).map cj:=by unfold Mx.e9;rw[List.map_map];rfl
   rw[e];exact k
structure XU(st:ag)(n:Nat)(st':ag):Prop where
 len:st.length<=st'.length
 same:∀m,m<st.length->m≠n->st'[m]?=st[m]?
theorem XU.trans{st st1 st2:ag}{n:Nat}(a:XU st n st1)(b:XU st1 n st2):XU st n st2:=⟨Nat.le_trans a.len b.len,fun m h g=>(b.same m (Nat.lt_of_lt_of_le h a.len) g).trans (a.same m h g)⟩
theorem XU.upd{st st1:ag}{n:Nat}(a:Upd st n st1):XU st n st1:=⟨by rw[a.len];exact Nat.le_refl _,fun m _ g=>a.same m g⟩
theorem XU.ext{st st1:ag}{n:Nat}(a:Ext st st1):XU st n st1:=⟨a.len,fun m h _=>a.same m h⟩
theorem XU.set{st st1:ag}{n k:Nat}{c:Cell}(a:XU st n st1)(h:st.length<=k):XU st n (st1.set k c):=⟨by rw[List.length_set];exact a.len,fun m hm g=>by rw[List.getElem?_set_ne (by omega)];exact a.same m hm g⟩
def qo:cK:=fun ds st K=>∃(n s:Nat) (b:Int),ds=[.ref n,.int s]/\Hk st n b/\b<=500000000/\1<=s/\s<=8/\∀(T B:List (List Int)) st',Mx.cS s s T->Mx.cS s s B->(∀r∈T,∀x∈r,x.natAbs<=3^11)->(∀r∈B,∀x∈r,x.natAbs<=3^11)->Hk st' n (b+50)->XU st n st'->K (.tup [ox T,ox B]) st'
def m_:List Str:=["_law_hand_here","_law_size","_law_turn_here","_law_back","_law_k","_law_i","_law_j","_law_many","_law_row"]
def Bm:DS:=(aE (a6 2 (jt (dO (af (aa 1) ak)) [none,some 1] (bG 0) cz (c7 (dO (af (aa 1) ak)) [none,some 0] (bG 0) cz (bV o4 (af (aw j8 (aa 1) (aa 0)) ak)))))
 (aE (a6 3 (jt (dO (af (aa 1) ak)) [none,some 1] (bG 0) cz (jt (dO (af (aa 1) ak)) [none,some 0] (bG 0) cz (bV o4 (af (aw j8 (aa 1) (aa 0)) ak)))))
 (aE (iP (dO (af (aw c5 (aw bW (aa 1) (aC bf (af (aa 0) (af (dC (.int 4)) ak)))) (bV o4 (af (aw qM (aa 1) (dC (.int 1))) ak))) ak)) (bG 4) (aE (a6 5 (aC bf (af (aa 0) (af (aa 1) ak))))
 (aE (a6 6 (aw fQ (aw bW (aw bW (aa 5) (dC (.int 1))) (aC bf (af (aa 0) (af (aw jn (aa 1) (dC (.int 1))) ak)))) (aa 1)))
 (aE (a6 7 (aw bg (mL (af (kI gh (dC (.int 2))) (af (kI gh (dC (.int 1))) (af (dC (.int 1)) (af (dC (.int 1)) ak))))) (aC bf (af (aa 0) (af (dC (.int 4)) ak)))))
 (aE (eR (aa 2) (aa 5) (c7 (uc (af (aw bg (aa 2) (aa 5)) (af (aw bg (aa 2) (aa 6)) ak))) [none,none,some 7] (i4 0 1) cz (aw bW (aa 0) (aw c5 (aa 2) (aa 1)))))
 (iP (eh (aa 3)) (bG 8) (eR (aa 8) (aa 6) (aw jn (aw bg (aa 8) (aa 6)) (aw c5 (aa 7) (aw bg (aa 8) (aa 5)))))))))))
 (oN 2 (td 3 (cm (gG (af (aa 2) (af (aa 3) ak)))))))))
structure kR(st:ag)(L:Nat)(cs:List Nat)(A:List (List Int)):Prop where
 top:st[L]?=some (.lst (cs.map D.ref))
 nd:cs.Nodup
 ne:L∉cs
 len:cs.length=A.length
 row:∀(i c:Nat) (r:List Int),cs[i]?=some c->A[i]?=some r->st[c]?=some (.lst (ay r))
theorem kR.same{st st':ag}{L:Nat}{cs:List Nat}{A:List (List Int)}(h:kR st L cs A)(s:∀m,m=L\/m∈cs->st'[m]?=st[m]?):kR st' L cs A:=
 ⟨(s L (.inl rfl)).trans h.top,h.nd,h.ne,h.len,fun i c r e1 e2=>(s c (.inr (List.mem_of_getElem? e1))).trans (h.row i c r e1 e2)⟩
theorem kR.at{st:ag}{L:Nat}{cs:List Nat}{A:List (List Int)}(h:kR st L cs A){i:Nat}(hi:i<A.length):∃c,cs[i]?=some c/\c∈cs/\eQ (cs.map D.ref) (i:Int)=some (.ref c)/\st[c]?=some (.lst (ay (A.getD i []))):=by
 have hl:=h.len;have e:cs[i]?=some cs[i]:=List.getElem?_eq_getElem (by omega);refine⟨cs[i],e,List.getElem_mem _,je (by rw[List.getElem?_map,e];rfl),?_⟩;rw[Mx.aW hi];exact h.row i _ _ e (List.getElem?_eq_getElem hi)
theorem kR.lt{st:ag}{L:Nat}{cs:List Nat}{A:List (List Int)}(h:kR st L cs A){c:Nat}(hc:c∈cs):c<st.length:=by
 obtain⟨i,hi,rfl⟩:=List.mem_iff_getElem.mp hc;obtain⟨c',e,_,_,e2⟩:=h.at (i:=i) (by rw[<-h.len];exact hi);rw[List.getElem?_eq_getElem hi]at e;cases e;exact(List.getElem?_eq_some_iff.mp e2).1
theorem kR.upd{st st':ag}{n L:Nat}{cs:List Nat}{A:List (List Int)}(h:kR st L cs A)(U:Upd st n st')(hL:n≠L)(hc:n∉cs):kR st' L cs A:=
 h.same fun m hm=>U.same m fun e=>by
  subst e;exact hm.elim hL hc
theorem F4{cs:List Nat}{i j c:Nat}(h:cs.Nodup)(e1:cs[i]?=some c)(e2:cs[j]?=some c):i=j:=by
 obtain⟨h1,e1⟩:=List.getElem?_eq_some_iff.mp e1;obtain⟨h2,e2⟩:=List.getElem?_eq_some_iff.mp e2;exact(List.getElem_inj h).mp (e1.trans e2.symm)
theorem kR.set{st:ag}{L i c:Nat}{cs:List Nat}{A:List (List Int)}{r:List Int}(h:kR st L cs A)(e:cs[i]?=some c):kR (st.set c (.lst (ay r))) L cs (A.set i r):=by
 have hc:=List.mem_of_getElem? e;have hlt:=h.lt hc;have hne:c≠L:=fun z=>h.ne (z▸hc);refine⟨by rw[List.getElem?_set_ne hne];exact h.top,h.nd,h.ne,by rw[List.length_set];exact h.len,fun j d s e1 e2=>?_⟩;by_cases hj:i=j
 . subst hj;rw[e]at e1;cases e1;rw[List.getElem?_set_self (by rw[<-h.len];exact(List.getElem?_eq_some_iff.mp e).1)]at e2;cases e2;exact List.getElem?_set_self hlt
 . rw[List.getElem?_set_ne hj]at e2;have hcd:c≠d:=fun z=>hj (F4 h.nd e (z▸e1));rw[List.getElem?_set_ne hcd];exact h.row j d s e1 e2
theorem t7{A:List (List Int)}{k:Nat}(h:k<A.length):eQ (A.map aG) (k:Int)=some (aG (A.getD k [])):=by
 refine je ?_;rw[List.getElem?_map,List.getElem?_eq_getElem h,Mx.aW h];rfl
theorem BR{n i:Nat}{d:D}{rest:List D}(h:d::rest=(dm 0 n).drop i):i<n/\d= .int (i:Int)/\rest=(dm 0 n).drop (i+1):=by
 have hi:i<n:=by
  rcases Nat.lt_or_ge i n with z|z
  . exact z
  . rw[List.drop_eq_nil_of_le (by rw[cJ];exact z)]at h;cases h
 have hl:i<(dm 0 n).length:=by rw[cJ];exact hi
 rw[List.drop_eq_getElem_cons hl]at h;obtain⟨h1,h2⟩:=List.cons.inj h;refine⟨hi,?_,h2⟩;have e:=qm (lo:=0) (n:=n) (k:=i);rw[if_pos hi,List.getElem?_eq_getElem hl]at e;rw[h1];rw[Int.zero_add]at e;exact Option.some.inj e
theorem zx{m j:Nat}(h:j<m):jl m (j:Int)=some j:=by
 unfold jl;simp only[Int.natCast_nonneg,Int.toNat_natCast];simp[h]
theorem wZ{σc:bL}{st:ag}{te:DE}{s i:Nat}{K:List D->ag->Prop}(te_:∀(j:Nat) K',K' (.int (Mx.dl j i)) st->te (σc.set 0 (some (.int (j:Int)))) st K')(k:K (ay (Mx.d9 s i)) st):dD (bG 0) cz te (fun _=>True) σc (dm 0 s) [] st K:=by
 refine gN (fun j=> .int (Mx.dl j i)) s (fun j hj K' q=>⟨_,rfl,te_ j K' q⟩) ?_;have:(List.range s).map (fun j=>D.int (Mx.dl j i))=ay (Mx.d9 s i):=by unfold Mx.d9 ay;rw[List.map_map];rfl
 rw[this];exact k
theorem Jc{M:Nat}{r s:List Int}{c:Int}(hr:∀x∈r,x.natAbs<=M)(hs:∀x∈s,x.natAbs<=M)(hc:c.natAbs<=2):∀x∈Mx.eH r c s,x.natAbs<=M*3:=fun x hx=>by
 unfold Mx.eH at hx;obtain⟨k,hk,e⟩:=List.mem_iff_getElem.mp hx;rw[List.getElem_zipWith]at e;rw[List.length_zipWith]at hk;have h1:=hr _ (List.getElem_mem (Nat.lt_of_lt_of_le hk (Nat.min_le_left _ _)));have h2:=hs _ (List.getElem_mem (Nat.lt_of_lt_of_le hk (Nat.min_le_right _ _)));rw[<-e];refine Nat.le_trans (Int.natAbs_add_le _ _) ?_;rw[Int.natAbs_mul];have:=Nat.mul_le_mul hc h2;omega
theorem unit_eq{i j:Nat}{st:ag}{K':DK}(q:K' (.int (Mx.dl j i)) st):j8 (.int (i:Int)) (.int (j:Int)) st fun d st1=>o4 [d] st1 K':=by
 refine eq2 (fun h=>kY ?_) fun h=>kY ?_
 . have:i=j:=by omega
   subst this;rw[Mx.eN]at q;exact q
 . rw[Mx.e_ (by omega)]at q;exact q
theorem xf{N:Nat}:∀r∈Mx.units N,∀x∈r,x.natAbs<=1:=fun r hr x hx=>by
 have iu:=Mx.nG N;obtain⟨i,hi,rfl⟩:=List.mem_iff_getElem.mp hr;obtain⟨c,hc,rfl⟩:=List.mem_iff_getElem.mp hx;have li:i<N:=by rw[<-iu.len];exact hi
 have lc:c<N:=by rw[<-iu.f6 _ hr];exact hc
 have e:=Mx.jE li lc;unfold Mx.g at e;rw[Mx.aW hi,Mx.aW hc]at e;rw[e];unfold Mx.dl;split<;>decide
theorem Fv{C:DE}{B:DS}{E:iC}{σ:bL}{st:ag}{p:Int}(h5:σ[5]?=some (some (.int p)))(h:C σ st fun d st2=>bW (.int (p+1)) d st2 fun e st3=>aa 1 σ st3 fun f st4=>fQ e f st4 fun g st5=>B E (σ.set 6 (some g)) st5):aE (a6 6 (aw fQ (aw bW (aw bW (aa 5) (dC (.int 1))) C) (aa 1))) B E σ st:=
 show aa 5 σ st fun d st1=>bW d (.int 1) st1 fun e st2=>C σ st2 fun d' st3=>bW e d' st3 fun e' st4=>aa 1 σ st4 fun f st5=>fQ e' f st5 fun g st6=>B E (σ.set 6 (some g)) st6 from rP h5 (du h)
theorem FP{B:DS}{E:iC}{σ:bL}{st:ag}{p q i:Int}(h1:σ[1]?=some (some (.int i)))(hi:i≠0)(h:B E (σ.set 6 (some (.int ((p+q).fmod i)))) st):bW (.int p) (.int q) st fun e st3=>aa 1 σ st3 fun f st4=>fQ e f st4 fun g st5=>B E (σ.set 6 (some g)) st5:=
 du (rP h1 (iS hi h))
theorem Ah:∀ds st K,qo ds st K->ds.length=2/\Bm {nx:=fun _ st'=>K .aK st',rt:=K} (a_ m_ ds) st:=by
 rintro ds st K ⟨n,s,b,rfl,B,hb,s1,s8,k⟩;refine⟨rfl,?_⟩;have hn:=B.lt;have iu:=Mx.nG s;refine eV ⟨by omega,by omega⟩ ⟨bH (by rw[cJ];omega),?_⟩;rw[Int.toNat_natCast];refine gN (fun i=>aG (Mx.d9 s i)) s (fun i hi K' q=>⟨_,rfl,?_⟩) ?_
 . refine eV ⟨by omega,by omega⟩ ⟨bH (by rw[cJ];omega),?_⟩;rw[Int.toNat_natCast];exact wZ (fun j K' q=>unit_eq q) q
 have eu:(List.range s).map (fun i=>aG (Mx.d9 s i))=(Mx.units s).map aG:=by unfold Mx.units;rw[List.map_map];rfl
 rw[eu];generalize hs1:st++[Cell.lst ((Mx.units s).map aG)]=st1;have l1:st1.length=st.length+1:=by rw[<-hs1];simp
 have e1:st1[st.length]?=some (.lst ((Mx.units s).map aG)):=by rw[<-hs1];simp
 have X1:XU st n st1:=by rw[<-hs1];exact XU.ext Ext.push
 have B1:Hk st1 n b:=B.cell (by rw[<-hs1];exact List.getElem?_append_left hn);clear hs1;refine eV ⟨by omega,by omega⟩ ⟨bH (by rw[cJ];omega),?_⟩;rw[Int.toNat_natCast];refine iG (fun rest acc st'=>∃i:Nat,i<=s/\rest=(dm 0 s).drop i/\acc=((List.range i).map fun k=>st1.length+k).map D.ref/\st'=st1++(List.range i).map fun k=>Cell.lst (ay (Mx.d9 s k))) ?_ ?_ _ _ _ ⟨0,Nat.zero_le _,rfl,rfl,by simp⟩;rotate_left 1
 . rintro d rest acc st' ⟨i,hi,hrest,rfl,rfl⟩ next
   obtain⟨his,rfl,rfl⟩:=BR hrest;refine⟨trivial,_,rfl,?_⟩;refine eV ⟨by omega,by omega⟩ ⟨bH (by rw[cJ];omega),?_⟩;rw[Int.toNat_natCast];refine wZ (fun j K' q=>unit_eq q) ?_;show dD _ _ _ _ _ _ _ _ _;refine next _ _ ⟨i+1,his,rfl,?_,?_⟩
   . rw[List.range_succ,List.map_append,List.map_append];simp
   . rw[List.range_succ,List.map_append,<-List.append_assoc];rfl
 rintro acc st2 ⟨i,hi,hrest,rfl,rfl⟩
 have his:i=s:=by
  have:=congrArg List.length hrest;rw[List.length_drop,cJ,List.length_nil]at this;omega
 subst his;refine⟨trivial,?_⟩;obtain⟨cs,hcs⟩:∃cs,(List.range i).map (fun k=>st1.length+k)=cs:=⟨_,rfl⟩
 have csl:cs.length=i:=by rw[<-hcs];simp
 have csa:∀k,k<i->cs[k]?=some (st1.length+k):=fun k hk=>by rw[<-hcs,List.getElem?_map,List.getElem?_range hk];rfl
 have csm:∀c∈cs,st1.length<=c/\c<st1.length+i:=fun c hc=>by
  rw[<-hcs]at hc;obtain⟨k,hk,rfl⟩:=List.mem_map.mp hc;rw[List.mem_range]at hk;omega
 have csn:cs.Nodup:=by
  rw[<-hcs];exact List.Pairwise.map _ (fun a b h=>by show st1.length+a≠st1.length+b;omega) List.nodup_range
 rw[hcs];generalize hs2:st1++(List.range i).map (fun k=>Cell.lst (ay (Mx.d9 i k)))=st2;have l2:st2.length=st1.length+i:=by rw[<-hs2];simp
 have g2:∀m,m<st1.length->st2[m]?=st1[m]?:=fun m hm=>by rw[<-hs2];exact List.getElem?_append_left hm
 have c2:∀k,k<i->st2[st1.length+k]?=some (.lst (ay (Mx.d9 i k))):=fun k hk=>by
  rw[<-hs2,List.getElem?_append_right (by omega),Nat.add_sub_cancel_left,List.getElem?_map,List.getElem?_range hk];rfl
 clear hs2;generalize hs3:st2++[Cell.lst (cs.map D.ref)]=st3;have g3:∀m,m<st2.length->st3[m]?=st2[m]?:=fun m hm=>by rw[<-hs3];exact List.getElem?_append_left hm
 have L3:st3[st2.length]?=some (.lst (cs.map D.ref)):=by rw[<-hs3];simp
 have l3:st3.length=st2.length+1:=by rw[<-hs3];simp
 clear hs3
 have R3:kR st3 st2.length cs (Mx.units i):=⟨L3,csn,fun h=>by have:=csm _ h;omega,by rw[csl,iu.len],fun k c r h1 h2=>by
  have hk:k<i:=by rw[<-iu.len];exact(List.getElem?_eq_some_iff.mp h2).1
  rw[csa k hk]at h1;cases h1
  have:r=Mx.d9 i k:=by
   unfold Mx.units at h2;rw[List.getElem?_map,List.getElem?_range hk]at h2;exact(Option.some.inj h2).symm
  rw[this,g3 _ (by omega)];exact c2 k hk⟩
 have B3:Hk st3 n b:=B1.cell (by rw[g3 n (by omega),g2 n (by omega)]);have e3:st3[st.length]?=some (.lst ((Mx.units i).map aG)):=by rw[g3 _ (by omega),g2 _ (by omega)];exact e1
 have X3:XU st n st3:=X1.trans ⟨by omega,fun m hm _=>by rw[g3 m (by omega),g2 m hm]⟩;have nL:n≠st2.length:=by omega
 have nC:n∉cs:=fun h=>by have:=csm _ h;omega
 have tL:st.length≠st2.length:=by omega
 have tC:st.length∉cs:=fun h=>by have:=csm _ h;omega
 have loL:st.length<=st2.length:=by omega
 have loC:∀c∈cs,st.length<=c:=fun c h=>by have:=csm c h;omega
 generalize st2.length=L at R3 nL tL loL;clear g2 g3 c2 L3 l2 l3 e1 X1 B1 csa csm csn hcs hrest;refine⟨n,4,_,rfl,B3,by omega,by decide,by decide,fun r4 st4 a0 a1 B4 U4=>du (BP (kY (cN (pv (by split<;>decide) (by split<;>decide)) ?_)))⟩
 obtain⟨m,em,m11,m2⟩:∃m:Nat,((i:Int)+r4)*(if decide ((1:Int)<(i:Int))=true then 1 else 0)=(m:Int)/\m<=11/\(0<m->2<=i):=by
  by_cases h:(1:Int)<(i:Int)
  . rw[decide_eq_true h,if_pos rfl];exact⟨((i:Int)+r4).toNat,by omega,by omega,by omega⟩
  . rw[decide_eq_false h,if_neg (by decide)];exact⟨0,by simp,by omega,by omega⟩
 rw[em];clear em;refine eV ⟨by omega,by omega⟩ ?_;rw[Int.toNat_natCast];refine mn m (fun j σ s=>∃(T M:List (List Int)) (v4 v5 v6 v7 v8:Option D),σ=[some (.ref n),some (.int i),some (.ref st.length),some (.ref L),v4,v5,v6,v7,v8]/\s[st.length]?=some (.lst (T.map aG))/\kR s L cs M/\Mx.cS i i T/\Mx.cS i i M/\(∀r∈T,∀x∈r,x.natAbs<=3^j)/\(∀r∈M,∀x∈r,x.natAbs<=3^j)/\Hk s n (b+1+3*j)/\XU st n s) ?_ ?_ ⟨_,_,none,none,none,none,none,rfl,(U4.same _ (by omega)).trans e3,R3.upd U4 nL nC,iu,iu,xf,xf,B4.mono (by simp),X3.trans (XU.upd U4)⟩
 . rintro σ s ⟨T,M,v4,v5,v6,v7,v8,rfl,eT,RM,iT,iM,bT,bM,B',X⟩;have up:3^m<=3^11:=Nat.pow_le_pow_right (by decide) m11;refine yU (by rfl) eT ?_
   have RM2:kR (s.set st.length .dead) L cs M:=RM.same fun q hq=>List.getElem?_set_ne fun z=>by
    rcases hq with h|h
    . exact tL (z.trans h)
    . exact tC (z▸h)
   refine HB (i:=3) (xss:=M.map ay) rfl RM2.top RM2.nd RM2.ne (by rw[List.length_map];exact RM2.len) (fun q c xs h1 h2=>?_) ⟨Nat.le_of_ble_eq_true rfl,?_⟩
   . rw[List.getElem?_map]at h2;obtain⟨r,er,rfl⟩:=Option.map_eq_some_iff.mp h2;exact RM2.row q c r h1 er
   have eM:(M.map ay).map D.lst=M.map aG:=by rw[List.map_map];rfl
   rw[eM]
   have kl:∀q,q<st.length->(kill (L::cs) (s.set st.length .dead))[q]?=s[q]?:=fun q hq=>by
    rw[A3 fun z=>by
     rcases List.mem_cons.mp z with z|z
     . omega
     . have:=loC _ z;omega,List.getElem?_set_ne (by omega)]
   refine k T M _ iT iM (fun r hr x hx=>Nat.le_trans (bT r hr x hx) up) (fun r hr x hx=>Nat.le_trans (bM r hr x hx) up) ((B'.cell (kl n hn)).mono (by omega)) ⟨by rw[yr,List.length_set];exact X.len,fun q hq hqn=>(kl q hq).trans (X.same q hq hqn)⟩
 rintro j σ s rest hj ⟨T,M,v4,v5,v6,v7,v8,rfl,eT,RM,iT,iM,bT,bM,B',X⟩ next
 have i2:=m2 (by omega);clear m2 a0 a1;have lT:=iT.len;have lM:=iM.len;refine⟨_,rfl,?_⟩;refine⟨n,_,_,rfl,B',by omega,by omega,by omega,fun p s5 p0 p1 B5 U5=>?_⟩;obtain⟨p,rfl⟩:=Int.eq_ofNat_of_zero_le p0;refine Fv (p:=(p:Int)) (σ:=[some (.ref n),some (.int i),some (.ref st.length),some (.ref L),some (.int (j:Int)),some (.int (p:Int)),v6,v7,v8]) rfl ?_;refine iN ⟨n,_,_,rfl,B5,by omega,by omega,by omega,fun q s6 q0 q1 B6 U6=>?_⟩;refine FP (i:=(i:Int)) rfl (by omega) ?_;obtain⟨o,ho⟩:=Int.eq_ofNat_of_zero_le (Int.fmod_nonneg_of_pos ((p:Int)+1+q) (show(0:Int)<(i:Int) by omega));have o1:=Int.fmod_lt_of_pos ((p:Int)+1+q) (show(0:Int)<(i:Int) by omega);rw[ho]at o1⊢;refine fZ (fZ ⟨Nat.le_of_ble_eq_true rfl,n,4,_,rfl,B6,by omega,by decide,by decide,fun r7 s7 d0 d1 B7 U7=>?_⟩)
 obtain⟨y,ey,hy⟩:∃y:Int,eQ [D.int (-2),.int (-1),.int 1,.int 1] r7=some (.int y)/\y.natAbs<=2:=by
  have:r7=0\/r7=1\/r7=2\/r7=3:=by omega
  rcases this with rfl|rfl|rfl|rfl
  . exact⟨-2,rfl,by decide⟩
  . exact⟨-1,rfl,by decide⟩
  . exact⟨1,rfl,by decide⟩
  . exact⟨1,rfl,by decide⟩
 refine aF rfl ey ?_;have U:=(U5.trans U6).trans U7;have eT7:s7[st.length]?=some (.lst (T.map aG)):=(U.same _ (by omega)).trans eT;have RM7:=RM.upd U nL nC;have X7:=X.trans (XU.upd U);clear U5 U6 U7 U B5 B6 eT RM B';have tp:=iT.row (i:=p) (by omega);have to:=iT.row (i:=o) (by omega);have mp:T.getD p []∈T:=by rw[Mx.aW (by omega)];exact List.getElem_mem _
 have mo:T.getD o []∈T:=by rw[Mx.aW (by omega)];exact List.getElem_mem _
 refine aF (aO eT7) (t7 (by omega)) (aF (aO eT7) (t7 (by omega)) ?_);refine rD rfl rfl fun ok aM=>⟨bH (by rw[nP,List.length_map,List.length_map];omega),?_⟩
 refine comp_map (g:=fun d=>match d with| .tup [.int x,.int z]=> .int (x+y*z)|_=> .aK) (aM s7 rfl rfl) _ (fun d hd K' q=>?_) ?_
 . obtain⟨x,z,_,_,rfl⟩:=ue hd;exact⟨_,rfl,cN (ft (by omega) (by omega)) (du q)⟩
 have ea:(fE (ay (T.getD p [])) (ay (T.getD o []))).map (fun d=>match d with| .tup [.int x,.int z]=> .int (x+y*z)|_=> .aK)=ay (Mx.eH (T.getD p []) y (T.getD o [])):=rm _ _;rw[ea];refine gH eT7 (zx (by rw[List.length_map];omega)) ?_;have es:(T.map aG).set p (aG (Mx.eH (T.getD p []) y (T.getD o [])))=(T.set p (Mx.eH (T.getD p []) y (T.getD o []))).map aG:=by rw[List.map_set]
 have lt7:=(List.getElem?_eq_some_iff.mp eT7).1;generalize hs8:s7.set st.length (.lst ((T.map aG).set p (aG (Mx.eH (T.getD p []) y (T.getD o [])))))=s8;have eT8:s8[st.length]?=some (.lst ((T.set p (Mx.eH (T.getD p []) y (T.getD o []))).map aG)):=by rw[<-hs8,List.getElem?_set_self lt7,es]
 have g8:∀q,q≠st.length->s8[q]?=s7[q]?:=fun q hq=>by rw[<-hs8,List.getElem?_set_ne (Ne.symm hq)]
 have X8:XU st n s8:=by rw[<-hs8];exact X7.set (Nat.le_refl _)
 clear hs8
 have RM8:kR s8 L cs M:=RM7.same fun q hq=>g8 q fun z=>by
  rcases hq with h|h
  . exact tL (z.symm.trans h)
  . exact tC (z▸h)
 have B8:Hk s8 n (b+1+3*j+3):=(B7.cell (g8 n (by omega))).mono (by omega);have p3:3^j<=3^(j+1):=Nat.pow_le_pow_right (by decide) (Nat.le_succ _);have e3j:3^(j+1)=3^j*3:=Nat.pow_succ _ _
 have iT2:Mx.cS i i (T.set p (Mx.eH (T.getD p []) y (T.getD o []))):=⟨by rw[List.length_set];exact lT,fun r hr=>by
  rcases List.mem_or_eq_of_mem_set hr with h|h
  . exact iT.f6 r h
  . rw[h,Mx.qc (by omega)];exact tp⟩
 have bT2:∀r∈T.set p (Mx.eH (T.getD p []) y (T.getD o [])),∀x∈r,x.natAbs<=3^(j+1):=fun r hr x hx=>by
  rcases List.mem_or_eq_of_mem_set hr with h|h
  . exact Nat.le_trans (bT r h x hx) p3
  . rw[h]at hx;rw[e3j];exact Jc (bT _ mp) (bT _ mo) hy x hx
 generalize T.set p (Mx.eH (T.getD p []) y (T.getD o []))=T2 at eT8 iT2 bT2;refine IH (aO RM8.top) fun ok2 hok2=>?_;refine ib (fun rest σ s=>∃(q:Nat) (M':List (List Int)) (v8:Option D),q<=i/\rest=(cs.map D.ref).drop q/\σ=[some (.ref n),some (.int i),some (.ref st.length),some (.ref L),some (.int (j:Int)),some (.int (p:Int)),some (.int (o:Int)),some (.int y),v8]/\s[st.length]?=some (.lst (T2.map aG))/\kR s L cs M'/\Mx.cS i i M'/\(∀r∈M',∀x∈r,x.natAbs<=3^(j+1))/\(∀k,q<=k->k<i->∀x∈M'.getD k [],x.natAbs<=3^j)/\Hk s n (b+1+3*j+3)/\XU st n s) ?_ ?_ _ _ _ ⟨0,M,v8,Nat.zero_le _,rfl,rfl,eT8,RM8,iM,fun r hr x hx=>Nat.le_trans (bM r hr x hx) p3,fun k _ hk x hx=>bM _ (by rw[Mx.aW (by omega)];exact List.getElem_mem _) x hx,B8,X8⟩
 . rintro σ s9 ⟨q,M',v8,hq,hrest,rfl,eT9,RM9,iM9,bM9,_,B9,X9⟩;exact⟨hok2 _ (aO RM9.top),next _ _ ⟨T2,M',_,_,_,_,_,rfl,eT9,RM9,iT2,iM9,bT2,bM9,B9.mono (by omega),X9⟩⟩
 . rintro d rest σ s9 ⟨q,M',v8,hq,hrest,rfl,eT9,RM9,iM9,bM9,bq,B9,X9⟩ next2;have lM9:=iM9.len
   have hqi:q<i:=by
    have:=congrArg List.length hrest;rw[List.length_cons,List.length_drop,List.length_map,csl]at this;omega
   obtain⟨c,ec,mc,_,ecc⟩:=RM9.at (i:=q) (by omega);have hcl:q<(cs.map D.ref).length:=by rw[List.length_map,csl];exact hqi
   rw[List.drop_eq_getElem_cons hcl]at hrest;obtain⟨h1,rfl⟩:=List.cons.inj hrest
   have hd:d= .ref c:=by
    rw[h1,List.getElem_map];have:=List.getElem?_eq_some_iff.mp ec;rw[this.2]
   subst hd;have rq:=iM9.row (i:=q) hqi;have b0:=bq q (Nat.le_refl _) hqi;generalize hR:M'.getD q []=R at ecc rq b0;refine⟨hok2 _ (aO RM9.top),_,rfl,?_⟩;refine aF (aO ecc) (fU (by omega)) (aF (aO ecc) (fU (by omega)) (cN (ft (by omega) (by omega)) (iN ?_)));refine gH ecc (zx (by rw[List.length_map];omega)) ?_;have es2:(ay R).set o (.int (R.getD o 0-y*R.getD p 0))=ay (R.set o (R.getD o 0-y*R.getD p 0)):=by unfold ay;rw[List.map_set]
   rw[es2]
   have hx:(R.getD o 0-y*R.getD p 0).natAbs<=3^(j+1):=by
    have h1:=b0 _ (getD_mem (r:=R) (k:=o) (by omega));have h2:=b0 _ (getD_mem (r:=R) (k:=p) (by omega));have h3:=Int.natAbs_sub_le (R.getD o 0) (y*R.getD p 0);rw[Int.natAbs_mul]at h3;have h4:=Nat.mul_le_mul hy h2;omega
   generalize R.getD o 0-y*R.getD p 0=v at hx
   have bR:∀x∈R.set o v,x.natAbs<=3^(j+1):=fun x hx2=>by
    rcases List.mem_or_eq_of_mem_set hx2 with h|h
    . exact Nat.le_trans (b0 x h) p3
    . rw[h];exact hx
   have cn:c≠n:=fun z=>nC (z▸mc);have ct:c≠st.length:=fun z=>tC (z▸mc);refine next2 _ _ ⟨q+1,M'.set q (R.set o v),_,hqi,rfl,rfl,(List.getElem?_set_ne ct).trans eT9,RM9.set ec,⟨by rw[List.length_set];exact lM9,fun r hr=>?_⟩,fun r hr x hx=>?_,fun k hk1 hk2=>?_,B9.cell (List.getElem?_set_ne cn),X9.set (loC c mc)⟩
   . rcases List.mem_or_eq_of_mem_set hr with h|h
     . exact iM9.f6 r h
     . rw[h,List.length_set];exact rq
   . rcases List.mem_or_eq_of_mem_set hr with h|h
     . exact bM9 r h x hx
     . rw[h]at hx;exact bR x hx
   . have:(M'.set q (R.set o v)).getD k []=M'.getD k []:=by
      rw[List.getD_eq_getElem?_getD,List.getElem?_set_ne (by omega),List.getD_eq_getElem?_getD]
     rw[this];exact bq k (by omega) hk2
def oi:cK:=fun ds st K=>∃(n:Nat) (b:Int),ds=[.ref n]/\Hk st n b/\b<=500000000/\∀(s f m:Nat) st',1<=s->s<=8->f<=s->1<=m->m<=8->Hk st' n (b+10)->Upd st n st'->K (.tup [.int s,.int f,.int m]) st'
def kP:List Str:=["_law_hand_here","_law_size","_law_fixed"]
def yY:DS:=(aE (a6 1 (aw bg (mL (af (aw bW (dC (.int 1)) (aC bf (af (aa 0) (af (dC (.int 4)) ak)))) (af (aw bW (dC (.int 6)) (aC bf (af (aa 0) (af (dC (.int 3)) ak)))) ak))) (bV o4 (af (aw j8 (aC bf (af (aa 0) (af (dC (.int 8)) ak))) (dC (.int 0))) ak))))
 (aE (a6 2 (aC bf (af (aa 0) (af (aw bW (aa 1) (dC (.int 1))) ak))))
 (cm (gG (af (aa 1) (af (aa 2) (af (bV vP (af (dC (.int 8)) (af (aw bW (bV vI (af (dC (.int 1)) (af (aa 2) ak))) (aC bf (af (aa 0) (af (dC (.int 3)) ak)))) ak))) ak)))))))
theorem xN:∀ds st K,oi ds st K->ds.length=1/\yY {nx:=fun _ st'=>K .aK st',rt:=K} (a_ kP ds) st:=by
 rintro ds st K ⟨n,b,rfl,B,hb,k⟩;refine⟨rfl,?_⟩;refine⟨n,4,b,rfl,B,by omega,by decide,by decide,fun r1 st1 a0 a1 B1 U1=>du ⟨n,3,_,rfl,B1,by omega,by decide,by decide,fun r2 st2 b0 b1 B2 U2=>du ⟨Nat.le_of_ble_eq_true rfl,?_⟩⟩⟩;refine⟨n,8,_,rfl,B2,by omega,by decide,by decide,fun r3 st3 c0 c1 B3 U3=>?_⟩;have U:=(U1.trans U2).trans U3
 have go:∀s:Nat,1<=s->s<=8->(aE (a6 2 (aC bf (af (aa 0) (af (aw bW (aa 1) (dC (.int 1))) ak)))) (cm (gG (af (aa 1) (af (aa 2) (af (bV vP (af (dC (.int 8)) (af (aw bW (bV vI (af (dC (.int 1)) (af (aa 2) ak))) (aC bf (af (aa 0) (af (dC (.int 3)) ak)))) ak))) ak)))))) {nx:=fun _ st'=>K .aK st',rt:=K} [some (.ref n),some (.int s),none] st3:=fun s s1 s8=>by
  refine du ⟨n,_,_,rfl,B3,by omega,by omega,by omega,fun r4 st4 d0 d1 B4 U4=>?_⟩;obtain⟨f,rfl⟩:=Int.eq_ofNat_of_zero_le d0;refine JJ ⟨n,3,_,rfl,B4,by omega,by decide,by decide,fun r5 st5 e0 e1 B5 U5=>du (K0 ⟨Nat.le_of_ble_eq_true rfl,?_⟩)⟩
  obtain⟨m,em,m1,m8⟩:∃m:Nat,(if(if(f:Int)>1 then(f:Int)else 1)+r5<8 then(if(f:Int)>1 then(f:Int)else 1)+r5 else 8)=(m:Int)/\1<=m/\m<=8:=by
   have h1:(1:Int)<=(if(f:Int)>1 then(f:Int)else 1):=by split<;>omega
   generalize(if(f:Int)>1 then(f:Int)else 1)=g at h1;split
   . exact⟨(g+r5).toNat,by omega,by omega,by omega⟩
   . exact⟨8,rfl,by decide,by decide⟩
  rw[em];exact k s f m st5 s1 s8 (by omega) m1 m8 (B5.mono (by omega)) (U.trans (U4.trans U5))
 refine eq2 (fun h=>kY (aF rfl rfl ?_)) fun h=>kY (aF rfl rfl ?_)
 . obtain⟨x,rfl⟩:=Int.eq_ofNat_of_zero_le b0;exact go (6+x) (by omega) (by omega)
 . obtain⟨x,rfl⟩:=Int.eq_ofNat_of_zero_le a0;exact go (1+x) (by omega) (by omega)
def oh:cK:=fun ds st K=>∃(n f m:Nat) (b:Int),ds=[.ref n,.int f,.int m]/\Hk st n b/\b<=500000000/\f<=8/\m<=8/\∀(R:List (List Int)) st',Mx.cS m f R->(∀r∈R,∀x∈r,x.natAbs<=4)->Hk st' n (b+100)->XU st n st'->K (.lst (R.map aG)) st'
def kO:List Str:=["_law_hand_here","_law_fixed","_law_many","_law_rows","_law_k","_law_row"]
def yZ:DS:=(aE (a6 3 (uE ak))
 (aE (iP (dO (af (aa 2) ak)) (bG 4) (aE (a6 5 (c7 (dO (af (aa 1) ak)) [none,some 0] (bG 0) cz (aw jn (aC bf (af (aa 1) (af (dC (.int 7)) ak))) (dC (.int 3)))))
 (aE (fR (cy (aw pX (aa 4) (aa 1))) (a6 5 (aw bW (aw bW (eC (aa 5) dB (fB (aa 4))) (mL (af (aw c5 (aw bW (dC (.int 1)) (aC bf (af (aa 0) (af (dC (.int 4)) ak)))) (aw bg (mL (af (dC (.int 1)) (af (kI gh (dC (.int 1))) ak))) (aC bf (af (aa 0) (af (dC (.int 2)) ak))))) ak))) (aw c5 (mL (af (dC (.int 0)) ak)) (aw jn (aw jn (aa 1) (aa 4)) (dC (.int 1)))))) fv)
 (jv (jP (aa 3) (aa 5))))))
 (oN 3 (cm (aa 3)))))
theorem xr{n:Nat}{b m o:Int}{xs:List D}{σc:bL}{st:ag}{te:DE}{K:List D->ag->Prop}(te_:∀(x:D) (st':ag) (K':DK),bf [.ref n,.int m] st' (fun d s=>∃i,d= .int i/\K' (.int (i-o)) s)->te (σc.set 0 (some x)) st' K')(B:Hk st n b)(hb:b<=900000000)(m0:0<m)(m1:m<2^62)(hx:xs.length<=8)(hs:(fun(x:D)=>bG 0 x σc)=fun x=>some (σc.set 0 (some x)))
 (k:∀r st',r.length=xs.length->(∀x∈r,-o<=x/\x<m-o)->Hk st' n (b+8)->Upd st n st'->K (ay r) st'):dD (bG 0) cz te (fun _=>True) σc xs [] st K:=by
 refine iG (fun rest acc st'=>∃l:List Int,acc=ay l/\l.length+rest.length=xs.length/\(∀x∈l,-o<=x/\x<m-o)/\Hk st' n (b+l.length)/\Upd st n st') ?_ ?_ _ _ _ ⟨[],rfl,by simp,by simp,B.mono (by simp),Upd.refl⟩
 . rintro acc st' ⟨l,rfl,hl,h2,B',U'⟩;have hl:l.length=xs.length:=by simpa using hl
   exact⟨trivial,k l st' hl h2 (B'.mono (by omega)) U'⟩
 . rintro d rest acc st' ⟨l,rfl,hl,h2,B',U'⟩ next
   have hl2:l.length<8:=by simp at hl;omega
   refine⟨trivial,σc.set 0 (some d),congrFun hs d,te_ d st' _ ⟨n,m,_,rfl,B',by omega,m0,m1,fun i st2 i0 i1 B2 U2=>⟨i,rfl,?_⟩⟩⟩;show dD _ _ _ _ _ _ _ _ _;rw[ints_app];refine next _ _ ⟨l++[i-o],rfl,by simp at hl⊢;omega,fun z hz=>?_,B2.mono (by simp;omega),U'.trans U2⟩
   rcases List.mem_append.mp hz with hz|hz
   . exact h2 z hz
   . rw[List.mem_singleton.mp hz];omega
theorem xR:∀ds st K,oh ds st K->ds.length=3/\yZ {nx:=fun _ st'=>K .aK st',rt:=K} (a_ kO ds) st:=by
 rintro ds st K ⟨n,f,m,b,rfl,B,hb,f8,m8,k⟩;refine⟨rfl,?_⟩;have hn:=B.lt;refine⟨Nat.le_of_ble_eq_true rfl,?_⟩;refine eV ⟨by omega,by omega⟩ ?_;rw[Int.toNat_natCast];refine mn m (fun j σ st'=>∃(R:List (List Int)) (v4 v5:Option D),σ=[some (.ref n),some (.int f),some (.int m),some (.ref st.length),v4,v5]/\st'[st.length]?=some (.lst (R.map aG))/\R.length=j/\(∀r∈R,r.length=f)/\(∀r∈R,∀x∈r,x.natAbs<=4)/\Hk st' n (b+10*j)/\XU st n st') ?_ ?_ ⟨[],none,none,rfl,by simp,rfl,by simp,by simp,(B.cell (List.getElem?_append_left hn)).mono (by simp),XU.ext Ext.push⟩
 . rintro σ st' ⟨R,v4,v5,rfl,e,hl,hA,hbd,B',X⟩;exact yU (by rfl) e (k R _ ⟨hl,hA⟩ hbd ((B'.cell (List.getElem?_set_ne (by omega))).mono (by omega)) (X.set (Nat.le_refl _)))
 rintro j σ st' rest hj ⟨R,v4,v5,rfl,e,hl,hA,hbd,B',X⟩ next
 have hlen:=(List.getElem?_eq_some_iff.mp e).1;refine⟨_,rfl,?_⟩;refine eV ⟨by omega,by omega⟩ ⟨bH (by rw[cJ];omega),?_⟩;rw[Int.toNat_natCast];refine xr (n:=n) (m:=7) (o:=3) (fun x st' K' h=>?_) B' (by omega) (by decide) (by decide) (by rw[cJ];omega) rfl fun r0 st4 hr0 hr1 B4 U4=>?_
 . obtain⟨n',m',b',e1,h1,h2,h3,h4,h5⟩:=h;cases e1
   exact⟨_,7,b',rfl,h1,h2,h3,h4,fun r s r0 r1 H U=>by
    obtain⟨i,ei,hi⟩:=h5 r s r0 r1 H U;cases ei;exact iN hi⟩
 rw[cJ]at hr0;have e4:st4[st.length]?=some (.lst (R.map aG)):=(U4.same _ (by omega)).trans e;have X4:=X.trans (XU.upd U4);dsimp only;refine lj (A:=fR _ _ _) (fun σ s=>∃r:List Int,σ=[some (.ref n),some (.int f),some (.int m),some (.ref st.length),some (.int (j:Int)),some (aG r)]/\r.length=f/\(∀x∈r,x.natAbs<=4)/\s[st.length]?=some (.lst (R.map aG))/\Hk s n (b+10*j+10)/\XU st n s) (fun nx hnx=>?_) ?_
 . refine AJ (fun h=>gW ?_) fun h=>hnx _ _ ⟨r0,rfl,hr0,fun x hx=>by have:=hr1 x hx;omega,e4,B4.mono (by omega),X4⟩;refine oz ?_;rw[l9,<-List.map_take];refine⟨n,4,_,rfl,B4,by omega,by decide,by decide,fun r5 st5 d0 d1 B5 U5=>du (fZ ⟨Nat.le_of_ble_eq_true rfl,n,2,_,rfl,B5,by omega,by decide,by decide,fun r6 st6 g0 g1 B6 U6=>?_⟩)⟩
   obtain⟨s,es,hs⟩:∃s:Int,eQ [D.int 1,.int (-1)] r6=some (.int s)/\s.natAbs<=1:=by
    have:r6=0\/r6=1:=by omega
    rcases this with rfl|rfl
    . exact⟨1,rfl,by decide⟩
    . exact⟨-1,rfl,by decide⟩
   refine aF rfl es (cN (pv (by omega) (by omega)) ⟨Nat.le_of_ble_eq_true rfl,wo (bH (by rw[List.length_map,List.length_take];simp;omega)) ?_⟩);refine PC (Nat.le_of_ble_eq_true rfl) (iN (iN (II ⟨by omega,by omega,bH (by simp;omega)⟩ ?_)));rw[show((f:Int)-(j:Int)-1).toNat=f-j-1 by omega,EU];refine wo (bH (by simp;omega)) ?_;have ea:ay (r0.take j)++[D.int ((1+r5)*s)]++ay (List.replicate (f-j-1) 0)=ay (r0.take j++[(1+r5)*s]++List.replicate (f-j-1) 0):=by simp[ay]
   have e6:st6[st.length]?=some (.lst (R.map aG)):=(U6.same _ (by omega)).trans ((U5.same _ (by omega)).trans e4)
   have hx:((1+r5)*s).natAbs<=4:=by
    rw[Int.natAbs_mul];exact Nat.mul_le_mul (show(1+r5).natAbs<=4 by omega) hs
   generalize(1+r5)*s=y at ea hx;show nx _ _;rw[ea];refine hnx _ _ ⟨_,rfl,by simp;omega,fun x hx2=>?_,e6,B6.mono (by omega),X4.trans ((XU.upd U5).trans (XU.upd U6))⟩;rcases List.mem_append.mp hx2 with h|h
   . rcases List.mem_append.mp h with h|h
     . have:=hr1 x (List.mem_of_mem_take h);omega
     . rw[List.mem_singleton.mp h];exact hx
   . rw[List.eq_of_mem_replicate h];exact Nat.zero_le _
 rintro _ st6 ⟨r,rfl,lr,br,e6,B6,X6⟩;refine u7 (by rfl) e6 (rP rfl (sQ e6 (by rw[sizeLine_eq,List.length_map];omega) ?_));have hl6:=(List.getElem?_eq_some_iff.mp e6).1;refine next _ _ ⟨R++[r],_,_,rfl,by rw[List.getElem?_set_self hl6,List.map_append];rfl,by simp[hl],fun q hq=>?_,fun q hq x hx=>?_,(B6.cell (List.getElem?_set_ne (by omega))).mono (by omega),X6.set (Nat.le_refl _)⟩
 . rcases List.mem_append.mp hq with h|h
   . exact hA q h
   . rw[List.mem_singleton.mp h];exact lr
 . rcases List.mem_append.mp hq with h|h
   . exact hbd q h x hx
   . rw[List.mem_singleton.mp h]at hx;exact br x hx
def kX:cK:=fun ds st K=>∃(n:Nat) (R:List (List Int)) (b:Int),ds=[.ref n,.lst (R.map aG)]/\Hk st n b/\b<=500000000/\R.length<=8/\∀(R':List (List Int)) st',R'.length=R.length->(∀r∈R',r∈R)->Hk st' n (b+10)->XU st n st'->K (.lst (R'.map aG)) st'
def i_:List Str:=["_law_hand_here","_law_rows","_law_left","_law_found"]
def wH:DS:=(aE (a6 2 (bV pj (af (aa 1) ak)))
 (aE (a6 3 (uE ak))
 (aE (pC (cy (aw zB (aa 2) (mL ak))) (jv (jP (aa 3) (qj oo (aa 2) (af (aC bf (af (aa 0) (af (bV fg (af (aa 2) ak)) ak))) ak)))))
 (oN 3 (cm (aa 3))))))
theorem OE{σ:bL}{st:ag}{K:DK}{n:Nat}{xs:List D}{to:DE}{ta:DA}(ho:∀K',K' (.ref n) st->to σ st K')(e:st[n]?=some (.lst xs))(ha:ta σ st fun ds st2=>(∃ys,st2[n]?=some (.lst ys))/\oo n ds st2 K):qj oo to ta σ st K:=by
 unfold qj;refine ho _ ?_;simp only[e];exact ha
theorem Oz{st2:ag}{K:DK}{n:Nat}{ys:List D}{i:Int}{j:Nat}{d:D}(e2:st2[n]?=some (.lst ys))(h63: -(2^63)<=i/\i<2^63)(ej:jl ys.length i=some j)(ed:ys[j]?=some d)(k:K d (st2.set n (.lst (ys.eraseIdx j)))):(∃ys,st2[n]?=some (.lst ys))/\oo n [.int i] st2 K:=by
 refine⟨⟨ys,e2⟩,?_⟩;unfold oo;simp only[e2,ej,ed];exact⟨h63,k⟩
theorem xl:∀(l:List (List Int)) (j:Nat),(l.map aG).eraseIdx j=(l.eraseIdx j).map aG
 | [],_=>rfl
 |_::_,0=>rfl
 |x::l,j+1=>by
  show aG x::(l.map aG).eraseIdx j=aG x::(l.eraseIdx j).map aG;rw[xl l j]
theorem uO:∀ds st K,kX ds st K->ds.length=2/\wH {nx:=fun _ st'=>K .aK st',rt:=K} (a_ i_ ds) st:=by
 rintro ds st K ⟨n,R,b,rfl,B,hb,l8,k⟩;refine⟨rfl,?_⟩;have hn:=B.lt;refine zC rfl ⟨Nat.le_of_ble_eq_true rfl,?_⟩;have B1:Hk (st++[Cell.lst (R.map aG)]++[Cell.lst []]) n (b+0):=(B.cell (by rw[List.append_assoc,List.getElem?_append_left hn])).mono (by omega);have e1:(st++[Cell.lst (R.map aG)]++[Cell.lst []])[st.length]?=some (.lst (R.map aG)):=by simp
 have e2:(st++[Cell.lst (R.map aG)]++[Cell.lst []])[st.length+1]?=some (.lst (([]:List (List Int)).map aG)):=by simp
 have X1:XU st n (st++[Cell.lst (R.map aG)]++[Cell.lst []]):=(XU.ext Ext.push).trans (XU.ext Ext.push);have l1:(st++[Cell.lst (R.map aG)]).length=st.length+1:=by simp
 rw[l1];generalize st++[Cell.lst (R.map aG)]++[Cell.lst []]=st1 at B1 e1 e2 X1;refine⟨fun m σ s=>∃L F:List (List Int),σ=[some (.ref n),some (.lst (R.map aG)),some (.ref st.length),some (.ref (st.length+1))]/\s[st.length]?=some (.lst (L.map aG))/\s[st.length+1]?=some (.lst (F.map aG))/\L.length=m/\L.length+F.length=R.length/\(∀r∈L,r∈R)/\(∀r∈F,r∈R)/\Hk s n (b+F.length)/\XU st n s,⟨R.length,R,[],rfl,e1,e2,rfl,by simp,fun _ h=>h,by simp,B1,X1⟩,?_⟩;rintro m σ s ⟨L,F,rfl,a1,a2,rfl,hl,hL,hF,B2,X2⟩
 have plL:(L.map aG).all (pl 39)=true:=List.all_eq_true.mpr fun d hd=>by
  obtain⟨r,_,rfl⟩:=List.mem_map.mp hd;unfold pl;exact Jr
 refine⟨Nat.le_of_ble_eq_true rfl,Lw a1 plL rfl ?_⟩;have lt1:=(List.getElem?_eq_some_iff.mp a1).1;have AJ:=(List.getElem?_eq_some_iff.mp a2).1;match hL0:L with
 | []=>
   have ez:cP (.lst (([]:List (List Int)).map aG)) (.lst [])=true:=by unfold cP;unfold jI;rfl
   rw[ez];refine yU (by rfl) a2 (k F _ (by simpa using hl) hF ((B2.cell (List.getElem?_set_ne (by omega))).mono (by have h9:F.length<=8:=(by simp at hl;omega);omega)) (X2.set (by omega)))
 |r0::L1=>
  have ez:cP (.lst ((r0::L1).map aG)) (.lst [])=false:=by unfold cP;rw[List.map_cons];unfold jI;rfl
  rw[ez];refine gW ?_;refine u7 (by rfl) a2 (OE (fun K' q=>q) a1 (d7 (aO a1) ?_));rw[List.length_map];refine⟨n,_,_,rfl,B2,by simp at hl;omega,by simp only[List.length_cons];omega,by simp only[List.length_cons]at hl⊢;omega,fun i s3 i0 i1 B3 U3=>?_⟩;obtain⟨j,rfl⟩:=Int.eq_ofNat_of_zero_le i0;have hj:j<(r0::L1).length:=by omega
  have b1:s3[st.length]?=some (.lst ((r0::L1).map aG)):=(U3.same _ (by omega)).trans a1;have b2:s3[st.length+1]?=some (.lst (F.map aG)):=(U3.same _ (by omega)).trans a2;refine Oz b1 ⟨by omega,by omega⟩ (zx (by rw[List.length_map];exact hj)) (by rw[List.getElem?_map,List.getElem?_eq_getElem hj];rfl) ?_;have b2':(s3.set st.length (.lst (((r0::L1).map aG).eraseIdx j)))[st.length+1]?=some (.lst (F.map aG)):=by rw[List.getElem?_set_ne (by omega)];exact b2
  refine sQ b2' (by rw[sizeLine_eq,List.length_map];simp at hl;omega) ?_;have l3:=U3.len;have mem:(r0::L1)[j]∈r0::L1:=List.getElem_mem _;refine⟨L1.length,by simp,(r0::L1).eraseIdx j,F++[(r0::L1)[j]],rfl,?_,?_,by rw[List.length_eraseIdx,if_pos hj];simp,by rw[List.length_eraseIdx,if_pos hj];simp at hl⊢;omega,fun r hr=>hL r (List.mem_of_mem_eraseIdx hr),fun r hr=>?_,((B3.cell (by rw[List.getElem?_set_ne (by omega),List.getElem?_set_ne (by omega)])).mono (by simp;omega)),((X2.trans (XU.upd U3)).set (Nat.le_refl _)).set (by omega)⟩
  . rw[List.getElem?_set_ne (by omega),List.getElem?_set_self (by omega)];congr 2;exact xl _ _
  . rw[List.getElem?_set_self (by rw[List.length_set];omega),List.map_append];rfl
  . rcases List.mem_append.mp hr with h|h
    . exact hF r h
    . rw[List.mem_singleton.mp h];exact hL _ mem
def nN:cK:=fun ds st K=>∃(n:Nat) (b:Int),ds=[.ref n]/\Hk st n b/\b<=500000000/\∀r st',r.natAbs<=100000->Hk st' n (b+2)->Upd st n st'->K (.int r) st'
def kB:List Str:=["_law_hand_here","_law_kind"]
def zL:DS:=(aE (a6 1 (aC bf (af (aa 0) (af (dC (.int 6)) ak))))
 (aE (fR (cy (aw j8 (aa 1) (dC (.int 0)))) (cm (aw jn (aC bf (af (aa 0) (af (dC (.int 200001)) ak))) (dC (.int 100000)))) fv)
 (cm (aw jn (aC bf (af (aa 0) (af (dC (.int 9)) ak))) (dC (.int 4))))))
theorem xJ:∀ds st K,nN ds st K->ds.length=1/\zL {nx:=fun _ st'=>K .aK st',rt:=K} (a_ kB ds) st:=by
 rintro ds st K ⟨n,b,rfl,B,hb,k⟩;refine⟨rfl,n,6,b,rfl,B,by omega,by decide,by decide,fun r1 st1 a0 a1 B1 U1=>?_⟩;refine eq2 (fun h=>gW ?_) fun h=>?_
 . exact⟨n,200001,_,rfl,B1,by omega,by decide,by decide,fun r2 st2 b0 b1 B2 U2=>iN (k _ _ (by omega) (B2.mono (by omega)) (U1.trans U2))⟩
 . exact⟨n,9,_,rfl,B1,by omega,by decide,by decide,fun r2 st2 b0 b1 B2 U2=>iN (k _ _ (by omega) (B2.mono (by omega)) (U1.trans U2))⟩
def kH:cK:=fun ds st K=>∃(n:Nat) (b:Int),ds=[.ref n]/\Hk st n b/\b<=100000000/\∀(Q:List (List Int)) (a:List Int) (d:D) (N w:Nat) st',Mx.cS w N Q->1<=N->N<=8->1<=w->w<=8->a.length=N->(∀r∈Q,∀x∈r,x.natAbs<=2^23)->(∀x∈a,x.natAbs<=2^38)->Hk st' n (b+300)->XU st n st'->K (.tup [fj Q,cj a,d]) st'
def iz:List Str:=["_law_hand_here","_law_size","_law_fixed","_law_many","_law_turn_here","_law_back","_law_rows","_law_row","_law_numbers","_law_answer"]
def u0:DS:=(aE (v9 (pG 1 2 3) (aC oi (af (aa 0) ak)))
 (aE (v9 (i4 4 5) (aC qo (af (aa 0) (af (aa 1) ak))))
 (aE (a6 6 (uE ak))
 (aE (iP (eh (aC kX (af (aa 0) (af (aC oh (af (aa 0) (af (aa 2) (af (aa 3) ak)))) ak)))) (bG 7) (jv (jP (aa 6) (bV dR (af (c7 (dO (af (aa 1) ak)) [none,some 7,some 5,some 2] (bG 0) cz (aC fW (af (aa 1) (af (eC (aw bg (aa 2) (aa 0)) dB (fB (aa 3))) ak)))) ak)))))
 (aE (a6 8 (c7 (dO (af (aa 1) ak)) [none,some 0] (bG 0) cz (aC nN (af (aa 1) ak))))
 (aE (a6 9 (bV dR (af (c7 (eh (aC jb (af (aa 4) ak))) [none,some 8] (bG 0) cz (aC fW (af (aa 1) (af (aa 0) ak)))) ak)))
 (cm (gG (af (bV dR (af (aa 6) ak)) (af (aa 9) (af (eC (aa 4) (fB (aa 2)) dB) ak)))))))))))
theorem lg{p q:Nat}:∀ {r s:List Int},(∀x∈r,x.natAbs<=p)->(∀x∈s,x.natAbs<=q)->(Mx.cU r s).natAbs<=r.length*(p*q)
 | [],_,_,_=>Nat.zero_le _
 |_::_,[],_,_=>Nat.zero_le _
 |a::r,b::s,h1,h2=>by
  have ih:=lg (r:=r) (s:=s) (fun x hx=>h1 x (List.mem_cons_of_mem _ hx)) fun x hx=>h2 x (List.mem_cons_of_mem _ hx);have h3:=Nat.mul_le_mul (h1 a List.mem_cons_self) (h2 b List.mem_cons_self);have h4:=Int.natAbs_add_le (a*b) (Mx.cU r s);rw[Int.natAbs_mul]at h4;show(a*b+Mx.cU r s).natAbs<=_;rw[List.length_cons,Nat.add_mul,Nat.one_mul];omega
theorem Ci{F:List (List Int)}{i:Nat}{d:D}{rest:List D}(hr:d::rest=(F.map aG).drop i):i<F.length/\d=aG (F.getD i [])/\rest=(F.map aG).drop (i+1):=by
 have hi:i<F.length:=by
  rcases Nat.lt_or_ge i F.length with h|h
  . exact h
  . rw[List.drop_eq_nil_of_le (by rw[List.length_map];exact h)]at hr;cases hr
 rw[List.drop_eq_getElem_cons (by rw[List.length_map];exact hi),List.getElem_map]at hr;obtain⟨h1,h2⟩:=List.cons.inj hr;exact⟨hi,by rw[Mx.aW hi];exact h1,h2⟩
theorem uu:∀ds st K,kH ds st K->ds.length=1/\u0 {nx:=fun _ st'=>K .aK st',rt:=K} (a_ iz ds) st:=by
 rintro ds st K ⟨n,b,rfl,B,hb,k⟩;refine⟨rfl,?_⟩;have hn:=B.lt;refine⟨n,b,rfl,B,by omega,fun s f m st1 s1 s8 fs m1 m8 B1 U1=>⟨_,rfl,?_⟩⟩;refine⟨n,s,_,rfl,B1,by omega,s1,s8,fun T M st2 iT iM bT bM B2 X2=>⟨_,rfl,?_⟩⟩;have l1:=U1.len;have l2:=X2.len;refine⟨Nat.le_of_ble_eq_true rfl,?_⟩;have e3:(st2++[Cell.lst []])[st2.length]?=some (.lst (([]:List (List Int)).map cj)):=by simp
 have B3:Hk (st2++[Cell.lst []]) n (b+10+50):=B2.cell (List.getElem?_append_left (by omega));have X3:XU st n (st2++[Cell.lst []]):=((XU.upd U1).trans X2).trans (XU.ext Ext.push);have lt3:st2.length<(st2++[Cell.lst []]).length:=by simp
 generalize st2++[Cell.lst []]=st3 at e3 B3 X3 lt3;dsimp only;refine lj (A:=iP _ _ _) (fun σ s'=>∃(Q:List (List Int)) (v7:Option D),σ=[some (.ref n),some (.int s),some (.int f),some (.int m),some (ox T),some (ox M),some (.ref st2.length),v7,none,none]/\s'[st2.length]?=some (.lst (Q.map cj))/\Mx.cS m s Q/\(∀r∈Q,∀x∈r,x.natAbs<=2^23)/\Hk s' n (b+10+50+100+10)/\XU st n s') (fun nx hnx=>?_) ?_
 . refine⟨n,f,m,_,rfl,B3,by omega,by omega,m8,fun R st4 iR bR B4 X4=>?_⟩;refine⟨n,R,_,rfl,B4,by omega,by rw[iR.len];exact m8,fun R' st5 lR hR B5 X5=>pR ?_⟩;rw[iR.len]at lR
   have e5:st5[st2.length]?=some (.lst (([]:List (List Int)).map cj)):=by
    rw[X5.same _ (Nat.lt_of_lt_of_le lt3 X4.len) (by omega),X4.same _ lt3 (by omega)];exact e3
   have X5':=(X3.trans X4).trans X5;refine ib (fun rest σ s'=>∃(q:Nat) (Q:List (List Int)) (v7:Option D),q<=m/\rest=(R'.map aG).drop q/\σ=[some (.ref n),some (.int s),some (.int f),some (.int m),some (ox T),some (ox M),some (.ref st2.length),v7,none,none]/\s'[st2.length]?=some (.lst (Q.map cj))/\Mx.cS q s Q/\(∀r∈Q,∀x∈r,x.natAbs<=2^23)/\Hk s' n (b+10+50+100+10)/\XU st n s') ?_ ?_ _ _ _ ⟨0,[],none,Nat.zero_le _,rfl,rfl,e5,⟨rfl,by simp⟩,by simp,B5,X5'⟩
   . rintro σ s' ⟨q,Q,v7,hq,hrest,rfl,e,iQ,bQ,B',X'⟩
     have:q=m:=by
      have:=congrArg List.length hrest;rw[List.length_drop,List.length_map,lR,List.length_nil]at this;omega
     subst this;exact⟨trivial,hnx _ _ ⟨Q,v7,rfl,e,iQ,bQ,B',X'⟩⟩
   . rintro d rest σ s' ⟨q,Q,v7,hq,hrest,rfl,e,iQ,bQ,B',X'⟩ next
     obtain⟨hqR,rfl,rfl⟩:=Ci hrest;have hmem:R'.getD q []∈R:=hR _ (by rw[Mx.aW hqR];exact List.getElem_mem _);have lr:=iR.f6 _ hmem;have br:=bR _ hmem;generalize R'.getD q []=r at lr br;have lM:=iM.len;refine⟨trivial,_,rfl,?_⟩;refine u7 (by rfl) e (eV ⟨by omega,by omega⟩ ⟨bH (by rw[cJ];omega),?_⟩);rw[Int.toNat_natCast];refine gN (fun c=> .int (Mx.cU r ((M.getD c []).take f))) s (fun c hc K' t=>⟨_,rfl,?_⟩) ?_
     . have hm2:M.getD c []∈M:=by rw[Mx.aW (by omega)];exact List.getElem_mem _
       refine aF rfl (t7 (by omega)) (oz ?_);rw[l9,<-List.map_take];exact⟨_,_,r,(M.getD c []).take f,rfl,rfl,rfl,by omega,fun x hx y hy=>ft (by have:=br x hx;omega) (by have:=br x hx;omega),t⟩
     have ed:(List.range s).map (fun c=>D.int (Mx.cU r ((M.getD c []).take f)))=ay ((List.range s).map fun c=>Mx.cU r ((M.getD c []).take f)):=by unfold ay;rw[List.map_map];rfl
     rw[ed];have lN:((List.range s).map fun c=>Mx.cU r ((M.getD c []).take f)).length=s:=by simp
     have bN:∀x∈(List.range s).map fun c=>Mx.cU r ((M.getD c []).take f),x.natAbs<=2^23:=fun x hx=>by
      obtain⟨c,hc,rfl⟩:=List.mem_map.mp hx;rw[List.mem_range]at hc;have hm2:M.getD c []∈M:=by rw[Mx.aW (by omega)];exact List.getElem_mem _
      refine Nat.le_trans (lg br fun y hy=>bM _ hm2 y (List.mem_of_mem_take hy)) ?_;rw[lr];exact Nat.le_trans (Nat.mul_le_mul_right _ (show f<=8 by omega)) (by decide)
     generalize(List.range s).map (fun c=>Mx.cU r ((M.getD c []).take f))=nr at lN bN;refine dM rfl (sQ e (by rw[sizeLine_eq,List.length_map,iQ.len];omega) ?_);have hlt:=(List.getElem?_eq_some_iff.mp e).1;refine next _ _ ⟨q+1,Q++[nr],_,by omega,rfl,rfl,by rw[List.getElem?_set_self hlt,Fw],⟨by simp[iQ.len],fun t ht=>?_⟩,fun t ht x hx=>?_,B'.cell (List.getElem?_set_ne (by omega)),X'.set (by omega)⟩
     . rcases List.mem_append.mp ht with h|h
       . exact iQ.f6 t h
       . rw[List.mem_singleton.mp h];exact lN
     . rcases List.mem_append.mp ht with h|h
       . exact bQ t h x hx
       . rw[List.mem_singleton.mp h]at hx;exact bN x hx
 rintro _ st6 ⟨Q,v7,rfl,e6,iQ,bQ,B6,X6⟩;refine eV ⟨by omega,by omega⟩ ⟨bH (by rw[cJ];omega),?_⟩;rw[Int.toNat_natCast];refine iG (fun rest acc s'=>∃l:List Int,acc=ay l/\l.length+rest.length=s/\(∀x∈l,x.natAbs<=100000)/\Hk s' n (b+10+50+100+10+2*l.length)/\Upd st6 n s') ?_ ?_ _ _ _ ⟨[],rfl,by rw[cJ];simp,by simp,B6.mono (by simp),Upd.refl⟩;rotate_left 1
 . rintro d rest acc s' ⟨l,rfl,hl,h2,B',U'⟩ next
   have hl2:l.length<8:=by simp at hl;omega
   refine⟨trivial,_,rfl,n,_,rfl,B',by omega,fun x s7 hx B7 U7=>?_⟩;show dD _ _ _ _ _ _ _ _ _;rw[ints_app];refine next _ _ ⟨l++[x],rfl,by simp at hl⊢;omega,fun z hz=>?_,B7.mono (by simp;omega),U'.trans U7⟩
   rcases List.mem_append.mp hz with hz|hz
   . exact h2 z hz
   . rw[List.mem_singleton.mp hz];exact hx
 rintro acc st7 ⟨l,rfl,hl,h2,B7,U7⟩;have ll:l.length=s:=by simpa using hl
 have e7:st7[st2.length]?=some (.lst (Q.map cj)):=(U7.same _ (by omega)).trans e6;refine⟨trivial,?_⟩;have iTt:=Mx.zU iT;refine⟨ox T,T,s,s,rfl,Il,iT,s1,by omega,by omega,pR ⟨bH (by rw[List.length_map,iTt.len];omega),?_⟩⟩;refine ma (fun r=> .int (Mx.cU l r)) trivial cA.tup (fun d r hr he K' t=>⟨_,rfl,_,_,l,r,rfl,rfl,he,by omega,fun x hx y hy=>ft (by have:=h2 x hx;omega) (by have:=h2 x hx;omega),t⟩) ?_;have ed:(Mx.e9 T s).map (fun r=>D.int (Mx.cU l r))=ay ((Mx.e9 T s).map (Mx.cU l)):=by unfold ay;rw[List.map_map];rfl
 rw[ed];have la:((Mx.e9 T s).map (Mx.cU l)).length=s:=by rw[List.length_map];exact iTt.len
 have ba:∀x∈(Mx.e9 T s).map (Mx.cU l),x.natAbs<=2^38:=fun x hx=>by
  obtain⟨r,hr,rfl⟩:=List.mem_map.mp hx;refine Nat.le_trans (lg (q:=3^11) h2 fun y hy=>?_) ?_
  . obtain⟨i,hi,rfl⟩:=List.mem_iff_getElem.mp hr;obtain⟨c,hc,rfl⟩:=List.mem_iff_getElem.mp hy;have li:i<s:=by rw[<-iTt.len];exact hi
    have lc:c<s:=by rw[<-iTt.f6 _ hr];exact hc
    have e:=Mx.q_ iT lc li;unfold Mx.g at e;rw[Mx.aW hi,Mx.aW hc]at e;rw[e];have hm:T.getD c []∈T:=by rw[Mx.aW (by rw[iT.len];exact lc)];exact List.getElem_mem _
    exact bT _ hm _ (getD_mem (by rw[iT.f6 _ hm];exact li))
  . rw[ll];exact Nat.le_trans (Nat.mul_le_mul_right _ s8) (by decide)
 generalize(Mx.e9 T s).map (Mx.cU l)=a at la ba;refine dM rfl (dM (aO e7) (oz ⟨Nat.le_of_ble_eq_true rfl,?_⟩));exact k Q a _ s m st7 iQ s1 s8 m1 m8 la bQ ba (B7.mono (by omega)) (X6.trans (XU.upd U7))
def nK:cK:=fun ds st K=>∃(n:Nat) (b:Int) (Q:List (List Int)) (a:List Int) (N w:Nat),ds=[.ref n,fj Q,cj (Q.map fun r=>Mx.cU r a)]/\Hk st n b/\b<=200000000/\Mx.cS w N Q/\1<=N/\N<=8/\1<=w/\w<=8/\a.length=N/\(∀r∈Q,∀x∈r,x.natAbs<=2^23)/\(∀x∈a,x.natAbs<=2^38)/\∀(Q':List (List Int)) (r':List Int) (w':Nat) st',Mx.cS w' N Q'->1<=w'->w'<=8->(∀r∈Q',∀x∈r,x.natAbs<=2^48)->r'.length=w'->(∀x∈r',x.natAbs<=2^70)->(∀z:Nat->Int,¬ ∀c,c<w'->r'.getD c 0=Mx.S N fun k=>z k*Mx.g Q' c k)->Upd st n st'->K (.tup [fj Q',cj r']) st'
def kE:List Str:=["_law_hand_here","_law_rows","_law_due","_law_place","_law_weights","_law_more","_law_number_here","_law_at","_law_many","_law_row"]
def zW:DS:=(aE (a6 3 (aC bf (af (aa 0) (af (bV fg (af (aa 1) ak)) ak))))
 (aE (fR (nO (cy (aw j8 (aC bf (af (aa 0) (af (dC (.int 2)) ak))) (dC (.int 0)))) (lP (cy (bV vA (af (aw bg (aa 1) (aa 3)) ak))))) (aE (a6 4 (c7 (eh (aa 1)) [none,some 0] (bG 0) cz (aw jn (aC bf (af (aa 1) (af (dC (.int 3)) ak))) (dC (.int 1)))))
 (aE (a6 5 (bV dR (af (c7 (eh (aC jb (af (aa 1) ak))) [none,some 4] (bG 0) cz (aC fW (af (aa 1) (af (aa 0) ak)))) ak)))
 (aE (a6 6 (aw bW (aC fW (af (aa 4) (af (aa 2) ak))) (aw bg (mL (af (kI gh (dC (.int 2))) (af (kI gh (dC (.int 1))) (af (dC (.int 1)) (af (dC (.int 1000003)) ak))))) (aC bf (af (aa 0) (af (dC (.int 4)) ak))))))
 (aE (a6 7 (aC bf (af (aa 0) (af (aw bW (bV fg (af (aa 1) ak)) (dC (.int 1))) ak))))
 (fR (cy (aw pX (bV fg (af (aa 1) ak)) (dC (.int 8)))) (cm (gG (af (aw bW (aw bW (eC (aa 1) dB (fB (aa 7))) (gG (af (aa 5) ak))) (eC (aa 1) (fB (aa 7)) dB)) (af (aw bW (aw bW (eC (aa 2) dB (fB (aa 7))) (gG (af (aa 6) ak))) (eC (aa 2) (fB (aa 7)) dB)) ak)))) fv))))) fv)
 (aE (a6 8 (aw bW (dC (.int 2)) (aC bf (af (aa 0) (af (dC (.int 5)) ak)))))
 (aE (a6 9 (bV dR (af (c7 (eh (aw bg (aa 1) (aa 3))) [none,some 8] (bG 0) cz (aw c5 (aa 1) (aa 0))) ak)))
 (aE (a6 6 (aw bW (aw bW (aw c5 (aa 8) (aw bg (aa 2) (aa 3))) (dC (.int 1))) (aC bf (af (aa 0) (af (aw jn (aa 8) (dC (.int 1))) ak)))))
 (cm (gG (af (aw bW (aw bW (eC (aa 1) dB (fB (aa 3))) (gG (af (aa 9) ak))) (eC (aa 1) (fB (aw bW (aa 3) (dC (.int 1)))) dB)) (af (aw bW (aw bW (eC (aa 2) dB (fB (aa 3))) (gG (af (aa 6) ak))) (eC (aa 2) (fB (aw bW (aa 3) (dC (.int 1)))) dB)) ak)))))))))
theorem qx{xs:List D}{j:Nat}:L3.cutD xs (some (j:Int)) none=xs.drop j:=by
 unfold L3.cutD;rw[HT.AO,HT.zh];by_cases h:j<=xs.length
 . rw[Nat.min_eq_left h,List.take_of_length_le (by rw[List.length_drop];omega)]
 . rw[Nat.min_eq_right (by omega),List.drop_of_length_le (Nat.le_refl _),List.drop_of_length_le (by omega)];simp
theorem ql{α:Type}{X R:List α}{k l:Nat}(z:α)(hk:k<=X.length)(i:Nat):(X.take k++R++X.drop l).getD i z=if i<k then X.getD i z else if i<k+R.length then R.getD (i-k) z else X.getD (l+(i-k-R.length)) z:=by
 have lt:(X.take k).length=k:=by rw[List.length_take];omega
 rw[List.append_assoc,List.getD_eq_getElem?_getD];by_cases h:i<k
 . rw[if_pos h,List.getElem?_append_left (by rw[lt];exact h),List.getElem?_take_of_lt h,List.getD_eq_getElem?_getD]
 . rw[if_neg h,List.getElem?_append_right (by rw[lt];omega),lt];by_cases h2:i<k+R.length
   . rw[if_pos h2,List.getElem?_append_left (by omega),List.getD_eq_getElem?_getD]
   . rw[if_neg h2,List.getElem?_append_right (by omega),List.getElem?_drop,List.getD_eq_getElem?_getD]
theorem nu{α:Type}{X:List α}{x y:α}{k l:Nat}(h:y∈X.take k++[x]++X.drop l):y∈X\/y=x:=by
 rcases List.mem_append.mp h with h|h
 . rcases List.mem_append.mp h with h|h
   . exact .inl (List.mem_of_mem_take h)
   . exact .inr (List.mem_singleton.mp h)
 . exact .inl (List.mem_of_mem_drop h)
theorem xF:∀ds st K,nK ds st K->ds.length=3/\zW {nx:=fun _ st'=>K .aK st',rt:=K} (a_ kE ds) st:=by
 rintro ds st K ⟨n,b,Q,a,N,w,rfl,B,hb,iQ,N1,N8,w1,w8,la,bQ,ba,k⟩;refine⟨rfl,?_⟩;have lQ:=iQ.len;have memQ:∀c,c<w->Q.getD c []∈Q:=fun c hc=>by rw[Mx.aW (by omega)];exact List.getElem_mem _
 have ld:(Q.map fun r=>Mx.cU r a).length=w:=by rw[List.length_map];exact lQ
 have dat:∀c,c<w->(Q.map fun r=>Mx.cU r a).getD c 0=Mx.cU (Q.getD c []) a:=fun c hc=>by
  rw[Mx.aW (by omega),List.getElem_map,Mx.aW (by omega)]
 have bd:∀x∈Q.map (fun r=>Mx.cU r a),x.natAbs<=2^64:=fun x hx=>by
  obtain⟨r,hr,rfl⟩:=List.mem_map.mp hx;refine Nat.le_trans (lg (bQ r hr) ba) ?_;rw[iQ.f6 r hr];exact Nat.le_trans (Nat.mul_le_mul_right _ N8) (by decide)
 generalize(Q.map fun r=>Mx.cU r a)=due at ld dat bd;refine d7 rfl ?_;rw[List.length_map,lQ];refine⟨n,_,_,rfl,B,by omega,by omega,by omega,fun p st1 p0 p1 B1 U1=>?_⟩;obtain⟨p,rfl⟩:=Int.eq_ofNat_of_zero_le p0;have hp:p<w:=by omega
 dsimp only;refine lj (A:=fR _ _ _) (fun σ s=>∃v4 v5 v6 v7:Option D,σ=[some (.ref n),some (fj Q),some (cj due),some (.int (p:Int)),v4,v5,v6,v7,none,none]/\Hk s n (b+30)/\Upd st n s) (fun nx hnx=>?_) ?_
 . refine⟨n,2,_,rfl,B1,by omega,by decide,by decide,fun r2 st2 a0 a1 B2 U2=>?_⟩;have U:=U1.trans U2
   have way1:∀E:iC,E.rt=K->E.nx=nx->(aE (a6 4 (c7 (eh (aa 1)) [none,some 0] (bG 0) cz (aw jn (aC bf (af (aa 1) (af (dC (.int 3)) ak))) (dC (.int 1))))) (aE (a6 5 (bV dR (af (c7 (eh (aC jb (af (aa 1) ak))) [none,some 4] (bG 0) cz (aC fW (af (aa 1) (af (aa 0) ak)))) ak))) (aE (a6 6 (aw bW (aC fW (af (aa 4) (af (aa 2) ak))) (aw bg (mL (af (kI gh (dC (.int 2))) (af (kI gh (dC (.int 1))) (af (dC (.int 1)) (af (dC (.int 1000003)) ak))))) (aC bf (af (aa 0) (af (dC (.int 4)) ak)))))) (aE (a6 7 (aC bf (af (aa 0) (af (aw bW (bV fg (af (aa 1) ak)) (dC (.int 1))) ak)))) (fR (cy (aw pX (bV fg (af (aa 1) ak)) (dC (.int 8)))) (cm (gG (af (aw bW (aw bW (eC (aa 1) dB (fB (aa 7))) (gG (af (aa 5) ak))) (eC (aa 1) (fB (aa 7)) dB)) (af (aw bW (aw bW (eC (aa 2) dB (fB (aa 7))) (gG (af (aa 6) ak))) (eC (aa 2) (fB (aa 7)) dB)) ak)))) fv))))) E [some (.ref n),some (fj Q),some (cj due),some (.int (p:Int)),none,none,none,none,none,none] st2:=fun E hrt hnx2=>by
    refine hZ ⟨bH (by rw[List.length_map];omega),?_⟩;refine xr (n:=n) (m:=3) (o:=1) (fun x st' K' h=>?_) B2 (by omega) (by decide) (by decide) (by rw[List.length_map];omega) rfl fun ws st3 lw hw B3 U3=>?_
    . obtain⟨n',m',b',e1,h1,h2,h3,h4,h5⟩:=h;cases e1
      exact⟨_,3,b',rfl,h1,h2,h3,h4,fun r s r0 r1 H U=>by
       obtain⟨i,ei,hi⟩:=h5 r s r0 r1 H U;cases ei;exact iN hi⟩
    rw[List.length_map,lQ]at lw;have iT:=Mx.zU iQ;have bw:∀x∈ws,x.natAbs<=1:=fun x hx=>by have:=hw x hx;omega
    refine⟨fj Q,Q,w,N,rfl,sI,iQ,w1,by omega,by omega,pR ⟨bH (by rw[List.length_map,iT.len];omega),?_⟩⟩;refine ma (fun r=> .int (Mx.cU ws r)) trivial cA.tup (fun d r hr he K' t=>⟨_,rfl,_,_,ws,r,rfl,rfl,he,by omega,fun x hx y hy=>ft (by have:=bw x hx;omega) (by have:=bw x hx;omega),t⟩) ?_;have ed:(Mx.e9 Q N).map (fun r=>D.int (Mx.cU ws r))=ay ((Mx.e9 Q N).map (Mx.cU ws)):=by unfold ay;rw[List.map_map];rfl
    rw[ed];have lm:((Mx.e9 Q N).map (Mx.cU ws)).length=N:=by rw[List.length_map];exact iT.len
    have mat:∀i,i<N->((Mx.e9 Q N).map (Mx.cU ws)).getD i 0=Mx.S w fun c=>ws.getD c 0*Mx.g Q c i:=fun i hi=>by
     have hl:i<(Mx.e9 Q N).length:=by rw[iT.len];exact hi
     rw[Mx.aW (by rw[lm];exact hi),List.getElem_map,Mx.zc (by rw[iT.f6 _ (List.getElem_mem hl)];exact lw),iT.f6 _ (List.getElem_mem hl)];refine Mx.aL fun c hc=>?_;have e:=Mx.q_ iQ hc hi;unfold Mx.g at e;rw[Mx.aW hl]at e;rw[e];rfl
    have bm:∀x∈(Mx.e9 Q N).map (Mx.cU ws),x.natAbs<=2^48:=fun x hx=>by
     obtain⟨r,hr,rfl⟩:=List.mem_map.mp hx;refine Nat.le_trans (lg (q:=2^23) bw fun y hy=>?_) ?_
     . obtain⟨i,hi,rfl⟩:=List.mem_iff_getElem.mp hr;obtain⟨c,hc,rfl⟩:=List.mem_iff_getElem.mp hy;have li:i<N:=by rw[<-iT.len];exact hi
       have lc:c<w:=by rw[<-iT.f6 _ hr];exact hc
       have e:=Mx.q_ iQ lc li;unfold Mx.g at e;rw[Mx.aW hi,Mx.aW hc]at e;rw[e];exact bQ _ (memQ c lc) _ (getD_mem (by rw[iQ.f6 _ (memQ c lc)];exact li))
     . rw[lw];exact Nat.le_trans (Nat.mul_le_mul_right _ w8) (by decide)
    generalize(Mx.e9 Q N).map (Mx.cU ws)=more at lm mat bm;refine dM rfl ?_;refine⟨_,_,ws,due,rfl,rfl,rfl,by omega,fun x hx y hy=>ft (by have:=bw x hx;omega) (by have:=bw x hx;omega),?_⟩;refine fZ (fZ ⟨Nat.le_of_ble_eq_true rfl,n,4,_,rfl,B3,by omega,by decide,by decide,fun r4 st4 c0 c1 B4 U4=>?_⟩)
    obtain⟨y,ey,hy0,hy⟩:∃y:Int,eQ [D.int (-2),.int (-1),.int 1,.int 1000003] r4=some (.int y)/\y≠0/\y.natAbs<=1000003:=by
     have:r4=0\/r4=1\/r4=2\/r4=3:=by omega
     rcases this with rfl|rfl|rfl|rfl
     . exact⟨-2,rfl,by decide,by decide⟩
     . exact⟨-1,rfl,by decide,by decide⟩
     . exact⟨1,rfl,by decide,by decide⟩
     . exact⟨1000003,rfl,by decide,by decide⟩
    refine aF rfl ey (du ?_)
    have bn:(Mx.cU ws due+y).natAbs<=2^70:=by
     have h1:=lg (q:=2^64) bw bd;rw[lw]at h1;have h2:=Int.natAbs_add_le (Mx.cU ws due) y;have h3:w*(1*2^64)<=8*(1*2^64):=Nat.mul_le_mul_right _ w8;omega
    have eds:Mx.cU ws due=Mx.S w fun c=>ws.getD c 0*due.getD c 0:=by rw[Mx.zc (by omega),ld]
    generalize hnum:Mx.cU ws due+y=num at bn;refine d7 rfl (du ?_);rw[List.length_map,lQ];refine⟨n,_,_,rfl,B4,by omega,by omega,by omega,fun at_ st5 d0 d1 B5 U5=>?_⟩;obtain⟨j,rfl⟩:=Int.eq_ofNat_of_zero_le d0;have U':=U.trans (U3.trans (U4.trans U5));refine d7 rfl ?_;rw[List.length_map,lQ];refine AJ (fun h=>gW ?_) fun h=>?_
    . refine gK ⟨Nat.le_of_ble_eq_true rfl,?_⟩;rw[l9,<-List.map_take];refine jU (bH (by rw[List.length_map,List.length_take];simp;omega)) (gK ?_);rw[qx,<-List.map_drop];refine jU (bH (by rw[List.length_append,List.length_map,List.length_map,List.length_take,List.length_drop];simp;omega)) ?_;refine gK ⟨Nat.le_of_ble_eq_true rfl,?_⟩;rw[l9];refine jU (bH (by rw[List.length_take,List.length_map];simp;omega)) (gK ?_);rw[qx];refine jU (bH (by rw[List.length_append,List.length_take,List.length_drop,List.length_map];simp;omega)) ⟨Nat.le_of_ble_eq_true rfl,?_⟩;have em:(Q.take j).map cj++[cj more]++(Q.drop j).map cj=(Q.take j++[more]++Q.drop j).map cj:=by rw[List.map_append,List.map_append];rfl
      have en:(ay due).take j++[D.int num]++(ay due).drop j=ay (due.take j++[num]++due.drop j):=by simp[ay,List.map_append,List.map_take,List.map_drop]
      rw[em,en,hrt];refine k _ _ (w+1) st5 ⟨by rw[List.length_append,List.length_append,List.length_take,List.length_drop,List.length_singleton];omega,fun r hr=>?_⟩ (by omega) (by omega) (fun r hr x hx=>?_) (by rw[List.length_append,List.length_append,List.length_take,List.length_drop,List.length_singleton];omega) (fun x hx=>?_) (fun z hz=>?_) U'
      . rcases nu hr with h|h
        . exact iQ.f6 r h
        . rw[h];exact lm
      . rcases nu hr with h|h
        . exact Nat.le_trans (bQ r h x hx) (by decide)
        . rw[h]at hx;exact bm x hx
      . rcases nu hx with h|h
        . exact Nat.le_trans (bd x h) (by decide)
        . rw[h];exact bn
      . have hjw:j<=w:=by omega
        have gr:∀c q,Mx.g (Q.take j++[more]++Q.drop j) c q=if c<j then Mx.g Q c q else if c<j+1 then more.getD q 0 else Mx.g Q (j+(c-j-1)) q:=fun c q=>by
         unfold Mx.g;rw[ql [] (by omega)];split
         . rfl
         . simp only[List.length_singleton];split
           . rename_i h1 h2;have:c-j=0:=by omega
             rw[this];rfl
           . rfl
        have gd:∀c,(due.take j++[num]++due.drop j).getD c 0=if c<j then due.getD c 0 else if c<j+1 then num else due.getD (j+(c-j-1)) 0:=fun c=>by
         rw[ql 0 (by omega)];split
         . rfl
         . simp only[List.length_singleton];split
           . rename_i h1 h2;have:c-j=0:=by omega
             rw[this];rfl
           . rfl
        have each:∀c,c<w->due.getD c 0=Mx.S N fun q=>z q*Mx.g Q c q:=fun c hc=>by
         by_cases hcj:c<j
         . have:=hz c (by omega);rw[gd,if_pos hcj]at this;rw[this];exact Mx.aL fun q _=>by rw[gr,if_pos hcj]
         . have:=hz (c+1) (by omega);rw[gd,if_neg (by omega),if_neg (by omega),show j+(c+1-j-1)=c by omega]at this;rw[this];exact Mx.aL fun q _=>by rw[gr,if_neg (by omega),if_neg (by omega),show j+(c+1-j-1)=c by omega]
        have last:=hz j (by omega);rw[gd,if_neg (Nat.lt_irrefl _),if_pos (Nat.lt_succ_self _)]at last
        have e1:(Mx.S N fun q=>z q*Mx.g (Q.take j++[more]++Q.drop j) j q)=Mx.S N fun q=>Mx.S w fun c=>ws.getD c 0*(z q*Mx.g Q c q):=Mx.aL fun q hq=>by
         rw[gr,if_neg (Nat.lt_irrefl _),if_pos (Nat.lt_succ_self _),mat q hq,<-Mx.fk];exact Mx.aL fun c _=>Int.mul_left_comm _ _ _
        have e2:(Mx.S w fun c=>ws.getD c 0*due.getD c 0)=Mx.S w fun c=>Mx.S N fun q=>ws.getD c 0*(z q*Mx.g Q c q):=Mx.aL fun c hc=>by rw[each c hc,<-Mx.fk]
        rw[e1,Mx.vq,<-e2,<-eds]at last;omega
    . show E.nx _ _;rw[hnx2];exact hnx _ _ ⟨_,_,_,_,rfl,B5.mono (by omega),U'⟩
   refine eq2 (fun h=>gW (way1 _ rfl rfl)) fun h=>?_;refine aF rfl (wC (by omega)) (Jb (ints_map _) ?_);cases hany:(Q.getD p []).any fun x=>decide (x≠0)with
   |false=>exact gW (way1 _ rfl rfl)
   |true=>exact hnx _ _ ⟨_,_,_,_,rfl,B2.mono (by omega),U⟩
 rintro _ st3 ⟨v4,v5,v6,v7,rfl,B3,U3⟩;refine⟨n,5,_,rfl,B3,by omega,by decide,by decide,fun r4 st4 a0 a1 B4 U4=>du ?_⟩;have lr:=iQ.f6 _ (memQ p hp);refine aF rfl (wC (by omega)) (hZ ⟨bH (by rw[List.length_map];omega),?_⟩);refine comp_map (g:=fun d=>match d with| .int x=> .int ((2+r4)*x)|_=> .aK) trivial _ (fun d hd K' q=>?_) ?_
 . obtain⟨x,_,rfl⟩:=List.mem_map.mp hd;exact⟨_,rfl,cN (ft (by omega) (by omega)) q⟩
 have ea:(ay (Q.getD p [])).map (fun d=>match d with| .int x=> .int ((2+r4)*x)|_=> .aK)=ay ((Q.getD p []).map fun x=>(2+r4)*x):=by unfold ay;rw[List.map_map,List.map_map];rfl
 rw[ea];have lN:((Q.getD p []).map fun x=>(2+r4)*x).length=N:=by rw[List.length_map];exact lr
 have bN:∀y∈(Q.getD p []).map fun x=>(2+r4)*x,y.natAbs<=2^48:=fun y hy=>by
  obtain⟨x,hx,rfl⟩:=List.mem_map.mp hy;rw[Int.natAbs_mul];exact Nat.le_trans (Nat.mul_le_mul (show(2+r4).natAbs<=6 by omega) (bQ _ (memQ p hp) x hx)) (by decide)
 have aN:∀q,((Q.getD p []).map fun x=>(2+r4)*x).getD q 0=(2+r4)*Mx.g Q p q:=fun q=>by
  unfold Mx.g;rw[List.getD_eq_getElem?_getD,List.getElem?_map,List.getD_eq_getElem?_getD (l:=Q.getD p [])];cases (Q.getD p [])[q]? with
  |none=>exact(Int.mul_zero _).symm
  |some y=>rfl
 generalize(Q.getD p []).map (fun x=>(2+r4)*x)=nr at lN bN aN;have bdp:=bd _ (getD_mem (r:=due) (k:=p) (by omega));refine dM rfl (aF rfl (fU (by omega)) (cN (ft (by omega) (by omega)) ?_));obtain⟨y,hy⟩:∃y,(2+r4)*due.getD p 0=y:=⟨_,rfl⟩
 rw[hy]
 have by_:y.natAbs<=6*2^64:=by
  rw[<-hy,Int.natAbs_mul];exact Nat.mul_le_mul (by omega) bdp
 refine du (iN ⟨n,_,_,rfl,B4,by omega,by omega,by omega,fun r5 st5 c0 c1 B5 U5=>du ?_⟩);obtain⟨num,hnum⟩:∃num,y+1+r5=num:=⟨_,rfl⟩
 rw[hnum];refine gK ⟨Nat.le_of_ble_eq_true rfl,?_⟩;rw[l9,<-List.map_take];refine jU (bH (by rw[List.length_map,List.length_take];simp;omega)) (du (gK ?_));rw[show(p:Int)+1=((p+1:Nat):Int)from rfl,qx,<-List.map_drop];refine jU (bH (by rw[List.length_append,List.length_map,List.length_map,List.length_take,List.length_drop];simp;omega)) ?_;refine gK ⟨Nat.le_of_ble_eq_true rfl,?_⟩;rw[l9];refine jU (bH (by rw[List.length_take,List.length_map];simp;omega)) (du (gK ?_));rw[show(p:Int)+1=((p+1:Nat):Int)from rfl,qx];refine jU (bH (by rw[List.length_append,List.length_take,List.length_drop,List.length_map];simp;omega)) ⟨Nat.le_of_ble_eq_true rfl,?_⟩;have em:(Q.take p).map cj++[cj nr]++(Q.drop (p+1)).map cj=(Q.take p++[nr]++Q.drop (p+1)).map cj:=by rw[List.map_append,List.map_append];rfl
 have en:(ay due).take p++[D.int num]++(ay due).drop (p+1)=ay (due.take p++[num]++due.drop (p+1)):=by simp[ay,List.map_append,List.map_take,List.map_drop]
 rw[em,en];refine k _ _ w st5 ⟨by rw[List.length_append,List.length_append,List.length_take,List.length_drop,List.length_singleton];omega,fun r hr=>?_⟩ w1 w8 (fun r hr x hx=>?_) (by rw[List.length_append,List.length_append,List.length_take,List.length_drop,List.length_singleton];omega) (fun x hx=>?_) (fun z hz=>?_) (U3.trans (U4.trans U5))
 . rcases nu hr with h|h
   . exact iQ.f6 r h
   . rw[h];exact lN
 . rcases nu hr with h|h
   . exact Nat.le_trans (bQ r h x hx) (by decide)
   . rw[h]at hx;exact bN x hx
 . rcases nu hx with h|h
   . exact Nat.le_trans (bd x h) (by decide)
   . rw[h];omega
 . have last:=hz p hp;rw[ql 0 (by omega),if_neg (Nat.lt_irrefl _),if_pos (by simp),Nat.sub_self]at last
   have e1:(Mx.S N fun q=>z q*Mx.g (Q.take p++[nr]++Q.drop (p+1)) p q)=(2+r4)*Mx.S N fun q=>z q*Mx.g Q p q:=by
    rw[<-Mx.fk];refine Mx.aL fun q _=>?_
    have:Mx.g (Q.take p++[nr]++Q.drop (p+1)) p q=(2+r4)*Mx.g Q p q:=by
     rw[<-aN];unfold Mx.g;rw[ql [] (by omega),if_neg (Nat.lt_irrefl _),if_pos (by simp),Nat.sub_self];rfl
    rw[this];exact Int.mul_left_comm _ _ _
   rw[e1]at last;have last:num=(2+r4)*Mx.S N fun q=>z q*Mx.g Q p q:=last;generalize(Mx.S N fun q=>z q*Mx.g Q p q)=X at last;have hr4:r4=0\/r4=1\/r4=2\/r4=3\/r4=4:=by omega
   rcases hr4 with rfl|rfl|rfl|rfl|rfl<;>omega
def mK:cK:=fun ds st K=>∃q:Rat,ds=[d8 q]/\K (.bl true) st
def jx:List Str:=["_law_found","_law_one","_law_other"]
def xM:DS:=(aE (fR (nO (lP (cy (bV qf (af (aa 0) (af (dC (.ty "tuple")) ak))))) (nO (cy (aw pB (bV fg (af (aa 0) ak)) (dC (.int 2)))) (nO (lP (cy (aC lS (af (aw bg (aa 0) (dC (.int 0))) ak)))) (lP (cy (aC lS (af (aw bg (aa 0) (dC (.int 1))) ak))))))) (cm (dC (.bl false))) fv)
 (aE (Ck 1 2 (af (bV o3 (af (aw bg (aa 0) (dC (.int 0))) ak)) (af (aw bg (aa 0) (dC (.int 1))) ak)))
 (aE (pC (cy (aw qM (aa 2) (dC (.int 0)))) (Ck 1 2 (af (aa 2) (af (aw fQ (aa 1) (aa 2)) ak))))
 (cm (vt (aw qM (aw bg (aa 0) (dC (.int 1))) (dC (.int 0))) (aw j8 (aa 1) (dC (.int 1))))))))
theorem vQ:∀ds st K,mK ds st K->ds.length=1/\xM {nx:=fun _ st'=>K .aK st',rt:=K} (a_ jx ds) st:=by
 rintro ds st K ⟨q,rfl,k⟩;refine⟨rfl,?_⟩;refine rL rfl (by decide) (d7 rfl (GC rfl ?_));refine aF rfl rfl ⟨_,rfl,aF rfl rfl ⟨_,rfl,?_⟩⟩;refine aF rfl rfl (pF (aF rfl rfl ?_));refine⟨fun m σ st'=>∃(g s:Nat),σ=[some (d8 q),some (.int g),some (.int s)]/\st'=st/\Nat.gcd g s=1/\s=m,⟨q.den,q.num.natAbs,q.den,rfl,rfl,q.reduced,rfl⟩,?_⟩;rintro m σ st' ⟨g,s,rfl,rfl,hg,rfl⟩;refine JP (fun h=>gW ?_) fun h=>?_
 . refine iS (by omega) ⟨g%s,Nat.mod_lt _ (by omega),s,g%s,?_,rfl,?_,rfl⟩
   . rw[zO];rfl
   . rw[Nat.gcd_comm,<-Nat.gcd_rec,Nat.gcd_comm];exact hg
 . have:s=0:=by omega
   subst this;rw[Nat.gcd_zero_right]at hg;subst hg;have hd:=q.den_pos;exact aF rfl rfl (NY (by omega) (eqT rfl k))
def gR:cK:=fun ds st K=>∃(ps:List Rat) (d:D) (r:List Int) (w:Nat),ds=[.tup (ps.map d8),d]/\items? st d=some (ay r)/\ps.length=w/\r.length=w/\w<=8/\Mx.Pb ps 10000000/\(∀x∈r,x.natAbs<=2^70)/\∀t:Bool,(t=true↔Mx.Wh (Mx.dq ps w fun c=>r.getD c 0))->K (.bl t) st
def g5:List Str:=["_law_parts","_law_numbers","_law_bottom","_law_top","_law_under"]
def uq:DS:=(aE (a6 2 (dC (.int 1)))
 (aE (iP (eh (aa 0)) (i4 3 4) (a6 2 (aw c5 (aa 2) (aa 4))))
 (cm (aw j8 (aw fQ (bV wz (af (c7 (uc (af (aa 0) (af (aa 1) ak))) [none,none,none,some 2] (ph 0 1 2) cz (aw c5 (aw c5 (aa 0) (aw iJ (aa 3) (aa 1))) (aa 2))) ak)) (aa 2)) (dC (.int 0))))))
def pD:List Rat->Int->Int
 | [],a=>a
 |q::qs,a=>pD qs (a*((q.den:Nat):Int))
def sV(b:Int):List Rat->List Int->Int
 |q::qs,x::xs=>q.num*b.fdiv ((q.den:Nat):Int)*x+sV b qs xs
 |_,_=>0
theorem CK{c:Int}:∀(ps:List Rat) {a:Int},c∣a->c∣pD ps a
 | [],_,h=>h
 |_::qs,_,h=>CK qs (Int.dvd_mul_of_dvd_left h)
theorem EJ:∀(ps:List Rat) (a:Int),∀q∈ps,((q.den:Nat):Int)∣pD ps a
 |p::qs,a,q,h=>by
  rcases List.mem_cons.mp h with rfl|h
  . exact CK qs (Int.dvd_mul_left _ _)
  . exact EJ qs _ q h
theorem Gz:∀(ps:List Rat) {a:Int},a≠0->pD ps a≠0
 | [],_,h=>h
 |q::qs,_,h=>Gz qs (Int.mul_ne_zero h (by have:=q.den_pos;omega))
theorem He:∀(ps:List Rat) {a:Int} {s t:Nat},a.natAbs<=2^s->Mx.Pb ps t->(pD ps a).natAbs<=2^(s+t)
 | [],_,s,t,h,_=>Nat.le_trans h (Nat.pow_le_pow_right (by decide) (by omega))
 |q::qs,a,s,t,h,⟨x,y,h1,h2,h3⟩=>by
  have:(a*((q.den:Nat):Int)).natAbs<=2^(s+x):=by
   rw[Int.natAbs_mul,Nat.pow_add];exact Nat.mul_le_mul h h1.den
  exact Nat.le_trans (He qs this h2) (Nat.pow_le_pow_right (by decide) (by omega))
theorem Ei:∀ {ps:List Rat} {t:Nat},Mx.Pb ps t->∀q∈ps,Mx.Sz q t
 |p::qs,t,⟨x,y,h1,h2,h3⟩,q,h=>by
  rcases List.mem_cons.mp h with rfl|h
  . exact h1.mono (by omega)
  . exact(Ei h2 q h).mono (by omega)
theorem Mv(q:Rat):q*(((q.den:Nat):Int):Rat)=(q.num:Rat):=by
 have h:=Rat.num_divInt_den q;rw[Rat.divInt_eq_div]at h
 have hd:(((q.den:Nat):Int):Rat)≠0:=fun z=>by
  have z2:(((q.den:Nat):Int):Rat)=((0:Int):Rat):=z;have:=Rat.intCast_inj.mp z2;have:=q.den_pos;omega
 grind
theorem GI{b:Int}:∀(ps:List Rat) (r:List Int) (x:Rat),(∀q∈ps,((q.den:Nat):Int)∣b)->((b:Int):Rat)*Mx.jj x ps r=(b:Rat)*x+((sV b ps r:Int):Rat)
 | [],r,x,_=>by
   have e:Mx.jj x [] r=x:=by cases r<;>rfl
   rw[e];show _=_+((0:Int):Rat);grind
 |q::qs,[],x,_=>by
  show(b:Rat)*x=(b:Rat)*x+((0:Int):Rat);grind
 |q::qs,n::r,x,h=>by
  have ih:=GI qs r (x+q*(n:Rat)) fun p hp=>h p (List.mem_cons_of_mem _ hp);obtain⟨c,hc⟩:=h q List.mem_cons_self;have hd:=q.den_pos
  have ef:b.fdiv ((q.den:Nat):Int)=c:=by
   rw[hc,Int.mul_fdiv_cancel_left _ (by omega)]
  have e1:Mx.jj x (q::qs) (n::r)=Mx.jj (x+q*(n:Rat)) qs r:=rfl;have e2:sV b (q::qs) (n::r)=q.num*c*n+sV b qs r:=by rw[<-ef];rfl
  rw[e1,ih,e2,Rat.intCast_add,Rat.intCast_mul,Rat.intCast_mul];have eb:((b:Int):Rat)=(((q.den:Nat):Int):Rat)*(c:Rat):=by rw[hc,Rat.intCast_mul]
  have eq:=Mv q;rw[<-eq,eb];grind
theorem zip_parts:∀ {ps:List Rat} {r:List Int} {d:D},d∈fE (ps.map d8) (ay r)->∃q x,q∈ps/\x∈r/\d= .tup [d8 q,.int x]
 | [],_,_,h=>by cases h
 |_::_,[],_,h=>by cases h
 |q::ps,x::r,d,h=>by
  have e:fE ((q::ps).map d8) (ay (x::r))= .tup [d8 q,.int x]::fE (ps.map d8) (ay r):=rfl;rw[e]at h;rcases List.mem_cons.mp h with rfl|h
  . exact⟨q,x,List.mem_cons_self,List.mem_cons_self,rfl⟩
  . obtain⟨q',x',h1,h2,h3⟩:=zip_parts h;exact⟨q',x',List.mem_cons_of_mem _ h1,List.mem_cons_of_mem _ h2,h3⟩
theorem yD{b:Int}:∀(ps:List Rat) (r:List Int),∃ns:List Int,(fE (ps.map d8) (ay r)).map (fun d=>match d with| .tup [.tup [.int n,.int m],.int x]=> .int (n*b.fdiv m*x)|_=> .aK)=ay ns/\ns.sum=sV b ps r
 | [],_=>⟨[],rfl,rfl⟩
 |_::_,[]=>⟨[],rfl,rfl⟩
 |q::ps,x::r=>by
  obtain⟨ns,h1,h2⟩:=yD (b:=b) ps r;refine⟨q.num*b.fdiv ((q.den:Nat):Int)*x::ns,?_,?_⟩
  . have e:fE ((q::ps).map d8) (ay (x::r))= .tup [d8 q,.int x]::fE (ps.map d8) (ay r):=rfl;rw[e,List.map_cons,h1];rfl
  . rw[List.sum_cons,h2];rfl
theorem tj:∀ds st K,gR ds st K->ds.length=2/\uq {nx:=fun _ st'=>K .aK st',rt:=K} (a_ g5 ds) st:=by
 rintro ds st K ⟨ps,d,r,w,rfl,hd,lp,lr,w8,hP,br,k⟩;refine⟨rfl,?_⟩;refine Eh (σ:=[some (.tup (ps.map d8)),some d,none,none,none]) (d:= .int 1) ug ?_;refine lj (A:=iP _ _ _) (fun σ s=>∃v3 v4:Option D,σ=[some (.tup (ps.map d8)),some d,some (.int (pD ps 1)),v3,v4]/\s=st) (fun nx hnx=>?_) ?_
 . refine hZ ?_;refine ib (fun rest σ s=>∃(qs:List Rat) (a:Int) (i t:Nat) (v3 v4:Option D),rest=qs.map d8/\σ=[some (.tup (ps.map d8)),some d,some (.int a),v3,v4]/\s=st/\pD qs a=pD ps 1/\a.natAbs<=2^i/\Mx.Pb qs t/\i+t<=10000000) ?_ ?_ _ _ _ ⟨ps,1,0,10000000,none,none,rfl,rfl,rfl,rfl,by decide,hP,by omega⟩
   . rintro σ s ⟨qs,a,i,t,v3,v4,hq,rfl,rfl,e,_,_,_⟩;match qs,hq,e with
     | [],_,e=>
       refine⟨trivial,?_⟩;have e:a=pD ps 1:=e;rw[e];exact hnx _ _ ⟨_,_,rfl,rfl⟩
   . rintro x rest σ s ⟨qs,a,i,t,v3,v4,hq,rfl,rfl,e,ha,hp,hs⟩ next
     match qs,hq,e,hp with
     |q::qs,hq,e,⟨x1,y1,h1,h2,h3⟩=>
      obtain⟨rfl,rfl⟩:=List.cons.inj hq;refine⟨trivial,_,rfl,cN (dF ha h1.den (by omega)) ?_⟩;refine next _ _ ⟨qs,_,i+x1,y1,_,_,rfl,rfl,rfl,e,?_,h2,by omega⟩
      rw[Int.natAbs_mul,Nat.pow_add];exact Nat.mul_le_mul ha h1.den
 rintro _ s ⟨v3,v4,rfl,rfl⟩;have b0:pD ps 1≠0:=Gz ps (by decide);have bs:=He ps (a:=1) (s:=0) (by decide) hP;have bdv:=EJ ps 1;generalize pD ps 1=b at b0 bs bdv;obtain⟨ns,h1,h2⟩:=yD (b:=b) ps r;refine rD rfl hd fun ok aM=>⟨bH (by rw[nP,List.length_map];omega),?_⟩
 refine comp_map (g:=fun d=>match d with| .tup [.tup [.int n,.int m],.int x]=> .int (n*b.fdiv m*x)|_=> .aK) (aM _ rfl hd) _ (fun d hd K' t=>?_) ?_
 . obtain⟨q,x,hq,hx,rfl⟩:=zip_parts hd;have hsz:=Ei hP q hq;have hden:=q.den_pos;obtain⟨c,hc⟩:=bdv q hq;have ef:b.fdiv ((q.den:Nat):Int)=c:=by rw[hc,Int.mul_fdiv_cancel_left _ (by omega)]
   have hcs:(b.fdiv ((q.den:Nat):Int)).natAbs<=2^(0+10000000):=by
    rw[ef];refine Nat.le_trans ?_ bs;rw[hc,Int.natAbs_mul];exact Nat.le_mul_of_pos_left _ (by omega)
   refine⟨_,rfl,jL (by omega) (cN (dF hsz.num hcs (by decide)) (cN (dF (m:=10000000+(0+10000000)) ?_ (br x hx) (by decide)) t))⟩;rw[Int.natAbs_mul,Nat.pow_add];exact Nat.mul_le_mul hsz.num hcs
 rw[h1];refine Ea (ints_map _) (iS b0 ?_);rw[h2];have key:=GI (b:=b) ps r 0 bdv;rw[Mx.zm ps r 0 lp lr]at key
 have hb:((b:Int):Rat)≠0:=fun z=>by
  have z2:((b:Int):Rat)=((0:Int):Rat):=z;exact b0 (Rat.intCast_inj.mp z2)
 have iff:(sV b ps r).fmod b=0↔Mx.Wh (Mx.dq ps w fun c=>r.getD c 0):=by
  rw[<-Int.dvd_iff_fmod_eq_zero];constructor
  . rintro⟨c,hc⟩;refine⟨c,?_⟩;rw[hc,Rat.intCast_mul]at key;grind
  . rintro⟨c,hc⟩;refine⟨c,?_⟩;rw[hc]at key;have e:((sV b ps r:Int):Rat)=((b*c:Int):Rat):=by rw[Rat.intCast_mul];grind
    exact Rat.intCast_inj.mp e
 refine eq2 (fun h=>k true ⟨fun _=>iff.mp h,fun _=>rfl⟩) fun h=>k false ⟨fun z=>(by cases z),fun z=>absurd (iff.mpr z) h⟩
abbrev F6:cK:=Dx LL
def xX:List Str:=["_law_script","_law_hand_here","_law_rows","_law_answer","_law_free","_law_due","_law_found","_law_parts"]
def ND:DS:=(aE (a6 1 (aC p8 (af (aa 0) ak)))
 (aE (v9 (pG 2 3 4) (aC kH (af (aa 1) ak)))
 (aE (a6 5 (bV dR (af (c7 (eh (aa 2)) [none,some 3] (bG 0) cz (aC fW (af (aa 0) (af (aa 1) ak)))) ak)))
 (aE (v9 (i4 2 5) (aC nK (af (aa 1) (af (aa 2) (af (aa 5) ak)))))
 (aE (a6 6 (aC oC (af (aa 2) (af (aa 5) ak))))
 (aE (fR (nO (lP (cy (bV qf (af (aa 6) (af (dC (.ty "tuple")) ak))))) (nO (cy (aw pB (bV fg (af (aa 6) ak)) (dC (.int 2)))) (nO (cy (aw vM (aw bg (aa 6) (dC (.int 0))) (dC (.str "none")))) (lP (cy (bV qf (af (aw bg (aa 6) (dC (.int 1))) (af (dC (.ty "tuple")) ak)))))))) (cm (dC (.bl false))) fv)
 (aE (a6 7 (aw bg (aa 6) (dC (.int 1))))
 (aE (fR (nO (cy (aw pB (bV fg (af (aa 7) ak)) (bV fg (af (aa 2) ak)))) (lP (cy (bV wm (af (c7 (eh (aa 7)) [none] (bG 0) cz (aC mK (af (aa 0) ak))) ak))))) (cm (dC (.bl false))) fv)
 (aE (fR (lP (cy (bV wm (af (c7 (eh (aC jb (af (aa 2) ak))) [none,some 7] (bG 0) cz (aC gR (af (aa 1) (af (aa 0) ak)))) ak)))) (cm (dC (.bl false))) fv)
 (cm (vt (x3 (cy (aC gR (af (aa 7) (af (aa 5) ak))))) (aw j8 (aC oC (af (bV lX (af (aa 2) ak)) (af (bV lX (af (aa 5) ak)) ak))) (aa 6)))))))))))))
theorem vS:∀l:List D,mm (l.map fun _=>D.bl true)=some (l.map fun _=>true)
 | []=>rfl
 |_::l=>by simp[mm,vS l]
theorem Hj(l:List D):(l.map fun _=>true).all id=true:=by simp
theorem vJ{ps:List Rat}:pl 40 (.tup [.str "none",.tup (ps.map d8)])=true:=by
 unfold pl;simp only[List.all_cons,List.all_nil,Bool.and_true];have h1:pl 39 (.str "none")=true:=by unfold pl;rfl
 have h2:pl 39 (.tup (ps.map d8))=true:=by
  unfold pl;refine List.all_eq_true.mpr fun d hd=>?_;obtain⟨q,_,rfl⟩:=List.mem_map.mp hd;unfold pl;simp only[List.all_cons,List.all_nil,Bool.and_true];unfold pl;rfl
 rw[h1,h2];rfl
theorem JR:∀ds st K,F6 ds st K->ds.length=1/\ND {nx:=fun _ st'=>K .aK st',rt:=K} (a_ xX ds) st:=by
 rintro ds st K ⟨ns,rfl,hl,hst,k⟩;refine⟨rfl,?_⟩;have l0:st.length=1:=by rw[hst];rfl
 have t0:st[0]?=some (ik false):=by rw[hst];rfl
 clear hst;refine⟨ns,rfl,hl,fun st1 B1 X1=>?_⟩;refine⟨_,_,rfl,B1,by decide,fun Q a d N w st2 iQ N1 N8 w1 w8 la bQ ba B2 X2=>⟨_,rfl,?_⟩⟩;have l1:=X1.len;have l2:=X2.len;have t1:st1[0]?=some (ik false):=by rw[X1.same 0 (by omega)];exact t0
 have t2:=(X2.same 0 (by omega) (by omega)).trans t1;refine hZ ⟨bH (by rw[List.length_map,iQ.len];omega),?_⟩;refine ma (fun r=> .int (Mx.cU r a)) trivial cA.tup (fun e r hr he K' t=>⟨_,rfl,_,_,r,a,rfl,he,rfl,by rw[iQ.f6 r hr];omega,fun x hx y hy=>ft (by have:=bQ r hr x hx;omega) (by have:=bQ r hr x hx;omega),t⟩) ?_;have ed:Q.map (fun r=>D.int (Mx.cU r a))=ay (Q.map fun r=>Mx.cU r a):=by unfold ay;rw[List.map_map];rfl
 rw[ed];refine dM rfl ?_;refine⟨_,_,Q,a,N,w,rfl,B2,by decide,iQ,N1,N8,w1,w8,la,bQ,ba,fun Q' r' w' st3 iQ' w1' w8' bQ' lr' br' hno U3=>⟨_,rfl,?_⟩⟩;have t3:=(U3.same 0 (by omega)).trans t2;have iA:=Mx.zU iQ'
 have P:N5 (Mx.e9 Q' N) N w' r':=⟨iA,N1,N8,w8',fun r hr x hx=>by
  obtain⟨i,hi,rfl⟩:=List.mem_iff_getElem.mp hr;obtain⟨c,hc,rfl⟩:=List.mem_iff_getElem.mp hx;have li:i<N:=by rw[<-iA.len];exact hi
  have lc:c<w':=by rw[<-iA.f6 _ hr];exact hc
  have e:=Mx.q_ iQ' lc li;unfold Mx.g at e;rw[Mx.aW hi,Mx.aW hc]at e;rw[e];have hm:Q'.getD c []∈Q':=by rw[Mx.aW (by rw[iQ'.len];exact lc)];exact List.getElem_mem _
  exact bQ' _ hm _ (getD_mem (by rw[iQ'.f6 _ hm];exact li)),lr',br'⟩
 have hno':∀z:Nat->Int,¬ ∀c,c<w'->r'.getD c 0=Mx.S N fun k=>z k*Mx.g (Mx.e9 Q' N) k c:=fun z hz=>hno z fun c hc=>(hz c hc).trans (Mx.aL fun i hi=>by rw[Mx.q_ iQ' hc hi]);refine⟨_,_,Q',r',N,w',_,rfl,sI,iQ',rfl,P,w1',hno',t3,fun st4 y ps K4 hR hy hN=>?_⟩;subst hy;obtain⟨f4,t4⟩:=K4.tb;refine rL rfl (by decide) (d7 rfl (GC rfl (aF rfl rfl (FL rfl (aF rfl rfl (rL rfl (by decide) ?_))))));refine aF rfl rfl ?_;have lQ':=iQ'.len;have lp:=hN.lp;refine d7 rfl (d7 rfl (GC (by rw[List.length_map,List.length_map];omega) (hZ ⟨bH (by rw[List.length_map];omega),?_⟩)));refine comp_map (g:=fun _=> .bl true) trivial _ (fun e he K' q=>?_) ?_
 . obtain⟨p,_,rfl⟩:=List.mem_map.mp he;exact⟨_,rfl,p,rfl,q⟩
 refine DC (vS (ps.map d8)) ?_;rw[Hj];have lA:=iA.len;refine⟨fj Q',Q',w',N,rfl,sI,iQ',w1',by omega,by omega,pR ⟨bH (by rw[List.length_map];omega),?_⟩⟩;refine comp_map (g:=fun _=> .bl true) trivial _ (fun e he K' q=>?_) ?_
 . obtain⟨s,hs,rfl⟩:=List.mem_map.mp he;obtain⟨i,hi,rfl⟩:=List.mem_iff_getElem.mp hs;refine⟨_,rfl,ps,_,(Mx.e9 Q' N)[i],w',rfl,rfl,lp,iA.f6 _ hs,w8',hN.pb,fun x hx=>Nat.le_trans (P.bA _ hs x hx) (by decide),fun t ht=>?_⟩
   have e:(fun c=>((Mx.e9 Q' N)[i]).getD c 0)=Mx.g (Mx.e9 Q' N) i:=by
    funext c;unfold Mx.g;rw[Mx.aW hi]
   have:t=true:=ht.mpr (by rw[e];exact hN.wh i (by omega));subst this;exact q
 refine DC (vS ((Mx.e9 Q' N).map cj)) ?_;rw[Hj];refine⟨ps,_,r',w',rfl,rfl,lp,lr',w8',hN.pb,br',fun t ht=>?_⟩
 have:t=false:=by
  cases t with
  |false=>rfl
  |true=>exact absurd (ht.mp rfl) hN.no
 subst this;refine ny rfl (ny rfl ⟨_,_,Q',r',N,w',_,rfl,⟨_,rfl,cA.tup⟩,iQ',rfl,P,w1',hno',t4,fun st5 y2 ps2 K5 hR2 hy2 hN2=>?_⟩);have ey:=hR2.unique hR;subst ey;refine G_ vJ vJ ?_;rw[p_ 40 _ vJ];exact k _
end Prog
namespace Row
open PySem L2 L3 Prog
open PySem.Spec hiding items?
open PyProof.Rows hiding St
theorem p7:(("abs":Str))≠"__name__":=by decide+kernel
theorem cX:(("tuple":Str))≠"__name__":=by decide+kernel
theorem jS:(("list":Str))≠"__name__":=by decide+kernel
theorem eg:(("len":Str))≠"__name__":=by decide+kernel
theorem pZ:(("int":Str))≠"__name__":=by decide+kernel
theorem Dg:(("sum":Str))≠"__name__":=by decide+kernel
theorem g_:(("isinstance":Str))≠"__name__":=by decide+kernel
theorem Hx:(("bool":Str))≠"__name__":=by decide+kernel
theorem Ld:(("max":Str))≠"__name__":=by decide+kernel
theorem Me:(("min":Str))≠"__name__":=by decide+kernel
theorem Kw:(("any":Str))≠"__name__":=by decide+kernel
theorem Ex:(("all":Str))≠"__name__":=by decide+kernel
structure Bl(mg:Str->Option Value):Prop where
 su:mg "abs"=none
 dA:mg "tuple"=none
 vw:mg "zip"=none
 d6:mg "range"=none
 Am:mg "enumerate"=none
 my:mg "list"=none
 fi:mg "len"=none
 EX:mg "sorted"=none
 sW:mg "int"=none
 GL:mg "sum"=none
 iO:mg "isinstance"=none
 Kr:mg "bool"=none
 NL:mg "max"=none
 MN:mg "min"=none
 MS:mg "any"=none
 Gm:mg "all"=none
structure Kl(K:PySem.W.Frag)(mg:Str->Option Value):Prop where
 a7:ClsAt K mg "Bench" aD
 cv:f_ K aD "body"
 eJ:f_ K aD "turn"
 cE:f_ K aD "back_columns"
theorem dk:VS (ai kZ) qw ["abs"]:=⟨by decide+kernel⟩
theorem j9:aU qw ["one","other"] (ai kZ):=⟨rfl,rfl,rfl,by decide+kernel,rfl,by decide+kernel,by decide+kernel⟩
theorem hJ:VS (ai pN) vE ["common"]:=⟨by decide+kernel⟩
theorem ly:aU vE ["top","bottom"] (ai pN):=⟨rfl,rfl,rfl,by decide+kernel,rfl,by decide+kernel,by decide+kernel⟩
theorem mw:VS (ai pe) uU ["part"]:=⟨by decide+kernel⟩
theorem Ib:aU uU ["one","other"] (ai pe):=⟨rfl,rfl,rfl,by decide+kernel,rfl,by decide+kernel,by decide+kernel⟩
theorem j5:VS (ai nB) sS ["part"]:=⟨by decide+kernel⟩
theorem Fx:aU sS ["one","other"] (ai nB):=⟨rfl,rfl,rfl,by decide+kernel,rfl,by decide+kernel,by decide+kernel⟩
theorem nq:VS (ai ni) sN ["part"]:=⟨by decide+kernel⟩
theorem FX:aU sN ["one","other"] (ai ni):=⟨rfl,rfl,rfl,by decide+kernel,rfl,by decide+kernel,by decide+kernel⟩
theorem pP:VS (ai pd) u4 ["part"]:=⟨by decide+kernel⟩
theorem IG:aU u4 ["one","other"] (ai pd):=⟨rfl,rfl,rfl,by decide+kernel,rfl,by decide+kernel,by decide+kernel⟩
theorem HZ:VS (ai nk) sv []:=⟨by decide+kernel⟩
theorem EL:aU sv ["n"] (ai nk):=⟨rfl,rfl,rfl,by decide+kernel,rfl,by decide+kernel,by decide+kernel⟩
theorem rS:VS (ai iF) oO ["tuple"]:=⟨by decide+kernel⟩
theorem CB:aU oO ["rows"] (ai iF):=⟨rfl,rfl,rfl,by decide+kernel,rfl,by decide+kernel,by decide+kernel⟩
theorem wb:VS (ai lh) sP ["zip"]:=⟨by decide+kernel⟩
theorem Fo:aU sP ["row","times","other"] (ai lh):=⟨rfl,rfl,rfl,by decide+kernel,rfl,by decide+kernel,by decide+kernel⟩
theorem tZ:VS (ai jK) qg ["tuple"]:=⟨by decide+kernel⟩
theorem D5:aU qg ["rows","place"] (ai jK):=⟨rfl,rfl,rfl,by decide+kernel,rfl,by decide+kernel,by decide+kernel⟩
theorem jC:VS (ai fw) jA ["range","tuple"]:=⟨by decide+kernel⟩
theorem wx:aU jA ["rows","wide"] (ai fw):=⟨rfl,rfl,rfl,by decide+kernel,rfl,by decide+kernel,by decide+kernel⟩
theorem m4:VS (ai gQ) nc ["range","tuple"]:=⟨by decide+kernel⟩
theorem Aw:aU nc ["n","place"] (ai gQ):=⟨rfl,rfl,rfl,by decide+kernel,rfl,by decide+kernel,by decide+kernel⟩
theorem lE:VS (ai gg) lH ["range","tuple"]:=⟨by decide+kernel⟩
theorem yA:aU lH ["n"] (ai gg):=⟨rfl,rfl,rfl,by decide+kernel,rfl,by decide+kernel,by decide+kernel⟩
theorem oK:VS (ai j4) oA ["enumerate"]:=⟨by decide+kernel⟩
theorem uT:aU oA ["row"] (ai j4):=⟨rfl,rfl,rfl,by decide+kernel,rfl,by decide+kernel,by decide+kernel⟩
theorem iE:VS (ai d_) fY []:=⟨by decide+kernel⟩
theorem il:aU fY ["top","bottom"] (ai d_):=⟨rfl,rfl,rfl,by decide+kernel,rfl,by decide+kernel,by decide+kernel⟩
theorem c8:VS (ai h7) lV ["list"]:=⟨by decide+kernel⟩
theorem rl:aU lV ["rows","k","other"] (ai h7):=⟨rfl,rfl,rfl,by decide+kernel,rfl,by decide+kernel,by decide+kernel⟩
theorem Dd:VS (ai iH) oy []:=⟨by decide+kernel⟩
theorem Cj:aU oy ["row"] (ai iH):=⟨rfl,rfl,rfl,by decide+kernel,rfl,by decide+kernel,by decide+kernel⟩
theorem bU:VS (ai cY) g4 ["len","unit_rows"]:=⟨by decide+kernel⟩
theorem tD:aU g4 ["self","rows"] (ai cY):=⟨rfl,rfl,rfl,by decide+kernel,rfl,by decide+kernel,by decide+kernel⟩
theorem aZ:VS (ai gz) kb ["added"]:=⟨by decide+kernel⟩
theorem xD:aU kb ["self","k","times","other"] (ai gz):=⟨rfl,rfl,rfl,by decide+kernel,rfl,by decide+kernel,by decide+kernel⟩
theorem bj:VS (ai eU) gT ["exchanged"]:=⟨by decide+kernel⟩
theorem tm:aU gT ["self","k","other"] (ai eU):=⟨rfl,rfl,rfl,by decide+kernel,rfl,by decide+kernel,by decide+kernel⟩
theorem aV:VS (ai dN) fO ["negated"]:=⟨by decide+kernel⟩
theorem qC:aU fO ["self","k"] (ai dN):=⟨rfl,rfl,rfl,by decide+kernel,rfl,by decide+kernel,by decide+kernel⟩
theorem c_:VS (ai c9) gn ["len","range","sorted"]:=⟨by decide+kernel⟩
theorem mf:aU gn ["self","top","place"] (ai c9):=⟨rfl,rfl,rfl,by decide+kernel,rfl,by decide+kernel,by decide+kernel⟩
theorem aB:VS (ai fG) jd ["len","nearest_quotient"]:=⟨by decide+kernel⟩
theorem fX:aU jd ["self","top","place"] (ai fG):=⟨rfl,rfl,rfl,by decide+kernel,rfl,by decide+kernel,by decide+kernel⟩
theorem bZ:VS (ai dQ) fP ["range"]:=⟨by decide+kernel⟩
theorem fz:aU fP ["self","top","place"] (ai dQ):=⟨rfl,rfl,rfl,by decide+kernel,rfl,by decide+kernel,by decide+kernel⟩
theorem bc:VS (ai ja) mP ["Bench","len","range","turned_over","as_rows"]:=⟨by decide+kernel⟩
theorem ie:aU mP ["rows"] (ai ja):=⟨rfl,rfl,rfl,by decide+kernel,rfl,by decide+kernel,by decide+kernel⟩
theorem bD:VS (ai jW) oF ["list","lead_of","added","tuple"]:=⟨by decide+kernel⟩
theorem gY:aU oF ["form","row"] (ai jW):=⟨rfl,rfl,rfl,by decide+kernel,rfl,by decide+kernel,by decide+kernel⟩
theorem cG:VS (ai hO) lD ["whole","zip","times","plus"]:=⟨by decide+kernel⟩
theorem kG:aU lD ["parts","row"] (ai hO):=⟨rfl,rfl,rfl,by decide+kernel,rfl,by decide+kernel,by decide+kernel⟩
theorem dS:VS (ai ia) lG ["lead_of","abs"]:=⟨by decide+kernel⟩
theorem rG:aU lG ["form","rest","place"] (ai ia):=⟨rfl,rfl,rfl,by decide+kernel,rfl,by decide+kernel,by decide+kernel⟩
theorem au:VS (ai fu) iB ["lead_of","whole","len","bottom_at","part","range","parts_dot","minus","over","tuple"]:=⟨by decide+kernel⟩
theorem eY:aU iB ["form","rest"] (ai fu):=⟨rfl,rfl,rfl,by decide+kernel,rfl,by decide+kernel,by decide+kernel⟩
theorem bJ:VS (ai jV) oR ["len","turned_over","standing","weighed","lead_of","parts_against"]:=⟨by decide+kernel⟩
theorem i7:aU oR ["rows","due"] (ai jV):=⟨rfl,rfl,rfl,by decide+kernel,rfl,by decide+kernel,by decide+kernel⟩
theorem eG:VS (ai i9) m9 ["abs","int"]:=⟨by decide+kernel⟩
theorem o9:aU m9 ["_law_script"] (ai i9):=⟨rfl,rfl,rfl,by decide+kernel,rfl,by decide+kernel,by decide+kernel⟩
theorem bY:VS (ai jf) mS ["len"]:=⟨by decide+kernel⟩
theorem lz:aU mS ["_law_hand_here","_law_many"] (ai jf):=⟨rfl,rfl,rfl,by decide+kernel,rfl,by decide+kernel,by decide+kernel⟩
theorem l6:VS (ai iZ) ou ["zip","sum"]:=⟨by decide+kernel⟩
theorem Cr:aU ou ["_law_one","_law_other"] (ai iZ):=⟨rfl,rfl,rfl,by decide+kernel,rfl,by decide+kernel,by decide+kernel⟩
theorem eA:VS (ai h8) lJ ["int","isinstance","bool"]:=⟨by decide+kernel⟩
theorem Aa:aU lJ ["_law_found"] (ai h8):=⟨rfl,rfl,rfl,by decide+kernel,rfl,by decide+kernel,by decide+kernel⟩
theorem mR:VS (ai gM) m5 ["len","range"]:=⟨by decide+kernel⟩
theorem Ao:aU m5 ["_law_rows"] (ai gM):=⟨rfl,rfl,rfl,by decide+kernel,rfl,by decide+kernel,by decide+kernel⟩
theorem aH:VS (ai fA) m_ ["range","_law_take","int","zip"]:=⟨by decide+kernel⟩
theorem fF:aU m_ ["_law_hand_here","_law_size"] (ai fA):=⟨rfl,rfl,rfl,by decide+kernel,rfl,by decide+kernel,by decide+kernel⟩
theorem aY:VS (ai gD) kP ["_law_take","int","max","min"]:=⟨by decide+kernel⟩
theorem mH:aU kP ["_law_hand_here"] (ai gD):=⟨rfl,rfl,rfl,by decide+kernel,rfl,by decide+kernel,by decide+kernel⟩
theorem bC:VS (ai fM) kO ["range","_law_take"]:=⟨by decide+kernel⟩
theorem g6:aU kO ["_law_hand_here","_law_fixed","_law_many"] (ai fM):=⟨rfl,rfl,rfl,by decide+kernel,rfl,by decide+kernel,by decide+kernel⟩
theorem ck:VS (ai fJ) i_ ["list","len","_law_take"]:=⟨by decide+kernel⟩
theorem ky:aU i_ ["_law_hand_here","_law_rows"] (ai fJ):=⟨rfl,rfl,rfl,by decide+kernel,rfl,by decide+kernel,by decide+kernel⟩
theorem di:VS (ai gE) kB ["_law_take"]:=⟨by decide+kernel⟩
theorem qL:aU kB ["_law_hand_here"] (ai gE):=⟨rfl,rfl,rfl,by decide+kernel,rfl,by decide+kernel,by decide+kernel⟩
theorem az:VS (ai dc) iz ["_law_bounds","_law_turn","_law_fixing","_law_shuffled","range","tuple","_law_over"]:=⟨by decide+kernel⟩
theorem d5:aU iz ["_law_hand_here"] (ai dc):=⟨rfl,rfl,rfl,by decide+kernel,rfl,by decide+kernel,by decide+kernel⟩
theorem ao:VS (ai eK) kE ["len","_law_take","any","_law_over","tuple","_law_dot"]:=⟨by decide+kernel⟩
theorem dW:aU kE ["_law_hand_here","_law_rows","_law_due"] (ai eK):=⟨rfl,rfl,rfl,by decide+kernel,rfl,by decide+kernel,by decide+kernel⟩
theorem a8:VS (ai dv) jx ["tuple","isinstance","len","_law_whole","abs"]:=⟨by decide+kernel⟩
theorem kU:aU jx ["_law_found"] (ai dv):=⟨rfl,rfl,rfl,by decide+kernel,rfl,by decide+kernel,by decide+kernel⟩
theorem cH:VS (ai dY) g5 ["zip","sum"]:=⟨by decide+kernel⟩
theorem eP:aU g5 ["_law_parts","_law_numbers"] (ai dY):=⟨rfl,rfl,rfl,by decide+kernel,rfl,by decide+kernel,by decide+kernel⟩
theorem a9:VS (ai kM) xX ["_law_hand","_law_equations","tuple","_law_spoilt","answers","isinstance","len","all","_law_over","_law_sums_whole","list"]:=⟨by decide+kernel⟩
theorem om:aU xX ["_law_script"] (ai kM):=⟨rfl,rfl,rfl,by decide+kernel,rfl,by decide+kernel,by decide+kernel⟩
structure Ev(w:World)(mg:Str->Option Value)(h:Heap):Prop where
 X:(KX w.params).In h
 G:h.Ns mainGlobals mg
section
variable {w:World}{mg:Str->Option Value}{h base:Heap}(e:Ev w mg h)
include e
theorem Bt:Bl mg:=⟨PySem.W.mg_none_of e.X e.G (by kernel_rfl),PySem.W.mg_none_of e.X e.G (by kernel_rfl),PySem.W.mg_none_of e.X e.G (by kernel_rfl),PySem.W.mg_none_of e.X e.G (by kernel_rfl),PySem.W.mg_none_of e.X e.G (by kernel_rfl),PySem.W.mg_none_of e.X e.G (by kernel_rfl),PySem.W.mg_none_of e.X e.G (by kernel_rfl),PySem.W.mg_none_of e.X e.G (by kernel_rfl),PySem.W.mg_none_of e.X e.G (by kernel_rfl),PySem.W.mg_none_of e.X e.G (by kernel_rfl),PySem.W.mg_none_of e.X e.G (by kernel_rfl),PySem.W.mg_none_of e.X e.G (by kernel_rfl),PySem.W.mg_none_of e.X e.G (by kernel_rfl),PySem.W.mg_none_of e.X e.G (by kernel_rfl),PySem.W.mg_none_of e.X e.G (by kernel_rfl),PySem.W.mg_none_of e.X e.G (by kernel_rfl)⟩
theorem Qt:Kl (KX w.params) mg:=⟨⟨⟨by kernel_rfl,by kernel_rfl,by kernel_rfl,by kernel_rfl⟩,PySem.W.mg_of e.X e.G (by kernel_rfl),by kernel_rfl,by kernel_rfl⟩,Hd.na (by kernel_rfl),Hd.na (by kernel_rfl),Hd.na (by kernel_rfl)⟩
theorem zJ:b_ (KX w.params) mg "common" "common" kZ ["one","other"] 21 (Hd.fd kZ "common" "common" jq 20):=Hd.ki e.X e.G (by kernel_rfl) fun _ _ _ _ _ _ _ _=>rfl
theorem E_:bE PW w (KX w.params) mg base cL 1 21 (Hd.fd kZ "common" "common" jq 20) ["one","other"] (cQ uF):=by
 have B:=Bt e;have Q:=Qt e
 exact cf (N:=qw) (zJ e).fn j9 (fun cdv A outer s H E hr=>(av (aS j9.nd (dk.l 2) (c6 sy (ae (dk.nm 0) aj) B.su rfl p7 (dk.d 0) (dk.g 0)))
  (av (aS j9.nd (dk.l 3) (c6 sy (ae (dk.nm 1) aj) B.su rfl p7 (dk.d 0) (dk.g 0)))
  (av (qd (dJ wj (cC _) (dk.nm 3) ax) (av (aS j9.nd (dk.l 4) (aR kK (dk.nm 2) (dk.nm 3)))
  (av (aS j9.nd (dk.l 2) (dk.nm 3))
  (aI (aS j9.nd (dk.l 3) (dk.nm 4))))))
  (aI (bh (dk.nm 2))))))) Ej
theorem pM:b_ (KX w.params) mg "part" "part" pN ["top","bottom"] 28 (Hd.fd pN "part" "part" jq 27):=Hd.ki e.X e.G (by kernel_rfl) fun _ _ _ _ _ _ _ _=>rfl
theorem rj:bE PW w (KX w.params) mg base cL 2 28 (Hd.fd pN "part" "part" jq 27) ["top","bottom"] (cQ nS):=by
 have B:=Bt e;have Q:=Qt e
 exact cf (N:=vE) (pM e).fn ly (fun cdv A outer s H E hr=>(av (aS ly.nd (hJ.l 2) (aT (zJ e) (E_ e) (hr.mono (by decide)) (ae (hJ.nm 0) (ae (hJ.nm 1) aj)) (hJ.d 0) (hJ.g 0)))
  (av (gc (dJ zM (cC _) (hJ.nm 1) ax) (aI (aS ly.nd (hJ.l 2) (iy (hJ.nm 2)))) ff)
  (aI (bh (iw (ae (aR (sZ hr rfl ly.gen ly.co) (hJ.nm 0) (hJ.nm 2)) (ae (aR (sZ hr rfl ly.gen ly.co) (hJ.nm 1) (hJ.nm 2)) aj)))))))) Ik
theorem CP:b_ (KX w.params) mg "plus" "plus" pe ["one","other"] 35 (Hd.fd pe "plus" "plus" jq 34):=Hd.ki e.X e.G (by kernel_rfl) fun _ _ _ _ _ _ _ _=>rfl
theorem Ml:bE PW w (KX w.params) mg base cL 3 35 (Hd.fd pe "plus" "plus" jq 34) ["one","other"] (cQ zR):=by
 have B:=Bt e;have Q:=Qt e;exact cf (N:=uU) (CP e).fn Ib (fun cdv A outer s H E hr=>(aI (bh (aT (pM e) (rj e) (hr.mono (by decide)) (ae (aR cR (aR de (aQ (mw.nm 0) ax) (aQ (mw.nm 1) ax)) (aR de (aQ (mw.nm 1) ax) (aQ (mw.nm 0) ax))) (ae (aR de (aQ (mw.nm 0) ax) (aQ (mw.nm 1) ax)) aj)) (mw.d 0) (mw.g 0))))) Ia
theorem AY:b_ (KX w.params) mg "minus" "minus" nB ["one","other"] 42 (Hd.fd nB "minus" "minus" jq 41):=Hd.ki e.X e.G (by kernel_rfl) fun _ _ _ _ _ _ _ _=>rfl
theorem Hw:bE PW w (KX w.params) mg base cL 3 42 (Hd.fd nB "minus" "minus" jq 41) ["one","other"] (cQ wK):=by
 have B:=Bt e;have Q:=Qt e;exact cf (N:=sS) (AY e).fn Fx (fun cdv A outer s H E hr=>(aI (bh (aT (pM e) (rj e) (hr.mono (by decide)) (ae (aR ke (aR de (aQ (j5.nm 0) ax) (aQ (j5.nm 1) ax)) (aR de (aQ (j5.nm 1) ax) (aQ (j5.nm 0) ax))) (ae (aR de (aQ (j5.nm 0) ax) (aQ (j5.nm 1) ax)) aj)) (j5.d 0) (j5.g 0))))) E3
theorem Ba:b_ (KX w.params) mg "times" "times" ni ["one","other"] 49 (Hd.fd ni "times" "times" jq 48):=Hd.ki e.X e.G (by kernel_rfl) fun _ _ _ _ _ _ _ _=>rfl
theorem IY:bE PW w (KX w.params) mg base cL 3 49 (Hd.fd ni "times" "times" jq 48) ["one","other"] (cQ vR):=by
 have B:=Bt e;have Q:=Qt e;exact cf (N:=sN) (Ba e).fn FX (fun cdv A outer s H E hr=>(aI (bh (aT (pM e) (rj e) (hr.mono (by decide)) (ae (aR de (aQ (nq.nm 0) ax) (aQ (nq.nm 1) ax)) (ae (aR de (aQ (nq.nm 0) ax) (aQ (nq.nm 1) ax)) aj)) (nq.d 0) (nq.g 0))))) FD
theorem DY:b_ (KX w.params) mg "over" "over" pd ["one","other"] 56 (Hd.fd pd "over" "over" jq 55):=Hd.ki e.X e.G (by kernel_rfl) fun _ _ _ _ _ _ _ _=>rfl
theorem LB:bE PW w (KX w.params) mg base cL 3 56 (Hd.fd pd "over" "over" jq 55) ["one","other"] (cQ yp):=by
 have B:=Bt e;have Q:=Qt e;exact cf (N:=u4) (DY e).fn IG (fun cdv A outer s H E hr=>(aI (bh (aT (pM e) (rj e) (hr.mono (by decide)) (ae (aR de (aQ (pP.nm 0) ax) (aQ (pP.nm 1) ax)) (ae (aR de (aQ (pP.nm 0) ax) (aQ (pP.nm 1) ax)) aj)) (pP.d 0) (pP.g 0))))) Jp
theorem nv:b_ (KX w.params) mg "whole" "whole" nk ["n"] 63 (Hd.fd nk "whole" "whole" jq 62):=Hd.oE e.X e.G (by kernel_rfl) fun _ _ _ _ _ _ _=>rfl
theorem pU:bE PW w (KX w.params) mg base cL 1 63 (Hd.fd nk "whole" "whole" jq 62) ["n"] (cQ lu):=by
 have B:=Bt e;have Q:=Qt e;exact cf (N:=sv) (nv e).fn EL (fun cdv A outer s H E hr=>(aI (bh (iw (ae (HZ.nm 0) (ae ax aj)))))) E1
theorem rK:b_ (KX w.params) mg "as_rows" "as_rows" iF ["rows"] 68 (Hd.fd iF "as_rows" "as_rows" kq 67):=Hd.oE e.X e.G (by kernel_rfl) fun _ _ _ _ _ _ _=>rfl
theorem xg:bE PW w (KX w.params) mg base cL 1 68 (Hd.fd iF "as_rows" "as_rows" kq 67) ["rows"] (cQ oM):=by
 have B:=Bt e;have Q:=Qt e;exact cf (N:=oO) (rK e).fn CB (fun cdv A outer s H E hr=>(aI (bh (eF eO (ae (dH (Nc:=["row"]) (bz.look (ai iF) ["rows"] (by decide+kernel)) (fD (rS.nm 0)) (fun _ _ _ _=>(dj (show(["row"]:List Str).Nodup by decide+kernel) (by first|exact Or.inl rfl|exact Or.inr rfl) (by first|exact .inl rfl|exact .inr rfl))) (fun _ _ _ _=>cB) (fun _ _ _ _=>(eF eO (ae cO aj) B.dA rfl cX (by decide+kernel) rfl)) cq) aj) B.dA rfl cX (rS.d 0) (rS.g 0))))) Bq
theorem o_:b_ (KX w.params) mg "added" "added" lh ["row","times","other"] 73 (Hd.fd lh "added" "added" kq 72):=Hd.Ew e.X e.G (by kernel_rfl) fun _ _ _ _ _ _ _ _ _=>rfl
theorem sJ:bE PW w (KX w.params) mg base cL 1 73 (Hd.fd lh "added" "added" kq 72) ["row","times","other"] (cQ nh):=by
 have B:=Bt e;have Q:=Qt e;exact cf (N:=sP) (o_ e).fn Fo (fun cdv A outer s H E hr=>(aI (bh (dH (Nc:=["one","two","times"]) (bz.look (ai lh) ["row","times","other"] (by decide+kernel)) (u6 (wb.g 0) B.vw (ae (wb.nm 0) (ae (wb.nm 2) aj))) (fun _ _ _ _=>(oB rfl (show(["one","two","times"]:List Str).Nodup by decide+kernel) (by first|exact Or.inl rfl|exact Or.inr rfl) (by first|exact .inl rfl|exact .inr rfl) (by first|exact Or.inl rfl|exact Or.inr rfl) (by first|exact .inl rfl|exact .inr rfl))) (fun _ _ _ _=>cB) (fun _ _ _ _=>(aR cR cO (aR de cO cO))) wI)))) Fz
theorem zw:b_ (KX w.params) mg "column" "column" jK ["rows","place"] 85 (Hd.fd jK "column" "column" kq 84):=Hd.ki e.X e.G (by kernel_rfl) fun _ _ _ _ _ _ _ _=>rfl
theorem Fj:bE PW w (KX w.params) mg base cL 1 85 (Hd.fd jK "column" "column" kq 84) ["rows","place"] (cQ uf):=by
 have B:=Bt e;have Q:=Qt e;exact cf (N:=qg) (zw e).fn D5 (fun cdv A outer s H E hr=>(aI (bh (eF eO (ae (dH (Nc:=["row","place"]) (bz.look (ai jK) ["rows","place"] (by decide+kernel)) (fD (tZ.nm 0)) (fun _ _ _ _=>(dj (show(["row","place"]:List Str).Nodup by decide+kernel) (by first|exact Or.inl rfl|exact Or.inr rfl) (by first|exact .inl rfl|exact .inr rfl))) (fun _ _ _ _=>cB) (fun _ _ _ _=>(aQ cO cO)) cq) aj) B.dA rfl cX (tZ.d 0) (tZ.g 0))))) EI
theorem mJ:b_ (KX w.params) mg "turned_over" "turned_over" fw ["rows","wide"] 90 (Hd.fd fw "turned_over" "turned_over" kq 89):=Hd.ki e.X e.G (by kernel_rfl) fun _ _ _ _ _ _ _ _=>rfl
theorem qO:bE PW w (KX w.params) mg base cL 2 90 (Hd.fd fw "turned_over" "turned_over" kq 89) ["rows","wide"] (cQ jz):=by
 have B:=Bt e;have Q:=Qt e;exact cf (N:=jA) (mJ e).fn wx (fun cdv A outer s H E hr=>(aI (bh (eF eO (ae (dH (Nc:=["place","rows"]) (bz.look (ai fw) ["rows","wide"] (by decide+kernel)) (dX (jC.g 0) B.d6 (ae (jC.nm 1) aj)) (fun _ _ _ _=>(dj (show(["place","rows"]:List Str).Nodup by decide+kernel) (by first|exact Or.inl rfl|exact Or.inr rfl) (by first|exact .inl rfl|exact .inr rfl))) (fun _ _ _ _=>cB) (fun _ _ _ _=>(aT (zw e) (Fj e) (hr.mono (by decide)) (ae cO (ae cO aj)) (by decide+kernel) rfl)) cq) aj) B.dA rfl cX (jC.d 1) (jC.g 1))))) wd
theorem uK:b_ (KX w.params) mg "unit_row" "unit_row" gQ ["n","place"] 95 (Hd.fd gQ "unit_row" "unit_row" kq 94):=Hd.ki e.X e.G (by kernel_rfl) fun _ _ _ _ _ _ _ _=>rfl
theorem Cp:bE PW w (KX w.params) mg base cL 1 95 (Hd.fd gQ "unit_row" "unit_row" kq 94) ["n","place"] (cQ qi):=by
 have B:=Bt e;have Q:=Qt e;exact cf (N:=nc) (uK e).fn Aw (fun cdv A outer s H E hr=>(aI (bh (eF eO (ae (dH (Nc:=["k","place"]) (bz.look (ai gQ) ["n","place"] (by decide+kernel)) (dX (m4.g 0) B.d6 (ae (m4.nm 0) aj)) (fun _ _ _ _=>(dj (show(["k","place"]:List Str).Nodup by decide+kernel) (by first|exact Or.inl rfl|exact Or.inr rfl) (by first|exact .inl rfl|exact .inr rfl))) (fun _ _ _ _=>cB) (fun _ _ _ _=>(NJ (dJ (nI hr) (cC _) cO cO) ax ax)) cq) aj) B.dA rfl cX (m4.d 1) (m4.g 1))))) Ag
theorem oU:b_ (KX w.params) mg "unit_rows" "unit_rows" gg ["n"] 100 (Hd.fd gg "unit_rows" "unit_rows" kq 99):=Hd.oE e.X e.G (by kernel_rfl) fun _ _ _ _ _ _ _=>rfl
theorem tU:bE PW w (KX w.params) mg base cL 2 100 (Hd.fd gg "unit_rows" "unit_rows" kq 99) ["n"] (cQ lI):=by
 have B:=Bt e;have Q:=Qt e;exact cf (N:=lH) (oU e).fn yA (fun cdv A outer s H E hr=>(aI (bh (eF eO (ae (dH (Nc:=["place","n"]) (bz.look (ai gg) ["n"] (by decide+kernel)) (dX (lE.g 0) B.d6 (ae (lE.nm 0) aj)) (fun _ _ _ _=>(dj (show(["place","n"]:List Str).Nodup by decide+kernel) (by first|exact Or.inl rfl|exact Or.inr rfl) (by first|exact .inl rfl|exact .inr rfl))) (fun _ _ _ _=>cB) (fun _ _ _ _=>(aT (uK e) (Cp e) (hr.mono (by decide)) (ae cO (ae cO aj)) (by decide+kernel) rfl)) cq) aj) B.dA rfl cX (lE.d 1) (lE.g 1))))) zS
theorem jY:b_ (KX w.params) mg "lead_of" "lead_of" j4 ["row"] 107 (Hd.fd j4 "lead_of" "lead_of" eB 106):=Hd.oE e.X e.G (by kernel_rfl) fun _ _ _ _ _ _ _=>rfl
theorem mD:bE PW w (KX w.params) mg base cL 1 107 (Hd.fd j4 "lead_of" "lead_of" eB 106) ["row"] (cQ iL):=by
 have B:=Bt e;have Q:=Qt e
 exact cf (N:=oA) (jY e).fn uT (fun cdv A outer s H E hr=>(av (g9 (Ls (oK.g 0) B.Am (ae (oK.nm 0) aj)) (oB rfl uT.nd (by first|exact Or.inl rfl|exact Or.inr rfl) (by first|exact .inl rfl|exact .inr rfl) (by first|exact Or.inl rfl|exact Or.inr rfl) (by first|exact .inl rfl|exact .inr rfl)) (aI (gc (dJ wj (cC _) (oK.nm 2) ax) (aI (bh (oK.nm 1))) ff)))
  (aI (bh GO)))) BH
theorem mq:b_ (KX w.params) mg "nearest_quotient" "nearest_quotient" d_ ["top","bottom"] 114 (Hd.fd d_ "nearest_quotient" "nearest_quotient" eB 113):=Hd.ki e.X e.G (by kernel_rfl) fun _ _ _ _ _ _ _ _=>rfl
theorem rg:bE PW w (KX w.params) mg base cL 1 114 (Hd.fd d_ "nearest_quotient" "nearest_quotient" eB 113) ["top","bottom"] (cQ iX):=by
 have B:=Bt e;have Q:=Qt e;exact cf (N:=fY) (mq e).fn il (fun cdv A outer s H E hr=>(aI (bh (aR (sZ hr rfl il.gen il.co) (aR cR (aR de ax (iE.nm 0)) (iE.nm 1)) (aR de ax (iE.nm 1)))))) qQ
theorem lY:b_ (KX w.params) mg "exchanged" "exchanged" h7 ["rows","k","other"] 121 (Hd.fd h7 "exchanged" "exchanged" eB 120):=Hd.Ew e.X e.G (by kernel_rfl) fun _ _ _ _ _ _ _ _ _=>rfl
theorem oV:bE PW w (KX w.params) mg base cL 1 121 (Hd.fd h7 "exchanged" "exchanged" eB 120) ["rows","k","other"] (cQ ju):=by
 have B:=Bt e;have Q:=Qt e
 exact cf (N:=lV) (lY e).fn rl (fun cdv A outer s H E hr=>(av (aS rl.nd (c8.l 3) (eF A8 (ae (c8.nm 0) aj) B.my rfl jS (c8.d 0) (c8.g 0)))
  (av (eS (aQ (c8.nm 0) (c8.nm 2)) (c8.nm 3) (c8.nm 1))
  (av (eS (aQ (c8.nm 0) (c8.nm 1)) (c8.nm 3) (c8.nm 2))
  (aI (bh (c8.nm 3))))))) ze
theorem ot:b_ (KX w.params) mg "negated" "negated" iH ["row"] 126 (Hd.fd iH "negated" "negated" eB 125):=Hd.oE e.X e.G (by kernel_rfl) fun _ _ _ _ _ _ _=>rfl
theorem rp:bE PW w (KX w.params) mg base cL 1 126 (Hd.fd iH "negated" "negated" eB 125) ["row"] (cQ mz):=by
 have B:=Bt e;have Q:=Qt e;exact cf (N:=oy) (ot e).fn Cj (fun cdv A outer s H E hr=>(aI (bh (dH (Nc:=["number"]) (bz.look (ai iH) ["row"] (by decide+kernel)) (fD (Dd.nm 0)) (fun _ _ _ _=>(dj (show(["number"]:List Str).Nodup by decide+kernel) (by first|exact Or.inl rfl|exact Or.inr rfl) (by first|exact .inl rfl|exact .inr rfl))) (fun _ _ _ _=>cB) (fun _ _ _ _=>(iy cO)) cq)))) BL
theorem gZ:MethAt (KX w.params) aD "__init__" "Bench.__init__" cY ["self","rows"] 138 (Hd.fd cY "__init__" "Bench.__init__" eB 137):=Hd.N4 (by kernel_rfl) fun _ _ _ _ _ _ _ _=>rfl
theorem uB:bE PW w (KX w.params) mg base cL 3 138 (Hd.fd cY "__init__" "Bench.__init__" eB 137) ["self","rows"] (cQ jF):=by
 have B:=Bt e;have Q:=Qt e
 exact cf (N:=g4) (gZ e).fn tD (fun cdv A outer s H E hr=>(av (nj Q.a7.cl Q.cv (bU.nm 0) (sA (Nc:=["row"]) (bz.look (ai cY) ["self","rows"] (by decide+kernel)) (fD (bU.nm 1)) (fun _ _ _ _=>(dj (show(["row"]:List Str).Nodup by decide+kernel) (by first|exact Or.inl rfl|exact Or.inr rfl) (by first|exact .inl rfl|exact .inr rfl))) (fun _ _ _ _=>cB) (fun _ _ _ _=>(eF pQ (ae cO aj) B.my rfl jS (by decide+kernel) rfl)) cq))
  (av (nj Q.a7.cl Q.eJ (bU.nm 0) (sA (Nc:=["row"]) (bz.look (ai cY) ["self","rows"] (by decide+kernel)) (fD (aT (oU e) (tU e) (hr.mono (by decide)) (ae (c6 fh (ae (bU.nm 1) aj) B.fi rfl eg (bU.d 0) (bU.g 0)) aj) (bU.d 1) (bU.g 1))) (fun _ _ _ _=>(dj (show(["row"]:List Str).Nodup by decide+kernel) (by first|exact Or.inl rfl|exact Or.inr rfl) (by first|exact .inl rfl|exact .inr rfl))) (fun _ _ _ _=>cB) (fun _ _ _ _=>(eF pQ (ae cO aj) B.my rfl jS (by decide+kernel) rfl)) cq))
  (aI (nj Q.a7.cl Q.cE (bU.nm 0) (sA (Nc:=["row"]) (bz.look (ai cY) ["self","rows"] (by decide+kernel)) (fD (aT (oU e) (tU e) (hr.mono (by decide)) (ae (c6 fh (ae (bU.nm 1) aj) B.fi rfl eg (bU.d 0) (bU.g 0)) aj) (bU.d 1) (bU.g 1))) (fun _ _ _ _=>(dj (show(["row"]:List Str).Nodup by decide+kernel) (by first|exact Or.inl rfl|exact Or.inr rfl) (by first|exact .inl rfl|exact .inr rfl))) (fun _ _ _ _=>cB) (fun _ _ _ _=>(eF pQ (ae cO aj) B.my rfl jS (by decide+kernel) rfl)) cq)))))) tf
theorem i3:MethAt (KX w.params) aD "take" "Bench.take" gz ["self","k","times","other"] 145 (Hd.fd gz "take" "Bench.take" eB 144):=Hd.O7 (by kernel_rfl) fun _ _ _ _ _ _ _ _ _ _=>rfl
theorem rT:bE PW w (KX w.params) mg base cL 2 145 (Hd.fd gz "take" "Bench.take" eB 144) ["self","k","times","other"] (cQ kv):=by
 have B:=Bt e;have Q:=Qt e
 exact cf (N:=kb) (i3 e).fn xD (fun cdv A outer s H E hr=>(av (eS (aT (o_ e) (sJ e) (hr.mono (by decide)) (ae (aQ (df Q.a7.cl Q.cv (aZ.nm 0)) (aZ.nm 1)) (ae (iy (aZ.nm 2)) (ae (aQ (df Q.a7.cl Q.cv (aZ.nm 0)) (aZ.nm 3)) aj))) (aZ.d 0) (aZ.g 0)) (df Q.a7.cl Q.cv (aZ.nm 0)) (aZ.nm 1))
  (av (eS (aT (o_ e) (sJ e) (hr.mono (by decide)) (ae (aQ (df Q.a7.cl Q.eJ (aZ.nm 0)) (aZ.nm 1)) (ae (iy (aZ.nm 2)) (ae (aQ (df Q.a7.cl Q.eJ (aZ.nm 0)) (aZ.nm 3)) aj))) (aZ.d 0) (aZ.g 0)) (df Q.a7.cl Q.eJ (aZ.nm 0)) (aZ.nm 1))
  (aI (eS (aT (o_ e) (sJ e) (hr.mono (by decide)) (ae (aQ (df Q.a7.cl Q.cE (aZ.nm 0)) (aZ.nm 3)) (ae (aZ.nm 2) (ae (aQ (df Q.a7.cl Q.cE (aZ.nm 0)) (aZ.nm 1)) aj))) (aZ.d 0) (aZ.g 0)) (df Q.a7.cl Q.cE (aZ.nm 0)) (aZ.nm 3)))))) xI
theorem jJ:MethAt (KX w.params) aD "exchange" "Bench.exchange" eU ["self","k","other"] 152 (Hd.fd eU "exchange" "Bench.exchange" eB 151):=Hd.GV (by kernel_rfl) fun _ _ _ _ _ _ _ _ _=>rfl
theorem uD:bE PW w (KX w.params) mg base cL 2 152 (Hd.fd eU "exchange" "Bench.exchange" eB 151) ["self","k","other"] (cQ jD):=by
 have B:=Bt e;have Q:=Qt e
 exact cf (N:=gT) (jJ e).fn tm (fun cdv A outer s H E hr=>(av (nj Q.a7.cl Q.cv (bj.nm 0) (aT (lY e) (oV e) (hr.mono (by decide)) (ae (df Q.a7.cl Q.cv (bj.nm 0)) (ae (bj.nm 1) (ae (bj.nm 2) aj))) (bj.d 0) (bj.g 0)))
  (av (nj Q.a7.cl Q.eJ (bj.nm 0) (aT (lY e) (oV e) (hr.mono (by decide)) (ae (df Q.a7.cl Q.eJ (bj.nm 0)) (ae (bj.nm 1) (ae (bj.nm 2) aj))) (bj.d 0) (bj.g 0)))
  (aI (nj Q.a7.cl Q.cE (bj.nm 0) (aT (lY e) (oV e) (hr.mono (by decide)) (ae (df Q.a7.cl Q.cE (bj.nm 0)) (ae (bj.nm 1) (ae (bj.nm 2) aj))) (bj.d 0) (bj.g 0))))))) tx
theorem ij:MethAt (KX w.params) aD "change_sign" "Bench.change_sign" dN ["self","k"] 159 (Hd.fd dN "change_sign" "Bench.change_sign" eB 158):=Hd.N4 (by kernel_rfl) fun _ _ _ _ _ _ _ _=>rfl
theorem qW:bE PW w (KX w.params) mg base cL 2 159 (Hd.fd dN "change_sign" "Bench.change_sign" eB 158) ["self","k"] (cQ ir):=by
 have B:=Bt e;have Q:=Qt e
 exact cf (N:=fO) (ij e).fn qC (fun cdv A outer s H E hr=>(av (eS (aT (ot e) (rp e) (hr.mono (by decide)) (ae (aQ (df Q.a7.cl Q.cv (aV.nm 0)) (aV.nm 1)) aj) (aV.d 0) (aV.g 0)) (df Q.a7.cl Q.cv (aV.nm 0)) (aV.nm 1))
  (av (eS (aT (ot e) (rp e) (hr.mono (by decide)) (ae (aQ (df Q.a7.cl Q.eJ (aV.nm 0)) (aV.nm 1)) aj) (aV.d 0) (aV.g 0)) (df Q.a7.cl Q.eJ (aV.nm 0)) (aV.nm 1))
  (aI (eS (aT (ot e) (rp e) (hr.mono (by decide)) (ae (aQ (df Q.a7.cl Q.cE (aV.nm 0)) (aV.nm 1)) aj) (aV.d 0) (aV.g 0)) (df Q.a7.cl Q.cE (aV.nm 0)) (aV.nm 1)))))) qk
theorem gv:MethAt (KX w.params) aD "live_rows" "Bench.live_rows" c9 ["self","top","place"] 164 (Hd.fd c9 "live_rows" "Bench.live_rows" eB 163):=Hd.GV (by kernel_rfl) fun _ _ _ _ _ _ _ _ _=>rfl
theorem mN:bE PW w (KX w.params) mg base cL 3 164 (Hd.fd c9 "live_rows" "Bench.live_rows" eB 163) ["self","top","place"] (cQ gm):=by
 have B:=Bt e;have Q:=Qt e;have hC:PySem.W.codeHdIn (KX w.params) 163 161=true:=by kernel_rfl
 exact KI (N:=gn) (Hd.fc (by kernel_rfl)) mf (fun A outer s H E hr=>(av (AD mf.nd (c_.l 3) (Nc:=["k","self","place"]) (bz.look (ai c9) ["self","top","place","live"] (by decide+kernel)) (FU (c_.g 1) B.d6 (ae (c_.nm 1) (ae (c6 fh (ae (df Q.a7.cl Q.cv (c_.nm 0)) aj) B.fi rfl eg (c_.d 0) (c_.g 0)) aj))) (fun _ _ _ _=>(dj (show(["k","self","place"]:List Str).Nodup by decide+kernel) (by first|exact Or.inl rfl|exact Or.inr rfl) (by first|exact .inl rfl|exact .inr rfl))) (fun _ _ _ _=>(LX (dJ wj (cC _) (aQ (aQ (df Q.a7.cl Q.cv cO) cO) cO) ax))) (fun _ _ _ _=>cO) cq)
  (aI (bh (HS (c0:=163) (mZ.look (Nc:=["k","self","place"]) (fr:=[none,some 0,some 2]) (p:="k") (bz.look (ai c9) ["self","top","place","live"] (by decide+kernel))) rfl hr rfl hC (fun _ _ _ _=>(c6 sy (ae (aQ (aQ (df Q.a7.cl Q.cv cO) cO) cO) aj) B.su rfl p7 (by decide+kernel) rfl)) (c_.nm 3) (c_.g 2) B.EX))))) rR
theorem k9:MethAt (KX w.params) aD "gather" "Bench.gather" fG ["self","top","place"] 171 (Hd.fd fG "gather" "Bench.gather" eB 170):=Hd.GV (by kernel_rfl) fun _ _ _ _ _ _ _ _ _=>rfl
theorem vN:bE PW w (KX w.params) mg base cL 4 171 (Hd.fd fG "gather" "Bench.gather" eB 170) ["self","top","place"] (cQ k6):=by
 have B:=Bt e;have Q:=Qt e
 exact cf (N:=jd) (k9 e).fn fX (fun cdv A outer s H E hr=>(av (aS fX.nd (aB.l 3) (lZ (aB.nm 0) Q.a7.cl (gv e).me (mN e) (hr.mono (by decide)) (gv e).bd (ae (aB.nm 1) (ae (aB.nm 2) aj))))
  (av (qd (dJ yS (cC _) (c6 fh (ae (aB.nm 3) aj) B.fi rfl eg (aB.d 0) (aB.g 0)) ax) (av (aS fX.nd (aB.l 4) (aQ (aB.nm 3) (iy ax)))
  (av (aS fX.nd (aB.l 5) (aQ (aB.nm 3) (iy ax)))
  (av (i8 (lZ (aB.nm 0) Q.a7.cl (i3 e).me (rT e) (hr.mono (by decide)) (i3 e).bd (ae (aB.nm 4) (ae (aT (mq e) (rg e) (hr.mono (by decide)) (ae (aQ (aQ (df Q.a7.cl Q.cv (aB.nm 0)) (aB.nm 4)) (aB.nm 2)) (ae (aQ (aQ (df Q.a7.cl Q.cv (aB.nm 0)) (aB.nm 5)) (aB.nm 2)) aj)) (aB.d 1) (aB.g 1)) (ae (aB.nm 5) aj)))))
  (aI (aS fX.nd (aB.l 3) (lZ (aB.nm 0) Q.a7.cl (gv e).me (mN e) (hr.mono (by decide)) (gv e).bd (ae (aB.nm 1) (ae (aB.nm 2) aj)))))))))
  (av (gc (dJ (nI hr) (cC _) (c6 fh (ae (aB.nm 3) aj) B.fi rfl eg (aB.d 0) (aB.g 0)) ax) (aI (bh vO)) ff)
  (av (i8 (lZ (aB.nm 0) Q.a7.cl (jJ e).me (uD e) (hr.mono (by decide)) (jJ e).bd (ae (aB.nm 1) (ae (aQ (aB.nm 3) ax) aj))))
  (av (gc (dJ zM (cC _) (aQ (aQ (df Q.a7.cl Q.cv (aB.nm 0)) (aB.nm 1)) (aB.nm 2)) ax) (aI (i8 (lZ (aB.nm 0) Q.a7.cl (ij e).me (qW e) (hr.mono (by decide)) (ij e).bd (ae (aB.nm 1) aj)))) ff)
  (aI (bh vO)))))))) uG
theorem ig:MethAt (KX w.params) aD "lower_above" "Bench.lower_above" dQ ["self","top","place"] 178 (Hd.fd dQ "lower_above" "Bench.lower_above" eB 177):=Hd.GV (by kernel_rfl) fun _ _ _ _ _ _ _ _ _=>rfl
theorem qU:bE PW w (KX w.params) mg base cL 3 178 (Hd.fd dQ "lower_above" "Bench.lower_above" eB 177) ["self","top","place"] (cQ ip):=by
 have B:=Bt e;have Q:=Qt e;exact cf (N:=fP) (ig e).fn fz (fun cdv A outer s H E hr=>(aI (g9 (dX (bZ.g 0) B.d6 (ae (bZ.nm 1) aj)) (dj fz.nd (by first|exact Or.inl rfl|exact Or.inr rfl) (by first|exact .inl rfl|exact .inr rfl)) (aI (i8 (lZ (bZ.nm 0) Q.a7.cl (i3 e).me (rT e) (hr.mono (by decide)) (i3 e).bd (ae (bZ.nm 3) (ae (aR (sZ hr rfl fz.gen fz.co) (aQ (aQ (df Q.a7.cl Q.cv (bZ.nm 0)) (bZ.nm 3)) (bZ.nm 2)) (aQ (aQ (df Q.a7.cl Q.cv (bZ.nm 0)) (bZ.nm 1)) (bZ.nm 2))) (ae (bZ.nm 1) aj))))))))) qz
theorem vm:b_ (KX w.params) mg "standing" "standing" ja ["rows"] 192 (Hd.fd ja "standing" "standing" eB 191):=Hd.oE e.X e.G (by kernel_rfl) fun _ _ _ _ _ _ _=>rfl
theorem Cm:bE PW w (KX w.params) mg base cL 5 192 (Hd.fd ja "standing" "standing" eB 191) ["rows"] (cQ qb):=by
 have B:=Bt e;have Q:=Qt e
 exact cf (N:=mP) (vm e).fn ie (fun cdv A outer s H E hr=>(av (aS ie.nd (bc.l 1) (Lh ⟨Q.a7.Py,(gZ e).me.at_,(gZ e).me.fn,Q.a7.kp⟩ (uB e) (hr.mono (by decide)) (bc.g 0) Q.a7.mg (gZ e).bd (ae (bc.nm 0) aj) (bc.d 0)))
  (av (aS ie.nd (bc.l 2) ax)
  (av (g9 (dX (bc.g 2) B.d6 (ae (c6 fh (ae (aQ (bc.nm 0) ax) aj) B.fi rfl eg (bc.d 1) (bc.g 1)) aj)) (dj ie.nd (by first|exact Or.inl rfl|exact Or.inr rfl) (by first|exact .inl rfl|exact .inr rfl)) (aI (gc (kr (lZ (bc.nm 1) Q.a7.cl (k9 e).me (vN e) (hr.mono (by decide)) (k9 e).bd (ae (bc.nm 2) (ae (bc.nm 3) aj)))) (av (i8 (lZ (bc.nm 1) Q.a7.cl (ig e).me (qU e) (hr.mono (by decide)) (ig e).bd (ae (bc.nm 2) (ae (bc.nm 3) aj))))
  (aI (Lu ie.nd (bc.l 2) ax LM))) ff)))
  (av (aS ie.nd (bc.l 4) (aT (mJ e) (qO e) (hr.mono (by decide)) (ae (df Q.a7.cl Q.cE (bc.nm 1)) (ae (c6 fh (ae (bc.nm 0) aj) B.fi rfl eg (bc.d 1) (bc.g 1)) aj)) (bc.d 3) (bc.g 3)))
  (aI (bh (iw (ae (aT (rK e) (xg e) (hr.mono (by decide)) (ae (fI (df Q.a7.cl Q.cv (bc.nm 1)) fK (fH (bc.nm 2))) aj) (bc.d 4) (bc.g 4)) (ae (aT (rK e) (xg e) (hr.mono (by decide)) (ae (df Q.a7.cl Q.eJ (bc.nm 1)) aj) (bc.d 4) (bc.g 4)) (ae (bc.nm 4) aj))))))))))) Al
theorem xk:b_ (KX w.params) mg "weighed" "weighed" jW ["form","row"] 199 (Hd.fd jW "weighed" "weighed" eB 198):=Hd.ki e.X e.G (by kernel_rfl) fun _ _ _ _ _ _ _ _=>rfl
theorem Eb:bE PW w (KX w.params) mg base cL 2 199 (Hd.fd jW "weighed" "weighed" eB 198) ["form","row"] (cQ rZ):=by
 have B:=Bt e;have Q:=Qt e
 exact cf (N:=oF) (xk e).fn gY (fun cdv A outer s H E hr=>(av (aS gY.nd (bD.l 2) (vi aj))
  (av (aS gY.nd (bD.l 3) (eF pQ (ae (bD.nm 1) aj) B.my rfl jS (bD.d 0) (bD.g 0)))
  (av (g9 (fD (bD.nm 0)) (dj gY.nd (by first|exact Or.inl rfl|exact Or.inr rfl) (by first|exact .inl rfl|exact .inr rfl)) (av (aS gY.nd (bD.l 5) (aT (jY e) (mD e) (hr.mono (by decide)) (ae (bD.nm 4) aj) (bD.d 1) (bD.g 1)))
  (av (aS gY.nd (bD.l 6) (aR zz (aQ (bD.nm 3) (bD.nm 5)) (aQ (bD.nm 4) (bD.nm 5))))
  (av (i8 (oG (bD.nm 2) (bD.nm 6)))
  (aI (aS gY.nd (bD.l 3) (aT (o_ e) (sJ e) (hr.mono (by decide)) (ae (bD.nm 3) (ae (iy (bD.nm 6)) (ae (bD.nm 4) aj))) (bD.d 2) (bD.g 2))))))))
  (aI (bh (iw (ae (eF eO (ae (bD.nm 2) aj) B.dA rfl cX (bD.d 3) (bD.g 3)) (ae (eF eO (ae (bD.nm 3) aj) B.dA rfl cX (bD.d 3) (bD.g 3)) aj))))))))) Bh
theorem tQ:b_ (KX w.params) mg "parts_dot" "parts_dot" hO ["parts","row"] 213 (Hd.fd hO "parts_dot" "parts_dot" uH 212):=Hd.ki e.X e.G (by kernel_rfl) fun _ _ _ _ _ _ _ _=>rfl
theorem As:bE PW w (KX w.params) mg base cL 4 213 (Hd.fd hO "parts_dot" "parts_dot" uH 212) ["parts","row"] (cQ oW):=by
 have B:=Bt e;have Q:=Qt e
 exact cf (N:=lD) (tQ e).fn kG (fun cdv A outer s H E hr=>(av (aS kG.nd (cG.l 2) (aT (nv e) (pU e) (hr.mono (by decide)) (ae ax aj) (cG.d 0) (cG.g 0)))
  (av (g9 (u6 (cG.g 1) B.vw (ae (cG.nm 0) (ae (cG.nm 1) aj))) (oB rfl kG.nd (by first|exact Or.inl rfl|exact Or.inr rfl) (by first|exact .inl rfl|exact .inr rfl) (by first|exact Or.inl rfl|exact Or.inr rfl) (by first|exact .inl rfl|exact .inr rfl)) (aI (aS kG.nd (cG.l 2) (aT (CP e) (Ml e) (hr.mono (by decide)) (ae (cG.nm 2) (ae (aT (Ba e) (IY e) (hr.mono (by decide)) (ae (cG.nm 3) (ae (aT (nv e) (pU e) (hr.mono (by decide)) (ae (cG.nm 4) aj) (cG.d 0) (cG.g 0)) aj)) (cG.d 2) (cG.g 2)) aj)) (cG.d 3) (cG.g 3)))))
  (aI (bh (cG.nm 2)))))) zY
theorem tG:b_ (KX w.params) mg "bottom_at" "bottom_at" ia ["form","rest","place"] 220 (Hd.fd ia "bottom_at" "bottom_at" uH 219):=Hd.Ew e.X e.G (by kernel_rfl) fun _ _ _ _ _ _ _ _ _=>rfl
theorem Af:bE PW w (KX w.params) mg base cL 2 220 (Hd.fd ia "bottom_at" "bottom_at" uH 219) ["form","rest","place"] (cQ oZ):=by
 have B:=Bt e;have Q:=Qt e
 exact cf (N:=lG) (tG e).fn rG (fun cdv A outer s H E hr=>(av (g9 (fD (dS.nm 0)) (dj rG.nd (by first|exact Or.inl rfl|exact Or.inr rfl) (by first|exact .inl rfl|exact .inr rfl)) (aI (gc (dJ (nI hr) (cC _) (aT (jY e) (mD e) (hr.mono (by decide)) (ae (dS.nm 3) aj) (dS.d 0) (dS.g 0)) (dS.nm 2)) (aI (bh (aQ (dS.nm 3) (dS.nm 2)))) ff)))
  (aI (bh (aR de ax (c6 sy (ae (aQ (dS.nm 1) (dS.nm 2)) aj) B.su rfl p7 (dS.d 1) (dS.g 1))))))) zE
theorem oQ:b_ (KX w.params) mg "parts_against" "parts_against" fu ["form","rest"] 227 (Hd.fd fu "parts_against" "parts_against" uH 226):=Hd.ki e.X e.G (by kernel_rfl) fun _ _ _ _ _ _ _ _=>rfl
theorem uP:bE PW w (KX w.params) mg base cL 5 227 (Hd.fd fu "parts_against" "parts_against" uH 226) ["form","rest"] (cQ kJ):=by
 have B:=Bt e;have Q:=Qt e
 exact cf (N:=iB) (oQ e).fn eY (fun cdv A outer s H E hr=>(av (aS eY.nd (au.l 2) (aT (jY e) (mD e) (hr.mono (by decide)) (ae (au.nm 1) aj) (au.d 0) (au.g 0)))
  (av (aS eY.nd (au.l 3) (aR K9 (mX (ae (aT (nv e) (pU e) (hr.mono (by decide)) (ae ax aj) (au.d 1) (au.g 1)) aj)) (c6 fh (ae (au.nm 1) aj) B.fi rfl eg (au.d 2) (au.g 2))))
  (av (eS (aT (pM e) (rj e) (hr.mono (by decide)) (ae ax (ae (aT (tG e) (Af e) (hr.mono (by decide)) (ae (au.nm 0) (ae (au.nm 1) (ae (au.nm 2) aj))) (au.d 3) (au.g 3)) aj)) (au.d 4) (au.g 4)) (au.nm 3) (au.nm 2))
  (av (g9 (E4 (au.g 5) B.d6 (ae (aR ke (c6 fh (ae (au.nm 0) aj) B.fi rfl eg (au.d 2) (au.g 2)) ax) (ae (iy ax) (ae (iy ax) aj)))) (dj eY.nd (by first|exact Or.inl rfl|exact Or.inr rfl) (by first|exact .inl rfl|exact .inr rfl)) (av (aS eY.nd (au.l 5) (aT (jY e) (mD e) (hr.mono (by decide)) (ae (aQ (au.nm 0) (au.nm 4)) aj) (au.d 0) (au.g 0)))
  (aI (gc (dJ zM (cC _) (au.nm 5) (au.nm 2)) (av (aS eY.nd (au.l 6) (aT (AY e) (Hw e) (hr.mono (by decide)) (ae (aT (nv e) (pU e) (hr.mono (by decide)) (ae ax aj) (au.d 1) (au.g 1)) (ae (aT (tQ e) (As e) (hr.mono (by decide)) (ae (au.nm 3) (ae (aQ (au.nm 0) (au.nm 4)) aj)) (au.d 6) (au.g 6)) aj)) (au.d 7) (au.g 7)))
  (aI (eS (aT (DY e) (LB e) (hr.mono (by decide)) (ae (au.nm 6) (ae (aT (nv e) (pU e) (hr.mono (by decide)) (ae (aQ (aQ (au.nm 0) (au.nm 4)) (au.nm 5)) aj) (au.d 1) (au.g 1)) aj)) (au.d 8) (au.g 8)) (au.nm 3) (au.nm 5)))) ff))))
  (aI (bh (eF eO (ae (au.nm 3) aj) B.dA rfl cX (au.d 9) (au.g 9))))))))) t9
theorem rf:b_ (KX w.params) mg "answers" "answers" jV ["rows","due"] 241 (Hd.fd jV "answers" "answers" Lm 240):=Hd.ki e.X e.G (by kernel_rfl) fun _ _ _ _ _ _ _ _=>rfl
theorem wU:bE PW w (KX w.params) mg base cL 6 241 (Hd.fd jV "answers" "answers" Lm 240) ["rows","due"] (cQ oC):=by
 have B:=Bt e;have Q:=Qt e
 exact cf (N:=oR) (rf e).fn i7 (fun cdv A outer s H E hr=>(av (aS i7.nd (bJ.l 2) (c6 fh (ae (aQ (bJ.nm 0) ax) aj) B.fi rfl eg (bJ.d 0) (bJ.g 0)))
  (av (aS i7.nd (bJ.l 3) (aT (vm e) (Cm e) (hr.mono (by decide)) (ae (aT (mJ e) (qO e) (hr.mono (by decide)) (ae (bJ.nm 0) (ae (bJ.nm 2) aj)) (bJ.d 1) (bJ.g 1)) aj) (bJ.d 2) (bJ.g 2)))
  (av (aS i7.nd (bJ.l 4) (aQ (bJ.nm 3) ax))
  (av (aS i7.nd (bJ.l 5) (aQ (bJ.nm 3) ax))
  (av (aS i7.nd (bJ.l 6) (aT (xk e) (Eb e) (hr.mono (by decide)) (ae (bJ.nm 4) (ae (bJ.nm 1) aj)) (bJ.d 3) (bJ.g 3)))
  (av (gc (dJ Lk (cC _) (aT (jY e) (mD e) (hr.mono (by decide)) (ae (aQ (bJ.nm 6) ax) aj) (bJ.d 4) (bJ.g 4)) GO) (aI (bh (iw (ae Gi (ae (aT (oQ e) (uP e) (hr.mono (by decide)) (ae (bJ.nm 4) (ae (aQ (bJ.nm 6) ax) aj)) (bJ.d 5) (bJ.g 5)) aj))))) ff)
  (av uj
  (av uj
  (aI uj)))))))))) Bv
theorem uM:b_ (KX w.params) mg "_law_hand" "_law_hand" i9 ["_law_script"] 248 (Hd.fd i9 "_law_hand" "_law_hand" dy 247):=Hd.oE e.X e.G (by kernel_rfl) fun _ _ _ _ _ _ _=>rfl
theorem BJ:bE PW w (KX w.params) mg base cL 1 248 (Hd.fd i9 "_law_hand" "_law_hand" dy 247) ["_law_script"] (cQ p8):=by
 have B:=Bt e;have Q:=Qt e
 exact cf (N:=m9) (uM e).fn o9 (fun cdv A outer s H E hr=>(av (aS o9.nd (eG.l 1) (aR cR (fI (eG.nm 0) fK (fH ax)) (mX (ae ax aj))))
  (av (aS o9.nd (eG.l 2) (c6 sy (ae (aQ (eG.nm 1) ax) aj) B.su rfl p7 (eG.d 0) (eG.g 0)))
  (aI (bh (vi (ae (eG.nm 1) (ae ax (ae (aR de (eG.nm 2) (eF vB (ae (m6 ON (cC _) (eG.nm 2) (aR NB ax ax)) aj) B.sW rfl pZ (eG.d 1) (eG.g 1))) aj))))))))) An
theorem bK:b_ (KX w.params) mg "_law_take" "_law_take" jf ["_law_hand_here","_law_many"] 255 (Hd.fd jf "_law_take" "_law_take" dy 254):=Hd.ki e.X e.G (by kernel_rfl) fun _ _ _ _ _ _ _ _=>rfl
theorem bS:bE PW w (KX w.params) mg base cL 1 255 (Hd.fd jf "_law_take" "_law_take" dy 254) ["_law_hand_here","_law_many"] (cQ bf):=by
 have B:=Bt e;have Q:=Qt e
 exact cf (N:=mS) (bK e).fn lz (fun cdv A outer s H E hr=>(av (gc (dJ yS (cC _) (aQ (bY.nm 0) ax) ax) (av (aS lz.nd (bY.l 2) (aR kK (aQ (bY.nm 0) ax) (bY.nm 1)))
  (av (eS (aR zz (aQ (bY.nm 0) ax) (bY.nm 1)) (bY.nm 0) ax)
  (aI (bh (bY.nm 2))))) ff)
  (av (eS (aR cR (aQ (bY.nm 0) ax) ax) (bY.nm 0) ax)
  (av (aS lz.nd (bY.l 3) (aQ (aQ (bY.nm 0) ax) (aR kK (aQ (bY.nm 0) ax) (c6 fh (ae (aQ (bY.nm 0) ax) aj) B.fi rfl eg (bY.d 0) (bY.g 0)))))
  (av (aS lz.nd (bY.l 4) (aR kK (aR de (aR cR (aR cR (aR kK (bY.nm 3) ax) (aR de ax (aQ (bY.nm 0) ax))) ax) ax) ax))
  (aI (bh (aR kK (aR zz (aR kK (aR de (bY.nm 4) (aR cR (aR kK (bY.nm 4) ax) ax)) ax) ax) (bY.nm 1))))))))) Ai
theorem jO:b_ (KX w.params) mg "_law_dot" "_law_dot" iZ ["_law_one","_law_other"] 260 (Hd.fd iZ "_law_dot" "_law_dot" dy 259):=Hd.ki e.X e.G (by kernel_rfl) fun _ _ _ _ _ _ _ _=>rfl
theorem mh:bE PW w (KX w.params) mg base cL 1 260 (Hd.fd iZ "_law_dot" "_law_dot" dy 259) ["_law_one","_law_other"] (cQ fW):=by
 have B:=Bt e;have Q:=Qt e;exact cf (N:=ou) (jO e).fn Cr (fun cdv A outer s H E hr=>(aI (bh (c6 (Gr rfl) (ae (dH (Nc:=["_law_a","_law_b"]) (bz.look (ai iZ) ["_law_one","_law_other"] (by decide+kernel)) (u6 (l6.g 0) B.vw (ae (l6.nm 0) (ae (l6.nm 1) aj))) (fun _ _ _ _=>(oB rfl (show(["_law_a","_law_b"]:List Str).Nodup by decide+kernel) (by first|exact Or.inl rfl|exact Or.inr rfl) (by first|exact .inl rfl|exact .inr rfl) (by first|exact Or.inl rfl|exact Or.inr rfl) (by first|exact .inl rfl|exact .inr rfl))) (fun _ _ _ _=>cB) (fun _ _ _ _=>(aR de cO cO)) wI) aj) B.GL rfl Dg (l6.d 1) (l6.g 1))))) Ca
theorem o5:b_ (KX w.params) mg "_law_whole" "_law_whole" h8 ["_law_found"] 287 (Hd.fd h8 "_law_whole" "_law_whole" dy 286):=Hd.oE e.X e.G (by kernel_rfl) fun _ _ _ _ _ _ _=>rfl
theorem tH:bE PW w (KX w.params) mg base cL 1 287 (Hd.fd h8 "_law_whole" "_law_whole" dy 286) ["_law_found"] (cQ lS):=by
 have B:=Bt e;have Q:=Qt e;exact cf (N:=lJ) (o5 e).fn Aa (fun cdv A outer s H E hr=>(aI (bh (BG (c6 uZ (ae (eA.nm 0) (ae (yq B.sW rfl pZ (eA.d 0) (eA.g 0)) aj)) B.iO rfl g_ (eA.d 1) (eA.g 1)) (Bp (Gu (c6 uZ (ae (eA.nm 0) (ae (yq B.Kr rfl Hx (eA.d 2) (eA.g 2)) aj)) B.iO rfl g_ (eA.d 1) (eA.g 1)))))))) y8
theorem mW:b_ (KX w.params) mg "_law_over" "_law_over" gM ["_law_rows"] 302 (Hd.fd gM "_law_over" "_law_over" dy 301):=Hd.oE e.X e.G (by kernel_rfl) fun _ _ _ _ _ _ _=>rfl
theorem p9:bE PW w (KX w.params) mg base cL 1 302 (Hd.fd gM "_law_over" "_law_over" dy 301) ["_law_rows"] (cQ jb):=by
 have B:=Bt e;have Q:=Qt e;exact cf (N:=m5) (mW e).fn Ao (fun cdv A outer s H E hr=>(aI (bh (dH (Nc:=["_law_k","_law_rows"]) (bz.look (ai gM) ["_law_rows"] (by decide+kernel)) (dX (mR.g 1) B.d6 (ae (c6 fh (ae (aQ (mR.nm 0) ax) aj) B.fi rfl eg (mR.d 0) (mR.g 0)) aj)) (fun _ _ _ _=>(dj (show(["_law_k","_law_rows"]:List Str).Nodup by decide+kernel) (by first|exact Or.inl rfl|exact Or.inr rfl) (by first|exact .inl rfl|exact .inr rfl))) (fun _ _ _ _=>cB) (fun _ _ _ _=>(eF eO (ae (dH (Nc:=["_law_row","_law_k"]) (bz.Cz (by decide+kernel)) (fD cO) (fun _ _ _ _=>(dj (show(["_law_row","_law_k"]:List Str).Nodup by decide+kernel) (by first|exact Or.inl rfl|exact Or.inr rfl) (by first|exact .inl rfl|exact .inr rfl))) (fun _ _ _ _=>cB) (fun _ _ _ _=>(aQ cO cO)) cq) aj) B.dA rfl cX (by decide+kernel) rfl)) cq)))) Au
theorem vg:b_ (KX w.params) mg "_law_turn" "_law_turn" fA ["_law_hand_here","_law_size"] 307 (Hd.fd fA "_law_turn" "_law_turn" dy 306):=Hd.ki e.X e.G (by kernel_rfl) fun _ _ _ _ _ _ _ _=>rfl
theorem By:bE PW w (KX w.params) mg base cL 2 307 (Hd.fd fA "_law_turn" "_law_turn" dy 306) ["_law_hand_here","_law_size"] (cQ qo):=by
 have B:=Bt e;have Q:=Qt e
 exact cf (N:=m_) (vg e).fn fF (fun cdv A outer s H E hr=>(av (Ab fF.nd (aH.l 2) (Nc:=["_law_i","_law_size"]) (bz.look (ai fA) ["_law_hand_here","_law_size","_law_turn_here","_law_back","_law_k","_law_i","_law_j","_law_many","_law_row"] (by decide+kernel)) (dX (aH.g 0) B.d6 (ae (aH.nm 1) aj)) (fun _ _ _ _=>(dj (show(["_law_i","_law_size"]:List Str).Nodup by decide+kernel) (by first|exact Or.inl rfl|exact Or.inr rfl) (by first|exact .inl rfl|exact .inr rfl))) (fun _ _ _ _=>cB) (fun _ _ _ _=>(dH (Nc:=["_law_j","_law_i"]) (bz.Cz (by decide+kernel)) (dX rfl B.d6 (ae cO aj)) (fun _ _ _ _=>(dj (show(["_law_j","_law_i"]:List Str).Nodup by decide+kernel) (by first|exact Or.inl rfl|exact Or.inr rfl) (by first|exact .inl rfl|exact .inr rfl))) (fun _ _ _ _=>cB) (fun _ _ _ _=>(eF vB (ae (m6 (nI hr) (cC _) cO cO) aj) B.sW rfl pZ (by decide+kernel) rfl)) cq)) cq)
  (av (Ab fF.nd (aH.l 3) (Nc:=["_law_i","_law_size"]) (bz.look (ai fA) ["_law_hand_here","_law_size","_law_turn_here","_law_back","_law_k","_law_i","_law_j","_law_many","_law_row"] (by decide+kernel)) (dX (aH.g 0) B.d6 (ae (aH.nm 1) aj)) (fun _ _ _ _=>(dj (show(["_law_i","_law_size"]:List Str).Nodup by decide+kernel) (by first|exact Or.inl rfl|exact Or.inr rfl) (by first|exact .inl rfl|exact .inr rfl))) (fun _ _ _ _=>cB) (fun _ _ _ _=>(sA (Nc:=["_law_j","_law_i"]) (bz.Cz (by decide+kernel)) (dX rfl B.d6 (ae cO aj)) (fun _ _ _ _=>(dj (show(["_law_j","_law_i"]:List Str).Nodup by decide+kernel) (by first|exact Or.inl rfl|exact Or.inr rfl) (by first|exact .inl rfl|exact .inr rfl))) (fun _ _ _ _=>cB) (fun _ _ _ _=>(eF vB (ae (m6 (nI hr) (cC _) cO cO) aj) B.sW rfl pZ (by decide+kernel) rfl)) cq)) cq)
  (av (g9 (dX (aH.g 0) B.d6 (ae (aR de (aR cR (aH.nm 1) (aT (bK e) (bS e) (hr.mono (by decide)) (ae (aH.nm 0) (ae ax aj)) (aH.d 1) (aH.g 1))) (eF vB (ae (m6 yS (cC _) (aH.nm 1) ax) aj) B.sW rfl pZ (aH.d 2) (aH.g 2))) aj)) (dj fF.nd (by first|exact Or.inl rfl|exact Or.inr rfl) (by first|exact .inl rfl|exact .inr rfl)) (av (aS fF.nd (aH.l 5) (aT (bK e) (bS e) (hr.mono (by decide)) (ae (aH.nm 0) (ae (aH.nm 1) aj)) (aH.d 1) (aH.g 1)))
  (av (aS fF.nd (aH.l 6) (aR kK (aR cR (aR cR (aH.nm 5) ax) (aT (bK e) (bS e) (hr.mono (by decide)) (ae (aH.nm 0) (ae (aR ke (aH.nm 1) ax) aj)) (aH.d 1) (aH.g 1))) (aH.nm 1)))
  (av (aS fF.nd (aH.l 7) (aQ (mX (ae (iy ax) (ae (iy ax) (ae ax (ae ax aj))))) (aT (bK e) (bS e) (hr.mono (by decide)) (ae (aH.nm 0) (ae ax aj)) (aH.d 1) (aH.g 1))))
  (av (DZ (dH (Nc:=["_law_a","_law_b","_law_many"]) (bz.look (ai fA) ["_law_hand_here","_law_size","_law_turn_here","_law_back","_law_k","_law_i","_law_j","_law_many","_law_row"] (by decide+kernel)) (u6 (aH.g 3) B.vw (ae (aQ (aH.nm 2) (aH.nm 5)) (ae (aQ (aH.nm 2) (aH.nm 6)) aj))) (fun _ _ _ _=>(oB rfl (show(["_law_a","_law_b","_law_many"]:List Str).Nodup by decide+kernel) (by first|exact Or.inl rfl|exact Or.inr rfl) (by first|exact .inl rfl|exact .inr rfl) (by first|exact Or.inl rfl|exact Or.inr rfl) (by first|exact .inl rfl|exact .inr rfl))) (fun _ _ _ _=>cB) (fun _ _ _ _=>(aR cR cO (aR de cO cO))) wI) (aH.nm 2) (aH.nm 5))
  (aI (g9 (fD (aH.nm 3)) (dj fF.nd (by first|exact Or.inl rfl|exact Or.inr rfl) (by first|exact .inl rfl|exact .inr rfl)) (aI (eS (aR ke (aQ (aH.nm 8) (aH.nm 6)) (aR de (aH.nm 7) (aQ (aH.nm 8) (aH.nm 5)))) (aH.nm 8) (aH.nm 6))))))))))
  (aI (zo (Hz (bh (iw (ae (aH.nm 2) (ae (aH.nm 3) aj))))))))))) Ah
theorem sh:b_ (KX w.params) mg "_law_bounds" "_law_bounds" gD ["_law_hand_here"] 314 (Hd.fd gD "_law_bounds" "_law_bounds" dy 313):=Hd.oE e.X e.G (by kernel_rfl) fun _ _ _ _ _ _ _=>rfl
theorem zk:bE PW w (KX w.params) mg base cL 2 314 (Hd.fd gD "_law_bounds" "_law_bounds" dy 313) ["_law_hand_here"] (cQ oi):=by
 have B:=Bt e;have Q:=Qt e
 exact cf (N:=kP) (sh e).fn mH (fun cdv A outer s H E hr=>(av (aS mH.nd (aY.l 1) (aQ (mX (ae (aR cR ax (aT (bK e) (bS e) (hr.mono (by decide)) (ae (aY.nm 0) (ae ax aj)) (aY.d 0) (aY.g 0))) (ae (aR cR ax (aT (bK e) (bS e) (hr.mono (by decide)) (ae (aY.nm 0) (ae ax aj)) (aY.d 0) (aY.g 0))) aj))) (eF vB (ae (m6 (nI hr) (cC _) (aT (bK e) (bS e) (hr.mono (by decide)) (ae (aY.nm 0) (ae ax aj)) (aY.d 0) (aY.g 0)) ax) aj) B.sW rfl pZ (aY.d 1) (aY.g 1))))
  (av (aS mH.nd (aY.l 2) (aT (bK e) (bS e) (hr.mono (by decide)) (ae (aY.nm 0) (ae (aR cR (aY.nm 1) ax) aj)) (aY.d 0) (aY.g 0)))
  (aI (bh (iw (ae (aY.nm 1) (ae (aY.nm 2) (ae (c6 (Mu rfl) (ae ax (ae (aR cR (c6 (NC rfl) (ae ax (ae (aY.nm 2) aj)) B.NL rfl Ld (aY.d 2) (aY.g 2)) (aT (bK e) (bS e) (hr.mono (by decide)) (ae (aY.nm 0) (ae ax aj)) (aY.d 0) (aY.g 0))) aj)) B.MN rfl Me (aY.d 3) (aY.g 3)) aj))))))))) xN
theorem sq:b_ (KX w.params) mg "_law_fixing" "_law_fixing" fM ["_law_hand_here","_law_fixed","_law_many"] 319 (Hd.fd fM "_law_fixing" "_law_fixing" dy 318):=Hd.Ew e.X e.G (by kernel_rfl) fun _ _ _ _ _ _ _ _ _=>rfl
theorem yz:bE PW w (KX w.params) mg base cL 2 319 (Hd.fd fM "_law_fixing" "_law_fixing" dy 318) ["_law_hand_here","_law_fixed","_law_many"] (cQ oh):=by
 have B:=Bt e;have Q:=Qt e
 exact cf (N:=kO) (sq e).fn g6 (fun cdv A outer s H E hr=>(av (aS g6.nd (bC.l 3) (vi aj))
  (av (g9 (dX (bC.g 0) B.d6 (ae (bC.nm 2) aj)) (dj g6.nd (by first|exact Or.inl rfl|exact Or.inr rfl) (by first|exact .inl rfl|exact .inr rfl)) (av (AD g6.nd (bC.l 5) (Nc:=["_law_j","_law_hand_here"]) (bz.look (ai fM) ["_law_hand_here","_law_fixed","_law_many","_law_rows","_law_k","_law_row"] (by decide+kernel)) (dX (bC.g 0) B.d6 (ae (bC.nm 1) aj)) (fun _ _ _ _=>(dj (show(["_law_j","_law_hand_here"]:List Str).Nodup by decide+kernel) (by first|exact Or.inl rfl|exact Or.inr rfl) (by first|exact .inl rfl|exact .inr rfl))) (fun _ _ _ _=>cB) (fun _ _ _ _=>(aR ke (aT (bK e) (bS e) (hr.mono (by decide)) (ae cO (ae ax aj)) (by decide+kernel) rfl) ax)) cq)
  (av (gc (dJ zM (cC _) (bC.nm 4) (bC.nm 1)) (aI (aS g6.nd (bC.l 5) (aR cR (aR cR (fI (bC.nm 5) fK (fH (bC.nm 4))) (mX (ae (aR de (aR cR ax (aT (bK e) (bS e) (hr.mono (by decide)) (ae (bC.nm 0) (ae ax aj)) (bC.d 1) (bC.g 1))) (aQ (mX (ae ax (ae (iy ax) aj))) (aT (bK e) (bS e) (hr.mono (by decide)) (ae (bC.nm 0) (ae ax aj)) (bC.d 1) (bC.g 1)))) aj))) (aR de (mX (ae ax aj)) (aR ke (aR ke (bC.nm 1) (bC.nm 4)) ax))))) ff)
  (aI (i8 (oG (bC.nm 3) (bC.nm 5)))))))
  (aI (zo (bh (bC.nm 3))))))) xR
theorem pf:b_ (KX w.params) mg "_law_shuffled" "_law_shuffled" fJ ["_law_hand_here","_law_rows"] 326 (Hd.fd fJ "_law_shuffled" "_law_shuffled" dy 325):=Hd.ki e.X e.G (by kernel_rfl) fun _ _ _ _ _ _ _ _=>rfl
theorem wB:bE PW w (KX w.params) mg base cL 2 326 (Hd.fd fJ "_law_shuffled" "_law_shuffled" dy 325) ["_law_hand_here","_law_rows"] (cQ kX):=by
 have B:=Bt e;have Q:=Qt e
 exact cf (N:=i_) (pf e).fn ky (fun cdv A outer s H E hr=>(av (aS ky.nd (ck.l 2) (eF A8 (ae (ck.nm 1) aj) B.my rfl jS (ck.d 0) (ck.g 0)))
  (av (aS ky.nd (ck.l 3) (vi aj))
  (av (qd (dJ (Nt hr) (cC _) (ck.nm 2) (mX aj)) (aI (i8 (oG (ck.nm 3) (JH (ck.nm 2) (aT (bK e) (bS e) (hr.mono (by decide)) (ae (ck.nm 0) (ae (c6 fh (ae (ck.nm 2) aj) B.fi rfl eg (ck.d 1) (ck.g 1)) aj)) (ck.d 2) (ck.g 2)))))))
  (aI (zo (bh (ck.nm 3)))))))) uO
theorem r9:b_ (KX w.params) mg "_law_number" "_law_number" gE ["_law_hand_here"] 333 (Hd.fd gE "_law_number" "_law_number" dy 332):=Hd.oE e.X e.G (by kernel_rfl) fun _ _ _ _ _ _ _=>rfl
theorem zp:bE PW w (KX w.params) mg base cL 2 333 (Hd.fd gE "_law_number" "_law_number" dy 332) ["_law_hand_here"] (cQ nN):=by
 have B:=Bt e;have Q:=Qt e
 exact cf (N:=kB) (r9 e).fn qL (fun cdv A outer s H E hr=>(av (aS qL.nd (di.l 1) (aT (bK e) (bS e) (hr.mono (by decide)) (ae (di.nm 0) (ae ax aj)) (di.d 0) (di.g 0)))
  (av (gc (dJ (nI hr) (cC _) (di.nm 1) ax) (aI (bh (aR ke (aT (bK e) (bS e) (hr.mono (by decide)) (ae (di.nm 0) (ae ax aj)) (di.d 0) (di.g 0)) ax))) ff)
  (aI (bh (aR ke (aT (bK e) (bS e) (hr.mono (by decide)) (ae (di.nm 0) (ae ax aj)) (di.d 0) (di.g 0)) ax)))))) xJ
theorem ow:b_ (KX w.params) mg "_law_equations" "_law_equations" dc ["_law_hand_here"] 338 (Hd.fd dc "_law_equations" "_law_equations" dy 337):=Hd.oE e.X e.G (by kernel_rfl) fun _ _ _ _ _ _ _=>rfl
theorem vx:bE PW w (KX w.params) mg base cL 3 338 (Hd.fd dc "_law_equations" "_law_equations" dy 337) ["_law_hand_here"] (cQ kH):=by
 have B:=Bt e;have Q:=Qt e
 exact cf (N:=iz) (ow e).fn d5 (fun cdv A outer s H E hr=>(av (vp (aT (sh e) (zk e) (hr.mono (by decide)) (ae (az.nm 0) aj) (az.d 0) (az.g 0)) (Gx rfl d5.nd (by first|exact Or.inl rfl|exact Or.inr rfl) (by first|exact .inl rfl|exact .inr rfl) (by first|exact Or.inl rfl|exact Or.inr rfl) (by first|exact .inl rfl|exact .inr rfl) (by first|exact Or.inl rfl|exact Or.inr rfl) (by first|exact .inl rfl|exact .inr rfl)))
  (av (vp (aT (vg e) (By e) (hr.mono (by decide)) (ae (az.nm 0) (ae (az.nm 1) aj)) (az.d 1) (az.g 1)) (oB rfl d5.nd (by first|exact Or.inl rfl|exact Or.inr rfl) (by first|exact .inl rfl|exact .inr rfl) (by first|exact Or.inl rfl|exact Or.inr rfl) (by first|exact .inl rfl|exact .inr rfl)))
  (av (aS d5.nd (az.l 6) (vi aj))
  (av (g9 (fD (aT (pf e) (wB e) (hr.mono (by decide)) (ae (az.nm 0) (ae (aT (sq e) (yz e) (hr.mono (by decide)) (ae (az.nm 0) (ae (az.nm 2) (ae (az.nm 3) aj))) (az.d 2) (az.g 2)) aj)) (az.d 3) (az.g 3))) (dj d5.nd (by first|exact Or.inl rfl|exact Or.inr rfl) (by first|exact .inl rfl|exact .inr rfl)) (aI (i8 (oG (az.nm 6) (eF eO (ae (dH (Nc:=["_law_k","_law_row","_law_back","_law_fixed"]) (bz.look (ai dc) ["_law_hand_here","_law_size","_law_fixed","_law_many","_law_turn_here","_law_back","_law_rows","_law_row","_law_numbers","_law_answer"] (by decide+kernel)) (dX (az.g 4) B.d6 (ae (az.nm 1) aj)) (fun _ _ _ _=>(dj (show(["_law_k","_law_row","_law_back","_law_fixed"]:List Str).Nodup by decide+kernel) (by first|exact Or.inl rfl|exact Or.inr rfl) (by first|exact .inl rfl|exact .inr rfl))) (fun _ _ _ _=>cB) (fun _ _ _ _=>(aT (jO e) (mh e) (hr.mono (by decide)) (ae cO (ae (fI (aQ cO cO) fK (fH cO)) aj)) (by decide+kernel) rfl)) cq) aj) B.dA rfl cX (az.d 5) (az.g 5))))))
  (av (AN d5.nd (az.l 8) (dH (Nc:=["_law_k","_law_hand_here"]) (bz.look (ai dc) ["_law_hand_here","_law_size","_law_fixed","_law_many","_law_turn_here","_law_back","_law_rows","_law_row","_law_numbers","_law_answer"] (by decide+kernel)) (dX (az.g 4) B.d6 (ae (az.nm 1) aj)) (fun _ _ _ _=>(dj (show(["_law_k","_law_hand_here"]:List Str).Nodup by decide+kernel) (by first|exact Or.inl rfl|exact Or.inr rfl) (by first|exact .inl rfl|exact .inr rfl))) (fun _ _ _ _=>cB) (fun _ _ _ _=>(aT (r9 e) (zp e) (hr.mono (by decide)) (ae cO aj) (by decide+kernel) rfl)) cq))
  (av (aS d5.nd (az.l 9) (eF eO (ae (dH (Nc:=["_law_column","_law_numbers"]) (bz.look (ai dc) ["_law_hand_here","_law_size","_law_fixed","_law_many","_law_turn_here","_law_back","_law_rows","_law_row","_law_numbers","_law_answer"] (by decide+kernel)) (fD (aT (mW e) (p9 e) (hr.mono (by decide)) (ae (az.nm 4) aj) (az.d 6) (az.g 6))) (fun _ _ _ _=>(dj (show(["_law_column","_law_numbers"]:List Str).Nodup by decide+kernel) (by first|exact Or.inl rfl|exact Or.inr rfl) (by first|exact .inl rfl|exact .inr rfl))) (fun _ _ _ _=>cB) (fun _ _ _ _=>(aT (jO e) (mh e) (hr.mono (by decide)) (ae cO (ae cO aj)) (by decide+kernel) rfl)) cq) aj) B.dA rfl cX (az.d 5) (az.g 5)))
  (aI (bh (iw (ae (eF eO (ae (az.nm 6) aj) B.dA rfl cX (az.d 5) (az.g 5)) (ae (az.nm 9) (ae (fI (az.nm 4) (fH (az.nm 2)) fK) aj))))))))))))) uu
theorem r_:b_ (KX w.params) mg "_law_spoilt" "_law_spoilt" eK ["_law_hand_here","_law_rows","_law_due"] 343 (Hd.fd eK "_law_spoilt" "_law_spoilt" dy 342):=Hd.Ew e.X e.G (by kernel_rfl) fun _ _ _ _ _ _ _ _ _=>rfl
theorem z8:bE PW w (KX w.params) mg base cL 2 343 (Hd.fd eK "_law_spoilt" "_law_spoilt" dy 342) ["_law_hand_here","_law_rows","_law_due"] (cQ nK):=by
 have B:=Bt e;have Q:=Qt e
 exact cf (N:=kE) (r_ e).fn dW (fun cdv A outer s H E hr=>(av (aS dW.nd (ao.l 3) (aT (bK e) (bS e) (hr.mono (by decide)) (ae (ao.nm 0) (ae (c6 fh (ae (ao.nm 1) aj) B.fi rfl eg (ao.d 0) (ao.g 0)) aj)) (ao.d 1) (ao.g 1)))
  (av (gc (x4 (oP (dJ (nI hr) (cC _) (aT (bK e) (bS e) (hr.mono (by decide)) (ae (ao.nm 0) (ae ax aj)) (ao.d 1) (ao.g 1)) ax) (uY (mr (kr (c6 (KU rfl) (ae (aQ (ao.nm 1) (ao.nm 3)) aj) B.MS rfl Kw (ao.d 2) (ao.g 2))))))) (av (AN dW.nd (ao.l 4) (dH (Nc:=["_law_row","_law_hand_here"]) (bz.look (ai eK) ["_law_hand_here","_law_rows","_law_due","_law_place","_law_weights","_law_more","_law_number_here","_law_at","_law_many","_law_row"] (by decide+kernel)) (fD (ao.nm 1)) (fun _ _ _ _=>(dj (show(["_law_row","_law_hand_here"]:List Str).Nodup by decide+kernel) (by first|exact Or.inl rfl|exact Or.inr rfl) (by first|exact .inl rfl|exact .inr rfl))) (fun _ _ _ _=>cB) (fun _ _ _ _=>(aR ke (aT (bK e) (bS e) (hr.mono (by decide)) (ae cO (ae ax aj)) (by decide+kernel) rfl) ax)) cq))
  (av (aS dW.nd (ao.l 5) (eF eO (ae (dH (Nc:=["_law_column","_law_weights"]) (bz.look (ai eK) ["_law_hand_here","_law_rows","_law_due","_law_place","_law_weights","_law_more","_law_number_here","_law_at","_law_many","_law_row"] (by decide+kernel)) (fD (aT (mW e) (p9 e) (hr.mono (by decide)) (ae (ao.nm 1) aj) (ao.d 3) (ao.g 3))) (fun _ _ _ _=>(dj (show(["_law_column","_law_weights"]:List Str).Nodup by decide+kernel) (by first|exact Or.inl rfl|exact Or.inr rfl) (by first|exact .inl rfl|exact .inr rfl))) (fun _ _ _ _=>cB) (fun _ _ _ _=>(aT (jO e) (mh e) (hr.mono (by decide)) (ae cO (ae cO aj)) (by decide+kernel) rfl)) cq) aj) B.dA rfl cX (ao.d 4) (ao.g 4)))
  (av (aS dW.nd (ao.l 6) (aR cR (aT (jO e) (mh e) (hr.mono (by decide)) (ae (ao.nm 4) (ae (ao.nm 2) aj)) (ao.d 5) (ao.g 5)) (aQ (mX (ae (iy ax) (ae (iy ax) (ae ax (ae ax aj))))) (aT (bK e) (bS e) (hr.mono (by decide)) (ae (ao.nm 0) (ae ax aj)) (ao.d 1) (ao.g 1)))))
  (av (aS dW.nd (ao.l 7) (aT (bK e) (bS e) (hr.mono (by decide)) (ae (ao.nm 0) (ae (aR cR (c6 fh (ae (ao.nm 1) aj) B.fi rfl eg (ao.d 0) (ao.g 0)) ax) aj)) (ao.d 1) (ao.g 1)))
  (aI (gc (dJ zM (cC _) (c6 fh (ae (ao.nm 1) aj) B.fi rfl eg (ao.d 0) (ao.g 0)) ax) (aI (bh (iw (ae (aR cR (aR cR (fI (ao.nm 1) fK (fH (ao.nm 7))) (iw (ae (ao.nm 5) aj))) (fI (ao.nm 1) (fH (ao.nm 7)) fK)) (ae (aR cR (aR cR (fI (ao.nm 2) fK (fH (ao.nm 7))) (iw (ae (ao.nm 6) aj))) (fI (ao.nm 2) (fH (ao.nm 7)) fK)) aj))))) ff)))))) ff)
  (av (aS dW.nd (ao.l 8) (aR cR ax (aT (bK e) (bS e) (hr.mono (by decide)) (ae (ao.nm 0) (ae ax aj)) (ao.d 1) (ao.g 1))))
  (av (aS dW.nd (ao.l 9) (eF eO (ae (dH (Nc:=["_law_number_here","_law_many"]) (bz.look (ai eK) ["_law_hand_here","_law_rows","_law_due","_law_place","_law_weights","_law_more","_law_number_here","_law_at","_law_many","_law_row"] (by decide+kernel)) (fD (aQ (ao.nm 1) (ao.nm 3))) (fun _ _ _ _=>(dj (show(["_law_number_here","_law_many"]:List Str).Nodup by decide+kernel) (by first|exact Or.inl rfl|exact Or.inr rfl) (by first|exact .inl rfl|exact .inr rfl))) (fun _ _ _ _=>cB) (fun _ _ _ _=>(aR de cO cO)) cq) aj) B.dA rfl cX (ao.d 4) (ao.g 4)))
  (av (aS dW.nd (ao.l 6) (aR cR (aR cR (aR de (ao.nm 8) (aQ (ao.nm 2) (ao.nm 3))) ax) (aT (bK e) (bS e) (hr.mono (by decide)) (ae (ao.nm 0) (ae (aR ke (ao.nm 8) ax) aj)) (ao.d 1) (ao.g 1))))
  (aI (bh (iw (ae (aR cR (aR cR (fI (ao.nm 1) fK (fH (ao.nm 3))) (iw (ae (ao.nm 9) aj))) (fI (ao.nm 1) (fH (aR cR (ao.nm 3) ax)) fK)) (ae (aR cR (aR cR (fI (ao.nm 2) fK (fH (ao.nm 3))) (iw (ae (ao.nm 6) aj))) (fI (ao.nm 2) (fH (aR cR (ao.nm 3) ax)) fK)) aj))))))))))) xF
theorem qK:b_ (KX w.params) mg "_law_is_part" "_law_is_part" dv ["_law_found"] 350 (Hd.fd dv "_law_is_part" "_law_is_part" dy 349):=Hd.oE e.X e.G (by kernel_rfl) fun _ _ _ _ _ _ _=>rfl
theorem xC:bE PW w (KX w.params) mg base cL 2 350 (Hd.fd dv "_law_is_part" "_law_is_part" dy 349) ["_law_found"] (cQ mK):=by
 have B:=Bt e;have Q:=Qt e
 exact cf (N:=jx) (qK e).fn kU (fun cdv A outer s H E hr=>(av (gc (x4 (oP (mr (kr (c6 uZ (ae (a8.nm 0) (ae (yq B.dA rfl cX (a8.d 0) (a8.g 0)) aj)) B.iO rfl g_ (a8.d 1) (a8.g 1)))) (oP (dJ wj (cC _) (c6 fh (ae (a8.nm 0) aj) B.fi rfl eg (a8.d 2) (a8.g 2)) ax) (oP (mr (kr (aT (o5 e) (tH e) (hr.mono (by decide)) (ae (aQ (a8.nm 0) ax) aj) (a8.d 3) (a8.g 3)))) (uY (mr (kr (aT (o5 e) (tH e) (hr.mono (by decide)) (ae (aQ (a8.nm 0) ax) aj) (a8.d 3) (a8.g 3))))))))) (aI (bh vO)) ff)
  (av (Dj kU.nd (by decide) (show(ai dv).names.lookup ("_law_one":Str)=some .local by decide+kernel) (show(ai dv).names.lookup ("_law_other":Str)=some .local by decide+kernel) (ae (c6 sy (ae (aQ (a8.nm 0) ax) aj) B.su rfl p7 (a8.d 4) (a8.g 4)) (ae (aQ (a8.nm 0) ax) aj)))
  (av (qd (dJ yS (cC _) (a8.nm 2) ax) (aI (Dj kU.nd (by decide) (show(ai dv).names.lookup ("_law_one":Str)=some .local by decide+kernel) (show(ai dv).names.lookup ("_law_other":Str)=some .local by decide+kernel) (ae (a8.nm 2) (ae (aR kK (a8.nm 1) (a8.nm 2)) aj)))))
  (aI (bh (BG (m6 yS (cC _) (aQ (a8.nm 0) ax) ax) (Bp (m6 (nI hr) (cC _) (a8.nm 1) ax))))))))) vQ
theorem jN:b_ (KX w.params) mg "_law_sums_whole" "_law_sums_whole" dY ["_law_parts","_law_numbers"] 355 (Hd.fd dY "_law_sums_whole" "_law_sums_whole" dy 354):=Hd.ki e.X e.G (by kernel_rfl) fun _ _ _ _ _ _ _ _=>rfl
theorem nW:bE PW w (KX w.params) mg base cL 1 355 (Hd.fd dY "_law_sums_whole" "_law_sums_whole" dy 354) ["_law_parts","_law_numbers"] (cQ gR):=by
 have B:=Bt e;have Q:=Qt e
 exact cf (N:=g5) (jN e).fn eP (fun cdv A outer s H E hr=>(av (aS eP.nd (cH.l 2) ax)
  (av (g9 (fD (cH.nm 0)) (oB rfl eP.nd (by first|exact Or.inl rfl|exact Or.inr rfl) (by first|exact .inl rfl|exact .inr rfl) (by first|exact Or.inl rfl|exact Or.inr rfl) (by first|exact .inl rfl|exact .inr rfl)) (aI (aS eP.nd (cH.l 2) (aR de (cH.nm 2) (cH.nm 4)))))
  (aI (bh (m6 (nI hr) (cC _) (aR kK (c6 (Gr rfl) (ae (dH (Nc:=["_law_top","_law_under","_law_number_here","_law_bottom"]) (bz.look (ai dY) ["_law_parts","_law_numbers","_law_bottom","_law_top","_law_under"] (by decide+kernel)) (u6 (cH.g 0) B.vw (ae (cH.nm 0) (ae (cH.nm 1) aj))) (fun _ _ _ _=>(Mo rfl (show(["_law_top","_law_under","_law_number_here","_law_bottom"]:List Str).Nodup by decide+kernel) (by first|exact Or.inl rfl|exact Or.inr rfl) (by first|exact .inl rfl|exact .inr rfl) (by first|exact Or.inl rfl|exact Or.inr rfl) (by first|exact .inl rfl|exact .inr rfl) (by first|exact Or.inl rfl|exact Or.inr rfl) (by first|exact .inl rfl|exact .inr rfl))) (fun _ _ _ _=>cB) (fun _ _ _ _=>(aR de (aR de cO (aR (IM hr rfl eP.gen eP.co) cO cO)) cO)) FO) aj) B.GL rfl Dg (cH.d 1) (cH.g 1)) (cH.nm 2)) ax)))))) tj
theorem M5:b_ (KX w.params) mg "law" "law" kM ["_law_script"] 360 (Hd.fd kM "law" "law" dy 359):=Hd.oE e.X e.G (by kernel_rfl) fun _ _ _ _ _ _ _=>rfl
theorem Ny:bE PW w (KX w.params) mg base cL 7 360 (Hd.fd kM "law" "law" dy 359) ["_law_script"] (cQ F6):=by
 have B:=Bt e;have Q:=Qt e
 exact cf (N:=xX) (M5 e).fn om (fun cdv A outer s H E hr=>(av (aS om.nd (a9.l 1) (aT (uM e) (BJ e) (hr.mono (by decide)) (ae (a9.nm 0) aj) (a9.d 0) (a9.g 0)))
  (av (vp (aT (ow e) (vx e) (hr.mono (by decide)) (ae (a9.nm 1) aj) (a9.d 1) (a9.g 1)) (Gx rfl om.nd (by first|exact Or.inl rfl|exact Or.inr rfl) (by first|exact .inl rfl|exact .inr rfl) (by first|exact Or.inl rfl|exact Or.inr rfl) (by first|exact .inl rfl|exact .inr rfl) (by first|exact Or.inl rfl|exact Or.inr rfl) (by first|exact .inl rfl|exact .inr rfl)))
  (av (aS om.nd (a9.l 5) (eF eO (ae (dH (Nc:=["_law_row","_law_answer"]) (bz.look (ai kM) ["_law_script","_law_hand_here","_law_rows","_law_answer","_law_free","_law_due","_law_found","_law_parts"] (by decide+kernel)) (fD (a9.nm 2)) (fun _ _ _ _=>(dj (show(["_law_row","_law_answer"]:List Str).Nodup by decide+kernel) (by first|exact Or.inl rfl|exact Or.inr rfl) (by first|exact .inl rfl|exact .inr rfl))) (fun _ _ _ _=>cB) (fun _ _ _ _=>(aT (jO e) (mh e) (hr.mono (by decide)) (ae cO (ae cO aj)) (by decide+kernel) rfl)) cq) aj) B.dA rfl cX (a9.d 2) (a9.g 2)))
  (av (vp (aT (r_ e) (z8 e) (hr.mono (by decide)) (ae (a9.nm 1) (ae (a9.nm 2) (ae (a9.nm 5) aj))) (a9.d 3) (a9.g 3)) (oB rfl om.nd (by first|exact Or.inl rfl|exact Or.inr rfl) (by first|exact .inl rfl|exact .inr rfl) (by first|exact Or.inl rfl|exact Or.inr rfl) (by first|exact .inl rfl|exact .inr rfl)))
  (av (aS om.nd (a9.l 6) (aT (rf e) (wU e) (hr.mono (by decide)) (ae (a9.nm 2) (ae (a9.nm 5) aj)) (a9.d 4) (a9.g 4)))
  (av (gc (x4 (oP (mr (kr (c6 uZ (ae (a9.nm 6) (ae (yq B.dA rfl cX (a9.d 2) (a9.g 2)) aj)) B.iO rfl g_ (a9.d 5) (a9.g 5)))) (oP (dJ wj (cC _) (c6 fh (ae (a9.nm 6) aj) B.fi rfl eg (a9.d 6) (a9.g 6)) ax) (oP (dJ (MO hr) (cC _) (aQ (a9.nm 6) ax) Gi) (uY (mr (kr (c6 uZ (ae (aQ (a9.nm 6) ax) (ae (yq B.dA rfl cX (a9.d 2) (a9.g 2)) aj)) B.iO rfl g_ (a9.d 5) (a9.g 5))))))))) (aI (bh vO)) ff)
  (av (aS om.nd (a9.l 7) (aQ (a9.nm 6) ax))
  (av (gc (x4 (oP (dJ wj (cC _) (c6 fh (ae (a9.nm 7) aj) B.fi rfl eg (a9.d 6) (a9.g 6)) (c6 fh (ae (a9.nm 2) aj) B.fi rfl eg (a9.d 6) (a9.g 6))) (uY (mr (kr (c6 (G7 rfl) (ae (dH (Nc:=["_law_one"]) (bz.look (ai kM) ["_law_script","_law_hand_here","_law_rows","_law_answer","_law_free","_law_due","_law_found","_law_parts"] (by decide+kernel)) (fD (a9.nm 7)) (fun _ _ _ _=>(dj (show(["_law_one"]:List Str).Nodup by decide+kernel) (by first|exact Or.inl rfl|exact Or.inr rfl) (by first|exact .inl rfl|exact .inr rfl))) (fun _ _ _ _=>cB) (fun _ _ _ _=>(aT (qK e) (xC e) (hr.mono (by decide)) (ae cO aj) (by decide+kernel) rfl)) cq) aj) B.Gm rfl Ex (a9.d 7) (a9.g 7))))))) (aI (bh vO)) ff)
  (av (gc (mr (kr (c6 (G7 rfl) (ae (dH (Nc:=["_law_column","_law_parts"]) (bz.look (ai kM) ["_law_script","_law_hand_here","_law_rows","_law_answer","_law_free","_law_due","_law_found","_law_parts"] (by decide+kernel)) (fD (aT (mW e) (p9 e) (hr.mono (by decide)) (ae (a9.nm 2) aj) (a9.d 8) (a9.g 8))) (fun _ _ _ _=>(dj (show(["_law_column","_law_parts"]:List Str).Nodup by decide+kernel) (by first|exact Or.inl rfl|exact Or.inr rfl) (by first|exact .inl rfl|exact .inr rfl))) (fun _ _ _ _=>cB) (fun _ _ _ _=>(aT (jN e) (nW e) (hr.mono (by decide)) (ae cO (ae cO aj)) (by decide+kernel) rfl)) cq) aj) B.Gm rfl Ex (a9.d 7) (a9.g 7)))) (aI (bh vO)) ff)
  (aI (bh (BG (Gu (aT (jN e) (nW e) (hr.mono (by decide)) (ae (a9.nm 7) (ae (a9.nm 5) aj)) (a9.d 9) (a9.g 9))) (Bp (m6 (nI hr) (cC _) (aT (rf e) (wU e) (hr.mono (by decide)) (ae (eF pQ (ae (a9.nm 2) aj) B.my rfl jS (a9.d 10) (a9.g 10)) (ae (eF pQ (ae (a9.nm 5) aj) B.my rfl jS (a9.d 10) (a9.g 10)) aj)) (a9.d 4) (a9.g 4)) (a9.nm 6)))))))))))))))) JR
end
def dL:DefRec:=match kM with
 | .FunctionDef n a b _ _ _ sc _ _ pos=>⟨n,a,b,sc,pos⟩
 |_=>⟨"",L2.j0 (.Pass ⟨0,0,0,0⟩),[],L2.ai (.Pass ⟨0,0,0,0⟩),⟨0,0,0,0⟩⟩
theorem FI:PySem.Challenge.rw_latticeworks_k52_no_answers.wellSaid=true:=by decide+kernel
end Row
open PySem PySem.W PyProof.Rows
set_option maxRecDepth 100000 in
set_option maxHeartbeats 0 in
theorem PySem.Challenge.cw_latticeworks_k52_no_answers_holds : PySem.Challenge.rw_latticeworks_k52_no_answers.Holds := by
 refine PySem.W.holds_law Row.FI fun FI=>?_;refine PySem.W.holds_open (r:=PySem.Challenge.rw_latticeworks_k52_no_answers.row) (q:=PySem.W.view Row.PW [1,2,3,4,5,6,7,9,10,11,12,13,14,15,17,18,19,20,21,22,23,24,26,27,28,30,31,33,34,35,36,37,38,39,40,41,42,43,44,45,46,47,48,49,50,51,52,53]) (loose:=[]) (Xt:=fun _=>true) (XP:=fun _ _=>True) (YP:=(PySem.W.kmHook Row.KX Row.KA (fun _=>rfl) [161]).says) (d:=Row.dL) (kwd:=[]) Row.left ((PySem.W.kmHook Row.KX Row.KA (fun _=>rfl) [161]).of) ((PySem.W.kmHook Row.KX Row.KA (fun _=>rfl) [161]).keeps) (fun _ _=>trivial) (fun _ _ _ _ _=>trivial) (by kernel_rfl) (by kernel_rfl) (by kernel_rfl) (fun s _=>PySem.W.recFacts_of (R:=[]) rfl) (by kernel_rfl) FI (by decide+kernel) ⟨rfl,rfl,rfl,rfl,rfl,by decide+kernel⟩ ?hw ?hc;case hw=>w_witness2
 refine L2.Mw (n:=63) (k:=7) (x:="_law_script") (ts:=[(163,161)]) (K:=Row.KX) (sp:=fun w=>L3.ED (Row.KX w.params) [(163,161)]) rfl (by decide) (by kernel_rfl) ⟨rfl,by decide,by decide⟩ (by kernel_rfl) rfl (fun w h Y=>⟨PySem.W.km_in_of Y,⟨(fun q hq=>by rcases List.mem_cons.mp hq with rfl|hq;kernel_rfl;cases hq),(fun q hq=>by rcases List.mem_cons.mp hq with rfl|hq;kernel_rfl;cases hq),fun q hq=>PySem.W.km_tabs_of Y _ (List.mem_map_of_mem (f:=Prod.snd) hq)⟩⟩) ?F fun _ _ a ns hl hE=>⟨a,ns,rfl,hE,hl,fun _=>rfl⟩
 intro w mg fa h X G hmg;have e2:=hmg.symm.trans (PySem.W.mg_of (v:= .ref 360) X G (by kernel_rfl));cases e2;exact⟨Hd.fd Row.kM "law" "law" Row.dy 359,fun s v=> .of_eq rfl,fun base _ _=>(Row.Ny ⟨X,G⟩).imp fun vs H Q E h=>L3.Dm (tl:=[(161,⟨82,32,82,66⟩,"Bench.live_rows.<locals>.<lambda>")]) (by kernel_rfl) rfl (by decide) h⟩
