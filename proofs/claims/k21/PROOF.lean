import PyProof.Rows.All
import Wide.All
import OpenK.AllK
import Wide.FinOn
import Lean
import PyProof.EqAt
import PyProof.EqKinds
import PyProof.TupleCall
import PyProof.NeKinds
import KE.KUnpack
import PySem.Challenge.RW_latticeworks_k21_numbers_with_turns
set_option Elab.async false
set_option linter.all false
set_option maxRecDepth 100000
namespace L2
open PySem PySem.Spec PyProof.Rows
abbrev Key:=Sum Int Str
def F1:Key->Value->Bool
 | .inl k,v=>Value.isInt k v
 | .inr x,v=>Value.isStrOf x v
def Nb(w:World):Key->Int
 | .inl k=>hashInt k
 | .inr x=>hashStr w x
theorem fv:∀ {k:Key} {v:Value},F1 k v=true->(∃i t,k=Sum.inl i/\v=Value.int i t)\/(∃x t,k=Sum.inr x/\v=Value.str x t)
 | .inl i,v,h=>by
   obtain⟨t,e⟩:=Value.isInt_shape (k:=i) (v:=v) h;exact .inl ⟨i,t,rfl,e⟩
 | .inr x,v,h=>by
   obtain⟨t,e⟩:=Value.isStrOf_shape (x:=x) (v:=v) h;exact .inr ⟨x,t,rfl,e⟩
theorem Iu(a b:Int):decide ((Sum.inl a:Key)=Sum.inl b)=(a==b):=by
 by_cases e:a=b
 . subst e;simp
 . have h:¬(Sum.inl a:Key)=Sum.inl b:=fun q=>e (Sum.inl.inj q);rw[decide_eq_false h];exact(beq_eq_false_iff_ne.mpr e).symm
theorem Jd(a b:Str):decide ((Sum.inr a:Key)=Sum.inr b)=decide (a=b):=by
 by_cases e:a=b
 . subst e;simp
 . have h:¬(Sum.inr a:Key)=Sum.inr b:=fun q=>e (Sum.inr.inj q);rw[decide_eq_false h,decide_eq_false e]
theorem Iq(a:Int)(b:Str):decide ((Sum.inl a:Key)=Sum.inr b)=false:=decide_eq_false (fun q=>nomatch q)
theorem JL(a:Str)(b:Int):decide ((Sum.inr a:Key)=Sum.inl b)=false:=decide_eq_false (fun q=>nomatch q)
def zU(prog:Program)(w:World):PySem.KeyKind prog w Key where
 is:=F1
 hash:=Nb w
 inj:=fun v a b ha hb=>by
  rcases fv ha with⟨i,t,rfl,rfl⟩|⟨x,t,rfl,rfl⟩
  . rcases fv hb with⟨j,u,rfl,e⟩|⟨y,u,rfl,e⟩
    . injection e with e1 _;rw[e1]
    . exact nomatch e
  . rcases fv hb with⟨j,u,rfl,e⟩|⟨y,u,rfl,e⟩
    . exact nomatch e
    . injection e with e1 _;rw[e1]
 byValue:=fun k v h=>by
  rcases fv h with⟨i,t,rfl,rfl⟩|⟨x,t,rfl,rfl⟩<;>rfl
 pyHash:=fun hv h=>by
  rcases fv hv with⟨i,t,rfl,rfl⟩|⟨x,t,rfl,rfl⟩
  . exact wpAny_pyHash_int h
  . exact wpAny_pyHash_str h
 eqBool:=fun hu hv h=>by
  rcases fv hu with⟨i,t,rfl,rfl⟩|⟨x,t,rfl,rfl⟩
  . rcases fv hv with⟨j,u,rfl,rfl⟩|⟨y,u,rfl,rfl⟩
    . rw[Iu]at h;exact wpAny_eqBool_int h
    . rw[Iq]at h;exact SeqAt.EqAt.int_str i t y u _ _ _ _ h
  . rcases fv hv with⟨j,u,rfl,rfl⟩|⟨y,u,rfl,rfl⟩
    . rw[JL]at h;exact SeqAt.EqAt.str_int x t j u _ _ _ _ h
    . rw[Jd]at h;exact wpAny_eqBool_str h
 «strs» :=fun k x t v h=>by
  rcases fv h with⟨i,u,rfl,e⟩|⟨y,u,rfl,e⟩
  . exact nomatch e
  . injection e with e1 _;subst e1;cases v<;>rfl
inductive V where
 |aI|bl (b:Bool)|int (i:Int)|str (x:Str)|tQ (b:Array UInt8)|tT (b:UInt64)|ref (a:Addr)|ty (n:String)
 deriving DecidableEq
def RelV:V->Value->Prop
 | .aI,u=>u=Value.none
 | .bl b,u=>u=Value.bool b
 | .int i,u=>∃t,u=Value.int i t
 | .str x,u=>∃t,u=Value.str x t
 | .tQ b,u=>∃t,u=Value.bytes b t
 | .tT b,u=>∃t,u=Value.float b t
 | .ref a,u=>u=Value.ref a
 | .ty n,u=>u=Value.type n
abbrev Vals:List V->List Value->Prop:=Paired RelV
theorem Vals.length{xs:List V}{us:List Value}(r:Vals xs us):xs.length=us.length:=Paired.length r
theorem Vals.get:∀ {xs:List V} {us:List Value} {i:Nat} {x:V},Vals xs us->xs[i]?=some x->∃u,us[i]?=some u/\RelV x u
 |_,_,_,_,.nil,e=>by simp at e
 |_,_,0,_,.cons r _,e=>by simp at e;subst e;exact⟨_,rfl,r⟩
 |_,_,i+1,x,.cons _ t,e=>by
  obtain⟨u,h1,h2⟩:=Vals.get (i:=i) (x:=x) t (by simpa using e);exact⟨u,by simpa using h1,h2⟩
theorem Vals.set{x:V}{u:Value}(r:RelV x u):∀ {xs:List V} {us:List Value} (i:Nat),Vals xs us->Vals (xs.set i x) (us.set i u)
 |_,_,_,.nil=> .nil
 |_,_,0,.cons _ t=> .cons r t
 |_,_,i+1,.cons q t=> .cons q (Vals.set r i t)
theorem Vals.append:∀ {xs ys:List V} {us ws:List Value},Vals xs us->Vals ys ws->Vals (xs++ys) (us++ws)
 |_,_,_,_,.nil,s=>s
 |_,_,_,_,.cons r t,s=> .cons r (Vals.append t s)
theorem Vals.take:∀ {xs:List V} {us:List Value} (n:Nat),Vals xs us->Vals (xs.take n) (us.take n)
 |_,_,0,_=> .nil
 |_,_,_+1,.nil=> .nil
 |_,_,n+1,.cons r t=> .cons r (Vals.take n t)
theorem Vals.drop:∀ {xs:List V} {us:List Value} (n:Nat),Vals xs us->Vals (xs.drop n) (us.drop n)
 |_,_,0,r=>r
 |_,_,_+1,.nil=> .nil
 |_,_,n+1,.cons _ t=>Vals.drop n t
def o9:Option V->Option Value->Prop
 |some v,some u=>RelV v u
 |none,none=>True
 |_,_=>False
def KV{κ:Type}:List (κ×V)->List (κ×Value)->Prop:=Paired fun(p:κ×V) (q:κ×Value)=>p.1=q.1/\RelV p.2 q.2
def kV:Key->V
 | .inl i=> .int i
 | .inr x=> .str x
inductive HO where
 |lst (xs:List V)
 |tup (xs:List V)
 |dK (kvs:List (Key×V))|dT (kvs:List (List Key×V))
 |set (S:Int->Bool) (n:Nat)
 |ins (C dx:Addr) (fs:List (Str×V))
 |own (x:Addr)
 |xd (fs:List (Str×V))
 |met (f x:Addr)
 |J5 (lo hi:Int)
 |g9 (o:Obj) (u:HO)
 |kJ (ps:Array Value)
 |ext (φ:Heap->Prop)
abbrev Hp:=Addr->Option HO
def upd(H:Hp)(a:Addr)(o:HO):Hp:=fun b=>if b=a then some o else H b
theorem aU{H:Hp}{a:Addr}{o:HO}:upd H a o a=some o:=by unfold upd;rw[if_pos rfl]
theorem ax{H:Hp}{a b:Addr}{o:HO}(h:b≠a):upd H a o b=H b:=by unfold upd;rw[if_neg h]
theorem Hx{H:Hp}{a:Addr}{o u:HO}:upd (upd H a o) a u=upd H a u:=by
 funext b;unfold upd;split<;>rfl
theorem dH{H:Hp}{a b:Addr}{o:HO}(h:H a=some o)(h':H b=none):a≠b:=by
 intro e;subst e;rw[h]at h';cases h'
section
variable (P:Program)(w:World)
def dP(H:Hp)(h:Heap)(a:Addr):HO->Prop
 | .lst xs=>xs.length<=sizeLine/\∃(its:List Value) (n:Nat),Vals xs its/\h.get? a=some {cls:= .type "list",data:= .seq its.toArray n}
 | .tup xs=>xs.length<=sizeLine/\∃its:List Value,Vals xs its/\IsTup h a its.toArray
 | .dK kvs=>kvs.length<=sizeLine/\(a==sysModules)=false/\∃vs,KV kvs vs/\h.DictOf (zU P w) a vs
 | .dT kvs=>kvs.length<=sizeLine/\(a==sysModules)=false/\∃xs:List (List Key×Addr×Value),
    Paired (fun(p:List Key×V) (q:List Key×Addr×Value)=>p.1=q.1/\H q.2.1=some (.tup (p.1.map kV))/\RelV p.2 q.2.2) kvs xs/\
    ∃o es ep,h.get? a=some o/\o.ExactDict/\o.data= .dict es ep/\es.toList=xs.map (entryOfKey (tupleKind (zU P w)))/\(xs.map (·.1)).Nodup
 | .set S n=>h.SetOf (intKind P w) a S n
 | .ins C dx fs=>H dx=some (.own a)/\fs.length<=1000/\dx≠a/\h.get? a=some (PySem.W.instObj C dx)/\
    ∃mA,h.Ns1 dx mA/\(∀f,o9 (fs.lookup f) (mA f))/\PySem.Within mA (fs.map (·.1))
 | .own _=>∃o,h.get? a=some o
 | .xd fs=>∃mA,h.Ns1 a mA/\∀f,o9 (fs.lookup f) (mA f)
 | .J5 lo hi=>∃t u v,h.get? a=some {cls:= .type "range",data:= .fields #[.int lo t,.int hi u,.int 1 v]}
 | .g9 o u=>h.get? a=some o/\dP H h a u
 | .kJ ps=>h.get? a=some {cls:= .none,data:= .fields ps}
 | .met f x=>h.get? a=some (PySem.W.methodObj (.ref f) (.ref x))
 | .ext φ=>φ h/\(∃o,h.get? a=some o)/\∀h1 h2:Heap,φ h1->(∀o,h1.get? a=some o->h2.get? a=some o)->φ h2
def iW(H:Hp)(h:Heap):Prop:=∀a o,H a=some o->dP P w H h a o
end
section
variable {P:Program}{w:World}{H H':Hp}{h h':Heap}{a:Addr}{o:HO}
theorem dP.lt(x:dP P w H h a o):a<h.objs.size:=by
 cases o with
 |lst xs=>obtain⟨_,_,_,_,e⟩:=x;exact Heap.lt_size e
 |tup xs=>obtain⟨_,_,_,p⟩:=x;exact p.lt
 |dK kvs=>obtain⟨_,_,_,_,o,_,_,e,_⟩:=x;exact Heap.lt_size e
 |dT kvs=>obtain⟨_,_,_,_,o,_,_,e,_⟩:=x;exact Heap.lt_size e
 |set S n=>obtain⟨o,_,_,_,e,_⟩:=x;exact Heap.lt_size e
 |ins C dx fs=>obtain⟨_,_,_,e,_⟩:=x;exact Heap.lt_size e
 |own y=>obtain⟨_,e⟩:=x;exact Heap.lt_size e
 |xd fs=>obtain⟨_,⟨_,_,_,e,_⟩,_⟩:=x;exact Heap.lt_size e
 |J5 lo hi=>obtain⟨_,_,_,e⟩:=x;exact Heap.lt_size e
 |g9 ob u=>obtain⟨e,_⟩:=x;exact Heap.lt_size e
 |kJ ps=>exact Heap.lt_size (show h.get? a=some _ from x)
 |met f y=>exact Heap.lt_size (show h.get? a=some _ from x)
 |ext φ=>obtain⟨_,⟨_,e⟩,_⟩:=x;exact Heap.lt_size e
theorem Paired.D7{α β:Type}{F G:α->β->Prop}:∀ {l₁:List α} {l₂:List β},Paired F l₁ l₂->(∀a b,F a b->G a b)->Paired G l₁ l₂
 |_,_,.nil,_=> .nil
 |_,_,.cons r t,f=> .cons (f _ _ r) (Paired.D7 t f)
theorem dP.pq(x:dP P w H h a o)(k:∀b u,(b=a\/H b=some (.own a))->h.get? b=some u->h'.get? b=some u)
 (ho:∀b,H b=some (.own a)->H' b=some (.own a)) (ht:∀b xs,H b=some (.tup xs)->H' b=some (.tup xs)):dP P w H' h' a o:=by
 induction o with
 |lst xs=>obtain⟨z,its,n,r,e⟩:=x;exact⟨z,its,n,r,k _ _ (.inl rfl) e⟩
 |tup xs=>obtain⟨z,its,r,ob,e,c⟩:=x;exact⟨z,its,r,ob,k _ _ (.inl rfl) e,c⟩
 |dK kvs=>obtain⟨z,y,vs,r,ob,es,ep,e,c⟩:=x;exact⟨z,y,vs,r,ob,es,ep,k _ _ (.inl rfl) e,c⟩
 |dT kvs=>
  obtain⟨z,y,xs,r,ob,es,ep,e,c⟩:=x;exact⟨z,y,xs,Paired.D7 r fun p q z=>⟨z.1,ht _ _ z.2.1,z.2.2⟩,ob,es,ep,k _ _ (.inl rfl) e,c⟩
 |set S n=>obtain⟨ob,es,ep,t,e,c⟩:=x;exact⟨ob,es,ep,t,k _ _ (.inl rfl) e,c⟩
 |ins C dx fs=>
  obtain⟨d,z,ne,e,mA,⟨od,es,ep,e2,c⟩,r⟩:=x;exact⟨ho _ d,z,ne,k _ _ (.inl rfl) e,mA,⟨od,es,ep,k _ _ (.inr d) e2,c⟩,r⟩
 |own y=>obtain⟨ob,e⟩:=x;exact⟨ob,k _ _ (.inl rfl) e⟩
 |xd fs=>obtain⟨mA,⟨od,es,ep,e,c⟩,r⟩:=x;exact⟨mA,⟨od,es,ep,k _ _ (.inl rfl) e,c⟩,r⟩
 |J5 lo hi=>obtain⟨t,u,v,e⟩:=x;exact⟨t,u,v,k _ _ (.inl rfl) e⟩
 |g9 ob u ih=>obtain⟨e,q⟩:=x;exact⟨k _ _ (.inl rfl) e,ih q⟩
 |kJ ps=>
  have e:h.get? a=some {cls:= .none,data:= .fields ps}:=x;show h'.get? a=some {cls:= .none,data:= .fields ps};exact k a _ (.inl rfl) e
 |met f y=>
  have e:h.get? a=some (PySem.W.methodObj (.ref f) (.ref y)):=x;show h'.get? a=some (PySem.W.methodObj (.ref f) (.ref y));exact k a _ (.inl rfl) e
 |ext φ=>obtain⟨p,⟨o,e⟩,st⟩:=x;exact⟨st _ _ p fun o q=>k _ _ (.inl rfl) q,⟨o,k _ _ (.inl rfl) e⟩,st⟩
theorem iW.lt(x:iW P w H h)(e:H a=some o):a<h.objs.size:=(x a o e).lt
theorem iW.fresh(x:iW P w H h)(e:h.objs.size<=a):H a=none:=by
 cases q:H a with
 |none=>rfl
 |some u=>exact absurd (Nat.lt_of_lt_of_le (x.lt q) e) (Nat.lt_irrefl _)
theorem iW.kept(x:iW P w H h)(k:∀b u,h.get? b=some u->h'.get? b=some u):iW P w H h':=fun a o e=>
 (x a o e).pq (fun b u _ q=>k b u q) (fun _ q=>q) fun _ _ q=>q
theorem iW.laid(x:iW P w H h)(k:∀b u,h.get? b=some u->h'.get? b=some u)(hp:h.objs.size<=a)(new:dP P w (upd H a o) h' a o):iW P w (upd H a o) h':=fun b u e=>by
 have hn:=x.fresh hp;by_cases hb:b=a
 . subst hb;rw[aU]at e;cases e;exact new
 . rw[ax hb]at e;exact(x b u e).pq (fun c v _ q=>k c v q) (fun c q=>by rw[ax (dH q hn)];exact q) fun c xs q=>by rw[ax (dH q hn)];exact q
end
def Rd(H:Hp)(a:Addr)(u:HO):Prop:=H a=some u\/∃o,H a=some (.g9 o u)
theorem Rd.of{H:Hp}{a:Addr}{u:HO}(h:H a=some u):Rd H a u:= .inl h
theorem Rd.ok{P:Program}{w:World}{H:Hp}{h:Heap}{a:Addr}{u:HO}(r:Rd H a u)(x:iW P w H h):dP P w H h a u:=by
 rcases r with r|⟨o,r⟩
 . exact x a u r
 . obtain⟨_,q⟩:=x a _ r;exact q
def Ga:Option HO->Prop
 |some (.lst _)=>True
 |some (.dK _)=>True
 |some (.dT _)=>True
 |some (.set _ _)=>True
 |some (.ins _ _ _)=>True
 |some (.ext _)=>True
 |_=>False
section
variable {P:Program}{w:World}{H:Hp}{h h':Heap}{x e:Addr}{o':HO}
theorem iW.write(ok:iW P w H h)(mu:Ga (H x))(he:e=x\/H e=some (.own x))(k:∀b u,b≠e->h.get? b=some u->h'.get? b=some u)(heo:∃u,h'.get? e=some u)
 (new:dP P w (upd H x o') h' x o'):iW P w (upd H x o') h':=fun b u q=>by
 have nown:∀c y,H c=some (.own y)->c≠x:=fun c y r z=>by subst z;rw[r]at mu;exact mu
 have ntup:∀c xs,H c=some (.tup xs)->c≠x:=fun c xs r z=>by subst z;rw[r]at mu;exact mu
 by_cases hb:b=x
 . subst hb;rw[aU]at q;cases q;exact new
 . rw[ax hb]at q;by_cases hbe:b=e
   . have q':H b=some (.own x):=by
      rcases he with z|z
      . exact absurd (hbe.trans z) hb
      . rw[hbe];exact z
     rw[q]at q';cases q';obtain⟨v,hv⟩:=heo;exact⟨v,by rw[hbe];exact hv⟩
   . refine(ok b u q).pq (fun c v hc r=>k c v ?_ r) (fun c r=>by rw[ax (nown c b r)];exact r) fun c xs r=>by rw[ax (ntup c xs r)];exact r
     rcases hc with rfl|hc
     . exact hbe
     . rintro rfl;rcases he with z|z
       . exact nown c b hc z
       . rw[hc]at z;cases z;exact hb rfl
end
structure Un(fs ex:List Addr)(H H':Hp)(h h':Heap):Prop where
 keep:∀b o,h.get? b=some o->H b=none->b∉fs->b∉ex->h'.get? b=some o
 slot:∀b o,h.get? b=some o->H b=none->b∈fs->b∉ex->∃sl,h'.get? b=some {o with slots:=sl}
 free:∀b o,h.get? b=some o->H b=none->b∉ex->H' b=none
 there:∀b o,h.get? b=some o->b∉ex->∃o',h'.get? b=some o'
 o5:∀b xs,H b=some (.tup xs)->H' b=some (.tup xs)
 nW:∀b o u,H b=some (.g9 o u)->H' b=some (.g9 o u)
 oq:∀b ps,H b=some (.kJ ps)->∃more,H' b=some (.kJ (ps++more))
section
variable {fs fs' ex ex':List Addr}{H H1 H2:Hp}{h h1 h2 h':Heap}{a x e:Addr}{o:HO}
theorem Un.any(u:Un fs ex H H1 h h1){b:Addr}{ob:Obj}(q:h.get? b=some ob)(n:H b=none)(hx:b∉ex):∃sl,h1.get? b=some {ob with slots:=sl}:=by
 by_cases hb:b∈fs
 . exact u.slot b ob q n hb hx
 . exact⟨ob.slots,u.keep b ob q n hb hx⟩
theorem Un.kept(k:∀b u,h.get? b=some u->h'.get? b=some u):Un fs ex H H h h':=
 ⟨fun b ob q _ _ _=>k b ob q,fun b ob q _ _ _=>⟨ob.slots,k b ob q⟩,fun _ _ _ n _=>n,fun b ob q _=>⟨ob,k b ob q⟩,fun _ _ q=>q,fun _ _ _ q=>q,fun _ ps q=>⟨#[],by rw[q];simp⟩⟩
theorem Un.refl:Un fs ex H H h h:=Un.kept fun _ _ q=>q
theorem Un.laid(k:∀b u,h.get? b=some u->h'.get? b=some u)(hp:h.objs.size<=a)(hn:H a=none):Un fs ex H (upd H a o) h h' where
 keep:=fun b u q _ _ _=>k b u q
 slot:=fun b u q _ _ _=>⟨u.slots,k b u q⟩
 free:=fun b u q n _=>by rw[ax (Nat.ne_of_lt (Nat.lt_of_lt_of_le (Heap.lt_size q) hp))];exact n
 there:=fun b u q _=>⟨u,k b u q⟩
 o5:=fun b xs q=>by rw[ax (dH q hn)];exact q
 nW:=fun b u xs q=>by rw[ax (dH q hn)];exact q
 oq:=fun b ps q=>⟨#[],by rw[ax (dH q hn),q];simp⟩
theorem Un.write(mu:Ga (H x))(he:e=x\/H e=some (.own x))(k:∀b u,b≠e->h.get? b=some u->h'.get? b=some u)(heo:∃u,h'.get? e=some u):Un fs ex H (upd H x o) h h':=by
 have hx:∀b,H b=none->b≠x:=fun b n z=>by subst z;rw[n]at mu;exact mu
 have hb:∀b,H b=none->b≠e:=fun b n z=>by
  subst z;rcases he with r|r
  . exact hx b n r
  . rw[n]at r;cases r
 have hm:∀b u,H b=some u->¬Ga (some u)->b≠x:=fun b u q nm z=>by subst z;rw[q]at mu;exact nm mu
 refine⟨fun b u q n _ _=>k b u (hb b n) q,fun b u q n _ _=>⟨u.slots,k b u (hb b n) q⟩,fun b u q n _=>by rw[ax (hx b n)];exact n,fun b u q _=>?_,
  fun b xs q=>by rw[ax (hm b _ q fun z=>z)];exact q,fun b u xs q=>by rw[ax (hm b _ q fun z=>z)];exact q,fun b ps q=>⟨#[],by rw[ax (hm b _ q fun z=>z),q];simp⟩⟩
 by_cases hbe:b=e
 . subst hbe;exact heo
 . exact⟨u,k b u hbe q⟩
end
def Gr(h:Heap)(H:Hp):List Addr:=(List.range h.objs.size).filter fun a=>(H a).isSome
def o7(h:Heap)(H:Hp):Heap:=PySem.W.hideAll h (Gr h H)
theorem Cp(h:Heap)(H:Hp):(o7 h H).objs.size=h.objs.size:=PySem.W.hideAll_size _ _
theorem qr{h:Heap}{H:Hp}{b:Addr}{o:Obj}(e:h.get? b=some o)(n:H b=none):(o7 h H).get? b=some o:=
 PySem.W.hideAll_get _ e fun hm=>by
  have q:(H b).isSome=true:=(List.mem_filter.mp hm).2;rw[n]at q;simp at q
theorem Hm{h:Heap}{H:Hp}{b:Addr}{o:Obj}(e:(o7 h H).get? b=some o):h.get? b=some o/\H b=none:=by
 have e':h.get? b=some o:=PySem.W.of_hideAll (Gr h H) e;refine⟨e',?_⟩;cases q:H b with
 |none=>rfl
 |some x=>
  have hm:b∈Gr h H:=List.mem_filter.mpr ⟨List.mem_range.mpr (Heap.lt_size e'),by simp[q]⟩;have z:(o7 h H).get? b=none:=PySem.W.hideAll_none (Gr h H) hm;rw[z]at e;cases e
def GD(g h:Heap)(L:Addr):List (Addr×Obj):=(List.range h.objs.size).filterMap fun a=>if a=L\/(g.get? a).isSome=true then none else(h.get? a).map fun o=>(a,o)
def rest(g h:Heap)(L d:Addr):List (Addr×Obj):=(GD g h L).filter fun p=>decide (p.1≠d)
structure Mod(K:PySem.W.Frag)(mg:Str->Option Value)(base:Heap):Prop where
 CT:K.In base
 glob:base.Ns mainGlobals mg
 blt:∃mb,base.Ns builtinsNs mb/\∀x:Str,x≠"__name__"->mb x=bootBuiltins x
 nolimit:base.NoLimit
 seer:base.NoSeer
 bmain:∃bm ob,mg "__builtins__"=some (.ref bm)/\bm≠builtinsNs/\base.get? bm=some ob/\ob.cls= .type "module"/\ob.dict=some builtinsNs/\ob.data= .plain
structure Cx where
 prog:Program
 w:World
 K:PySem.W.Frag
 mg:Str->Option Value
 base:Heap
 A:Around
 N:List Str
 s₀:Shared
 H₀:Hp
 env:Env
 outer:List Env
 stack:List Env
 ex:List Addr
 fn:Str->Bool
 calm:Bool
 pn:List (Addr×Obj)
 xe:Value->Shared->Prop
def pN(l:List Env):List Addr:=l.filterMap (·.frame)
abbrev Cx.fs(X:Cx):List Addr:=pN X.outer
def ze(sc:Scope)(x:Str):Prop:=sc.names.lookup x=some .local\/sc.names.lookup x=some .cell\/sc.names.lookup x=some .free
def Loc(sc:Scope)(x:Str):Prop:=sc.names.lookup x=some .local\/sc.names.lookup x=some .cell
def Look(env:Env)(h:Heap)(m:Str->Option Value)(x:Str)(u:Value):Prop:=
 (env.kindOf x=some .local/\m x=some u)\/((env.kindOf x=some .cell\/env.kindOf x=some .free)/\∃c,env.cells.lookup x=some c/\h.IsCell c (some u))
structure Cx.Ok(X:Cx):Prop where
 mod:Mod X.K X.mg X.base
 kind:X.env.scope.kind= .function
 glob:X.env.globals=mainGlobals
 blt:X.env.builtins=builtinsNs
 above:X.s₀.heap.objs.size<=X.env.locals
 inj:∀x y c,X.env.cells.lookup x=some c->X.env.cells.lookup y=some c->x=y
 has:∀x,(X.env.kindOf x=some .cell\/X.env.kindOf x=some .free)->∃c,X.env.cells.lookup x=some c
 zx:∀x c,X.fn x=true->X.env.cells.lookup x=some c->X.s₀.heap.objs.size<=c
 hd:X.calm=true->X.A.handled=none
 frames:X.A.frames=some X.stack
 Ae:X.stack=X.outer\/(X.stack=X.env::X.outer/\X.env.frame=some X.env.locals)
 Dm:∀b∈X.ex,b≠X.env.locals/\∀x c,X.env.cells.lookup x=some c->c≠b
 bs:∀b o,X.base.get? b=some o->X.s₀.heap.get? b=some o/\X.H₀ b=none
 rm:X.base.objs.size<=X.s₀.heap.objs.size
 tW:∀b o,X.base.get? b=some o->b∉X.ex
 uw:∀b∈X.ex,b∉X.fs
 lI:X.s₀.heap.FunFrames X.base X.outer
 uS:∀b∈X.fs,X.H₀ b=none
 gt:X.prog.given.tree=none
structure Inv(X:Cx)(pins:List (Addr×Obj))(σ:List (Option V))(H:Hp)(s:Shared):Prop where
 ok:X.Ok
 os:s.os=X.s₀.os
 bare:AllBare s.gens
 base:Un X.fs X.ex X.H₀ H X.s₀.heap s.heap
 loc:∃m,s.heap.Ns X.env.locals m/\∀(i:Nat) (x:Str) (v:V),X.N[i]?=some x->σ[i]?=some (some v)->ze X.env.scope x->∃u,RelV v u/\Look X.env s.heap m x u
 cell:∀x c,X.env.cells.lookup x=some c->∃v,s.heap.IsCell c v
 free:H X.env.locals=none
 je:∀x c,X.env.cells.lookup x=some c->H c=none
 pin:∀p∈X.pn++pins,s.heap.get? p.1=some p.2/\H p.1=none/\p.1≠X.env.locals/\p.1∉X.fs/\∀v,p.2.data≠ .cell v
 aK:iW X.prog X.w H s.heap
 len:σ.length=X.N.length
section
variable {X:Cx}{pins:List (Addr×Obj)}{σ:List (Option V)}{H H':Hp}{s:Shared}{h':Heap}
theorem Cx.Ok.Nv(ok:X.Ok){b:Addr}{o:Obj}(e:X.base.get? b=some o):b∉X.fs:=fun hb=>by
 have:=(ok.lI.mem hb).1;rw[e]at this;cases this
theorem Inv.bs(I:Inv X pins σ H s):∀b o,X.base.get? b=some o->s.heap.get? b=some o/\H b=none:=fun b o e=>
 ⟨I.base.keep b o (I.ok.bs b o e).1 (I.ok.bs b o e).2 (I.ok.Nv e) (I.ok.tW b o e),I.base.free b o (I.ok.bs b o e).1 (I.ok.bs b o e).2 (I.ok.tW b o e)⟩
theorem Inv.bk(I:Inv X pins σ H s):∀b o,X.base.get? b=some o->s.heap.get? b=some o:=fun b o e=>(I.bs b o e).1
theorem Inv.mod(I:Inv X pins σ H s):Mod X.K X.mg X.base:=I.ok.mod
theorem Inv.ib(I:Inv X pins σ H s):X.K.In s.heap:=I.ok.mod.CT.keeps I.bk
theorem Inv.nolimit(I:Inv X pins σ H s):s.heap.NoLimit:=I.ok.mod.nolimit.keeps I.bk
theorem Inv.lt(I:Inv X pins σ H s):X.env.locals<s.heap.objs.size:=let⟨_,hn,_⟩:=I.loc;hn.lt
theorem Inv.sz(I:Inv X pins σ H s):X.s₀.heap.objs.size<=s.heap.objs.size:=Nat.le_trans I.ok.above (Nat.le_of_lt I.lt)
theorem Inv.IX(I:Inv X pins σ H s){a:Addr}(h:s.heap.objs.size<=a):a∉X.fs:=fun hb=>by
 obtain⟨_,o,ho,_⟩:=I.ok.lI.mem hb;exact absurd (Nat.lt_of_lt_of_le (Heap.lt_size ho) (Nat.le_trans I.sz h)) (Nat.lt_irrefl _)
theorem Inv.yN(I:Inv X pins σ H s):∀x c,X.env.cells.lookup x=some c->c≠X.env.locals:=fun x c e z=>by
 obtain⟨v,o,ho,hd⟩:=I.cell x c e;obtain⟨m,⟨o',es,ep,ho',hd',_⟩,_⟩:=I.loc;rw[z,ho']at ho;cases ho;rw[hd']at hd;cases hd
theorem Inv.lI(I:Inv X pins σ H s):s.heap.FunFrames X.base X.outer:=by
 have all:∀(l:List Env),(∀b∈pN l,b∈X.fs)->X.s₀.heap.FunFrames X.base l->s.heap.FunFrames X.base l:=by
  intro l;induction l with
  |nil=>intro _ _;trivial
  |cons env r ih=>
   intro hs hl;obtain⟨hk,⟨L,o,hf,hn,ho,hd⟩,hr⟩:=hl;have hL:L∈X.fs:=hs L (by unfold pN;rw[List.filterMap_cons,hf];exact List.mem_cons_self);obtain⟨sl,e⟩:=I.base.slot L o ho (I.ok.uS L hL) hL fun z=>I.ok.uw L z hL;exact⟨hk,⟨L,_,hf,hn,e,hd⟩,ih (fun b hb=>hs b (by unfold pN;rw[List.filterMap_cons,hf];exact List.mem_cons_of_mem _ hb)) hr⟩
 exact all X.outer (fun _ hb=>hb) I.ok.lI
theorem Inv.stack(I:Inv X pins σ H s):s.heap.FunFrames X.base X.stack:=by
 rcases I.ok.Ae with e|⟨e,hf⟩
 . rw[e];exact I.lI
 . rw[e];obtain⟨m,hn,_⟩:=I.loc;refine .cons (by rw[I.ok.kind];decide) hf hn ?_ I.lI;exact Heap.get?_none_of_le (Nat.le_trans I.ok.rm I.ok.above)
theorem Inv.x5(I:Inv X pins σ H s):∀b∈pN X.stack,b∈X.env.locals::X.fs:=fun b hb=>by
 rcases I.ok.Ae with e|⟨e,hf⟩
 . rw[e]at hb;exact List.mem_cons_of_mem _ hb
 . rw[e]at hb;unfold pN at hb;rw[List.filterMap_cons,hf]at hb;exact hb
theorem Inv.vE(I:Inv X pins σ H s):∀b∈pN X.stack,H b=none:=fun b hb=>by
 rcases List.mem_cons.mp (I.x5 b hb)with e|hb
 . rw[e];exact I.free
 . obtain⟨_,o,ho,_⟩:=I.ok.lI.mem hb;exact I.base.free b o ho (I.ok.uS b hb) fun z=>I.ok.uw b z hb
theorem Inv.step{g':Array GenState}{t':Nat}{d':Drawn}{ch:List Addr}(I:Inv X pins σ H s)
 (hch:∀b∈ch,(b∈X.ex\/X.s₀.heap.objs.size<=b)/\b≠X.env.locals/\(∀x c,X.env.cells.lookup x=some c->c≠b)/\∀p∈X.pn++pins,p.1≠b)
 (keep:∀b o,b≠X.env.locals->b∉X.fs->b∉ch->s.heap.get? b=some o->H b=none->h'.get? b=some o)
 (slot:∀b o,b≠X.env.locals->b∈X.fs->b∉ch->s.heap.get? b=some o->H b=none->∃sl,h'.get? b=some {o with slots:=sl}) (free:∀b o,b∉ch->s.heap.get? b=some o->H b=none->H' b=none)
 (there:∀b o,b∉ch->s.heap.get? b=some o->∃o',h'.get? b=some o')
 (o5:∀b xs,H b=some (.tup xs)->H' b=some (.tup xs)) (nW:∀b o u,H b=some (.g9 o u)->H' b=some (.g9 o u)) (oq:∀b ps,H b=some (.kJ ps)->∃more,H' b=some (.kJ (ps++more)))
 (ns:∀m,s.heap.Ns X.env.locals m->h'.Ns X.env.locals m) (aK:iW X.prog X.w H' h') (hg:AllBare g'):
 Inv X pins σ H' {s with heap:=h',gens:=g',drawn:=d',toks:=t'}:=by
 have neL:∀b o,X.s₀.heap.get? b=some o->b≠X.env.locals:=fun b o e=>Nat.ne_of_lt (Nat.lt_of_lt_of_le (Heap.lt_size e) I.ok.above)
 have neC:∀b o,X.s₀.heap.get? b=some o->b∉X.ex->b∉ch:=fun b o e hx hb=>by
  rcases(hch b hb).1 with z|z
  . exact hx z
  . exact absurd (Nat.lt_of_lt_of_le (Heap.lt_size e) z) (Nat.lt_irrefl _)
 have cellK:∀x c,X.env.cells.lookup x=some c->∀v,s.heap.IsCell c v->h'.IsCell c v:=fun x c e v ⟨o,ho,hd⟩=>by
  have nch:c∉ch:=fun z=>(hch c z).2.2.1 x c e rfl;by_cases hc:c∈X.fs
  . obtain⟨sl,q⟩:=slot c o (I.yN x c e) hc nch ho (I.je x c e);exact⟨_,q,hd⟩
  . exact⟨o,keep c o (I.yN x c e) hc nch ho (I.je x c e),hd⟩
 refine⟨I.ok,I.os,hg,⟨fun b o e n hb hx=>?_,fun b o e n hb hx=>?_,fun b o e n hx=>?_,fun b o e hx=>?_,fun b xs e=>o5 b xs (I.base.o5 b xs e),fun b o xs e=>nW b o xs (I.base.nW b o xs e),fun b ps e=>?_⟩,?_,fun x c e=>?_,?_,fun x c e=>?_,fun p hp=>?_,aK,I.len⟩
 . exact keep b o (neL b o e) hb (neC b o e hx) (I.base.keep b o e n hb hx) (I.base.free b o e n hx)
 . obtain⟨sl,e1⟩:=I.base.slot b o e n hb hx;obtain⟨sl',e2⟩:=slot b _ (neL b o e) hb (neC b o e hx) e1 (I.base.free b o e n hx);exact⟨sl',e2⟩
 . obtain⟨o',e1⟩:=I.base.there b o e hx;exact free b o' (neC b o e hx) e1 (I.base.free b o e n hx)
 . obtain⟨o',e1⟩:=I.base.there b o e hx;exact there b o' (neC b o e hx) e1
 . obtain⟨m1,e1⟩:=I.base.oq b ps e;obtain⟨m2,e2⟩:=oq b _ e1;exact⟨m1++m2,by rw[e2,Array.append_assoc]⟩
 . obtain⟨m,hn,hl⟩:=I.loc;refine⟨m,ns m hn,fun i x v e1 e2 e3=>?_⟩;obtain⟨u,r,l⟩:=hl i x v e1 e2 e3;refine⟨u,r,?_⟩;rcases l with l|⟨k,c,e,z⟩
   . exact .inl l
   . exact .inr ⟨k,c,e,cellK x c e _ z⟩
 . obtain⟨v,z⟩:=I.cell x c e;exact⟨v,cellK x c e v z⟩
 . obtain⟨m,⟨o,_,_,ho,_⟩,_⟩:=I.loc;exact free _ o (fun z=>(hch _ z).2.1 rfl) ho I.free
 . obtain⟨v,o,ho,hd⟩:=I.cell x c e;exact free c o (fun z=>(hch c z).2.2.1 x c e rfl) ho (I.je x c e)
 . obtain⟨e,n,ne,nf,d⟩:=I.pin p hp;have nch:p.1∉ch:=fun z=>(hch p.1 z).2.2.2 p hp rfl;exact⟨keep p.1 p.2 ne nf nch e n,free p.1 p.2 nch e n,ne,nf,d⟩
theorem Inv.un{t':Nat}(I:Inv X pins σ H s)(u:Un X.fs [] H H' s.heap h')(aK:iW X.prog X.w H' h'):Inv X pins σ H' {s with heap:=h',toks:=t'}:=by
 obtain⟨m,⟨o,es,ep,ho,r⟩,_⟩:=id I.loc;obtain⟨sl,hL⟩:=u.any ho I.free (by simp)
 exact I.step (g':=s.gens) (d':=s.drawn) (ch:=[]) (fun _ z=>nomatch z) (fun b o _ hb _ e n=>u.keep b o e n hb (by simp)) (fun b o _ hb _ e n=>u.slot b o e n hb (by simp)) (fun b o _ e n=>u.free b o e n (by simp)) (fun b o _ e=>u.there b o e (by simp)) u.o5 u.nW u.oq (fun m' hm=>by
  obtain⟨o',es',ep',ho',r'⟩:=hm;rw[ho]at ho';cases ho';exact⟨_,es',ep',hL,r'⟩) aK I.bare
theorem Inv.call{g':Array GenState}{t':Nat}{d':Drawn}{ch:List Addr}(I:Inv X pins σ H s)(u:Un (pN X.stack) ch H H' s.heap h')(aK:iW X.prog X.w H' h')(hg:AllBare g')
 (hch:∀b∈ch,(b∈X.ex\/X.s₀.heap.objs.size<=b)/\b≠X.env.locals/\(∀x c,X.env.cells.lookup x=some c->c≠b)/\∀p∈X.pn++pins,p.1≠b):
 Inv X pins σ H' {s with heap:=h',gens:=g',drawn:=d',toks:=t'}:=by
 obtain⟨m,⟨o,es,ep,ho,r⟩,_⟩:=id I.loc;obtain⟨sl,hL⟩:=u.any ho I.free fun z=>(hch _ z).2.1 rfl
 exact I.step (ch:=ch) hch (fun b o hL hb hc e n=>u.keep b o e n (fun z=>(List.mem_cons.mp (I.x5 b z)).elim hL hb) hc) (fun b o _ _ hc e n=>u.any e n hc) (fun b o hc e n=>u.free b o e n hc) (fun b o hc e=>u.there b o e hc) u.o5 u.nW u.oq (fun m' hm=>by
  obtain⟨o',es',ep',ho',r'⟩:=hm;rw[ho]at ho';cases ho';exact⟨_,es',ep',hL,r'⟩) aK hg
theorem Inv.turned{t':Nat}{it:Addr}(I:Inv X pins σ H s)(k:∀b o,b≠it->s.heap.get? b=some o->h'.get? b=some o)(hn:H it=none)(hL:it≠X.env.locals)
 (h1:it∈X.ex\/X.s₀.heap.objs.size<=it) (h2:∀x c,X.env.cells.lookup x=some c->c≠it) (h3:∀p∈X.pn++pins,p.1≠it):Inv X pins σ H {s with heap:=h',toks:=t'}:=by
 have nit:∀b u,H b=some u->b≠it:=fun b u e z=>by rw[z,hn]at e;cases e
 refine I.step (g':=s.gens) (d':=s.drawn) (ch:=[it]) (fun b hb=>?_) (fun b o _ _ hc e _=>k b o (fun z=>hc (by simp[z])) e) (fun b o _ _ hc e _=>⟨o.slots,k b o (fun z=>hc (by simp[z])) e⟩) (fun _ _ _ _ n=>n)
  (fun b o hc e=>⟨o,k b o (fun z=>hc (by simp[z])) e⟩) (fun _ _ e=>e) (fun _ _ _ e=>e) (fun b ps e=>⟨#[],by rw[e];simp⟩) (fun m hm=>?_) (fun b u e=>?_) I.bare
 . have e:b=it:=by simpa using hb
   subst e;exact⟨h1,hL,h2,h3⟩
 . obtain⟨o,es,ep,ho,r⟩:=hm;exact⟨o,es,ep,k _ o (Ne.symm hL) ho,r⟩
 . refine(I.aK b u e).pq (fun c v hc q=>k c v ?_ q) (fun _ q=>q) fun _ _ q=>q;rcases hc with z|z
   . rw[z];exact nit b u e
   . exact nit c _ z
theorem Inv.tok(I:Inv X pins σ H s)(t:Nat):Inv X pins σ H {s with toks:=t}:=I.un (h':=s.heap) (t':=t) Un.refl I.aK
theorem Inv.kept{t':Nat}(I:Inv X pins σ H s)(k:∀b u,s.heap.get? b=some u->h'.get? b=some u):Inv X pins σ H {s with heap:=h',toks:=t'}:=I.un (Un.kept k) (I.aK.kept k)
theorem Inv.laid{a:Addr}{o:HO}{t':Nat}(I:Inv X pins σ H s)(k:∀b u,s.heap.get? b=some u->h'.get? b=some u)(hp:s.heap.objs.size<=a)(new:dP X.prog X.w (upd H a o) h' a o):
 Inv X pins σ (upd H a o) {s with heap:=h',toks:=t'}:=I.un (Un.laid k hp (I.aK.fresh hp)) (I.aK.laid k hp new)
theorem Inv.write{x e:Addr}{o:HO}{t':Nat}(I:Inv X pins σ H s)(mu:Ga (H x))(he:e=x\/H e=some (.own x))(k:∀b u,b≠e->s.heap.get? b=some u->h'.get? b=some u)(heo:∃u,h'.get? e=some u)
 (new:dP X.prog X.w (upd H x o) h' x o):Inv X pins σ (upd H x o) {s with heap:=h',toks:=t'}:=I.un (Un.write mu he k heo) (I.aK.write mu he k heo new)
theorem Inv.sD{pins':List (Addr×Obj)}(I:Inv X pins σ H s)(h:∀p∈pins',s.heap.get? p.1=some p.2/\H p.1=none/\p.1≠X.env.locals/\p.1∉X.fs/\∀v,p.2.data≠ .cell v):Inv X pins' σ H s:=
 ⟨I.ok,I.os,I.bare,I.base,I.loc,I.cell,I.free,I.je,fun p hp=>(List.mem_append.mp hp).elim (fun z=>I.pin p (List.mem_append_left _ z)) (h p),I.aK,I.len⟩
theorem zA{N:List Str}(hN:N.Nodup){i j:Nat}{x:Str}(a:N[i]?=some x)(b:N[j]?=some x):i=j:=by
 obtain⟨h1,e1⟩:=List.getElem?_eq_some_iff.mp a;obtain⟨h2,e2⟩:=List.getElem?_eq_some_iff.mp b;exact(List.getElem_inj hN).mp (e1.trans e2.symm)
theorem wJ{M:Model}{A:Around}{E:Value->Shared->Prop}{i:Nat}{x:Str}{v:V}{u:Value}{Q:Unit->Shared->Prop}(I:Inv X pins σ H s)(hN:X.N.Nodup)(hi:X.N[i]?=some x)(hx:Loc X.env.scope x)(r:RelV v u)
 (h:∀s',Inv X pins (σ.set i (some v)) H s'->(∃a,Heap.SameBut a s.heap s'.heap/\(a=X.env.locals\/X.env.cells.lookup x=some a))->Q () s') (hf:X.fn x=true\/X.env.scope.names.lookup x=some .local:=by first|exact .inl rfl|exact .inr rfl|assumption):wpAny M A (storeName X.env x u) Q E s:=by
 obtain⟨m,hn,hl⟩:=id I.loc;have hcls:(X.env.scope.kind== .class||(X.env.scope.kind== .module&&X.env.locals != X.env.globals))=false:=by rw[I.ok.kind];rfl
 have hiσ:i<σ.length:=by rw[I.len];exact(List.getElem?_eq_some_iff.mp hi).1
 have yN:=I.yN
 have tracked:∀ {a:Addr} {h':Heap},(∃o,s.heap.get? a=some o/\H a=none)->Heap.SameBut a s.heap h'->iW X.prog X.w H h':=fun{a h'} ha hs b ob e=>by
  obtain⟨_,_,hfree⟩:=ha;refine(I.aK b ob e).pq (fun c w' hc q=>(hs.2 c ?_).trans q) (fun _ q=>q) fun _ _ q=>q;rintro rfl;rcases hc with rfl|hc
  . rw[hfree]at e;cases e
  . rw[hfree]at hc;cases hc
 rcases hx with hk|hk
 . refine wpAny_storeName_local hk hn (fun h' hn' hs=>?_) hcls;obtain⟨oL,_,_,hoL,_⟩:=id hn;refine h _ ⟨I.ok,I.os,I.bare,⟨fun b o e n hb hx=>?_,fun b o e n hb hx=>?_,I.base.free,fun b o e hx=>?_,I.base.o5,I.base.nW,I.base.oq⟩,⟨_,hn',fun j y v' e1 e2 e3=>?_⟩,fun y c e=>?_,I.free,I.je,fun p hp=>?_,tracked ⟨oL,hoL,I.free⟩ hs,by simpa using I.len⟩ ⟨_,hs,.inl rfl⟩
   . exact(hs.2 b (Nat.ne_of_lt (Nat.lt_of_lt_of_le (Heap.lt_size e) I.ok.above))).trans (I.base.keep b o e n hb hx)
   . obtain⟨sl,e1⟩:=I.base.slot b o e n hb hx;exact⟨sl,(hs.2 b (Nat.ne_of_lt (Nat.lt_of_lt_of_le (Heap.lt_size e) I.ok.above))).trans e1⟩
   . obtain⟨o',e1⟩:=I.base.there b o e hx;exact⟨o',(hs.2 b (Nat.ne_of_lt (Nat.lt_of_lt_of_le (Heap.lt_size e) I.ok.above))).trans e1⟩
   . by_cases hj:j=i
     . subst hj;rw[hi]at e1;cases e1;rw[List.getElem?_set_self hiσ]at e2;cases e2;exact⟨u,r,.inl ⟨hk,by simp⟩⟩
     . rw[List.getElem?_set_ne (Ne.symm hj)]at e2;obtain⟨u',r',q⟩:=hl j y v' e1 e2 e3;refine⟨u',r',?_⟩;rcases q with⟨k,e⟩|⟨k,c,e,z⟩
       . refine .inl ⟨k,?_⟩;have:y≠x:=fun e=>hj (zA hN e1 (e▸hi));simp[this,e]
       . exact .inr ⟨k,c,e,z.sameBut hs (yN y c e)⟩
   . obtain⟨w',z⟩:=I.cell y c e;exact⟨w',z.sameBut hs (yN y c e)⟩
   . obtain⟨e,n,ne,nf,d⟩:=I.pin p hp;exact⟨(hs.2 p.1 ne).trans e,n,ne,nf,d⟩
 . have hfn:X.fn x=true:=by
    rcases hf with z|z
    . exact z
    . rw[z]at hk;cases hk
   obtain⟨c,hc⟩:=I.ok.has x (.inl hk);obtain⟨w',z⟩:=I.cell x c hc;refine wpAny_storeName_cell I.ok.kind hk hc z (fun h' hc' hs=>?_);obtain⟨oc,hoc,hocd⟩:=id z;refine h {s with heap:=h'} ⟨I.ok,I.os,I.bare,⟨fun b o e n hb hx=>?_,fun b o e n hb hx=>?_,I.base.free,fun b o e hx=>?_,I.base.o5,I.base.nW,I.base.oq⟩,⟨m,hn.sameBut hs (Ne.symm (yN x c hc)),fun j y v' e1 e2 e3=>?_⟩,fun y c' e=>?_,I.free,I.je,fun p hp=>?_,tracked ⟨oc,hoc,I.je x c hc⟩ hs,by simpa using I.len⟩ ⟨c,hs,.inr hc⟩
   . exact(hs.2 b (Nat.ne_of_lt (Nat.lt_of_lt_of_le (Heap.lt_size e) (I.ok.zx x c hfn hc)))).trans (I.base.keep b o e n hb hx)
   . obtain⟨sl,e1⟩:=I.base.slot b o e n hb hx;exact⟨sl,(hs.2 b (Nat.ne_of_lt (Nat.lt_of_lt_of_le (Heap.lt_size e) (I.ok.zx x c hfn hc)))).trans e1⟩
   . obtain⟨o',e1⟩:=I.base.there b o e hx;exact⟨o',(hs.2 b (Nat.ne_of_lt (Nat.lt_of_lt_of_le (Heap.lt_size e) (I.ok.zx x c hfn hc)))).trans e1⟩
   . by_cases hj:j=i
     . subst hj;rw[hi]at e1;cases e1;rw[List.getElem?_set_self hiσ]at e2;cases e2;exact⟨u,r,.inr ⟨.inl hk,c,hc,hc'⟩⟩
     . rw[List.getElem?_set_ne (Ne.symm hj)]at e2;obtain⟨u',r',q⟩:=hl j y v' e1 e2 e3;refine⟨u',r',?_⟩;rcases q with q|⟨k,c',e,z'⟩
       . exact .inl q
       . refine .inr ⟨k,c',e,z'.sameBut hs ?_⟩;rintro rfl;exact hj (zA hN e1 (I.ok.inj _ _ _ e hc▸hi))
   . by_cases hcc:c'=c
     . subst hcc;exact⟨_,hc'⟩
     . obtain⟨w2,z2⟩:=I.cell y c' e;exact⟨w2,z2.sameBut hs hcc⟩
   . obtain⟨e,n,ne,nf,d⟩:=I.pin p hp;refine⟨(hs.2 p.1 ?_).trans e,n,ne,nf,d⟩;intro q;rw[q,hoc]at e;have q':oc=p.2:=Option.some.inj e;exact d w' (by rw[<-q'];exact hocd)
theorem nX{M:Model}{A:Around}{E:Value->Shared->Prop}{i:Nat}{x:Str}{v:V}{u:Value}{Q:Unit->Shared->Prop}(I:Inv X pins σ H s)(hN:X.N.Nodup)(hi:X.N[i]?=some x)(hx:Loc X.env.scope x)(r:RelV v u)
 (h:∀s',Inv X pins (σ.set i (some v)) H s'->Q () s') (hf:X.fn x=true\/X.env.scope.names.lookup x=some .local:=by first|exact .inl rfl|exact .inr rfl|assumption):wpAny M A (storeName X.env x u) Q E s:=
 wJ I hN hi hx r (fun s' I' _=>h s' I') hf
theorem Inv.AR{s':Shared}{ch:List Addr}(I:Inv X pins σ H s)(ho:s'.os=s.os)(u:Un (pN X.stack) ch H H' s.heap s'.heap)(aK:iW X.prog X.w H' s'.heap)(hg:AllBare s'.gens)
 (hch:∀b∈ch,(b∈X.ex\/X.s₀.heap.objs.size<=b)/\b≠X.env.locals/\(∀x c,X.env.cells.lookup x=some c->c≠b)/\∀p∈X.pn++pins,p.1≠b):Inv X pins σ H' s':=by
 obtain⟨h',g',d',t',o'⟩:=s';have e:o'=s.os:=ho;subst e;exact I.call (g':=g') (t':=t') (d':=d') u aK hg hch
end
abbrev XK:=Value->Option Addr->Hp->Prop
abbrev St:=List (Option V)
abbrev VK:=V->Hp->Prop
abbrev TE:=St->Hp->VK->Prop
abbrev TT:=St->Hp->(Bool->Hp->Prop)->Prop
abbrev TA:=St->Hp->(List V->Hp->Prop)->Prop
structure Ends where
 nx:St->Hp->Prop
 rt:VK
 bk:St->Hp->Prop:=fun _ _=>False
 ct:St->Hp->Prop:=fun _ _=>False
abbrev TS:=Ends->St->Hp->Prop
def EP(X:Cx)(pins:List (Addr×Obj))(σ:St)(Q:VK)(u:Value)(s':Shared):Prop:=∃v H',Inv X pins σ H' s'/\RelV v u/\Q v H'
def TP(X:Cx)(pins:List (Addr×Obj))(σ:St)(Q:Bool->Hp->Prop)(b:Bool)(s':Shared):Prop:=∃H',Inv X pins σ H' s'/\Q b H'
def AP(X:Cx)(pins:List (Addr×Obj))(σ:St)(Q:List V->Hp->Prop)(us:List Value)(s':Shared):Prop:=∃vs H',Inv X pins σ H' s'/\Vals vs us/\Q vs H'
def SP(X:Cx)(pins:List (Addr×Obj))(D:Ends)(f:Flow)(s':Shared):Prop:=
 match f with
 | .next=>∃σ' H',Inv X pins σ' H' s'/\D.nx σ' H'
 | .brk=>∃σ' H',Inv X pins σ' H' s'/\D.bk σ' H'
 | .cont=>∃σ' H',Inv X pins σ' H' s'/\D.ct σ' H'
 | .ret u=>∃v σ' H',Inv X pins σ' H' s'/\RelV v u/\D.rt v H'
def PE(X:Cx)(e:Expr)(t:TE):Prop:=
 ∀(pins:List (Addr×Obj)) (s:Shared) (σ:St) (H:Hp) (Q:VK),Inv X pins σ H s->t σ H Q->wpAny (model X.prog X.w) X.A (eval e X.env) (EP X pins σ Q) X.xe s
def PT(X:Cx)(e:Expr)(t:TT):Prop:=
 ∀(pins:List (Addr×Obj)) (s:Shared) (σ:St) (H:Hp) (Q:Bool->Hp->Prop),Inv X pins σ H s->t σ H Q->wpAny (model X.prog X.w) X.A (isTrue e X.env (eval e X.env)) (TP X pins σ Q) X.xe s
def PW(X:Cx)(e:Expr)(t:TT):Prop:=
 ∀(whole:Sem Value) (pins:List (Addr×Obj)) (s:Shared) (σ:St) (H:Hp) (Q:Bool->Hp->Prop),Inv X pins σ H s->t σ H Q->wpAny (model X.prog X.w) X.A (isTrue e X.env whole) (TP X pins σ Q) X.xe s
theorem PW.pt{X:Cx}{e:Expr}{t:TT}(h:PW X e t):PT X e t:=h _
def PA(X:Cx)(es:List Expr)(t:TA):Prop:=
 ∀(pos:Pos) (pins:List (Addr×Obj)) (s:Shared) (σ:St) (H:Hp) (Q:List V->Hp->Prop),Inv X pins σ H s->t σ H Q->wpAny (model X.prog X.w) X.A (spliced (backTo pos (starEach es X.env))) (AP X pins σ Q) X.xe s
def PS(X:Cx)(st:Stmt)(t:TS):Prop:=
 ∀(pins:List (Addr×Obj)) (s:Shared) (σ:St) (H:Hp) (D:Ends),Inv X pins σ H s->t D σ H->wpAny (model X.prog X.w) X.A (exec st X.env) (SP X pins D) X.xe s
def iy(X:Cx)(st:List Stmt)(t:TS):Prop:=
 ∀(pins:List (Addr×Obj)) (s:Shared) (σ:St) (H:Hp) (D:Ends),Inv X pins σ H s->t D σ H->wpAny (model X.prog X.w) X.A (execs st X.env) (SP X pins D) X.xe s
theorem bQ{α:Type}{t:Sem α}{Q Q':α->Shared->Prop}{M:Model}{A:Around}{E:Value->Shared->Prop}{s:Shared}(h:wpAny M A t Q E s)(hQ:∀a s,Q a s->Q' a s):wpAny M A t Q' E s:=wpAny_mono h hQ fun _ _ x=>x
section
variable {X:Cx}
def Io(i:Nat):TE:=fun σ H Q=>∃v,σ[i]?=some (some v)/\Q v H
def tC(v:V):TE:=fun _ H Q=>Q v H
theorem Ka{i:Nat}{x:Str}{pos:Pos}(hN:X.N[i]?=some x)(hv:ze X.env.scope x)(hd:(x==("__debug__":Str))=false:=by decide)(hcd:(x==("__classdict__":Str))=false:=by decide):PE X (.Name x pos) (Io i):=by
 intro pins s σ H Q I h;obtain⟨v,e,h⟩:=h;obtain⟨m,hn,hl⟩:=I.loc;obtain⟨u,r,l⟩:=hl i x v hN e hv;have fin:EP X pins σ Q u s:=⟨v,H,I,r,h⟩
 rcases l with⟨hk,hm⟩|⟨hk,c,hc,hcell⟩
 . exact wpAny_Name (wpAny_loadName_local I.ok.kind hk hn hm fin) hd
 . rcases hk with hk|hk
   . exact wpAny_Name (wpAny_loadName_cell I.ok.kind hk hc hcell fin) hd
   . exact wpAny_Name (wpAny_loadName_free I.ok.kind hk hc hcell fin hcd) hd
theorem Jl{i j pos}:PE X (.Constant (.int i) j pos) (tC (.int i)):=fun _ _ _ H _ I h=>wpAny_Constant_int ⟨.int i,H,I.tok _,⟨_,rfl⟩,h⟩
theorem K_{b j pos}:PE X (.Constant (.bool b) j pos) (tC (.bl b)):=fun _ _ _ H _ I h=>Constant_bool ⟨.bl b,H,I,rfl,h⟩
def Gl(X:Cx)(x:Str):Prop:=X.env.kindOf x=some .globalImplicit
theorem AG{E:Value->Shared->Prop}{pins:List (Addr×Obj)}{s:Shared}{σ:St}{H:Hp}{x:Str}{u:Value}{pos:Pos}{Q:Value->Shared->Prop}(I:Inv X pins σ H s)(hg:Gl X x)(hm:X.mg x=some u)(h:Q u s)
 (hd:(x==("__debug__":Str))=false:=by decide):wpAny (model X.prog X.w) X.A (eval (.Name x pos) X.env) Q E s:=
 Calls.Name_function_global I.ok.kind hg (Calls.loadGlobal_global (by rw[I.ok.glob];exact I.mod.glob.keeps I.bk) hm h) hd
theorem mN{E:Value->Shared->Prop}{pins:List (Addr×Obj)}{s:Shared}{σ:St}{H:Hp}{x:Str}{u:Value}{pos:Pos}{Q:Value->Shared->Prop}(I:Inv X pins σ H s)(hg:Gl X x)(hm:X.mg x=none)(hv:bootBuiltins x=some u)(h:Q u s)
 (hn:x≠"__name__":=by decide) (hd:(x==("__debug__":Str))=false:=by decide):wpAny (model X.prog X.w) X.A (eval (.Name x pos) X.env) Q E s:=by
 obtain⟨mb,h1,h2⟩:=I.mod.blt;exact Calls.Name_function_global I.ok.kind hg (Calls.loadGlobal_builtin (by rw[I.ok.glob];exact I.mod.glob.keeps I.bk) hm (by rw[I.ok.blt];exact h1.keeps I.bk) ((h2 x hn).trans hv) h) hd
theorem Hy{x:Str}{v:V}{u:Value}{pos:Pos}(hg:Gl X x)(hm:X.mg x=none)(hv:bootBuiltins x=some u)(r:RelV v u)(hn:x≠"__name__":=by decide)(hd:(x==("__debug__":Str))=false:=by decide):PE X (.Name x pos) (tC v):=
 fun _ _ _ H _ I h=>mN I hg hm hv ⟨v,H,I,r,h⟩ hn hd
variable {a b:Expr}{ta tb:TE}{pos:Pos}
def tB(t:TE):TT:=fun σ H Q=>t σ H fun x H1=>∃c,x= .bl c/\Q c H1
theorem HZ{e:Expr}{t:TE}(h:PE X e t)(he:∀whole,isTrue e X.env whole=(do let v <-whole;standAt e.pos;holding [v] (truthy v)):=by intro _;rfl):PT X e (tB t):=by
 intro pins s σ H Q I hw;refine isTrue_plain (bQ (h pins s σ H _ I hw) fun v s1 ⟨x,H1,I1,r1,q1⟩=>?_) (he _);obtain⟨d,rfl,q⟩:=q1;cases r1;exact wpAny_truthy_bool ⟨H1,I1,q⟩
variable {tA tB':TT}{rest:List Expr}
def JD(t u:TT):TT:=fun σ H Q=>t σ H fun c H1=>if c=true then u σ H1 Q else Q false H1
def MX(t u:TT):TT:=fun σ H Q=>t σ H fun c H1=>if c=true then Q true H1 else u σ H1 Q
def M6(t:TT):TT:=fun σ H Q=>t σ H fun c H1=>Q (!c) H1
theorem pw_and1(ha:PT X a tA):PW X (.BoolOp .And [a] pos) tA:=by
 intro wh pins s σ H Q I h;refine isTrue_and (bQ (ha pins s σ H Q I h) fun c s1 e=>?_);cases c with
 |true=>exact isTrue_and_nil e
 |false=>exact e
theorem pw_or1(ha:PT X a tA):PW X (.BoolOp .Or [a] pos) tA:=by
 intro wh pins s σ H Q I h;refine isTrue_or (bQ (ha pins s σ H Q I h) fun c s1 e=>?_);cases c with
 |false=>exact isTrue_or_nil e
 |true=>exact e
theorem pw_and(ha:PT X a tA)(hb:PW X (.BoolOp .And (b::rest) pos) tB'):PW X (.BoolOp .And (a::b::rest) pos) (JD tA tB'):=by
 intro wh pins s σ H Q I h;refine isTrue_and (bQ (ha pins s σ H _ I h) fun c s1 ⟨H1,I1,q1⟩=>?_);cases c with
 |true=>exact hb wh pins s1 σ H1 Q I1 q1
 |false=>exact⟨H1,I1,q1⟩
theorem pw_or(ha:PT X a tA)(hb:PW X (.BoolOp .Or (b::rest) pos) tB'):PW X (.BoolOp .Or (a::b::rest) pos) (MX tA tB'):=by
 intro wh pins s σ H Q I h;refine isTrue_or (bQ (ha pins s σ H _ I h) fun c s1 ⟨H1,I1,q1⟩=>?_);cases c with
 |true=>exact⟨H1,I1,q1⟩
 |false=>exact hb wh pins s1 σ H1 Q I1 q1
theorem J3(ha:PT X a tA):PT X (.UnaryOp .Not a pos) (M6 tA):=by
 intro pins s σ H Q I h;exact isTrue_not (ha pins s σ H (fun c H1=>Q (!c) H1) I h)
def L9(ta tb:TE):TE:=fun σ H Q=>ta σ H fun x H1=>∃c,x= .bl c/\if c=true then tb σ H1 Q else Q (.bl false) H1
def NQ(ta tb:TE):TE:=fun σ H Q=>ta σ H fun x H1=>∃c,x= .bl c/\if c=true then Q (.bl true) H1 else tb σ H1 Q
def Lu(ta:TE):TE:=fun σ H Q=>ta σ H fun x H1=>∃c,x= .bl c/\Q (.bl (!c)) H1
theorem IT{op}{t:TE}(h:PE X a t):PE X (.BoolOp op [a] pos) t:=fun pins s σ H Q I hw=>BoolOp_one (h pins s σ H Q I hw)
theorem Kb(ha:PE X a ta)(hb:PE X (.BoolOp .And (b::rest) pos) tb):PE X (.BoolOp .And (a::b::rest) pos) (L9 ta tb):=by
 intro pins s σ H Q I h;refine BoolOp_and (bQ (ha pins s σ H _ I h) fun v s1 ⟨x,H1,I1,r1,q1⟩=>?_);obtain⟨c,rfl,q1⟩:=q1;cases r1;refine wpAny_truthy_bool ?_;cases c with
 |true=>exact hb pins s1 σ H1 Q I1 q1
 |false=>exact⟨.bl false,H1,I1,rfl,q1⟩
theorem Ky(ha:PE X a ta)(hb:PE X (.BoolOp .Or (b::rest) pos) tb):PE X (.BoolOp .Or (a::b::rest) pos) (NQ ta tb):=by
 intro pins s σ H Q I h;refine BoolOp_or (bQ (ha pins s σ H _ I h) fun v s1 ⟨x,H1,I1,r1,q1⟩=>?_);obtain⟨c,rfl,q1⟩:=q1;cases r1;refine wpAny_truthy_bool ?_;cases c with
 |false=>exact hb pins s1 σ H1 Q I1 q1
 |true=>exact⟨.bl true,H1,I1,rfl,q1⟩
theorem Ie(ha:PE X a ta):PE X (.UnaryOp .Not a pos) (Lu ta):=by
 intro pins s σ H Q I h;refine UnaryOp_ (bQ (ha pins s σ H _ I h) fun v s1 ⟨x,H1,I1,r1,q1⟩=>?_);obtain⟨c,rfl,q1⟩:=q1;cases r1;exact not_of (wpAny_truthy_bool ⟨.bl (!c),H1,I1,rfl,q1⟩)
def NX(t:TT)(ta tb:TE):TE:=fun σ H Q=>t σ H fun c H1=>if c=true then ta σ H1 Q else tb σ H1 Q
theorem E5{c:Expr}(hc:PT X c tA)(ha:PE X a ta)(hb:PE X b tb):PE X (.IfExp c a b pos) (NX tA ta tb):=by
 intro pins s σ H Q I h;refine wpAny_IfExp (bQ (hc pins s σ H _ I h) fun d s1 ⟨H1,I1,q1⟩=>?_);cases d with
 |true=>exact ha pins s1 σ H1 Q I1 q1
 |false=>exact hb pins s1 σ H1 Q I1 q1
end
def mM(K:PySem.W.Frag)(H:Hp)(a:Addr)(xs:List V):Prop:=
 Rd H a (.lst xs)\/
  ∃(o:Obj) (its:Array Value) (n:Nat),K.lookup a=some o/\o.cls= .type "list"/\o.dict=none/\o.data= .seq its n/\its.size<=sizeLine/\Vals xs its.toList
def jn(K:PySem.W.Frag)(H:Hp)(a:Addr)(xs:List V):Prop:=
 Rd H a (.tup xs)\/
  ∃(o:Obj) (its:Array Value) (n:Nat),K.lookup a=some o/\o.cls= .type "tuple"/\o.data= .seq its n/\its.size<=sizeLine/\Vals xs its.toList
def Nz:Value->Option V
 | .none=>some .aI
 | .bool b=>some (.bl b)
 | .int i _=>some (.int i)
 | .str x _=>some (.str x)
 | .bytes b _=>some (.tQ b)
 | .float b _=>some (.tT b)
 | .ref a=>some (.ref a)
 | .type n=>some (.ty n)
 |_=>none
theorem RelV.abs{x:V}{u:Value}(r:RelV x u):Nz u=some x:=by
 cases x with
 |aI=>cases r;rfl
 |bl _=>cases r;rfl
 |int _=>obtain⟨t,rfl⟩:=r;rfl
 |str _=>obtain⟨t,rfl⟩:=r;rfl
 |tQ _=>obtain⟨t,rfl⟩:=r;rfl
 |tT _=>obtain⟨t,rfl⟩:=r;rfl
 |ref _=>cases r;rfl
 |ty _=>cases r;rfl
theorem RelV.inj{x y:V}{u:Value}(r:RelV x u)(q:RelV y u):x=y:=Option.some.inj (r.abs.symm.trans q.abs)
theorem Vals.inj:∀ {xs ys:List V} {us:List Value},Vals xs us->Vals ys us->xs=ys
 |_,_,_,.nil,.nil=>rfl
 |_,_,_,.cons r t,.cons r' t'=>by rw[r.inj r',Vals.inj t t']
section
variable {X:Cx}{pins:List (Addr×Obj)}{σ:St}{H:Hp}{s:Shared}{a:Addr}{xs ys:List V}
theorem mM.of{K:PySem.W.Frag}(h:H a=some (.lst xs)):mM K H a xs:= .inl (.inl h)
theorem jn.of{K:PySem.W.Frag}(h:H a=some (.tup xs)):jn K H a xs:= .inl (.inl h)
theorem Inv.list(I:Inv X pins σ H s)(h:mM X.K H a xs):∃its:List Value,Vals xs its/\PlainL s.heap a its.toArray/\xs.length<=sizeLine:=by
 rcases h with h|⟨o,its,n,hk,hc,hd,hs,hz,r⟩
 . obtain⟨z,its,n,r,e⟩:=h.ok I.aK;exact⟨its,r,⟨_,n,e,rfl,rfl,rfl⟩,z⟩
 . refine⟨its.toList,r,⟨o,n,I.ib a o hk,hc,hd,by simpa using hs⟩,?_⟩;have e:=r.length;simp only[Array.length_toList]at e;omega
theorem Inv.tuple(I:Inv X pins σ H s)(h:jn X.K H a xs):∃its:List Value,Vals xs its/\IsTup s.heap a its.toArray/\xs.length<=sizeLine:=by
 rcases h with h|⟨o,its,n,hk,hc,hs,hz,r⟩
 . obtain⟨z,its,r,p⟩:=h.ok I.aK;exact⟨its,r,p,z⟩
 . refine⟨its.toList,r,⟨o,I.ib a o hk,hc,n,by simpa using hs⟩,?_⟩;have e:=r.length;simp only[Array.length_toList]at e;omega
theorem Inv.yi(I:Inv X pins σ H s)(h:mM X.K H a xs)(h':mM X.K H a ys):xs=ys:=by
 obtain⟨its,r,⟨o,n,e,_,_,d⟩,_⟩:=I.list h;obtain⟨its',r',⟨o',n',e',_,_,d'⟩,_⟩:=I.list h';rw[e]at e';cases e';rw[d]at d';injection d' with d1 _;have:its=its':=by simpa using congrArg Array.toList d1
 subst this;exact r.inj r'
theorem Inv.wU(I:Inv X pins σ H s)(h:jn X.K H a xs)(h':jn X.K H a ys):xs=ys:=by
 obtain⟨its,r,⟨o,e,_,n,d⟩,_⟩:=I.tuple h;obtain⟨its',r',⟨o',e',_,n',d'⟩,_⟩:=I.tuple h';rw[e]at e';cases e';rw[d]at d';injection d' with d1 _;have:its=its':=by simpa using congrArg Array.toList d1
 subst this;exact r.inj r'
end
abbrev Cx.pj(X:Cx)(E:Value->Shared->Prop):Cx:={X with xe:=E}
abbrev Cx.vo(X:Cx):Cx:=X.pj fun _ _=>False
theorem Cx.Ok.pj{X:Cx}(ok:X.Ok)(E:Value->Shared->Prop):(X.pj E).Ok:=
 ⟨ok.mod,ok.kind,ok.glob,ok.blt,ok.above,ok.inj,ok.has,ok.zx,ok.hd,ok.frames,ok.Ae,ok.Dm,ok.bs,ok.rm,ok.tW,ok.uw,ok.lI,ok.uS,ok.gt⟩
theorem Cx.Ok.mX{X:Cx}{E:Value->Shared->Prop}(ok:(X.pj E).Ok):X.Ok:=
 ⟨ok.mod,ok.kind,ok.glob,ok.blt,ok.above,ok.inj,ok.has,ok.zx,ok.hd,ok.frames,ok.Ae,ok.Dm,ok.bs,ok.rm,ok.tW,ok.uw,ok.lI,ok.uS,ok.gt⟩
section
variable {X:Cx}{pins:List (Addr×Obj)}{σ:St}{H:Hp}{s:Shared}{E:Value->Shared->Prop}
theorem Inv.pj(I:Inv X pins σ H s)(E:Value->Shared->Prop):Inv (X.pj E) pins σ H s:=⟨I.ok.pj E,I.os,I.bare,I.base,I.loc,I.cell,I.free,I.je,I.pin,I.aK,I.len⟩
theorem Inv.mX(I:Inv (X.pj E) pins σ H s):Inv X pins σ H s:=⟨I.ok.mX,I.os,I.bare,I.base,I.loc,I.cell,I.free,I.je,I.pin,I.aK,I.len⟩
theorem SP.mX{D:Ends}{f:Flow}{s':Shared}(h:SP (X.pj E) pins D f s'):SP X pins D f s':=by
 cases f with
 |next=>obtain⟨σ',H',I,q⟩:=h;exact⟨σ',H',I.mX,q⟩
 |brk=>obtain⟨σ',H',I,q⟩:=h;exact⟨σ',H',I.mX,q⟩
 |cont=>obtain⟨σ',H',I,q⟩:=h;exact⟨σ',H',I.mX,q⟩
 |ret u=>obtain⟨v,σ',H',I,r,q⟩:=h;exact⟨v,σ',H',I.mX,r,q⟩
theorem iy.vo{st:List Stmt}{t:TS}(h:iy X.vo st t):iy X st t:=fun pins s σ H D I hw=>
 wpAny_mono (h pins s σ H D (I.pj _) hw) (fun _ _ q=>q.mX) fun _ _ z=>False.elim z
end
section
variable {X:Cx}{st:Stmt}{rest:List Stmt}{t u:TS}{e:Expr}{te:TE}{pos:Pos}
def MA:TS:=fun D σ H=>D.nx σ H
def Nq(t u:TS):TS:=fun D σ H=>t {D with nx:=u D} σ H
theorem GP:iy X [] MA:=fun _ _ σ H _ I h=>wpAny_execs_nil ⟨σ,H,I,h⟩
theorem E8(h1:PS X st t)(h2:iy X rest u):iy X (st::rest) (Nq t u):=by
 intro pins s σ H D I h;refine wpAny_execs_cons (bQ (h1 pins s σ H {D with nx:=u D} I h) fun f s1 q=>?_);cases f with
 |next=>
  obtain⟨σ',H',I',q⟩:=q;exact h2 pins s1 σ' H' D I' q
 |ret v=>exact q
 |brk=>exact q
 |cont=>exact q
theorem Hu(h1:PS X st t):iy X [st] t:=by
 intro pins s σ H D I h;refine wpAny_execs_cons (bQ (h1 pins s σ H D I h) fun f s1 q=>?_);cases f with
 |next=>exact wpAny_execs_nil q
 |ret v=>exact q
 |brk=>exact q
 |cont=>exact q
theorem Inv.quiet{pins:List (Addr×Obj)}{σ:St}{H:Hp}{s:Shared}(I:Inv X pins σ H s):interactive X.env=false:=by simp[interactive,I.ok.kind]
def Mq(te:TE):TS:=fun D σ H=>te σ H fun _ H1=>D.nx σ H1
theorem GI(he:PE X e te)(hs:swapsWith e none pos.line X.env=pure false:=by rfl):PS X (.Expr e pos) (Mq te):=by
 intro pins s σ H D I h;exact wpAny_Expr_any (bQ (he pins s σ H _ I h) fun v s1 ⟨x,H1,I1,r1,q1⟩=>⟨σ,H1,I1,q1⟩) I.quiet hs
def Nt(te:TE):TS:=fun D σ H=>te σ H D.rt
theorem Jp(he:PE X e te):PS X (.Return (some e) pos) (Nt te):=by
 intro pins s σ H D I h;exact wpAny_Return_some (bQ (he pins s σ H _ I h) fun v s1 ⟨x,H1,I1,r1,q1⟩=>⟨x,σ,H1,I1,r1,q1⟩)
def ND(c:TT)(t u:TS):TS:=fun D σ H=>c σ H fun b H1=>if b=true then t D σ H1 else u D σ H1
theorem Lg{c:Expr}{a b:List Stmt}{tc:TT}(hc:PT X c tc)(ha:iy X a t)(hb:iy X b u):PS X (.If c a b pos) (ND tc t u):=by
 intro pins s σ H D I h;refine wpAny_If (bQ (hc pins s σ H _ I h) fun d s1 ⟨H1,I1,q1⟩=>?_);cases d with
 |true=>exact ha pins s1 σ H1 D I1 q1
 |false=>exact hb pins s1 σ H1 D I1 q1
end
abbrev TG:=V->St->Hp->(St->Hp->Prop)->Prop
abbrev ya:=List V->St->Hp->(St->Hp->Prop)->Prop
def PG(X:Cx)(target:Expr)(t:TG):Prop:=
 ∀(pins:List (Addr×Obj)) (s:Shared) (σ:St) (H:Hp) (v:V) (u:Value) (Q:St->Hp->Prop),Inv X pins σ H s->RelV v u->t v σ H Q->
  wpAny (model X.prog X.w) X.A (assign target X.env u) (fun _ s'=>∃σ' H',Inv X pins σ' H' s'/\Q σ' H') X.xe s
def F_(X:Cx)(ts:List Expr)(t:ya):Prop:=
 ∀(pins:List (Addr×Obj)) (s:Shared) (σ:St) (H:Hp) (vs:List V) (us:List Value) (Q:St->Hp->Prop),Inv X pins σ H s->Vals vs us->t vs σ H Q->
  wpAny (model X.prog X.w) X.A (assignInOrder ((assignEach ts X.env).map (·.2)) us) (fun _ s'=>∃σ' H',Inv X pins σ' H' s'/\Q σ' H') X.xe s
abbrev EM:=V->V->V->Hp->(Hp->Prop)->Prop
def I_(X:Cx)(t:EM):Prop:=
 ∀(pins:List (Addr×Obj)) (s:Shared) (σ:St) (H:Hp) (o i v:V) (ov iv u:Value) (Q:Hp->Prop),Inv X pins σ H s->RelV o ov->RelV i iv->RelV v u->t o i v H Q->
  wpAny (model X.prog X.w) X.A (setItem ov iv u) (fun _ s'=>∃H',Inv X pins σ H' s'/\Q H') X.xe s
abbrev FQ:=V->V->Hp->VK->Prop
def Ii(X:Cx)(op:Operator)(t:FQ):Prop:=
 ∀(pins:List (Addr×Obj)) (s:Shared) (σ:St) (H:Hp) (x y:V) (v u:Value) (Q:VK),Inv X pins σ H s->RelV x v->RelV y u->t x y H Q->
  wpAny (model X.prog X.w) X.A (inplaceOp op v u) (EP X pins σ Q) X.xe s
section
variable {X:Cx}{pos:Pos}
def iF(i:Nat):TG:=fun v σ H Q=>Q (σ.set i (some v)) H
theorem kL{i:Nat}{x:Str}(hN:X.N.Nodup)(hi:X.N[i]?=some x)(hx:Loc X.env.scope x)(hf:X.fn x=true\/X.env.scope.names.lookup x=some .local:=by first|exact .inl rfl|exact .inr rfl|assumption):PG X (.Name x pos) (iF i):=by
 intro pins s σ H v u Q I r h;exact wpAny_assign_Name (nX I hN hi hx r (fun s' I'=>⟨_,H,I',h⟩) hf)
def Eo:ya:=fun vs σ H Q=>vs=[]/\Q σ H
def oF(t:TG)(u:ya):ya:=fun vs σ H Q=>∃v r,vs=v::r/\t v σ H fun σ' H'=>u r σ' H' Q
theorem Ar:F_ X [] Eo:=by
 intro pins s σ H vs us Q I r h;obtain⟨e,h⟩:=h;subst e;cases r;exact assignInOrder_nil ⟨σ,H,I,h⟩
theorem kD{e:Expr}{es:List Expr}{t:TG}{u:ya}(h1:PG X e t)(h2:F_ X es u)
 (hs:(assignEach (e::es) X.env).map (·.2)=assign e X.env::(assignEach es X.env).map (·.2):=by rfl):F_ X (e::es) (oF t u):=by
 intro pins s σ H vs us Q I r h;obtain⟨v,vr,e1,h⟩:=h;subst e1;cases r with
 |cons r rr=>
  rw[hs];refine assignInOrder_cons (bQ (h1 pins s σ H _ _ _ I r h) fun _ s1 ⟨σ1,H1,I1,q1⟩=>?_);exact h2 pins s1 σ1 H1 _ _ Q I1 rr q1
def Fl(K:PySem.W.Frag)(n:Nat)(t:ya):TG:=fun v σ H Q=>∃a xs,v= .ref a/\jn K H a xs/\xs.length=n/\t xs σ H Q
theorem D0{es:List Expr}{k:Nat}{t:ya}{n:Nat}(hc:X.calm=true)(h:F_ X es t)
 (hn:(assignEach es X.env).length=n:=by rfl) (hst:(assignEach es X.env).findIdx? (·.1)=none:=by rfl):PG X (.Tuple es k pos) (Fl X.K n t):=by
 intro pins s σ H v u Q I r hw;obtain⟨a,xs,e1,hq,hl,hw⟩:=hw;subst e1;cases r;obtain⟨its,rv,ht,hz⟩:=I.tuple hq;refine assign_Tuple_tuple (I.ok.hd hc) ht (by simp[hn,<-hl,rv.length]) hst fun h' hx=>?_;have I1:Inv X pins σ H {s with heap:=h'}:=I.kept (t':=s.toks) fun b o e=>hx b o (Nat.ne_of_lt (Heap.lt_size e)) e;exact h pins _ σ H xs _ Q I1 (by simpa using rv) hw
def BZ(to ti:TE)(t:EM):TG:=fun v σ H Q=>to σ H fun o H1=>ti σ H1 fun i H2=>t o i v H2 fun H3=>Q σ H3
theorem Ko{o i:Expr}{to ti:TE}{t:EM}(ho:PE X o to)(hi:PE X i ti)(hs:I_ X t)
 (ha:∀v,assign (.Subscript o i pos) X.env v=(do
   let ov <-holding [v] (eval o X.env)
   let iv <-holding [v,ov] (eval i X.env)
   standAt pos
   holding [v,ov,iv] (setItem ov iv v)
   release [v,ov,iv] []):=by intro _;rfl):PG X (.Subscript o i pos) (BZ to ti t):=by
 intro pins s σ H v u Q I r h;rw[ha];refine wpAny_bind (wpAny_holding (bQ (ho pins s σ H _ I h) fun ov s1 ⟨x,H1,I1,r1,q1⟩=>?_));refine wpAny_bind (wpAny_holding (bQ (hi pins s1 σ H1 _ I1 q1) fun iv s2 ⟨y,H2,I2,r2,q2⟩=>?_));refine wpAny_bind (wpAny_standAt (wpAny_bind (wpAny_holding (bQ (hs pins s2 σ H2 x y v ov iv u _ I2 r1 r2 r q2) fun _ s3 ⟨H3,I3,q3⟩=>?_))));exact wpAny_release ⟨σ,H3,I3,q3⟩
def nZ(te:TE)(g:TG):TS:=fun D σ H=>te σ H fun x H1=>g x σ H1 D.nx
theorem DV{tg e:Expr}{te:TE}{g:TG}(he:PE X e te)(hg:PG X tg g)(hs:swapsWithSole [tg] e pos.line X.env=pure false:=by rfl)(hw:swappedStores [tg] e X.env=pure none:=by rfl)
 (h1:(assignEach [tg] X.env).map (·.2)=[assign tg X.env]:=by rfl):PS X (.Assign [tg] e pos) (nZ te g):=by
 intro pins s σ H D I h;refine wpAny_Assign_stores (bQ (he pins s σ H _ I h) fun v s1 ⟨x,H1,I1,r1,q1⟩=>?_) hs hw;rw[h1];exact bQ (hg pins s1 σ H1 x v _ I1 r1 q1) fun _ s2 q=>q
theorem Ia{i:Nat}{x:Str}{e:Expr}{te:TE}{pos':Pos}(hN:X.N.Nodup)(hi:X.N[i]?=some x)(hx:Loc X.env.scope x)(he:PE X e te)(hs:swapsWith e (some (.Name x pos')) pos.line X.env=pure false:=by rfl)(hf:X.fn x=true\/X.env.scope.names.lookup x=some .local:=by first|exact .inl rfl|exact .inr rfl|assumption):
 PS X (.Assign [.Name x pos'] e pos) (nZ te (iF i)):=by
 intro pins s σ H D I h;refine wpAny_Assign_Name (bQ (he pins s σ H _ I h) fun v s1 ⟨y,H1,I1,r1,q1⟩=>?_) hs;exact nX I1 hN hi hx r1 (fun s2 I2=>⟨_,H1,I2,q1⟩) hf
def Il(i j:Nat)(ta:TA):TS:=fun D σ H=>ta σ H fun vs H1=>∃v w,vs=[v,w]/\D.nx ((σ.set i (some v)).set j (some w)) H1
theorem II{i j:Nat}{x y:Str}{a b:Expr}{ta:TA}{px py pt:Pos}{kt k2 pt2}(hc:X.calm=true)(hN:X.N.Nodup)(hi:X.N[i]?=some x)(hj:X.N[j]?=some y)(hij:i≠j)
 (hx:X.env.scope.names.lookup x=some .local) (hy:X.env.scope.names.lookup y=some .local) (ha:PA X [a,b] ta)
 (hw:swappedStores [.Tuple [.Name x px,.Name y py] kt pt] (.Tuple [a,b] k2 pt2) X.env=pure (some [x,y]))
 (hs:swapsWithSole [.Tuple [.Name x px,.Name y py] kt pt] (.Tuple [a,b] k2 pt2) pos.line X.env=pure false:=by rfl):
 PS X (.Assign [.Tuple [.Name x px,.Name y py] kt pt] (.Tuple [a,b] k2 pt2) pos) (Il i j ta):=by
 intro pins s σ H D I h;rw[exec_Assign_arm];refine wpAny_bind (wpAny_standAt ?_);rw[hs];refine wpAny_bind (wpAny_pure ?_);rw[if_neg (by decide)];refine wpAny_bind (Tuple_ (bQ (ha _ pins s σ H _ I h) fun us s1 ⟨vs,H1,I1,r1,q1⟩=>?_));obtain⟨v,w,e1,q1⟩:=q1;subst e1
 obtain⟨u1,u2,rfl,rv,rw'⟩:∃u1 u2,us=[u1,u2]/\RelV v u1/\RelV w u2:=by
  cases r1 with
  |cons p q=>
   cases q with
   |cons p' q'=>
    cases q';exact⟨_,_,rfl,p,p'⟩
 refine wpAny_newObj_type ?_ (by show 2<=sizeLine;decide);have I2:Inv X pins σ H1 {s1 with heap:=s1.heap.push {cls:= .type "tuple",data:= .seq [u1,u2].toArray}}:=I1.kept (t':=s1.toks) fun b o e=>Heap.get?_push_of_some _ e;rw[hw];refine wpAny_bind (wpAny_pure ?_);show wpAny (model X.prog X.w) X.A (do rule "assign.swapped-stores";let items <-unpackItems (.ref s1.heap.objs.size) 2 none;assignInOrder [fun v=>bindName X.env y v,fun v=>bindName X.env x v] items.reverse;pure Flow.next) _ _ _;refine wpAny_bind (wpAny_rule (wpAny_bind (unpackItems_tuple (items:= #[u1,u2]) (I.ok.hd hc) (IsTup.new s1.heap _) fun h' hx'=>?_)));have I3:=I2.kept (h':=h') (t':=s1.toks) fun b o e=>hx' b o (Nat.ne_of_lt (Heap.lt_size e)) e;show wpAny _ _ (assignInOrder [fun v=>bindName X.env y v,fun v=>bindName X.env x v] [u2,u1] >>= fun _=>pure Flow.next) _ _ _;refine wpAny_bind (assignInOrder_cons (wpAny_bindName (nX I3 hN hj (.inl hy) rw' (fun s2 I4=>?_) (.inr hy))));refine assignInOrder_cons (wpAny_bindName (nX I4 hN hi (.inl hx) rv (fun s3 I5=>assignInOrder_nil (wpAny_pure ?_)) (.inr hx)));rw[List.set_comm _ _ (Ne.symm hij)]at I5;exact⟨_,H1,I5,q1⟩
def H0(i:Nat)(te:TE)(ti:FQ):TS:=fun D σ H=>∃x,σ[i]?=some (some x)/\te σ H fun y H1=>ti x y H1 fun z H2=>D.nx (σ.set i (some z)) H2
theorem Iy{i:Nat}{x:Str}{e:Expr}{te:TE}{op:Operator}{ti:FQ}{pos':Pos}(hN:X.N.Nodup)(hi:X.N[i]?=some x)(hx:Loc X.env.scope x)(he:PE X e te)(ho:Ii X op ti)(hf:X.fn x=true\/X.env.scope.names.lookup x=some .local:=by first|exact .inl rfl|exact .inr rfl|assumption):
 PS X (.AugAssign (.Name x pos') op e pos) (H0 i te ti):=by
 intro pins s σ H D I h;obtain⟨v,e1,h⟩:=h;obtain⟨m,hn,hl⟩:=I.loc;have vis:ze X.env.scope x:=by rcases hx with k|k;exact .inl k;exact .inr (.inl k)
 obtain⟨u,r,l⟩:=hl i x v hi e1 vis;refine wpAny_AugAssign_Name ?_
 have go:wpAny (model X.prog X.w) X.A (eval e X.env) (fun w s₂=>wpAny (model X.prog X.w) X.A (inplaceOp op u w) (fun r s₃=>wpAny (model X.prog X.w) X.A (storeName X.env x r) (fun _=>SP X pins D .next) X.xe s₃) X.xe s₂) X.xe s:=by
  refine bQ (he pins s σ H _ I h) fun w s1 ⟨y,H1,I1,r1,q1⟩=>?_;refine bQ (ho pins s1 σ H1 v y u w _ I1 r r1 q1) fun z s2 ⟨zv,H2,I2,r2,q2⟩=>?_;exact nX I2 hN hi hx r2 (fun s3 I3=>⟨_,H2,I3,q2⟩) hf
 rcases l with⟨hk,hm⟩|⟨hk,c,hc,hcell⟩
 . exact wpAny_loadName_local I.ok.kind hk hn hm go
 . rcases hk with hk|hk
   . exact wpAny_loadName_cell I.ok.kind hk hc hcell go
   . rcases hx with k|k
     . have:X.env.scope.names.lookup x=some .free:=hk;rw[k]at this;cases this
     . have:X.env.scope.names.lookup x=some .free:=hk;rw[k]at this;cases this
def IS(f:Int->Int->Int):FQ:=fun x y H Q=>∃i j,x= .int i/\y= .int j/\Q (.int (f i j)) H
theorem J_:Ii X .Add (IS fun i j=>i+j):=by
 intro pins s σ H x y v u Q I r1 r2 h;obtain⟨i,j,e1,e2,q⟩:=h;subst e1;subst e2;obtain⟨t,rfl⟩:=r1;obtain⟨t',rfl⟩:=r2;exact iadd_int ⟨.int _,H,I.tok _,⟨_,rfl⟩,q⟩
def Cj(c:TT)(tb:TS):TS:=fun D σ H=>∃W:Nat->St->Hp->Prop,(∃m,W m σ H)/\∀m σ H,W m σ H->
 c σ H fun b H1=>if b=true then∃N:St->Hp->Prop,(∀σ' H',N σ' H'->∃m',m'<m/\W m' σ' H')/\tb {D with nx:=N,ct:=N,bk:=D.nx} σ H1 else D.nx σ H1
theorem E3{c:Expr}{body:List Stmt}{tc:TT}{tb:TS}(hp:PassesOwn (model X.prog X.w) X.A X.env X.xe)(hc:PT X c tc)(hb:iy X body tb):PS X (.While c body [] pos) (Cj tc tb):=by
 intro pins s σ H D I h;obtain⟨W,⟨m0,w0⟩,turn⟩:=h;refine wpAny_While (codeAny_whileLoop (fun n s'=>∃σ' H',Inv X pins σ' H' s'/\W n σ' H') ?_ m0 ⟨σ,H,I,w0⟩);rintro n s1 ⟨σ1,H1,I1,w1⟩;refine wpAny_passesOwn hp (bQ (hc pins s1 σ1 H1 _ I1 (turn n σ1 H1 w1)) fun b s2 ⟨H2,I2,q2⟩=>?_);cases b with
 |true=>
  obtain⟨N,hN,q2⟩:=q2;rw[if_pos rfl];refine wpAny_passesOwn hp (bQ (hb pins s2 σ1 H2 _ I2 q2) fun f s3 q3=>?_);cases f with
  |next=>
   obtain⟨σ3,H3,I3,n3⟩:=q3;obtain⟨m',hm,w3⟩:=hN σ3 H3 n3;exact⟨m',hm,σ3,H3,I3,w3⟩
  |cont=>
   obtain⟨σ3,H3,I3,n3⟩:=q3;obtain⟨m',hm,w3⟩:=hN σ3 H3 n3;exact⟨m',hm,σ3,H3,I3,w3⟩
  |brk=>exact q3
  |ret v=>exact q3
 |false=>
  rw[if_neg Bool.false_ne_true];exact wpAny_execs_nil ⟨σ1,H2,I2,q2⟩
end
structure It where
 go:Nat->Hp->Prop
 pP:Nat->Hp->V->Hp->Prop
 stop:Nat->Hp->Prop
def l_(X:Cx)(pins:List (Addr×Obj))(H:Hp)(b:Addr):Prop:=
 H b=none/\b≠X.env.locals/\b∉X.fs/\(b∈X.ex\/X.s₀.heap.objs.size<=b)/\(∀x c,X.env.cells.lookup x=some c->c≠b)/\∀p∈X.pn++pins,p.1≠b
theorem Inv.vS{X:Cx}{pins:List (Addr×Obj)}{σ:St}{H H':Hp}{s:Shared}{b:Addr}(I:Inv X pins σ H s)(hb:s.heap.objs.size<=b)(hn:H' b=none):l_ X pins H' b:=by
 refine⟨hn,Nat.ne_of_gt (Nat.lt_of_lt_of_le I.lt hb),I.IX hb,.inr (Nat.le_trans I.sz hb),fun x c e z=>?_,fun p hp z=>?_⟩
 . obtain⟨v,q⟩:=I.cell x c e;exact absurd (Nat.lt_of_lt_of_le q.lt (by rw[z];exact hb)) (Nat.lt_irrefl _)
 . exact absurd (Nat.lt_of_lt_of_le (Heap.lt_size (I.pin p hp).1) (by rw[z];exact hb)) (Nat.lt_irrefl _)
structure Turn(P:Program)(w:World)(K:PySem.W.Frag)(tg:Expr)(J:It)(fp:List Addr)(it:Addr)(tn:Nat->Heap->Prop):Prop where
 mem:it∈fp
 obj:∀i h,tn i h->∀b∈fp,∃o,h.get? b=some o/\∀v,o.data≠ .cell v
 keep:∀i h h',tn i h->(∀b∈fp,∀o,h.get? b=some o->h'.get? b=some o)->tn i h'
 item:∀(X:Cx),X.prog=P->X.w=w->X.K=K->X.calm=true->∀(i:Nat) (pins:List (Addr×Obj)) (s:Shared) (σ:St) (H:Hp) (E:Value->Shared->Prop),Inv X pins σ H s->(∀b∈fp,l_ X pins H b)->tn i s.heap->J.go i H->
  wpAny (model P w) X.A (pyNext (.ref it)) (fun r s1=>∃u,r=some u/\
   wpAny (model P w) X.A (letOwnedTupleGo tg (.ref it) u) (fun _ s2=>∃x H',Inv X pins σ H' s2/\RelV x u/\J.pP i H x H'/\tn (i+1) s2.heap/\∀b∈fp,H' b=none) E s1) E s
 done:∀(X:Cx),X.prog=P->X.w=w->X.K=K->X.calm=true->∀(i:Nat) (pins:List (Addr×Obj)) (s:Shared) (σ:St) (H:Hp) (E:Value->Shared->Prop),Inv X pins σ H s->(∀b∈fp,l_ X pins H b)->tn i s.heap->J.stop i H->
  wpAny (model P w) X.A (pyNext (.ref it)) (fun r s1=>r=none/\Inv X pins σ H s1) E s
 self:∀(A:Around) (i:Nat) (s:Shared) (Q:Value->Shared->Prop) (E:Value->Shared->Prop),tn i s.heap->Q (.ref it) s->wpAny (model P w) A (pyIter (.ref it)) Q E s
abbrev TI:=St->Hp->(It->Hp->Prop)->Prop
def Gj(X:Cx)(pins:List (Addr×Obj))(σ:St)(tg:Expr)(R:It->Hp->Prop)(itv:Value)(s2:Shared):Prop:=
 ∃(it:Addr) (fp:List Addr) (tn:Nat->Heap->Prop) (J:It) (H':Hp),itv= .ref it/\Inv X pins σ H' s2/\Turn X.prog X.w X.K tg J fp it tn/\tn 0 s2.heap/\(∀b∈fp,l_ X pins H' b)/\R J H'
def PI(X:Cx)(tg iter:Expr)(wi:TI):Prop:=
 ∀(pins:List (Addr×Obj)) (s:Shared) (σ:St) (H:Hp) (R:It->Hp->Prop),Inv X pins σ H s->wi σ H R->
  wpAny (model X.prog X.w) X.A (eval iter X.env) (fun v s1=>wpAny (model X.prog X.w) X.A (pyIter v) (Gj X pins σ tg R) X.xe s1) X.xe s
theorem AX{M:Model}{A:Around}{E:Value->Shared->Prop}{s:Shared}{tg:Expr}{it:Addr}{u:Value}{o:Obj}{n:String}{vs:Array Value}{Q:Unit->Shared->Prop}(ho:s.heap.get? it=some o)(hc:o.cls= .type n)(hd:o.data= .fields vs)
 (hn: ["enumerate","zip","dict_itemiterator","dict_reverseitemiterator","odict_iterator","itertools.zip_longest","itertools.pairwise"].contains n=false) (hQ:Q () s):wpAny M A (letOwnedTupleGo tg (.ref it) u) Q E s:=by
 unfold letOwnedTupleGo
 cases tg<;>first
  |exact wpAny_pure hQ
  |(cases u<;>first
     |exact wpAny_pure hQ
     |(refine wpAny_bind (wpAny_load ho ?_)
       rw[hc,hd];show wpAny M A (if(["enumerate","zip","dict_itemiterator","dict_reverseitemiterator","odict_iterator","itertools.zip_longest","itertools.pairwise"].contains n&&vs[0]?==some (rawInt _))=true then _ else _) Q E s;rw[if_neg (by intro h;rw[hn,Bool.false_and]at h;cases h)];exact wpAny_pure hQ))
def J0(K:PySem.W.Frag)(a:Addr):It:=
 ⟨fun i H=>∃xs x,mM K H a xs/\xs[i]?=some x,fun i H x H'=>H'=H/\∀xs,mM K H a xs->xs[i]?=some x,fun i H=>∃xs,mM K H a xs/\xs.length<=i⟩
def Ij(K:PySem.W.Frag)(a:Addr):It:=
 ⟨fun i H=>∃xs x,jn K H a xs/\xs[i]?=some x,fun i H x H'=>H'=H/\∀xs,jn K H a xs->xs[i]?=some x,fun i H=>∃xs,jn K H a xs/\xs.length<=i⟩
def wk(lo:Int)(n:Nat):It:=⟨fun i _=>i<n,fun i H x H'=>H'=H/\x= .int (lo+i),fun i _=>n<=i⟩
theorem Dx{P:Program}{w:World}{K:PySem.W.Frag}{tg:Expr}(a it:Addr):Turn P w K tg (J0 K a) [it] it (fun i h=>h.IsListIter it a i) where
 mem:=by simp
 obj:=fun i h st b hb=>by
  have e:b=it:=by simpa using hb
  subst e;obtain⟨o,e,c,d⟩:=st;exact⟨o,e,fun v z=>by rw[d]at z;cases z⟩
 keep:=fun i h h' st k=>st.at fun o e=>k it (by simp) o e
 item:=by
  intro X hP hw hK hc i pins s σ H E I hf st hg;subst hP hw hK;obtain⟨xs,x,hq,hx⟩:=hg;obtain⟨its,rv,p,hz⟩:=I.list hq;obtain⟨u,hu,ru⟩:=rv.get hx;obtain⟨f0,f1,f2,f3,f4,f5⟩:=hf it (by simp);refine wpAny_pyNext_list_item st p.isList (x:=u) (by simpa using hu) fun h' st' sb=>?_;have I1:Inv X pins σ H {s with heap:=h'}:=I.turned (t':=s.toks) (fun b o hb e=>(sb.2 b hb).trans e) f0 f1 f3 f4 f5;obtain⟨o,e,c,d⟩:=id st';exact⟨u,rfl,AX (s:={s with heap:=h'}) e c d (by decide) ⟨x,H,I1,ru,⟨rfl,fun ys hy=>by rw[I.yi hy hq];exact hx⟩,st',fun b hb=>(hf b hb).1⟩⟩
 done:=by
  intro X hP hw hK hc i pins s σ H E I hf st hg;subst hP hw hK;obtain⟨xs,hq,hx⟩:=hg;obtain⟨its,rv,p,hz⟩:=I.list hq;obtain⟨f0,f1,f2,f3,f4,f5⟩:=hf it (by simp);have hl:=rv.length;exact wpAny_pyNext_list_end (I.ok.hd hc) st p.isList (by simp;omega) fun h' eb=>⟨rfl,I.turned (t':=s.toks) (fun b o hb e=>eb b o hb e) f0 f1 f3 f4 f5⟩
 self:=fun _ _ _ _ _ st h=>wpAny_pyIter_listiter st h
theorem AL{P:Program}{w:World}{K:PySem.W.Frag}{tg:Expr}(a it:Addr):Turn P w K tg (Ij K a) [it] it (fun i h=>h.IsTupleIter it a i) where
 mem:=by simp
 obj:=fun i h st b hb=>by
  have e:b=it:=by simpa using hb
  subst e;obtain⟨o,e,c,d⟩:=st;exact⟨o,e,fun v z=>by rw[d]at z;cases z⟩
 keep:=fun i h h' st k=>st.at fun o e=>k it (by simp) o e
 item:=by
  intro X hP hw hK hc i pins s σ H E I hf st hg;subst hP hw hK;obtain⟨xs,x,hq,hx⟩:=hg;obtain⟨its,rv,p,hz⟩:=I.tuple hq;obtain⟨u,hu,ru⟩:=rv.get hx;obtain⟨f0,f1,f2,f3,f4,f5⟩:=hf it (by simp);refine wpAny_pyNext_tuple_item st (show s.heap.IsTuple a its.toArray from p) (x:=u) (by simpa using hu) fun h' st' sb=>?_;have I1:Inv X pins σ H {s with heap:=h'}:=I.turned (t':=s.toks) (fun b o hb e=>(sb.2 b hb).trans e) f0 f1 f3 f4 f5;obtain⟨o,e,c,d⟩:=id st';exact⟨u,rfl,AX (s:={s with heap:=h'}) e c d (by decide) ⟨x,H,I1,ru,⟨rfl,fun ys hy=>by rw[I.wU hy hq];exact hx⟩,st',fun b hb=>(hf b hb).1⟩⟩
 done:=by
  intro X hP hw hK hc i pins s σ H E I hf st hg;subst hP hw hK;obtain⟨xs,hq,hx⟩:=hg;obtain⟨its,rv,p,hz⟩:=I.tuple hq;obtain⟨f0,f1,f2,f3,f4,f5⟩:=hf it (by simp);have hl:=rv.length;exact wpAny_pyNext_tuple_end (I.ok.hd hc) st (show s.heap.IsTuple a its.toArray from p) (by simp;omega) fun h' eb=>⟨rfl,I.turned (t':=s.toks) (fun b o hb e=>eb b o hb e) f0 f1 f3 f4 f5⟩
 self:=fun _ _ _ _ _ st h=>wpAny_pyIter_tupleiter st h
theorem AV{P:Program}{w:World}{K:PySem.W.Frag}{tg:Expr}(it:Addr)(lo:Int)(n:Nat):Turn P w K tg (wk lo n) [it] it (fun i h=>IsRangeIter h it (lo+(i:Nat)*1) ((n:Int)-(i:Nat)) 1) where
 mem:=by simp
 obj:=fun i h st b hb=>by
  have e:b=it:=by simpa using hb
  subst e
  exact⟨_,st,fun v z=>by
   have z':Data.fields _=Data.cell v:=z;cases z'⟩
 keep:=fun i h h' st k=>k it (by simp) _ st
 item:=by
  intro X hP hw hK hc i pins s σ H E I hf st hg;subst hP hw hK;obtain⟨f0,f1,f2,f3,f4,f5⟩:=hf it (by simp);have W:=Walks.range (prog:=X.prog) (w:=X.w) (I.ok.hd hc) it lo 1 n;refine W.item i s _ _ hg st fun v h' tk hv st' kk=>?_;obtain⟨t,rfl⟩:=hv;have I1:Inv X pins σ H {s with heap:=h',toks:=tk}:=I.turned (fun b o hb e=>kk b o (by simpa using hb) e) f0 f1 f3 f4 f5;refine⟨_,rfl,AX (s:={s with heap:=h',toks:=tk}) (n:="range_iterator") st' rfl rfl (by decide) ⟨.int (lo+i),H,I1,⟨t,?_⟩,⟨rfl,rfl⟩,st',fun b hb=>(hf b hb).1⟩⟩;rw[Int.mul_one]
 done:=by
  intro X hP hw hK hc i pins s σ H E I hf st hg;subst hP hw hK;obtain⟨f0,f1,f2,f3,f4,f5⟩:=hf it (by simp);exact wpAny_pyNext_range_end (I.ok.hd hc) st (by have:n<=i:=hg;omega) fun h' eb=>⟨rfl,I.turned (t':=s.toks) (fun b o hb e=>eb b o hb e) f0 f1 f3 f4 f5⟩
 self:=fun _ _ _ _ _ st h=>wpAny_pyIter_rangeiter st h
section
variable {X:Cx}{tg:Expr}
theorem yO{pins:List (Addr×Obj)}{σ:St}{H:Hp}{s:Shared}{R:It->Hp->Prop}{E:Value->Shared->Prop}{lo hi:Int}{t u v:Tok}{tk:Nat}(I:Inv X pins σ H s)(h1: -(2^62)<=lo)(h2:lo<2^62)(h3: -(2^62)<=hi)(h4:hi<2^62)
 (q:R (wk lo (hi-lo).toNat) H):wpAny (model X.prog X.w) X.A (pyIter (.ref s.heap.objs.size)) (Gj X pins σ tg R) E {s with heap:=s.heap.push {cls:= .type "range",data:= .fields #[.int lo t,.int hi u,.int 1 v]},toks:=tk}:=by
 refine wpAny_pyIter_range (IsRange.new ..) (small_one h1 h2 h3 h4) ?_;have I1:Inv X pins σ H {s with heap:=s.heap.push {cls:= .type "range",data:= .fields #[.int lo t,.int hi u,.int 1 v]},toks:=tk}:=I.kept fun b o e=>Heap.get?_push_of_some _ e
 refine⟨(s.heap.push {cls:= .type "range",data:= .fields #[.int lo t,.int hi u,.int 1 v]}).objs.size,[(s.heap.push {cls:= .type "range",data:= .fields #[.int lo t,.int hi u,.int 1 v]}).objs.size],_,_,H,rfl,
  I1.kept (t':=tk) fun b o e=>Heap.get?_push_of_some _ e,AV _ lo (hi-lo).toNat,?_,fun b hb=>?_,q⟩
 . have e1:lo+((0:Nat):Int)*1=lo:=by simp
   have e2:(((hi-lo).toNat:Nat):Int)-((0:Nat):Int)=Builtin.Range.rangeSize lo hi 1:=by rw[rangeSize_one];split<;>omega
   show IsRangeIter _ _ (lo+((0:Nat):Int)*1) ((((hi-lo).toNat:Nat):Int)-((0:Nat):Int)) 1;rw[e1,e2];exact Heap.get?_push_size _ rfl
 . have e:b=(s.heap.push {cls:= .type "range",data:= .fields #[.int lo t,.int hi u,.int 1 v]}).objs.size:=by simpa using hb
   subst e;exact I1.vS (Nat.le_refl _) (I1.aK.fresh (Nat.le_refl _))
def By(ta:TA):TI:=fun σ H R=>ta σ H fun vs H1=>∃j:Int,vs=[.int j]/\ -(2^62)<=j/\j<2^62/\R (wk 0 j.toNat) H1
def A6(ta:TA):TI:=fun σ H R=>ta σ H fun vs H1=>∃i j:Int,vs=[.int i,.int j]/\(-(2^62)<=i/\i<2^62/\ -(2^62)<=j/\j<2^62)/\R (wk i (j-i).toNat) H1
theorem DM{a:Expr}{ta:TA}{p pos:Pos}(hg:Gl X "range")(hm:X.mg "range"=none)(ha:PA X [a] ta)(hs:starEach [a] X.env=[(false,eval a X.env)]:=by rfl):PI X tg (.Call (.Name "range" p) [a] [] pos) (By ta):=by
 intro pins s σ H R I h;refine Call_ (mN I hg hm boot_range (PyProof.Rows.callWith_type1 (bQ (ha pos pins s σ H _ I h) fun us s1 ⟨vs,H1,I1,r1,q1⟩=>?_) hs rfl));obtain⟨j,e,q1,q2,q⟩:=q1;subst e;cases r1 with
 |cons r rr=>
  cases rr;obtain⟨t,rfl⟩:=r;exact call_range_1 (yO I1 (by omega) (by omega) q1 q2 (by simpa using q))
theorem Dk{a b:Expr}{ta:TA}{p pos:Pos}(hg:Gl X "range")(hm:X.mg "range"=none)(ha:PA X [a,b] ta)(hs:starEach [a,b] X.env=[(false,eval a X.env),(false,eval b X.env)]:=by rfl)(hs2:starEach [b] X.env=[(false,eval b X.env)]:=by rfl):
 PI X tg (.Call (.Name "range" p) [a,b] [] pos) (A6 ta):=by
 intro pins s σ H R I h;refine Call_ (mN I hg hm boot_range (PyProof.Rows.callWith_type1 (bQ (ha pos pins s σ H _ I h) fun us s1 ⟨vs,H1,I1,r1,q1⟩=>?_) (by rw[hs,hs2]) (by rw[hs2];rfl)));obtain⟨i,j,e,⟨q1,q2,q3,q4⟩,q⟩:=q1;subst e;cases r1 with
 |cons r rr=>
  cases rr with
  |cons r' rr=>
   cases rr;obtain⟨t,rfl⟩:=r;obtain⟨t',rfl⟩:=r';exact call_range_2 (yO I1 q1 q2 q3 q4 q)
def Kf(wi:TI)(g:TG)(tb:TS):TS:=fun D σ H=>wi σ H fun J H1=>∃W:Nat->Nat->St->Hp->Prop,(∃m,W 0 m σ H1)/\∀i m σ H,W i m σ H->
 (J.stop i H/\D.nx σ H)\/(J.go i H/\∃N:St->Hp->Prop,(∀σ' H',N σ' H'->∃m',m'<m/\W (i+1) m' σ' H')/\∀x H',J.pP i H x H'->g x σ H' fun σ2 H2=>tb {D with nx:=N,ct:=N,bk:=D.nx} σ2 H2)
def rJ(fp:List Addr)(h:Heap):List (Addr×Obj):=fp.filterMap fun b=>(h.get? b).map fun o=>(b,o)
theorem nC{fp:List Addr}{h:Heap}{b:Addr}{o:Obj}(hb:b∈fp)(e:h.get? b=some o):(b,o)∈rJ fp h:=List.mem_filterMap.mpr ⟨b,hb,by rw[e];rfl⟩
theorem DB{fp:List Addr}{h:Heap}{p:Addr×Obj}(hp:p∈rJ fp h):p.1∈fp/\h.get? p.1=some p.2:=by
 obtain⟨b,hb,e⟩:=List.mem_filterMap.mp hp;cases q:h.get? b with
 |none=>rw[q]at e;cases e
 |some o=>
  rw[q]at e;have e':(b,o)=p:=Option.some.inj e;subst e';exact⟨hb,q⟩
theorem Inv.pinned{pins:List (Addr×Obj)}{σ:St}{H:Hp}{s:Shared}{fp:List Addr}(I:Inv X pins σ H s)(hf:∀b∈fp,l_ X pins H b)(ho:∀b∈fp,∃o,s.heap.get? b=some o/\∀v,o.data≠ .cell v):Inv X (pins++rJ fp s.heap) σ H s:=
 I.sD fun p hp=>(List.mem_append.mp hp).elim (fun z=>I.pin p (List.mem_append_right _ z)) fun z=>by
  obtain⟨hb,e⟩:=DB z;obtain⟨f0,f1,f2,_⟩:=hf p.1 hb;obtain⟨o,e',d⟩:=ho p.1 hb;rw[e]at e';cases e';exact⟨e,f0,f1,f2,d⟩
theorem Inv.iP{pins pl:List (Addr×Obj)}{σ:St}{H:Hp}{s:Shared}(I:Inv X (pins++pl) σ H s):Inv X pins σ H s:=I.sD fun p hp=>I.pin p (List.mem_append_right _ (List.mem_append_left _ hp))
theorem JM{iter:Expr}{body:List Stmt}{wi:TI}{g:TG}{tb:TS}{pos:Pos}(hp:PassesOwn (model X.prog X.w) X.A X.env X.xe)(hc:X.calm=true)(hi:PI X tg iter wi)(hg:PG X tg g)(hb:iy X body tb)
 (hs:∀x,foldedSetIterable iter X.env x=pure x:=by intro _;rfl):PS X (.For tg iter body [] pos) (Kf wi g tb):=by
 intro pins s σ H D I h;refine wpAny_For (bQ (hi pins s σ H _ I h) fun v s1 h1=>bQ h1 fun itv s2 h2=>?_) hs;obtain⟨it,fp,tn,J,H2,e,I2,T,st2,f2,W,⟨m0,w0⟩,turn⟩:=h2;subst e;have stat:∀ {H':Hp},(∀b∈fp,H' b=none)->∀b∈fp,l_ X pins H' b:=fun hn b hb=>⟨hn b hb,(f2 b hb).2⟩
 refine codeAny_forLoop_any (fun n s'=>∃i σ' H',Inv X pins σ' H' s'/\tn i s'.heap/\(∀b∈fp,H' b=none)/\W i n σ' H') ?_ m0 ⟨0,σ,H2,I2,st2,fun b hb=>(f2 b hb).1,w0⟩;rintro n s3 ⟨i,σ3,H3,I3,st3,fr3,w3⟩;rcases turn i n σ3 H3 w3 with⟨stop,qn⟩|⟨go,N,hN,step⟩
 . refine wpAny_passesOwn hp (bQ (T.done X rfl rfl rfl hc i pins s3 σ3 H3 X.xe I3 (stat fr3) st3 stop) fun r s4 ⟨hr,I4⟩=>?_);subst hr;exact wpAny_execs_nil ⟨σ3,H3,I4,qn⟩
 . refine wpAny_passesOwn hp (bQ (T.item X rfl rfl rfl hc i pins s3 σ3 H3 X.xe I3 (stat fr3) st3 go) fun r s4 ⟨u,hr,h4⟩=>?_);subst hr;refine wpAny_passesOwn hp (bQ h4 fun _ s5 ⟨x,H5,I5,r5,y5,st5,fr5⟩=>?_);have I5':=I5.pinned (stat fr5) (T.obj _ _ st5);refine wpAny_passesOwn hp (bQ (hg _ s5 σ3 H5 x u _ I5' r5 (step x H5 y5)) fun _ s6 ⟨σ6,H6,I6,q6⟩=>?_);refine wpAny_passesOwn hp (bQ (hb _ s6 σ6 H6 _ I6 q6) fun f s7 q7=>?_)
   have again:∀ {σ7:St} {H7:Hp},Inv X (pins++rJ fp s5.heap) σ7 H7 s7->N σ7 H7->∃m,m<n/\∃i σ' H',Inv X pins σ' H' s7/\tn i s7.heap/\(∀b∈fp,H' b=none)/\W i m σ' H':=fun{σ7 H7} I7 n7=>by
    obtain⟨m',hm,w7⟩:=hN σ7 H7 n7;refine⟨m',hm,i+1,σ7,H7,I7.iP,T.keep _ _ _ st5 fun b hb o e=>(I7.pin (b,o) (List.mem_append_right _ (List.mem_append_right _ (nC hb e)))).1,fun b hb=>?_,w7⟩;obtain⟨o,e,d⟩:=T.obj _ _ st5 b hb;exact(I7.pin (b,o) (List.mem_append_right _ (List.mem_append_right _ (nC hb e)))).2.1
   cases f with
   |next=>obtain⟨σ7,H7,I7,n7⟩:=q7;exact again I7 n7
   |cont=>obtain⟨σ7,H7,I7,n7⟩:=q7;exact again I7 n7
   |brk=>obtain⟨σ7,H7,I7,q7⟩:=q7;exact⟨σ7,H7,I7.iP,q7⟩
   |ret v=>obtain⟨x7,σ7,H7,I7,r7,q7⟩:=q7;exact⟨x7,σ7,H7,I7.iP,r7,q7⟩
end
theorem jz{lo:Int}{n:Nat}{g:TG}{tb:TS}{D:Ends}{σ:St}{H:Hp}(Pv:Nat->St->Hp->Prop)(h0:Pv 0 σ H)
 (hs:∀i σ H,i<n->Pv i σ H->g (.int (lo+i)) σ H fun σ2 H2=>tb {D with nx:=Pv (i+1),ct:=Pv (i+1),bk:=D.nx} σ2 H2) (hd:∀σ H,Pv n σ H->D.nx σ H):
 ∃W:Nat->Nat->St->Hp->Prop,(∃m,W 0 m σ H)/\∀i m σ H,W i m σ H->
  ((wk lo n).stop i H/\D.nx σ H)\/((wk lo n).go i H/\∃N:St->Hp->Prop,(∀σ' H',N σ' H'->∃m',m'<m/\W (i+1) m' σ' H')/\∀x H',(wk lo n).pP i H x H'->g x σ H' fun σ2 H2=>tb {D with nx:=N,ct:=N,bk:=D.nx} σ2 H2):=by
 refine⟨fun i m σ H=>m=n-i/\i<=n/\Pv i σ H,⟨n,by simp,Nat.zero_le _,h0⟩,?_⟩;rintro i m σ H ⟨rfl,hi,p⟩;by_cases hlt:i<n
 . refine .inr ⟨hlt,Pv (i+1),fun σ' H' p'=>⟨n-(i+1),by omega,rfl,hlt,p'⟩,fun x H' y=>?_⟩;obtain⟨e,y⟩:=y;subst e y;exact hs i σ _ hlt p
 . have e:i=n:=by omega
   subst e;exact .inl ⟨Nat.le_refl _,hd σ H p⟩
abbrev R2:=V->V->Hp->VK->Prop
def cz(X:Cx)(f:Value->Value->Sem Value)(r:R2):Prop:=
 ∀(pins:List (Addr×Obj)) (s:Shared) (σ:St) (H:Hp) (x y:V) (v u:Value) (Q:VK),Inv X pins σ H s->RelV x v->RelV y u->r x y H Q->
  wpAny (model X.prog X.w) X.A (f v u) (EP X pins σ Q) X.xe s
def zW(X:Cx)(f:Value->Sem Value)(r:V->Hp->VK->Prop):Prop:=
 ∀(pins:List (Addr×Obj)) (s:Shared) (σ:St) (H:Hp) (x:V) (v:Value) (Q:VK),Inv X pins σ H s->RelV x v->r x H Q->
  wpAny (model X.prog X.w) X.A (f v) (EP X pins σ Q) X.xe s
def bK(X:Cx)(f:Value)(r:List V->Hp->VK->Prop):Prop:=
 ∀(pins:List (Addr×Obj)) (s:Shared) (σ:St) (H:Hp) (xs:List V) (us:List Value) (Q:VK),Inv X pins σ H s->Vals xs us->r xs H Q->
  wpAny (model X.prog X.w) X.A (call f us) (EP X pins σ Q) X.xe s
def CG(r:R2)(ta tb:TE):TE:=fun σ H Q=>ta σ H fun x H1=>tb σ H1 fun y H2=>r x y H2 Q
def MP(r:V->Hp->VK->Prop)(ta:TE):TE:=fun σ H Q=>ta σ H fun x H1=>r x H1 Q
def rI(C:Int->Int->Prop)(g:Int->Int->V):R2:=fun x y H Q=>∃i j,x= .int i/\y= .int j/\C i j/\Q (g i j) H
def wC(g:Int->Int->V):R2:=fun x y H Q=>∃i j,x= .int i/\y= .int j/\Q (g i j) H
def rU(g:Int->V):V->Hp->VK->Prop:=fun x H Q=>∃i,x= .int i/\Q (g i) H
section
variable {X:Cx}{a b c:Expr}{ta tb tc:TE}{pos:Pos}
theorem EO(ha:PE X a ta)(hb:PE X b tb){pins:List (Addr×Obj)}{s:Shared}{σ:St}{H:Hp}{R:V->V->Hp->Prop}(I:Inv X pins σ H s)
 (h:ta σ H fun x H1=>tb σ H1 fun y H2=>R x y H2) {Q:Value->Shared->Prop} {f:Value->Value->Sem Value}
 (hf:∀v u s2 x y H2,Inv X pins σ H2 s2->RelV x v->RelV y u->R x y H2->wpAny (model X.prog X.w) X.A (f v u) Q X.xe s2):
 wpAny (model X.prog X.w) X.A (eval a X.env) (fun v s₁=>wpAny (model X.prog X.w) X.A (eval b X.env) (fun u s₂=>wpAny (model X.prog X.w) X.A (f v u) Q X.xe s₂) X.xe s₁) X.xe s:=by
 refine bQ (ha pins s σ H _ I h) fun v s1 ⟨x,H1,I1,r1,q1⟩=>?_;refine bQ (hb pins s1 σ H1 _ I1 q1) fun u s2 ⟨y,H2,I2,r2,q2⟩=>?_;exact hf v u s2 x y H2 I2 r1 r2 q2
theorem Ls{op:Operator}{r:R2}(ho:cz X (binaryOp op) r)(ha:PE X a ta)(hb:PE X b tb):PE X (.BinOp a op b pos) (CG r ta tb):=by
 intro pins s σ H Q I h;exact wpAny_BinOp (EO ha hb I h fun v u s2 x y H2 I2 rx ry q=>ho pins s2 σ H2 x y v u Q I2 rx ry q)
theorem Ma{op:UnaryOp}{r:V->Hp->VK->Prop}(ho:zW X (unaryOp op) r)(ha:PE X a ta):PE X (.UnaryOp op a pos) (MP r ta):=by
 intro pins s σ H Q I h;exact UnaryOp_ (bQ (ha pins s σ H _ I h) fun v s1 ⟨x,H1,I1,r1,q1⟩=>ho pins s1 σ H1 x v Q I1 r1 q1)
theorem FH{f:Value->Value->Sem Value}{C:Int->Int->Prop}{g:Int->Int->Int}
 (rule:∀(i j:Int) (t u:Tok) (s:Shared) (Q:Value->Shared->Prop) (E:Value->Shared->Prop),C i j->Q (.int (g i j) s.toks) {s with toks:=s.toks+1}->wpAny (model X.prog X.w) X.A (f (.int i t) (.int j u)) Q E s):
 cz X f (rI C fun i j=> .int (g i j)):=by
 intro pins s σ H x y v u Q I rx ry h;obtain⟨i,j,rfl,rfl,hc,q⟩:=h;obtain⟨t,rfl⟩:=rx;obtain⟨t',rfl⟩:=ry;exact rule i j t t' s _ _ hc ⟨.int (g i j),H,I.tok _,⟨_,rfl⟩,q⟩
theorem Kt{f:Value->Value->Sem Value}{g:Int->Int->Int}
 (rule:∀(i j:Int) (t u:Tok) (s:Shared) (Q:Value->Shared->Prop) (E:Value->Shared->Prop),Q (.int (g i j) s.toks) {s with toks:=s.toks+1}->wpAny (model X.prog X.w) X.A (f (.int i t) (.int j u)) Q E s):
 cz X f (wC fun i j=> .int (g i j)):=by
 intro pins s σ H x y v u Q I rx ry h;obtain⟨i,j,rfl,rfl,q⟩:=h;obtain⟨t,rfl⟩:=rx;obtain⟨t',rfl⟩:=ry;exact rule i j t t' s _ _ ⟨.int (g i j),H,I.tok _,⟨_,rfl⟩,q⟩
theorem Fg{f:Value->Value->Sem Value}{g:Int->Int->Bool}
 (rule:∀(i j:Int) (t u:Tok) (s:Shared) (Q:Value->Shared->Prop) (E:Value->Shared->Prop),Q (.bool (g i j)) s->wpAny (model X.prog X.w) X.A (f (.int i t) (.int j u)) Q E s):
 cz X f (wC fun i j=> .bl (g i j)):=by
 intro pins s σ H x y v u Q I rx ry h;obtain⟨i,j,rfl,rfl,q⟩:=h;obtain⟨t,rfl⟩:=rx;obtain⟨t',rfl⟩:=ry;exact rule i j t t' s _ _ ⟨.bl (g i j),H,I,rfl,q⟩
def EF(i j:Int):Prop:=0<=j/\j<=1000000/\i.natAbs<2^64
theorem Jw:cz X (binaryOp .Add) (wC fun i j=> .int (i+j)):=Kt fun _ _ _ _ _ _ _ q=>add_int q
theorem JU:cz X (binaryOp .Sub) (wC fun i j=> .int (i-j)):=Kt fun _ _ _ _ _ _ _ q=>sub_int q
theorem HK:cz X (binaryOp .Mod) (rI (fun _ j=>j≠0) fun i j=> .int (i.fmod j)):=FH fun _ _ _ _ _ _ _ hc q=>mod_int' hc q
theorem JJ:cz X (binaryOp .Pow) (rI EF fun i j=> .int (i^j.toNat)):=FH fun _ _ _ _ _ _ _ hc q=>pow_int_small hc.1 hc.2.1 hc.2.2 q
theorem Oj{f:Value->Sem Value}{g:Int->Int}
 (rule:∀(i:Int) (t:Tok) (s:Shared) (Q:Value->Shared->Prop) (E:Value->Shared->Prop),Q (.int (g i) s.toks) {s with toks:=s.toks+1}->wpAny (model X.prog X.w) X.A (f (.int i t)) Q E s):
 zW X f (rU fun i=> .int (g i)):=by
 intro pins s σ H x v Q I rx h;obtain⟨i,rfl,q⟩:=h;obtain⟨t,rfl⟩:=rx;exact rule i t s _ _ ⟨.int (g i),H,I.tok _,⟨_,rfl⟩,q⟩
theorem IE:zW X (unaryOp .USub) (rU fun i=> .int (-i)):=Oj fun _ _ _ _ _ q=>neg_int q
end
def NA:V->V->Bool
 | .aI,.aI=>true| .aI,.int _=>true| .int _,.aI=>true| .aI,.bl _=>true| .bl _,.aI=>true| .aI,.str _=>true| .str _,.aI=>true
 | .int _,.int _=>true| .bl _,.bl _=>true| .str _,.str _=>true| .tQ _,.tQ _=>true
 | .int _,.str _=>true| .str _,.int _=>true| .bl _,.str _=>true| .str _,.bl _=>true
 |_,_=>false
def N_:R2:=fun x y H Q=>NA x y=true/\Q (.bl (!decide (x=y))) H
theorem GH{i j:Int}:decide (V.int i=V.int j)=(i==j):=by
 rw[Bool.eq_iff_iff];simp
theorem Im{i j:Bool}:decide (V.bl i=V.bl j)=(i==j):=by
 rw[Bool.eq_iff_iff];simp
theorem Hw{i j:Str}:decide (V.str i=V.str j)=(i==j):=by
 rw[Bool.eq_iff_iff];simp
theorem HL{i j:Array UInt8}:decide (V.tQ i=V.tQ j)=(i.toList==j.toList):=by
 rw[Bool.eq_iff_iff];cases i;cases j;simp
section
variable {X:Cx}{a b c:Expr}{ta tb tc:TE}{pos:Pos}
theorem gf{pins:List (Addr×Obj)}{σ:St}{H:Hp}{s:Shared}{Q:VK}{k k':Bool}(I:Inv X pins σ H s)(q:Q (.bl k) H)(e:k=k'):EP X pins σ Q (.bool k') s:=by
 subst e;exact⟨.bl k,H,I,rfl,q⟩
theorem Lk:cz X (compareOp .NotEq) N_:=by
 intro pins s σ H x y v u Q I rx ry h;obtain⟨hs,q⟩:=h;cases x with
 |aI=>
  cases rx;cases y with
  |aI=>cases ry;exact PySem.EqNone.ne_none_none (gf I q (by simp))
  |bl j=>cases ry;exact PySem.EqNone.ne_none_bool (gf I q (by simp))
  |int j=>obtain⟨t',rfl⟩:=ry;exact PySem.EqNone.ne_none_int (gf I q (by simp))
  |str j=>obtain⟨t',rfl⟩:=ry;exact PySem.EqNone.ne_none_str (gf I q (by simp))
  |_=>exact absurd (show false=true from hs) Bool.false_ne_true
 |bl i=>
  cases rx;cases y with
  |aI=>cases ry;exact PySem.EqNone.ne_bool_none (gf I q (by simp))
  |bl j=>cases ry;exact ne_bool (gf I q (congrArg not Im))
  |str j=>obtain⟨t',rfl⟩:=ry;exact PySem.EqMixed.ne_bool_str (gf I q (by simp))
  |_=>exact absurd (show false=true from hs) Bool.false_ne_true
 |int i=>
  obtain⟨t,rfl⟩:=rx;cases y with
  |aI=>cases ry;exact PySem.EqNone.ne_int_none (gf I q (by simp))
  |int j=>obtain⟨t',rfl⟩:=ry;exact ne_int (gf I q (congrArg not GH))
  |str j=>obtain⟨t',rfl⟩:=ry;exact PySem.EqMixed.ne_int_str (gf I q (by simp))
  |_=>exact absurd (show false=true from hs) Bool.false_ne_true
 |str i=>
  obtain⟨t,rfl⟩:=rx;cases y with
  |aI=>cases ry;exact PySem.EqNone.ne_str_none (gf I q (by simp))
  |bl j=>cases ry;exact PySem.EqMixed.ne_str_bool (gf I q (by simp))
  |int j=>obtain⟨t',rfl⟩:=ry;exact PySem.EqMixed.ne_str_int (gf I q (by simp))
  |str j=>obtain⟨t',rfl⟩:=ry;exact ne_str (gf I q (congrArg not Hw))
  |_=>exact absurd (show false=true from hs) Bool.false_ne_true
 |tQ i=>
  obtain⟨t,rfl⟩:=rx;cases y with
  |tQ j=>obtain⟨t',rfl⟩:=ry;exact PySem.W.ne_bytes (gf I q (congrArg not HL))
  |_=>exact absurd (show false=true from hs) Bool.false_ne_true
 |_=>cases y<;>exact absurd (show false=true from hs) Bool.false_ne_true
theorem Mg:cz X (compareOp .Lt) (wC fun i j=> .bl (decide (i<j))):=Fg fun _ _ _ _ _ _ _ q=>lt_int q
theorem Mn:cz X (compareOp .Gt) (wC fun i j=> .bl (decide (j<i))):=Fg fun _ _ _ _ _ _ _ q=>gt_int q
theorem Mm:cz X (compareOp .GtE) (wC fun i j=> .bl (decide (j<=i))):=Fg fun _ _ _ _ _ _ _ q=>ge_int q
theorem bS(b:Expr){op:CmpOp}(h:op≠ .In:=by decide)(h2:op≠ .NotIn:=by decide):behindInMarks op b=false:=by
 have e1:(op==CmpOp.In)=false:=by cases op<;>first|rfl|exact absurd rfl h
 have e2:(op==CmpOp.NotIn)=false:=by cases op<;>first|rfl|exact absurd rfl h2
 cases b<;>simp[behindInMarks,e1,e2]
theorem HX{op:CmpOp}{r:R2}(ho:cz X (compareOp op) r)(ha:PE X a ta)(hb:PE X b tb)(hm:behindInMarks op b=false):PE X (.Compare a [op] [b] pos) (CG r ta tb):=by
 intro pins s σ H Q I h;exact wpAny_Compare1 (EO ha hb I h fun v u s2 x y H2 I2 rx ry q=>ho pins s2 σ H2 x y v u Q I2 rx ry q) hm
def Lq(t:TE):TT:=fun σ H Q=>t σ H fun x H'=>∃k,x= .bl k/\Q k H'
theorem GA{op:CmpOp}{r:R2}(ho:cz X (compareOp op) r)(ha:PE X a ta)(hb:PE X b tb)(hm:behindInMarks op b=false):PT X (.Compare a [op] [b] pos) (Lq (CG r ta tb)):=by
 intro pins s σ H Q I h
 refine wpAny_isTrue_Compare1 (bQ (ha pins s σ H _ I h) fun v s1 ⟨x,H1,I1,r1,q1⟩=>bQ (hb pins s1 σ H1 _ I1 q1) fun u s2 ⟨y,H2,I2,r2,q2⟩=>
  bQ (ho pins s2 σ H2 x y v u _ I2 r1 r2 q2) fun c s3 ⟨z,H3,I3,r3,k,e,q3⟩=>?_) hm
 subst e;cases r3;exact wpAny_truthy_bool ⟨H3,I3,q3⟩
theorem rD:(sizeLine:Nat)<2^63:=by rw[sizeLine_eq];decide
theorem AI:cz X (binaryOp .Add) (fun x y H Q=>∃i j,x= .str i/\y= .str j/\i.length+j.length<=sizeLine/\Q (.str (i++j)) H):=by
 intro pins s σ H x y v u Q I rx ry h;obtain⟨i,j,rfl,rfl,hz,q⟩:=h;obtain⟨t,rfl⟩:=rx;obtain⟨t',rfl⟩:=ry;exact add_str (fun t' tk=>⟨.str (i++j),H,I.tok _,⟨_,rfl⟩,q⟩) hz
theorem vals1{x:V}{us:List Value}(r:Vals [x] us):∃u,us=[u]/\RelV x u:=by
 cases r with
 |cons r1 r2=>cases r2;exact⟨_,rfl,r1⟩
theorem vals2{x y:V}{us:List Value}(r:Vals [x,y] us):∃u w',us=[u,w']/\RelV x u/\RelV y w':=by
 cases r with
 |cons r1 r2=>
  cases r2 with
  |cons r3 r4=>cases r4;exact⟨_,_,rfl,r1,r3⟩
theorem EC:bK X (.builtin "abs") (fun xs H Q=>∃i,xs=[.int i]/\Q (.int (if i<0 then-i else i)) H):=by
 intro pins s σ H xs us Q I r h;obtain⟨i,rfl,q⟩:=h;obtain⟨u,rfl,t,rfl⟩:=vals1 r;exact call_abs_int fun u tk=>⟨.int (if i<0 then-i else i),H,I.tok _,⟨_,rfl⟩,q⟩
theorem CQ(hc:X.calm=true):bK X (.builtin "min") (fun xs H Q=>∃i j,xs=[.int i,.int j]/\Q (.int (if j<i then j else i)) H):=by
 intro pins s σ H xs us Q I r h;obtain⟨i,j,rfl,q⟩:=h;obtain⟨u,w',rfl,⟨t,rfl⟩,⟨t',rfl⟩⟩:=vals2 r;refine min_two_ints (I.ok.hd hc) fun h' tk k=>⟨_,H,I.kept k,?_,q⟩
 by_cases hj:j<i
 . rw[if_pos hj,if_pos hj];exact⟨_,rfl⟩
 . rw[if_neg hj,if_neg hj];exact⟨_,rfl⟩
theorem Cs:bK X (.type "int") (fun xs H Q=>(∃i,xs=[.int i]/\Q (.int i) H)\/∃k,xs=[.bl k]/\Q (.int (if k then 1 else 0)) H):=by
 intro pins s σ H xs us Q I r h;rcases h with⟨i,rfl,q⟩|⟨k,rfl,q⟩
 . obtain⟨u,rfl,t,rfl⟩:=vals1 r;exact call_int_int ⟨.int i,H,I,⟨_,rfl⟩,q⟩
 . obtain⟨u,rfl,r1⟩:=vals1 r;cases r1;exact call_int_bool ⟨.int (if k then 1 else 0),H,I.tok _,⟨_,rfl⟩,q⟩
end
structure tZ(h:Heap)(x dx C:Addr)(mA:Str->Option Value):Prop where
 obj:h.get? x=some (PySem.W.instObj C dx)
 ns:h.Ns1 dx mA
 ne:dx≠x
theorem C6{h:Heap}{dx:Addr}{mA:Str->Option Value}(n:h.Ns1 dx mA):∃od,h.get? dx=some od/\∀name,PySem.W.lookIn name od=some (mA name):=by
 obtain⟨o,es,ep,ho,hd,hk,_,hm⟩:=n;refine⟨o,ho,fun name=>?_⟩;have e:=hm name;unfold nsFind findBy at e;rw[<-Array.find?_toList]at e;unfold PySem.W.lookIn;rw[hd];dsimp only;split
 . rename_i y q;rw[q]at e;exact congrArg some e
 . rename_i q;rw[q]at e
   have a:es.toList.any (·.refKey)=false:=by
    rw[List.any_eq_false];intro y hy;obtain⟨z,t,hkey⟩:=hk y (Array.mem_toList_iff.mp hy);simp[DictEntry.refKey,hkey]
   have a':¬es.toList.any (·.refKey)=true:=by rw[a];exact Bool.false_ne_true
   rw[if_neg a'];exact congrArg some e
theorem tZ.look{h:Heap}{x dx C:Addr}{mA:Str->Option Value}(I:tZ h x dx C mA):∃od,PySem.W.InstAt h x (PySem.W.instObj C dx) C (some od)/\∀name,PySem.W.lookIn name od=some (mA name):=
 let⟨od,ho,hl⟩:=C6 I.ns
 ⟨od,⟨I.obj,rfl,rfl,ho⟩,hl⟩
section
variable {prog:Program}{w:World}{A:Around}{E:Value->Shared->Prop}{s:Shared}{K:PySem.W.Frag}{x dx C f:Addr}{mA:Str->Option Value}{name:Str}{v:Value}
theorem get_map{expr:Bool}{Q:Value->Shared->Prop}(X:K.In s.heap)(I:tZ s.heap x dx C mA)(hg:PySem.W.plainGet K C name=true)(hh:PySem.W.hasDictIn K C=true)
 (ha:PySem.W.findIn K (.ref C) name=some none) (hv:mA name=some v) (hv':PySem.W.handedIn v=true) (h:Q v {s with toks:=s.toks+1}):
 wpAny (model prog w) A (getAttr (.ref x) name expr) Q E s:=by
 obtain⟨od,J,hl⟩:=I.look;exact PySem.W.get_value X J (PySem.W.plainGet_of hg).1 (PySem.W.findObj_own hh ha rfl (by rw[hl,hv])) hv' h
theorem EX{pl:Sem Bool}{Q:Value×List Value->Shared->Prop}(X:K.In s.heap)(I:tZ s.heap x dx C mA)(hg:PySem.W.plainGet K C name=true)
 (hf:PySem.W.findIn K (.ref C) name=some (some (.ref f))) (ht:PySem.W.isFn K (.ref f)=true) (hv:mA name=none) (h:Q (.ref f,[.ref x]) s):
 wpAny (model prog w) A (getMethod (.ref x) name pl) Q E s:=by
 obtain⟨od,J,hl⟩:=I.look;exact PySem.W.method_fn X J (PySem.W.plainGet_of hg).1 (PySem.W.plainGet_of hg).2 hf (beq_iff_eq.mp ht) (by show(PySem.W.lookIn name od).map (·.isSome)=some false;rw[hl,hv];rfl) h
theorem i5{ns:List Str}{Q:Unit->Shared->Prop}(X:K.In s.heap)(I:tZ s.heap x dx C mA)
 (hs:PySem.W.findIn K (.ref C) "__setattr__"=some (some (.builtin "object.__setattr__"))) (hp:PySem.W.plainOver K C=true) (ht:PySem.W.takerIn K C name=some none) (hh:PySem.W.hasDictIn K C=true)
 (hw:PySem.Within mA ns) (hsz:ns.length<=sizeLine)
 (h:∀h',tZ h' x dx C (fun y=>if y=name then some v else mA y)->Heap.SameBut dx s.heap h'->Q () {s with heap:=h',toks:=s.toks+2}):
 wpAny (model prog w) A (setAttr (.ref x) name v) Q E s:=by
 obtain⟨od,J,hl⟩:=I.look;refine PySem.W.set_plain X J hs (PySem.W.osa_open (s:={s with toks:=s.toks+1}) (r:=none) X J hp ht fun b=>?_);obtain⟨cd,hc,hd'⟩:=PySem.W.any_some hh;have hx:s.heap.get? x=some ⟨.ref C,some dx,.plain,#[]⟩:=I.obj;refine wpAny_bind (wpAny_pure (wpAny_bind (wpAny_bind (wpAny_loadPart hx (wpAny_bind (PySem.W.Looks.here (s:={s with toks:=s.toks+1}) (PySem.W.looks_clsIn X hc) ?_))))));rw[hd'];refine wpAny_pure (a:=some dx) (wpAny_bind (wpAny_pure (wpAny_bind ?_)));refine wpAny_nsSet1 (s:={s with toks:=s.toks+1}) I.ns fun h' hn2 hs2=>?_;obtain⟨oD,esD,epD,hoD,hdD,hcD⟩:=hn2.count (PySem.Within.cons name v hw);refine wpAny_bind (wpAny_lookBehind hoD (by rw[hdD];exact pastItsLine_dict (Nat.le_trans hcD (by rw[List.length_cons];omega))) ?_);exact wpAny_pure (h _ ⟨(hs2.2 _ (Ne.symm I.ne)).trans I.obj,hn2,I.ne⟩ hs2)
theorem EG{R:Result->Shared->Prop}{vs:List Value}{kw:List (Str×Value)}(X:K.In s.heap)(hm:PySem.W.makesIn K C=true)
 (hi:PySem.W.findIn K (.ref C) "__init__"=some (some (.ref f))) (hf:PySem.W.typeIn K (.ref f)=some (.type "function"))
 (h:codeAny (model prog w) (A.under (.builtin "type.__call__" ⟨.ref C::vs,kw⟩)) (.call (.ref f) ⟨.ref (s.heap.objs.size+1)::vs,kw⟩) (PySem.W.InitBack (s.heap.objs.size+1) R)
   {s with heap:=(s.heap.push PySem.W.emptyDict).push (PySem.W.instObj C s.heap.objs.size)}):
 codeAny (model prog w) A (.call (.ref C) ⟨vs,kw⟩) R s:=by
 obtain⟨hh,g,d,t,os⟩:=s;exact PySem.W.make_core (PySem.W.makes_of X hm) (PySem.W.looks_findIn X hi) (fun self=>PySem.W.bind_fn X self hf) (.inl rfl) h
end
def iw(f:Str)(v:V):List (Str×V)->List (Str×V)
 | []=>[(f,v)]
 |(g,x)::r=>if g=f then(g,v)::r else(g,x)::iw f v r
theorem tO(f g:Str)(v:V):∀fs:List (Str×V),(iw f v fs).lookup g=if g=f then some v else fs.lookup g
 | []=>by
   show List.lookup g [(f,v)]=_;by_cases h:g=f
   . have hb:(g==f)=true:=beq_iff_eq.mpr h;simp only[List.lookup,hb,if_pos h]
   . have hb:(g==f)=false:=beq_eq_false_iff_ne.mpr h;simp only[List.lookup,hb,if_neg h]
 |(k,x)::r=>by
  have ih:=tO f g v r;rw[show iw f v ((k,x)::r)=(if k=f then(k,v)::r else(k,x)::iw f v r)from rfl];by_cases hk:k=f
  . rw[if_pos hk];by_cases h:g=k
    . have hb:(g==k)=true:=beq_iff_eq.mpr h;simp only[List.lookup,hb,if_pos (h.trans hk)]
    . have hb:(g==k)=false:=beq_eq_false_iff_ne.mpr h;simp only[List.lookup,hb,if_neg (fun e:g=f=>h (e.trans hk.symm))]
  . rw[if_neg hk];by_cases h:g=k
    . have hb:(g==k)=true:=beq_iff_eq.mpr h;simp only[List.lookup,hb,if_neg (fun e:g=f=>hk (h.symm.trans e))]
    . have hb:(g==k)=false:=beq_eq_false_iff_ne.mpr h;simp only[List.lookup,hb];exact ih
theorem sf(f:Str)(v:V):∀fs:List (Str×V),f∈(iw f v fs).map (·.1)/\∀g,g∈fs.map (·.1)->g∈(iw f v fs).map (·.1)
 | []=>⟨by simp[iw],fun g h=>by simp at h⟩
 |(k,x)::r=>by
  obtain⟨i1,i2⟩:=sf f v r;rw[show iw f v ((k,x)::r)=(if k=f then(k,v)::r else(k,x)::iw f v r)from rfl];by_cases hk:k=f
  . rw[if_pos hk];subst hk;exact⟨by simp,fun g h=>by simpa using h⟩
  . rw[if_neg hk];refine⟨?_,fun g h=>?_⟩
    . rw[List.map_cons];exact List.mem_cons_of_mem _ i1
    . rw[List.map_cons]at h⊢;rcases List.mem_cons.mp h with e|e
      . exact List.mem_cons.mpr (.inl e)
      . exact List.mem_cons_of_mem _ (i2 g e)
theorem tU(f:Str)(v:V):∀fs:List (Str×V),(iw f v fs).length<=fs.length+1
 | []=>by simp[iw]
 |(k,x)::r=>by
  have ih:=tU f v r;rw[show iw f v ((k,x)::r)=(if k=f then(k,v)::r else(k,x)::iw f v r)from rfl];by_cases hk:k=f
  . rw[if_pos hk,List.length_cons,List.length_cons];omega
  . rw[if_neg hk,List.length_cons,List.length_cons];omega
theorem o9.some_of{v:V}{o:Option Value}(r:o9 (some v) o):∃u,o=some u/\RelV v u:=by
 cases o with
 |none=>exact(show False from r).elim
 |some u=>exact⟨u,rfl,r⟩
theorem o9.none_of{o:Option Value}(r:o9 none o):o=none:=by
 cases o with
 |none=>rfl
 |some u=>exact(show False from r).elim
theorem CA{v:V}{u:Value}(r:RelV v u):PySem.W.handedIn u=true:=by
 cases v with
 |aI=>cases (show u=Value.none from r);rfl
 |bl b=>cases (show u=Value.bool b from r);rfl
 |int i=>obtain⟨t,e⟩:=(show∃t,u=Value.int i t from r);cases e;rfl
 |str x=>obtain⟨t,e⟩:=(show∃t,u=Value.str x t from r);cases e;rfl
 |tQ b=>obtain⟨t,e⟩:=(show∃t,u=Value.bytes b t from r);cases e;rfl
 |tT b=>obtain⟨t,e⟩:=(show∃t,u=Value.float b t from r);cases e;rfl
 |ref a=>cases (show u=Value.ref a from r);rfl
 |ty n=>cases (show u=Value.type n from r);rfl
section
variable {P:Program}{w:World}{H H':Hp}{h h':Heap}{a C dx:Addr}{fs fs':List (Str×V)}
theorem pE(aK:iW P w H h)(e:H a=some (.ins C dx fs)):∃mA,tZ h a dx C mA/\(∀f,o9 (fs.lookup f) (mA f))/\PySem.Within mA (fs.map (·.1))/\fs.length<=1000/\H dx=some (.own a):=by
 obtain⟨d,z,ne,ob,mA,n,r,q⟩:=(show dP P w H h a (.ins C dx fs)from aK a _ e)
 exact⟨mA,⟨ob,n,ne⟩,r,q,z,d⟩
end
structure m8(K:PySem.W.Frag)(C:Addr):Prop where
 pg:PySem.W.plainGet K C Str.empty=true
 hd:PySem.W.hasDictIn K C=true
 po:PySem.W.plainOver K C=true
 sa:PySem.W.findIn K (.ref C) "__setattr__"=some (some (.builtin "object.__setattr__"))
theorem m8.get{K:PySem.W.Frag}{C:Addr}(c:m8 K C)(f:Str):PySem.W.plainGet K C f=true:=c.pg
def d9(K:PySem.W.Frag)(C:Addr)(f:Str):Prop:=PySem.W.findIn K (.ref C) f=some none
theorem d9.Lx{K:PySem.W.Frag}{C:Addr}{f:Str}(n:d9 K C f):PySem.W.takerIn K C f=some none:=by
 unfold PySem.W.takerIn;rw[show PySem.W.findIn K (.ref C) f=some none from n];rfl
structure Meth(K:PySem.W.Frag)(C:Addr)(m:Str)(f:Addr):Prop where
 at_:PySem.W.findIn K (.ref C) m=some (some (.ref f))
 fn:PySem.W.isFn K (.ref f)=true
 kp:PySem.W.keepIn K (.ref f)=true
section
variable {X:Cx}{pins:List (Addr×Obj)}{σ:St}{H:Hp}{s:Shared}{a C dx:Addr}{fs:List (Str×V)}{f:Str}{v:V}{A:Around}{E:Value->Shared->Prop}
theorem BO{b:Bool}{Q:Value->Shared->Prop}(I:Inv X pins σ H s)(e:H a=some (.ins C dx fs))(c:m8 X.K C)(n:d9 X.K C f)(l:fs.lookup f=some v)
 (h:∀u s',Inv X pins σ H s'->RelV v u->Q u s'):wpAny (model X.prog X.w) A (getAttr (.ref a) f b) Q E s:=by
 obtain⟨mA,O,r,_,_,_⟩:=pE I.aK e;obtain⟨u,hu,ru⟩:=o9.some_of (v:=v) (o:=mA f) (by rw[<-l];exact r f);exact get_map I.ib O (c.get f) c.hd n hu (CA ru) (h u _ (I.tok _) ru)
theorem uW{m:Str}{g:Addr}{pl:Sem Bool}{Q:Value×List Value->Shared->Prop}(I:Inv X pins σ H s)(e:H a=some (.ins C dx fs))(c:m8 X.K C)(k:Meth X.K C m g)(l:fs.lookup m=none)
 (h:Q (.ref g,[.ref a]) s):wpAny (model X.prog X.w) A (getMethod (.ref a) m pl) Q E s:=by
 obtain⟨mA,O,r,_,_,_⟩:=pE I.aK e;have hn:mA m=none:=o9.none_of (by rw[<-l];exact r m);exact EX I.ib O (c.get m) k.at_ k.fn hn h
theorem Bw{y:V}{u:Value}{Q:Unit->Shared->Prop}(I:Inv X pins σ H s)(e:H a=some (.ins C dx fs))(c:m8 X.K C)(n:d9 X.K C f)(hl:fs.length<1000)(ry:RelV y u)
 (h:∀s',Inv X pins σ (upd H a (.ins C dx (iw f y fs))) s'->Q () s'):wpAny (model X.prog X.w) A (setAttr (.ref a) f u) Q E s:=by
 obtain⟨mA,O,r,wi,_,ho⟩:=pE I.aK e;have hz:(fs.map (·.1)).length<=sizeLine:=by rw[List.length_map,sizeLine_eq];omega
 refine i5 I.ib O c.sa c.po n.Lx c.hd wi hz fun h' O' sb=>h _ ?_;have hd:∃o,h'.get? dx=some o:=let⟨o,_,_,e',_⟩:=O'.ns;⟨o,e'⟩
 refine I.write (x:=a) (e:=dx) (by rw[e];exact True.intro) (.inr ho) (fun b q hb z=>(sb.2 b hb).trans z) hd ?_;refine⟨by rw[ax O.ne];exact ho,?_,O.ne,O'.obj,_,O'.ns,fun g=>?_,fun g hg=>?_⟩
 . have:=tU f y fs;omega
 . show o9 ((iw f y fs).lookup g) (if g=f then some u else mA g);rw[tO];by_cases q:g=f
   . rw[if_pos q,if_pos q];exact ry
   . rw[if_neg q,if_neg q];exact r g
 . by_cases q:g=f
   . rw[q];exact(sf f y fs).1
   . refine(sf f y fs).2 g (wi g fun z=>hg ?_);show(if g=f then some u else mA g)=none;rw[if_neg q];exact z
theorem Inv.made(I:Inv X pins σ H s):Inv X pins σ (upd (upd H s.heap.objs.size (.own (s.heap.objs.size+1))) (s.heap.objs.size+1) (.ins C s.heap.objs.size []))
 {s with heap:=(s.heap.push PySem.W.emptyDict).push (PySem.W.instObj C s.heap.objs.size)}:=by
 have e1:(s.heap.push PySem.W.emptyDict).get? s.heap.objs.size=some PySem.W.emptyDict:=Heap.get?_push_size s.heap rfl
 have e2:((s.heap.push PySem.W.emptyDict).push (PySem.W.instObj C s.heap.objs.size)).get? (s.heap.objs.size+1)=some (PySem.W.instObj C s.heap.objs.size):=by
  have:=Heap.get?_push_size (s.heap.push PySem.W.emptyDict) (o:=PySem.W.instObj C s.heap.objs.size) rfl;rwa [Heap.size_push]at this
 have e3:(s.heap.push PySem.W.emptyDict).Ns s.heap.objs.size (fun _=>none):=⟨PySem.W.emptyDict,#[],_,e1,rfl,(fun e he=>absurd he (by simp)),fun _=>rfl⟩
 have I1:=I.laid (a:=s.heap.objs.size) (o:= .own (s.heap.objs.size+1)) (h':=s.heap.push PySem.W.emptyDict) (t':=s.toks) (fun b u q=>Heap.get?_push_of_some _ q) (Nat.le_refl _) ⟨_,e1⟩;refine I1.laid (a:=s.heap.objs.size+1) (o:= .ins C s.heap.objs.size []) (t':=s.toks) (fun b u q=>Heap.get?_push_of_some _ q) (Nat.le_of_eq (Heap.size_push _ _)) ?_;have ne:s.heap.objs.size≠s.heap.objs.size+1:=Nat.ne_of_lt (Nat.lt_succ_self _);refine⟨by rw[ax ne,aU],Nat.zero_le _,ne,e2,fun _=>none,(Heap.Ns1.of_empty e3).at fun o q=>Heap.get?_push_of_some _ q,fun _=>True.intro,fun y hy=>absurd rfl hy⟩
theorem HE{prog:Program}{w:World}{env:Env}{e:Expr}{f:Str}{pos:Pos}{s:Shared}{Q:Value->Shared->Prop}(hb:attributeBase e f env (eval e env)=eval e env)
 (h:wpAny (model prog w) A (eval e env) (fun o s₁=>wpAny (model prog w) A (getAttr o f true) Q E s₁) E s):wpAny (model prog w) A (eval (.Attribute e f pos) env) Q E s:=
 Attribute_any_ h (by rw[arm_eval_Attribute,hb])
end
def NI(K:PySem.W.Frag)(ta:TE)(f:Str):TE:=fun σ H Q=>ta σ H fun x H1=>∃a C dx fs v,x= .ref a/\H1 a=some (.ins C dx fs)/\m8 K C/\d9 K C f/\fs.lookup f=some v/\Q v H1
def NL(K:PySem.W.Frag)(ta tv:TE)(f:Str):TS:=fun D σ H=>tv σ H fun y H1=>ta σ H1 fun x H2=>∃a C dx fs,x= .ref a/\H2 a=some (.ins C dx fs)/\m8 K C/\d9 K C f/\fs.length<1000/\
 D.nx σ (upd H2 a (.ins C dx (iw f y fs)))
section
variable {X:Cx}{o e value:Expr}{f:Str}{pos pos' tpos:Pos}{ta tv:TE}
theorem Jr(he:PE X e ta)(hb:attributeBase e f X.env (eval e X.env)=eval e X.env):PE X (.Attribute e f pos) (NI X.K ta f):=by
 intro pins s σ H Q I h;refine HE hb (bQ (he pins s σ H _ I h) fun u s1 ⟨x,H1,I1,rx,a,C,dx,fs,v,ex,ea,c,n,l,q⟩=>?_);subst ex;obtain rfl:u=Value.ref a:=rx;exact BO I1 ea c n l fun u' s2 I2 ru=>⟨v,H1,I2,ru,q⟩
theorem Jo(ha:PE X o ta)(hv:PE X value tv)(hs:swapsWith value (some (.Attribute o f pos')) pos.line X.env=pure false):PS X (.Assign [.Attribute o f pos'] value pos) (NL X.K ta tv f):=by
 intro pins s σ H D I h;refine plainObj_wpAny_Assign_Attribute (bQ (hv pins s σ H _ I h) fun u s1 ⟨y,H1,I1,ry,q⟩=>bQ (ha pins s1 σ H1 _ I1 q) fun ov s2 ⟨x,H2,I2,rx,a,C,dx,fs,ex,ea,c,n,l,q2⟩=>?_) hs;subst ex;obtain rfl:ov=Value.ref a:=rx;exact Bw I2 ea c n l ry fun s3 I3=>⟨σ,_,I3,q2⟩
end
section
variable {X:Cx}{pins:List (Addr×Obj)}{σ:St}{H:Hp}{s:Shared}{A:Around}{E:Value->Shared->Prop}{Q:Value->Shared->Prop}{c:Value}{b:Bool}
inductive j7(K:PySem.W.Frag)(H:Hp):V->Value->Prop where
 |aI:j7 K H .aI (.type "NoneType")
 |bl (x:Bool):j7 K H (.bl x) (.type "bool")
 |int (i:Int):j7 K H (.int i) (.type "int")
 |str (x:Str):j7 K H (.str x) (.type "str")
 |tT (x:UInt64):j7 K H (.tT x) (.type "float")
 |lst {a:Addr} {xs:List V} (e:H a=some (.lst xs)):j7 K H (.ref a) (.type "list")
 |g9 {a:Addr} {o:Obj} {xs:List V} (e:H a=some (.g9 o (.lst xs))):j7 K H (.ref a) (.type "list")
 |tup {a:Addr} {xs:List V} (e:H a=some (.tup xs)):j7 K H (.ref a) (.type "tuple")
 |dK {a:Addr} {kvs:List (Key×V)} (e:H a=some (.dK kvs)):j7 K H (.ref a) (.type "dict")
 |dT {a:Addr} {kvs:List (List Key×V)} (e:H a=some (.dT kvs)):j7 K H (.ref a) (.type "dict")
 |ins {a C dx:Addr} {fs:List (Str×V)} (e:H a=some (.ins C dx fs)) (cl:m8 K C) (ha:PySem.W.findIn K (.ref C) "__class__"=some (some (.builtin "object.__class__")))
   (hn:PySem.W.specialIn K (.builtin "object.__class__") "__get__"=some (some (.builtin "getset_descriptor.__get__"))) (htk:PySem.W.takesIn K (.builtin "object.__class__")=some true)
   (hm:PySem.W.mroIn K C (.type "object")=some true):j7 K H (.ref a) (.ref C)
theorem CS{x:V}{u t:Value}(I:Inv X pins σ H s)(rx:RelV x u)(ty:j7 X.K H x t)(e:PySem.W.kitOne X.K t c=some b)(h:∀tk,Q (.bool b) {s with toks:=tk}):
 wpAny (model X.prog X.w) A (call (.builtin "isinstance") [u,c]) Q E s:=by
 cases ty with
 |aI=>cases (show u=Value.none from rx);exact PySem.W.kia_one PySem.W.kitx_none I.ib True.intro e (fun z=>nomatch z) h
 |bl y=>cases (show u=Value.bool y from rx);exact PySem.W.kia_one PySem.W.kitx_bool I.ib True.intro e (fun z=>nomatch z) h
 |int i=>obtain⟨t,q⟩:=(show∃t,u=Value.int i t from rx);cases q;exact PySem.W.kia_one PySem.W.kitx_int I.ib True.intro e (fun z=>nomatch z) h
 |str y=>obtain⟨t,q⟩:=(show∃t,u=Value.str y t from rx);cases q;exact PySem.W.kia_one PySem.W.kitx_str I.ib True.intro e (fun z=>nomatch z) h
 |tT y=>obtain⟨t,q⟩:=(show∃t,u=Value.float y t from rx);cases q;exact PySem.W.kia_one PySem.W.kitx_float I.ib True.intro e (fun z=>nomatch z) h
 | @lst a xs ea=>
   cases (show u=Value.ref a from rx);obtain⟨_,_,n,_,h1⟩:=(show dP X.prog X.w H s.heap a (.lst xs)from I.aK a _ ea)
   exact PySem.W.kia_one PySem.W.kitx_list I.ib ⟨_,h1,rfl⟩ e (fun z=>nomatch z) h
 | @g9 a ob xs ea=>
   cases (show u=Value.ref a from rx);obtain⟨_,_,_,n,_,h1⟩:=(show dP X.prog X.w H s.heap a (.g9 ob (.lst xs))from I.aK a _ ea)
   exact PySem.W.kia_one PySem.W.kitx_list I.ib ⟨_,h1,rfl⟩ e (fun z=>nomatch z) h
 | @tup a xs ea=>
   cases (show u=Value.ref a from rx);obtain⟨_,_,_,p⟩:=(show dP X.prog X.w H s.heap a (.tup xs)from I.aK a _ ea)
   obtain⟨o,h1,h2,_⟩:=p;exact PySem.W.kia_one PySem.W.kitx_tuple I.ib ⟨o,h1,h2⟩ e (fun z=>nomatch z) h
 | @dK a kvs ea=>
   cases (show u=Value.ref a from rx);obtain⟨_,_,vs,_,p⟩:=(show dP X.prog X.w H s.heap a (.dK kvs)from I.aK a _ ea)
   obtain⟨o,es,ep,h1,h2,_⟩:=p;exact PySem.W.kia_one PySem.W.kitx_dict I.ib ⟨o,h1,h2.1⟩ e (fun z=>nomatch z) h
 | @dT a kvs ea=>
   cases (show u=Value.ref a from rx);obtain⟨_,_,xs,_,o,es,ep,h1,h2,_⟩:=(show dP X.prog X.w H s.heap a (.dT kvs)from I.aK a _ ea)
   exact PySem.W.kia_one PySem.W.kitx_dict I.ib ⟨o,h1,h2.1⟩ e (fun z=>nomatch z) h
 | @ins a C dx fs ea cl ha hn htk hm=>
   cases (show u=Value.ref a from rx);obtain⟨mA,O,_⟩:=pE I.aK ea;obtain⟨od,J,_⟩:=O.look;exact PySem.W.kia_one (PySem.W.kitx_own (cl.get _) cl.hd ha hn htk hm) I.ib J e (fun z=>nomatch z) h
end
structure cP(k:Nat)(A:Around):Prop where
 hd:A.handled=none
 dp:A.depth+3*k+105<recursionLimit
 un:A.units+16*k+200<cLine
theorem cP.mono{j k:Nat}{A:Around}(r:cP k A)(h:j<=k):cP j A:=⟨r.hd,by have:=r.dp;omega,by have:=r.un;omega⟩
theorem cP.deeper{k:Nat}{A:Around}(r:cP (k+1) A)(env:Env):cP k (A.deeper env):=
 ⟨r.hd,by have:=r.dp;show A.depth+1+3*k+105<_;omega,by have:=r.un;show A.units+3+16*k+200<_;omega⟩
theorem BC{A:Around}{C:Addr}{us:List Value}{kw:List (Str×Value)}:(A.under (.builtin "type.__call__" ⟨.ref C::us,kw⟩)).depth=A.depth+1:=by
 first|rfl|simp[Around.under,Code.weight,Code.isCreation,Code.isGuard,Code.isCaller,Code.frames,Code.isFrame,guardIds]
theorem Bb{A:Around}{C:Addr}{us:List Value}{kw:List (Str×Value)}:(A.under (.builtin "type.__call__" ⟨.ref C::us,kw⟩)).units=A.units+1:=by
 first|rfl|simp[Around.under,Code.cUnits,Code.frames,Code.isFrame]
theorem cP.make{k:Nat}{A:Around}(r:cP (k+1) A)(C:Addr)(us:List Value)(kw:List (Str×Value)):cP k (A.under (.builtin "type.__call__" ⟨.ref C::us,kw⟩)):=
 ⟨r.hd,by have:=r.dp;rw[BC];omega,by have:=r.un;rw[Bb];omega⟩
theorem cP.depth{k:Nat}{A:Around}(r:cP k A):A.depth<recursionLimit:=by have:=r.dp;omega
theorem cP.units{k:Nat}{A:Around}(r:cP k A):A.units+64<cLine:=by have:=r.un;omega
def IB:TA:=fun _ H Q=>Q [] H
def Mc(ta:TE)(tr:TA):TA:=fun σ H Q=>ta σ H fun x H1=>tr σ H1 fun xs H2=>Q (x::xs) H2
section
variable {X:Cx}{e:Expr}{es:List Expr}{te:TE}{t:TA}{pos:Pos}
theorem ID:PA X [] IB:=fun _ _ _ _ H Q I h=>Calls.spliced_nil ⟨[],H,I,.nil,h⟩
theorem GS(ha:PE X e te)(hr:PA X es t)(hs:starEach (e::es) X.env=(false,eval e X.env)::starEach es X.env:=by rfl):PA X (e::es) (Mc te t):=by
 intro pos pins s σ H Q I h;rw[hs];show wpAny _ _ (spliced ((false,eval e X.env)::backTo pos (starEach es X.env))) _ _ s;refine Calls.spliced_cons (bQ (ha pins s σ H _ I h) fun u s1 ⟨x,H1,I1,r1,q1⟩=>?_);exact bQ (hr pos pins s1 σ H1 _ I1 q1) fun us s2 ⟨xs,H2,I2,r2,q2⟩=>⟨x::xs,H2,I2,.cons r1 r2,q2⟩
def NH(t:TA):TE:=fun σ H Q=>t σ H fun xs H1=>xs.length<=sizeLine/\∀p,H1 p=none->Q (.ref p) (upd H1 p (.tup xs))
def NN(t:TA):TE:=fun σ H Q=>t σ H fun xs H1=>xs.length<=sizeLine/\∀p,H1 p=none->Q (.ref p) (upd H1 p (.lst xs))
theorem IC{x1}(h:PA X es t):PE X (.Tuple es x1 pos) (NH t):=by
 intro pins s σ H Q I hq;refine wpAny_Tuple_spliced (bQ (h pos pins s σ H _ I hq) fun us s1 ⟨xs,H1,I1,r,z,q⟩=>⟨by rw[<-r.length];exact z,?_⟩);have hf:H1 s1.heap.objs.size=none:=I1.aK.fresh (Nat.le_refl _);refine⟨.ref s1.heap.objs.size,upd H1 s1.heap.objs.size (.tup xs),I1.laid (t':=s1.toks) (fun b u e=>Heap.get?_push_of_some _ e) (Nat.le_refl _) ?_,rfl,q _ hf⟩;exact⟨z,us,r,⟨_,Heap.get?_push_size _ rfl,rfl,_,rfl⟩⟩
theorem Co(h:PA X es t):PE X (.List es pos) (NN t):=by
 intro pins s σ H Q I hq;refine wpAny_List_spliced (bQ (h pos pins s σ H _ I hq) fun us s1 ⟨xs,H1,I1,r,z,q⟩=>⟨by rw[<-r.length];exact z,?_⟩);have hf:H1 s1.heap.objs.size=none:=I1.aK.fresh (Nat.le_refl _);refine⟨.ref s1.heap.objs.size,upd H1 s1.heap.objs.size (.lst xs),I1.laid (t':=s1.toks) (fun b u e=>Heap.get?_push_of_some _ e) (Nat.le_refl _) ?_,rfl,q _ hf⟩;exact⟨z,us,0,r,Heap.get?_push_size _ rfl⟩
end
abbrev Sp:=List V->Hp->VK->XK->Prop
abbrev tJ:=List Env->Hp->Shared->XK->Value->Shared->Prop
structure ud(P:Program)(w:World)(K:PySem.W.Frag)(mg:Str->Option Value)(base:Heap)(A:Around)(outer:List Env)(s:Shared)(H:Hp):Prop where
 frames:A.frames=some outer
 mod:Mod K mg base
 bs:∀b o,base.get? b=some o->s.heap.get? b=some o/\H b=none
 rm:base.objs.size<=s.heap.objs.size
 lI:s.heap.FunFrames base outer
 uS:∀b∈pN outer,H b=none
 aK:iW P w H s.heap
 bare:AllBare s.gens
 gt:P.given.tree=none
def CE(outer:List Env)(P:Program)(w:World)(H:Hp)(s:Shared)(Q:VK)(u:Value)(s':Shared):Prop:=
 ∃v H',s'.os=s.os/\AllBare s'.gens/\Un (pN outer) [] H H' s.heap s'.heap/\iW P w H' s'.heap/\RelV v u/\Q v H'
def CR(CX:tJ)(outer:List Env)(P:Program)(w:World)(H:Hp)(s:Shared)(Q:VK)(E:XK)(r:Result)(s':Shared):Prop:=
 match r with
 | .ok (.ret u)=>CE outer P w H s Q u s'
 | .ok _=>False
 | .error e=>CX outer H s E e s'
structure bF(P:Program)(w:World)(K:PySem.W.Frag)(mg:Str->Option Value)(base:Heap)(CX:tJ)(k:Nat)(f:Addr)(fd:FuncData)(ps:List Str)(sp:Sp):Prop where
 len:∀vs H Q E,sp vs H Q E->vs.length=ps.length
 run:∀(A:Around) (outer:List Env) (s:Shared) (H:Hp) (args:Args) (us:List Value) (vs:List V) (Q:VK) (E:XK),cP k A->ud P w K mg base A outer s H->BindsTo s fd args (ps.zip us)->Vals vs us->sp vs H Q E->
  codeAny (model P w) A (.call (.ref f) args) (CR CX outer P w H s Q E) s
theorem bF.imp{P:Program}{w:World}{K:PySem.W.Frag}{mg:Str->Option Value}{base:Heap}{CX:tJ}{k:Nat}{f:Addr}{fd:FuncData}{ps:List Str}{sp sp':Sp}(F:bF P w K mg base CX k f fd ps sp)
 (h:∀vs H Q E,sp' vs H Q E->sp vs H Q E):bF P w K mg base CX k f fd ps sp':=
 ⟨fun vs H Q E q=>F.len vs H Q E (h _ _ _ _ q),fun A outer s H args us vs Q E hr he hb hv hs=>F.run A outer s H args us vs Q E hr he hb hv (h _ _ _ _ hs)⟩
theorem ud.make{P:Program}{w:World}{K:PySem.W.Frag}{mg:Str->Option Value}{base:Heap}{A:Around}{outer:List Env}{s:Shared}{H:Hp}(e:ud P w K mg base A outer s H)(C:Addr)(us:List Value)(kw:List (Str×Value)):
 ud P w K mg base (A.under (.builtin "type.__call__" ⟨.ref C::us,kw⟩)) outer s H:=⟨by first|exact e.frames|(simpa[Around.under,Code.envs,Code.isFrame,pushEnvs]using e.frames),e.mod,e.bs,e.rm,e.lI,e.uS,e.aK,e.bare,e.gt⟩
section
variable {X:Cx}{pins:List (Addr×Obj)}{σ:St}{H:Hp}{s s':Shared}
theorem Inv.IQ(I:Inv X pins σ H s):ud X.prog X.w X.K X.mg X.base X.A X.stack s H:=
 ⟨I.ok.frames,I.ok.mod,I.bs,Nat.le_trans I.ok.rm I.sz,I.stack,I.vE,I.aK,I.bare,I.ok.gt⟩
theorem Inv.after{Q:VK}{u:Value}(I:Inv X pins σ H s)(h:CE X.stack X.prog X.w H s Q u s'):EP X pins σ Q u s':=by
 obtain⟨v,H',os,bare,un,aK,r,q⟩:=h;obtain⟨hh,g,d,t,os'⟩:=s';obtain rfl:os'=s.os:=os;exact⟨v,H',I.call (h':=hh) (g':=g) (d':=d) (t':=t) (ch:=[]) un aK bare (fun b z=>absurd z (by simp)),r,q⟩
end
def F7(sp:Sp)(dvs:List V)(E:XK)(t:TA):TE:=fun σ H Q=>t σ H fun vs H1=>sp (vs++dvs) H1 Q E
def BL(C:Addr)(m:Str)(sp:Sp)(dvs:List V)(E:XK)(ta:TE)(t:TA):TE:=fun σ H Q=>ta σ H fun x H1=>∃a dx fs,x= .ref a/\H1 a=some (.ins C dx fs)/\fs.lookup m=none/\
 t σ H1 fun vs H2=>sp (x::(vs++dvs)) H2 Q E
def Gs(C:Addr)(sp:Sp)(dvs:List V)(E:XK)(t:TA):TE:=fun σ H Q=>t σ H fun vs H1=>∀x dx,H1 x=none->H1 dx=none->dx≠x->
 sp (.ref x::(vs++dvs)) (upd (upd H1 dx (.own x)) x (.ins C dx [])) (fun v H2=>v= .aI/\Q (.ref x) H2) E
def Binds(K:PySem.W.Frag)(fd:FuncData)(ps:List Str)(ds:List Value):Prop:=
 ∀(s:Shared) (us:List Value),K.In s.heap->(us++ds).length=ps.length->BindsTo s fd ⟨us,[]⟩ (ps.zip (us++ds))
theorem Binds.all{K:PySem.W.Frag}{fd:FuncData}{ps:List Str}(h:∀us:List Value,us.length=ps.length->bindArgs fd ⟨us,[]⟩=pure (ps.zip us)):Binds K fd ps []:=fun s us _ hl=>by
 rw[List.append_nil]at hl⊢;exact .of_eq (h us hl)
def Passes(CX:tJ)(X:Cx)(E:XK):Prop:=∀(pins:List (Addr×Obj)) (σ:St) (H:Hp) (s:Shared) (e:Value) (s':Shared),Inv X pins σ H s->CX X.stack H s E e s'->X.xe e s'
section
variable {X:Cx}{CX:tJ}{k:Nat}{f C:Addr}{fd:FuncData}{ps:List Str}{sp:Sp}{dvs:List V}{ds:List Value}{E:XK}{x m:Str}{p pos apos:Pos}{e o:Expr}{es:List Expr}{ta:TE}{t:TA}
theorem yy{pins:List (Addr×Obj)}{σ:St}{H:Hp}{s:Shared}{Q:VK}{us:List Value}{vs:List V}(F:bF X.prog X.w X.K X.mg X.base CX k f fd ps sp)(hr:cP k X.A)(hb:Binds X.K fd ps ds)(hd:Vals dvs ds)(hx:Passes CX X E)
 (I:Inv X pins σ H s) (r:Vals vs us) (h:sp (vs++dvs) H Q E):wpAny (model X.prog X.w) X.A (call (.ref f) us) (EP X pins σ Q) X.xe s:=by
 have r2:Vals (vs++dvs) (us++ds):=r.append hd;have hl:(us++ds).length=ps.length:=by rw[<-r2.length];exact F.len _ _ _ _ h
 refine wpAny_call (codeAny_mono (F.run X.A X.stack s H ⟨us,[]⟩ (us++ds) (vs++dvs) Q E hr I.IQ (hb s us I.ib hl) r2 h) fun r s' hq=>?_);cases r with
 |error e=>exact hx pins σ H s e s' I hq
 |ok fl=>
  cases fl with
  |ret u=>exact I.after hq
  |next=>exact False.elim hq
  |brk=>exact False.elim hq
  |cont=>exact False.elim hq
theorem HN(F:bF X.prog X.w X.K X.mg X.base CX k f fd ps sp)(hr:cP k X.A)(hg:Gl X x)(hm:X.mg x=some (.ref f))(hk:PySem.W.keepIn X.K (.ref f)=true)(hb:Binds X.K fd ps ds)(hd:Vals dvs ds)(hx:Passes CX X E)
 (ha:PA X (e::es) t) (hdb:(x==("__debug__":Str))=false:=by decide) (he:starEach (e::es) X.env=(false,eval e X.env)::starEach es X.env:=by rfl) (hpl:(backTo pos (starEach es X.env)).any (·.1)=false:=by rfl):
 PE X (.Call (.Name x p) (e::es) [] pos) (F7 sp dvs E t):=by
 intro pins s σ H Q I h;refine wpAny_Call_Name_kw (AG I hg hm ?_ hdb);refine PySem.W.callWith_K (h₀:=X.base) I.ok.mod.CT hk (bQ (ha pos pins s σ H _ I h) fun us s1 ⟨vs,H1,I1,r,q⟩=>⟨I1.ib,?_⟩) he hpl;exact yy F hr hb hd hx I1 r q
theorem GN{pl:Sem Bool}(he:PE X o ta)(c:m8 X.K C)(hm:Meth X.K C m f)(F:bF X.prog X.w X.K X.mg X.base CX k f fd ps sp)(hr:cP k X.A)(hb:Binds X.K fd ps ds)(hd:Vals dvs ds)(hx:Passes CX X E)(ha:PA X (e::es) t)
 (hst:starEach (e::es) X.env=(false,eval e X.env)::starEach es X.env:=by rfl) (hpl:(backTo pos (starEach es X.env)).any (·.1)=false:=by rfl)
 (ht:eval (.Call (.Attribute o m apos) (e::es) [] pos) X.env=(do
   let ov <-eval o X.env
   standAt apos.atName
   let(f,first) <-holding [ov] (getMethod ov m pl)
   callWith pos f first (backTo pos (starEach (e::es) X.env)) (backToKw pos (keywordEach [] X.env))):=by rfl):
 PE X (.Call (.Attribute o m apos) (e::es) [] pos) (BL C m sp dvs E ta t):=by
 intro pins s σ H Q I h;refine PySem.W.methodCall_KW (pl:=pl) (bQ (he pins s σ H _ I h) fun u s1 ⟨x,H1,I1,rx,a,dx,fs,ex,ea,l,q⟩=>?_) ht;subst ex;obtain rfl:u=Value.ref a:=rx;refine uW I1 ea c hm l ?_;refine PySem.W.callWith_K (first:=[.ref a]) (h₀:=X.base) I.ok.mod.CT hm.kp (bQ (ha pos pins s1 σ H1 _ I1 q) fun us s2 ⟨vs,H2,I2,r,q2⟩=>⟨I2.ib,?_⟩) hst hpl;exact yy (us:= .ref a::us) (vs:= .ref a::vs) F hr hb hd hx I2 (.cons rfl r) q2
theorem Ff{pl:Sem Bool}(he:PE X o ta)(c:m8 X.K C)(hm:Meth X.K C m f)(F:bF X.prog X.w X.K X.mg X.base CX k f fd ps sp)(hr:cP k X.A)(hb:Binds X.K fd ps ds)(hd:Vals dvs ds)(hx:Passes CX X E)
 (ht:eval (.Call (.Attribute o m apos) [] [] pos) X.env=(do
   let ov <-eval o X.env
   standAt apos.atName
   let(f,first) <-holding [ov] (getMethod ov m pl)
   callWith pos f first (backTo pos (starEach [] X.env)) (backToKw pos (keywordEach [] X.env))):=by rfl):
 PE X (.Call (.Attribute o m apos) [] [] pos) (BL C m sp dvs E ta IB):=by
 intro pins s σ H Q I h;refine PySem.W.methodCall_KW (pl:=pl) (bQ (he pins s σ H _ I h) fun u s1 ⟨x,H1,I1,rx,a,dx,fs,ex,ea,l,q⟩=>?_) ht;subst ex;obtain rfl:u=Value.ref a:=rx;refine uW I1 ea c hm l ?_;exact PySem.W.callWith_K0 (first:=[.ref a]) I1.ib hm.kp (yy (us:=[.ref a]) (vs:=[.ref a]) F hr hb hd hx I1 (.cons rfl .nil) q)
structure Mk(K:PySem.W.Frag)(C f:Addr):Prop where
 makes:PySem.W.makesIn K C=true
 init:PySem.W.findIn K (.ref C) "__init__"=some (some (.ref f))
 fn:PySem.W.isFn K (.ref f)=true
 kp:PySem.W.keepIn K (.ref C)=true
theorem Eh{pins:List (Addr×Obj)}{σ:St}{H:Hp}{s:Shared}{Q:VK}{us:List Value}{vs:List V}(M:Mk X.K C f)(F:bF X.prog X.w X.K X.mg X.base CX k f fd ps sp)(hr:cP (k+1) X.A)(hb:Binds X.K fd ps ds)(hd:Vals dvs ds)
 (hx:Passes CX X E) (I:Inv X pins σ H s) (r:Vals vs us)
 (h:∀x dx,H x=none->H dx=none->dx≠x->sp (.ref x::(vs++dvs)) (upd (upd H dx (.own x)) x (.ins C dx [])) (fun v H2=>v= .aI/\Q (.ref x) H2) E):
 wpAny (model X.prog X.w) X.A (call (.ref C) us) (EP X pins σ Q) X.xe s:=by
 have hq:=h (s.heap.objs.size+1) s.heap.objs.size (I.aK.fresh (Nat.le_succ _)) (I.aK.fresh (Nat.le_refl _)) (Nat.ne_of_lt (Nat.lt_succ_self _));have I2:=Inv.made (C:=C) I;have r2:Vals (V.ref (s.heap.objs.size+1)::(vs++dvs)) (Value.ref (s.heap.objs.size+1)::(us++ds)):= .cons rfl (r.append hd)
 have hl:(Value.ref (s.heap.objs.size+1)::us++ds).length=ps.length:=by
  have e:=r2.length;rw[F.len _ _ _ _ hq]at e;exact e.symm
 refine wpAny_call (EG (f:=f) I.ib M.makes M.init (beq_iff_eq.mp M.fn) (codeAny_mono (F.run _ X.stack _ _ ⟨Value.ref (s.heap.objs.size+1)::us,[]⟩ (Value.ref (s.heap.objs.size+1)::(us++ds)) _ _ E (hr.make C us [])
  (I2.IQ.make C us []) (hb _ (Value.ref (s.heap.objs.size+1)::us) I2.ib hl) r2 hq) fun r s' hq'=>?_))
 cases r with
 |error e=>exact hx pins σ _ _ e s' I2 hq'
 |ok fl=>
  cases fl with
  |ret u=>
   obtain⟨v,H',I3,rv,ev,q3⟩:=I2.after hq';subst ev;exact⟨rv,⟨V.ref (s.heap.objs.size+1),H',I3,rfl,q3⟩⟩
  |next=>exact False.elim hq'
  |brk=>exact False.elim hq'
  |cont=>exact False.elim hq'
theorem GG(M:Mk X.K C f)(F:bF X.prog X.w X.K X.mg X.base CX k f fd ps sp)(hr:cP (k+1) X.A)(hg:Gl X x)(hm:X.mg x=some (.ref C))(hb:Binds X.K fd ps ds)(hd:Vals dvs ds)(hx:Passes CX X E)
 (ha:PA X (e::es) t) (hdb:(x==("__debug__":Str))=false:=by decide) (he:starEach (e::es) X.env=(false,eval e X.env)::starEach es X.env:=by rfl) (hpl:(backTo pos (starEach es X.env)).any (·.1)=false:=by rfl):
 PE X (.Call (.Name x p) (e::es) [] pos) (Gs C sp dvs E t):=by
 intro pins s σ H Q I h;refine wpAny_Call_Name_kw (AG I hg hm ?_ hdb);refine PySem.W.callWith_K (h₀:=X.base) I.ok.mod.CT M.kp (bQ (ha pos pins s σ H _ I h) fun us s1 ⟨vs,H1,I1,r,q⟩=>⟨I1.ib,?_⟩) he hpl;exact Eh M F hr hb hd hx I1 r q
end
section
variable {X:Cx}{CX:tJ}{k:Nat}{f C:Addr}{fd:FuncData}{ps ks:List Str}{sp:Sp}{E:XK}{x m:Str}{p pos apos kpos:Pos}{e o:Expr}{es:List Expr}{kws:List Keyword}{te ta:TE}{t tk:TA}{nm:Option Str}
variable {g:List Value->List Value->List Value}{gV:List V->List V->List V}
end
structure aR(N P:List Str)(sc:Scope):Prop where
 kind:sc.kind= .function
 co:sc.isCoroutine=false
 gen:sc.isGenerator=false
 nd:N.Nodup
 pre:N.take P.length=P
 par:∀x∈P,sc.names.lookup x=some .local\/sc.names.lookup x=some .cell
 JQ:∀y∈sc.names,y.2≠ .free
theorem wx{kindOf:Str->Option NameKind}{x:Str}:∀ {binds:List (Str×Value)} {m:Str->Option Value},(∀v,(x,v)∉binds)->bindL kindOf binds m x=m x
 | [],_,_=>rfl
 |(n,v)::r,m,h=>by
  unfold bindL;rw[wx fun w hw=>h w (List.mem_cons_of_mem _ hw)];split
  . have:x≠n:=by rintro rfl;exact h v List.mem_cons_self
    simp[this]
  . rfl
theorem wI{kindOf:Str->Option NameKind}{x:Str}:∀ {binds:List (Str×Value)} {m:Str->Option Value},(∀v,(x,v)∉binds)->bindC kindOf binds m x=m x
 | [],_,_=>rfl
 |(n,v)::r,m,h=>by
  unfold bindC;rw[wI fun w hw=>h w (List.mem_cons_of_mem _ hw)];split
  . rfl
  . have:x≠n:=by rintro rfl;exact h v List.mem_cons_self
    simp[this]
theorem wj{kindOf:Str->Option NameKind}{x:Str}{v:Value}:∀ {P:List Str} {vs:List Value} {i:Nat} {m:Str->Option Value},P.Nodup->P[i]?=some x->vs[i]?=some v->kindOf x=some .local->
 bindL kindOf (P.zip vs) m x=some v
 | [],_,_,_,_,h,_,_=>by simp at h
 |_::_,[],_,_,_,_,h,_=>by simp at h
 |p::P,w::vs,0,m,nd,h1,h2,hk=>by
  simp at h1 h2;subst h1;subst h2;show bindL kindOf ((p,w)::P.zip vs) m p=_;unfold bindL;rw[wx fun v hv=>(List.nodup_cons.mp nd).1 (List.of_mem_zip hv).1,if_pos hk];simp
 |p::P,w::vs,i+1,m,nd,h1,h2,hk=>by
  show bindL kindOf ((p,w)::P.zip vs) m x=_;unfold bindL;exact wj (i:=i) (List.nodup_cons.mp nd).2 (by simpa using h1) (by simpa using h2) hk
theorem wg{kindOf:Str->Option NameKind}{x:Str}{v:Value}:∀ {P:List Str} {vs:List Value} {i:Nat} {m:Str->Option Value},P.Nodup->P[i]?=some x->vs[i]?=some v->kindOf x≠some .local->
 bindC kindOf (P.zip vs) m x=some v
 | [],_,_,_,_,h,_,_=>by simp at h
 |_::_,[],_,_,_,_,h,_=>by simp at h
 |p::P,w::vs,0,m,nd,h1,h2,hk=>by
  simp at h1 h2;subst h1;subst h2;show bindC kindOf ((p,w)::P.zip vs) m p=_;unfold bindC;rw[wI fun v hv=>(List.nodup_cons.mp nd).1 (List.of_mem_zip hv).1,if_neg hk];simp
 |p::P,w::vs,i+1,m,nd,h1,h2,hk=>by
  show bindC kindOf ((p,w)::P.zip vs) m x=_;unfold bindC;exact wg (i:=i) (List.nodup_cons.mp nd).2 (by simpa using h1) (by simpa using h2) hk
def start(N:List Str)(vs:List V):St:=vs.map some++List.replicate (N.length-vs.length) none
def qj(CX:tJ)(P:Program)(w:World)(K:PySem.W.Frag)(mg:Str->Option Value)(base:Heap)(N:List Str)(qual:Str)(scope:Scope)(f:Addr)(cd:Value)(A:Around)(outer:List Env)(s:Shared)(H:Hp)(E:XK):Cx where
 prog:=P
 w:=w
 K:=K
 mg:=mg
 base:=base
 A:=A.deeper (envOfC qual scope s.heap.objs.size f cd)
 N:=N
 s₀:=s
 H₀:=H
 env:=envOfC qual scope s.heap.objs.size f cd
 outer:=outer
 stack:=envOfC qual scope s.heap.objs.size f cd::outer
 ex:=[]
 calm:=true
 fn:=fun _=>true
 pn:=[]
 xe:=fun e s'=>wpAny (model P w) (A.deeper (envOfC qual scope s.heap.objs.size f cd)) (leaving (envOfC qual scope s.heap.objs.size f cd) e) (fun _ s''=>CX outer H s E e s'') (fun e' s''=>CX outer H s E e' s'') s'
theorem zi{sc:Scope}{n:Nat}{x:Str}(h:sc.names.lookup x=some .cell):∃c,(cellsFrom n sc.names []).lookup x=some c:=by
 have q:=PySem.W.cellsFrom_some sc.names n [] (.inl h);exact Option.isSome_iff_exists.mp q
theorem Dh{CX:tJ}{P:Program}{w:World}{K:PySem.W.Frag}{mg:Str->Option Value}{base:Heap}{N ps:List Str}{qual:Str}{scope:Scope}{f:Addr}{cd:Value}{A:Around}{outer:List Env}{s s1:Shared}{H:Hp}{E:XK}{us:List Value}{vs:List V}
 (S:aR N ps scope) (hd:A.handled=none) (e0:ud P w K mg base A outer s H) (hl:vs.length=ps.length) (r:Vals vs us)
 (x:InCallC s s.heap.objs.size (bindL (envOfC qual scope s.heap.objs.size f cd).kindOf (ps.zip us) fun _=>none) (cellsFrom (s.heap.objs.size+1) scope.names []) (bindC (envOfC qual scope s.heap.objs.size f cd).kindOf (ps.zip us) fun _=>none) s1):
 Inv (qj CX P w K mg base N qual scope f cd A outer s H E) [] (start N vs) H s1:=by
 have hpl:ps.length<=N.length:=by have:=congrArg List.length S.pre;rw[List.length_take]at this;omega
 obtain⟨h1,tk,rfl,hk⟩:=x.done;have noA:∀b:Addr,b∉(qj CX P w K mg base N qual scope f cd A outer s H E).ex:=fun b z=>absurd (show b∈([]:List Addr)from z) (by simp)
 refine⟨⟨e0.mod,S.kind,rfl,rfl,Nat.le_refl _,fun y z c h1 h2=>?_,fun y hy=>?_,fun y c _ h=>?_,fun _=>hd,Around.frames_deeper e0.frames,.inr ⟨rfl,rfl⟩,fun b z=>absurd z (noA b),e0.bs,e0.rm,fun b _ _=>noA b,fun b z=>absurd z (noA b),e0.lI,e0.uS,e0.gt⟩,
  rfl,e0.bare,Un.kept hk,⟨_,x.toInCall.ns,fun i y v h1 h2 h3=>?_⟩,fun y c h=>⟨_,x.cell y c h⟩,e0.aK.fresh (Nat.le_refl _),fun y c h=>?_,fun p hp=>absurd (show p∈([]:List (Addr×Obj))from hp) (by simp),e0.aK.kept hk,?_⟩
 . exact name_of_addr x.apart (PySem.mem_of_lookup h1) (PySem.mem_of_lookup h2)
 . have hy:scope.names.lookup y=some .cell\/scope.names.lookup y=some .free:=hy;rcases hy with hy|hy
   . exact zi hy
   . exact absurd rfl (S.JQ _ (PySem.mem_of_lookup hy))
 . exact Nat.le_of_lt (x.above y c (PySem.mem_of_lookup h))
 . have hi:i<vs.length:=by
    unfold start at h2;by_cases hi:i<vs.length
    . exact hi
    . rw[List.getElem?_append_right (by simpa using hi)]at h2;rw[List.getElem?_replicate]at h2;split at h2<;>cases h2
   have ha:vs[i]?=some v:=by
    unfold start at h2;rw[List.getElem?_append_left (by simpa using hi),List.getElem?_map]at h2;cases e:vs[i]? with
    |none=>rw[e]at h2;cases h2
    |some a=>rw[e]at h2;cases h2;rfl
   obtain⟨u,hu,rv⟩:=r.get ha
   have hp:ps[i]?=some y:=by
    rw[<-S.pre,List.getElem?_take_of_lt (by omega)];exact h1
   have ndP:ps.Nodup:=by rw[<-S.pre];exact S.nd.sublist (List.take_sublist _ _)
   refine⟨u,rv,?_⟩;rcases S.par y (List.mem_of_getElem? hp)with k|k
   . exact .inl ⟨k,wj ndP hp hu k⟩
   . obtain⟨c,e⟩:=zi (n:=s.heap.objs.size+1) k;refine .inr ⟨.inl k,c,e,?_⟩;have q:=x.cell y c e;rw[wg ndP hp hu (by show scope.names.lookup y≠_;rw[k];decide)]at q;exact q
 . exact e0.aK.fresh (Nat.le_of_lt (x.above y c (PySem.mem_of_lookup h)))
 . unfold start;show _=N.length;rw[List.length_append,List.length_map,List.length_replicate];omega
theorem F2{CX:tJ}{P:Program}{w:World}{K:PySem.W.Frag}{mg:Str->Option Value}{base:Heap}{k:Nat}{f:Addr}{name qual:Str}{params:Arguments}{body:List Stmt}{scope:Scope}{dV kV doc pm cdv ct oc:Value}{an od:Option Addr}
 {osl:Array (Option Value)} {N ps:List Str} {sp:Sp} (lk:K.lookup f=some ⟨oc,od,.func (PySem.W.fnOf name qual params body scope dV kV doc pm an cdv ct),osl⟩) (hcd:PySem.W.codeIn K cdv qual=true) (S:aR N ps scope)
 (len:∀vs H Q E,sp vs H Q E->vs.length=ps.length)
 (hbody:∀(A:Around) (outer:List Env) (s:Shared) (H:Hp) (vs:List V) (Q:VK) (E:XK),cP k (A.deeper (envOfC qual scope s.heap.objs.size f cdv))->sp vs H Q E->
   ∃t,iy (qj CX P w K mg base N qual scope f cdv A outer s H E) body t/\t {nx:=fun _ H'=>Q .aI H',rt:=Q} (start N vs) H):
 bF P w K mg base CX (k+1) f (PySem.W.fnOf name qual params body scope dV kV doc pm an cdv ct) ps sp:=by
 refine⟨len,fun A outer s H args us vs Q E hr e0 hb r hsp=>?_⟩;have hl:=len _ _ _ _ hsp;have KX:K.In s.heap:=e0.mod.CT.keeps fun b o e=>(e0.bs b o e).1;have lim:s.heap.NoLimit:=e0.mod.nolimit.keeps fun b o e=>(e0.bs b o e).1
 have hkind:∀y∈ps.zip us,scope.names.lookup y.1=some .local\/(scope.names.lookup y.1=some .cell/\((cellsFrom (s.heap.objs.size+1) scope.names []).lookup y.1).isSome=true):=fun⟨n,v⟩ hy=>by
  rcases S.par n (List.of_mem_zip hy).1 with q|q
  . exact .inl q
  . exact .inr ⟨q,PySem.W.cellsFrom_some _ _ _ (.inl q)⟩
 refine codeAny_call_function hr.depth (KX _ _ lk) rfl S.co S.gen rfl (PySem.W.codeRec_of KX hcd) (hb _ _ _ _ ?_);refine wpAny_newFunctionEnv_cells S.kind hkind fun env he s1 x=>?_;subst he;refine⟨lim.keeps x.toInCall.keep,codeAny_func ?_⟩;obtain⟨t,ht,hq⟩:=hbody A outer s H vs Q E (hr.deeper _) hsp;have I:Inv (qj CX P w K mg base N qual scope f cdv A outer s H E) [] (start N vs) H s1:=Dh S hr.hd e0 hl r x;refine wpAny_mono (ht [] s1 (start N vs) H _ I hq) (fun fl s' hs=>?_) fun e s' hs=>hs
 have fin:∀ {σ':St} {H':Hp} {v:V} {u:Value},Inv (qj CX P w K mg base N qual scope f cdv A outer s H E) [] σ' H' s'->RelV v u->Q v H'->CE outer P w H s Q u s':=
  fun{σ' H' v u} J rv q=>⟨v,H',J.os,J.bare,J.base,J.aK,rv,q⟩
 cases fl with
 |ret u=>
  obtain⟨v,σ',H',J,rv,q⟩:=hs;exact fin J rv q
 |next=>
  obtain⟨σ',H',J,q⟩:=hs;exact fin (v:=V.aI) (u:=Value.none) J rfl q
 |brk=>
  obtain⟨_,_,_,q⟩:=hs;exact False.elim q
 |cont=>
  obtain⟨_,_,_,q⟩:=hs;exact False.elim q
section
variable {X:Cx}{x:Str}{p pos:Pos}{e:Expr}{es:List Expr}{t:TA}{id T:String}{r:List V->Hp->VK->Prop}
def Kg(r:List V->Hp->VK->Prop)(t:TA):TE:=fun σ H Q=>t σ H fun vs H1=>r vs H1 Q
theorem Ec(hc:bK X (.builtin id) r)(hg:Gl X x)(hm:X.mg x=none)(hv:bootBuiltins x=some (.builtin id))(ha:PA X (e::es) t)(hn:x≠"__name__":=by decide)(hdb:(x==("__debug__":Str))=false:=by decide)
 (he:starEach (e::es) X.env=(false,eval e X.env)::starEach es X.env:=by rfl) (hpl:(backTo pos (starEach es X.env)).any (·.1)=false:=by rfl):PE X (.Call (.Name x p) (e::es) [] pos) (Kg r t):=by
 intro pins s σ H Q I h;refine wpAny_Call_Name_kw (mN I hg hm hv ?_ hn hdb);exact PyProof.Rows.callWith_builtin1 (bQ (ha pos pins s σ H _ I h) fun us s1 ⟨vs,H1,I1,r1,q1⟩=>hc pins s1 σ H1 vs us Q I1 r1 q1) he hpl
theorem DQ(hc:bK X (.type T) r)(hg:Gl X x)(hm:X.mg x=none)(hv:bootBuiltins x=some (.type T))(ha:PA X (e::es) t)(hn:x≠"__name__":=by decide)(hdb:(x==("__debug__":Str))=false:=by decide)
 (he:starEach (e::es) X.env=(false,eval e X.env)::starEach es X.env:=by rfl) (hpl:(backTo pos (starEach es X.env)).any (·.1)=false:=by rfl):PE X (.Call (.Name x p) (e::es) [] pos) (Kg r t):=by
 intro pins s σ H Q I h;refine wpAny_Call_Name_kw (mN I hg hm hv ?_ hn hdb);exact PyProof.Rows.callWith_type1 (bQ (ha pos pins s σ H _ I h) fun us s1 ⟨vs,H1,I1,r1,q1⟩=>hc pins s1 σ H1 vs us Q I1 r1 q1) he hpl
end
end L2
namespace HT
open PySem PyProof.Rows
section
open PySem.SeqAt
open PySem.AutoSeq1 (wpAny_loadPart')
open PySem.MeetsSeq PySem.MeetsSeq2 PySem.MeetsSeq3
end
section
variable {prog:Program}{w:World}{A:Around}{E:Value->Shared->Prop}{s:Shared}
theorem He{t b:Addr}{vs ws:List Value}{Q:Value->Shared->Prop}(ht:IsTup s.heap t vs.toArray)(hb:IsTup s.heap b ws.toArray)(hv:vs≠ [])
 (h1:ws=[]->Q (.ref t) s) (h2:ws≠ []->Q (.ref s.heap.objs.size) {s with heap:=s.heap.push {cls:= .type "tuple",data:= .seq (vs++ws).toArray}})
 (hsz:vs.length+ws.length<=sizeLine):wpAny (model prog w) A (binaryOp .Add (.ref t) (.ref b)) Q E s:=by
 obtain⟨⟨cls,dd,data,sl⟩,ho,hc,n,hd⟩:=id ht;obtain⟨⟨cls2,dd2,data2,sl2⟩,ho2,hc2,n2,hd2⟩:=id hb;simp only at hc hd hc2 hd2;subst hc hd hc2 hd2;have e:vs.toArray++ws.toArray=(vs++ws).toArray:=by simp
 by_cases hw:ws=[]
 . exact concat_meets ⟨_,ho,rfl⟩ ⟨_,ho2,rfl⟩ noFill_tuple_add seq_tuple_add PySem.F.slot_tuple_add PySem.F.entry_tuple_add (PySem.F.args_tuple_add_2 _ _)
    (tuple_addW1 t b vs.toArray ws.toArray n n2 dd dd2 sl sl2 (by simpa using hv) (by simp[hw])) ⟨ho,ho2,h1 hw⟩
 . refine concat_meets ⟨_,ho,rfl⟩ ⟨_,ho2,rfl⟩ noFill_tuple_add seq_tuple_add PySem.F.slot_tuple_add PySem.F.entry_tuple_add (PySem.F.args_tuple_add_2 _ _)
    (tuple_addW2 t b vs.toArray ws.toArray n n2 dd dd2 sl sl2 (by simpa using hv) (by simpa using hw) (by rw[List.size_toArray,List.size_toArray];exact hsz)) ⟨ho,ho2,?_⟩
   rw[e];exact h2 hw
def bU(n d:Nat):Option Int->Nat
 |none=>d
 |some v=>if v<0 then(v+(n:Int)).toNat else min v.toNat n
theorem EV(n d:Nat):bU n d none=d:=rfl
theorem GU(n d k:Nat):bU n d (some (k:Int))=min k n:=by
 show(if(k:Int)<0 then((k:Int)+(n:Int)).toNat else min (k:Int).toNat n)=min k n;rw[if_neg (by omega),Int.toNat_natCast]
theorem IJ(n d:Nat)(hd:d<=n)(o:Option Int):bU n d o<=n:=by
 cases o with
 |none=>exact hd
 |some v=>
  show(if v<0 then(v+(n:Int)).toNat else min v.toNat n)<=n;by_cases hv:v<0
  . rw[if_pos hv];omega
  . rw[if_neg hv];exact Nat.min_le_right _ _
theorem Ad(v:Int)(n d:Nat):(if v<0 then max (v+(n:Int)) 0 else min v (n:Int))=((bU n d (some v):Nat):Int):=by
 show(if v<0 then max (v+(n:Int)) 0 else min v (n:Int))=(((if v<0 then(v+(n:Int)).toNat else min v.toNat n):Nat):Int)
 by_cases hv:v<0
 . simp only[if_pos hv];omega
 . simp only[if_neg hv];omega
theorem Bh(lo hi:Option Int)(n:Nat):Builtin.Slice.sliceAdjust lo hi 1 (n:Int)=(((bU n 0 lo:Nat):Int),((bU n n hi:Nat):Int)):=by
 have h1:¬((1:Int)<0):=by omega
 unfold Builtin.Slice.sliceAdjust;simp only[h1,if_false];refine Prod.ext ?_ ?_
 . cases lo with
   |none=>rfl
   |some v=>exact Ad v n 0
 . cases hi with
   |none=>rfl
   |some v=>exact Ad v n n
theorem BV(i j:Nat):Builtin.Slice.slicePlaces (i:Int) (j:Int) 1=j-i:=by
 unfold Builtin.Slice.slicePlaces;have h1:(1:Int)>0:=by omega
 simp only[h1,if_true,Int.ediv_one];split<;>omega
theorem vt{v:Value}{o:Option Int}{Q:Option Int->Shared->Prop}(p:IsPart v o)(h:Q o s):wpAny (model prog w) A (Builtin.Slice.slicePartIndex v) Q E s:=by
 cases p with
 |none=>exact slicePart_none h
 |int i t=>exact slicePart_int h
theorem oy{sl:Addr}{vl vu:Value}{lo hi:Option Int}{n:Nat}{Q:Int×Int×Nat->Shared->Prop}(hs:s.heap.IsSliceOf sl vl vu .none)(pl:IsPart vl lo)(pu:IsPart vu hi)
 (h:Q (((bU n 0 lo:Nat):Int),1,bU n n hi-bU n 0 lo) s):wpAny (model prog w) A (Builtin.Slice.sliceApplied (.ref sl) (pure (n:Int))) Q E s:=by
 obtain⟨os,hos,hcs,hds⟩:=id hs;unfold Builtin.Slice.sliceApplied Builtin.Slice.sliceFields;refine wpAny_bind (wpAny_bind (wpAny_field hos hds (x:=vl) rfl (wpAny_bind (wpAny_field hos hds (x:=vu) rfl (wpAny_bind (wpAny_field hos hds (x:= .none) rfl (wpAny_pure ?_)))))));refine wpAny_bind (slicePart_none ?_);show wpAny _ _ (if((1:Int)==0)=true then _ else _) _ _ s;rw[if_neg (by decide)];refine wpAny_bind (vt pl (wpAny_bind (vt pu (wpAny_bind (wpAny_pure ?_)))));show wpAny _ _ (match Builtin.Slice.sliceAdjust lo hi 1 (n:Int)with|(lo,hi)=>pure (lo,(1:Int),Builtin.Slice.slicePlaces lo hi 1)) _ _ s;rw[Bh lo hi n];show wpAny _ _ (pure (((bU n 0 lo:Nat):Int),(1:Int),Builtin.Slice.slicePlaces ((bU n 0 lo:Nat):Int) ((bU n n hi:Nat):Int) 1)) _ _ s;rw[BV];exact wpAny_pure h
theorem E6(xs:Array Value)(i k:Nat):((List.range k).filterMap fun(m:Nat)=>xs[((i:Int)+(m:Int)*1).toNat]?).toArray=((xs.toList.drop i).take k).toArray:=by
 have e:(fun(m:Nat)=>xs[((i:Int)+(m:Int)*1).toNat]?)=fun m=>xs[i+m]?:=by
  funext m;have:((i:Int)+(m:Int)*1).toNat=i+m:=by omega
  rw[this]
 rw[e];have:=pick_run xs i k;rw[List.filterMap_map]at this;have e2:((fun x=>xs[x]?)∘fun x=>i+x)=fun m=>xs[i+m]?:=rfl;rw[e2]at this;rw[this]
theorem td{t sl:Addr}{items:Array Value}{vl vu:Value}{lo hi:Option Int}{Q:Value->Shared->Prop}(ht:IsTup s.heap t items)(hs:s.heap.IsSliceOf sl vl vu .none)(pl:IsPart vl lo)(pu:IsPart vu hi)
 (hw:¬(bU items.size 0 lo=0/\bU items.size items.size hi=items.size))
 (h:Q (.ref s.heap.objs.size) {s with heap:=s.heap.push {cls:= .type "tuple",data:= .seq ((items.toList.drop (bU items.size 0 lo)).take (bU items.size items.size hi-bU items.size 0 lo)).toArray}})
 (hsz:items.size<=sizeLine):wpAny (model prog w) A (getItem (.ref t) (.ref sl)) Q E s:=by
 have htake:sizeOk (.seq ((items.toList.drop (bU items.size 0 lo)).take (bU items.size items.size hi-bU items.size 0 lo)).toArray):=by
  show((items.toList.drop (bU items.size 0 lo)).take (bU items.size items.size hi-bU items.size 0 lo)).toArray.size<=sizeLine;rw[List.size_toArray,List.length_take,List.length_drop,Array.length_toList];omega
 have hj:bU items.size items.size hi<=items.size:=IJ _ _ (Nat.le_refl _) hi;obtain⟨os,hos,hcs,hds⟩:=id hs;have hTs:s.TypeIs (.ref sl) "slice":=⟨os,hos,hcs⟩
 unfold getItem;try with_reducible refine wpAny_holding ?_
 first|refine wpAny_bind (wpAny_pure ?_)|skip
 refine wpAny_bind (wpAny_sequenceKey ht.typeIs (by decide) ?_)
 refine wpAny_bind (wpAny_callSpecial?_slot (name:=Str.ofString "__getitem__") ht.typeIs PyProof.Rows.slot_tuple_getitem
  (wpAny_call_entry PyProof.Rows.slot_tuple_getitem ht.typeIs entry_tuple_getitem ?_ (args_tuple_getitem _ _)))
 show wpAny _ _ (Builtin.Tuple.tupleItemsOf (.ref t) >>= _) _ _ s;refine wpAny_bind (tupleItemsOf_ ht ?_);refine wpAny_bind (wpAny_typeOf hTs ?_);rw[if_pos (by decide)];refine wpAny_bind (oy hs pl pu ?_)
 have hno:¬((((bU items.size 0 lo:Nat):Int)==0&&(1:Int)==1&&(bU items.size items.size hi-bU items.size 0 lo)==items.size)=true):=by
  intro q;rw[Bool.and_eq_true,Bool.and_eq_true]at q;have q1:((bU items.size 0 lo:Nat):Int)=0:=eq_of_beq q.1.1;have q2:bU items.size items.size hi-bU items.size 0 lo=items.size:=eq_of_beq q.2;exact hw ⟨by omega,by omega⟩
 show wpAny _ _ (if(((bU items.size 0 lo:Nat):Int)==0&&(1:Int)==1&&(bU items.size items.size hi-bU items.size 0 lo)==items.size)=true then _ else _) _ _ s;rw[if_neg hno,E6]
 first
  |exact wpAny_bind (m:=Builtin.Tuple.tupleExact _) (wpAny_newObj_type (wpAny_pure ⟨_,rfl,wpAny_pure h⟩) htake)
  |exact wpAny_bind (m:=Builtin.Tuple.tupleExact _) (wpAny_newObj_type (wpAny_bind (wpAny_pure (wpAny_pure ⟨_,rfl,wpAny_pure h⟩))) htake)
  |exact wpAny_bind (wpAny_bind (m:=Builtin.Tuple.tupleExact _) (wpAny_newObj_type (wpAny_pure (wpAny_pure ⟨_,rfl,wpAny_pure h⟩)) htake))
  |exact wpAny_bind (wpAny_bind (m:=Builtin.Tuple.tupleExact _) (wpAny_newObj_type (wpAny_pure ⟨_,rfl,wpAny_pure h⟩) htake))
end
end HT
namespace L2
open PySem PySem.Spec PyProof.Rows
abbrev TO:=St->Hp->(Option Int->Hp->Prop)->Prop
def PO(X:Cx)(e:Option Expr)(t:TO):Prop:=
 ∀(pins:List (Addr×Obj)) (s:Shared) (σ:St) (H:Hp) (Q:Option Int->Hp->Prop),Inv X pins σ H s->t σ H Q->
  wpAny (model X.prog X.w) X.A (evalPart e X.env) (fun u s'=>∃o H',Inv X pins σ H' s'/\IsPart u o/\Q o H') X.xe s
def GF:TO:=fun _ H Q=>Q none H
def LL(t:TE):TO:=fun σ H Q=>t σ H fun x H1=>∃i,x= .int i/\Q (some i) H1
section
variable {X:Cx}{e:Expr}{te:TE}{lo hi:Option Expr}{tl th:TO}{pos p2:Pos}
theorem GO:PO X none GF:=by
 intro pins s σ H Q I h;rw[evalPart_none];exact wpAny_pure ⟨none,H,I,.none,h⟩
theorem Hv(h:PE X e te):PO X (some e) (LL te):=by
 intro pins s σ H Q I hw;rw[evalPart_some];refine bQ (h pins s σ H _ I hw) fun u s1 ⟨x,H1,I1,r1,q1⟩=>?_;obtain⟨i,rfl,q⟩:=q1;obtain⟨t,rfl⟩:=r1;exact⟨some i,H1,I1,.int i t,q⟩
def Cu(X:Cx)(r:V->Option Int->Option Int->Hp->VK->Prop):Prop:=
 ∀(pins:List (Addr×Obj)) (s:Shared) (σ:St) (H:Hp) (x:V) (v vl vu:Value) (lo hi:Option Int) (sl:Addr) (Q:VK),Inv X pins σ H s->RelV x v->s.heap.IsSliceOf sl vl vu .none->IsPart vl lo->IsPart vu hi->r x lo hi H Q->
  ∃T id,typeLookup (.type T) "__getitem__"=pure (some (.builtin id))/\s.TypeIs v T/\wpAny (model X.prog X.w) X.A (getItem v (.ref sl)) (EP X pins σ Q) X.xe s
def Ob(r:V->Option Int->Option Int->Hp->VK->Prop)(te:TE)(tl th:TO):TE:=fun σ H Q=>te σ H fun x H1=>tl σ H1 fun l H2=>th σ H2 fun u H3=>r x l u H3 Q
theorem Ei{r:V->Option Int->Option Int->Hp->VK->Prop}(hr:Cu X r)(he:PE X e te)(hl:PO X lo tl)(hu:PO X hi th):PE X (.Subscript e (.Slice lo hi none p2) pos) (Ob r te tl th):=by
 intro pins s σ H Q I h;refine Subscript_ (bQ (he pins s σ H _ I h) fun v s1 ⟨x,H1,I1,r1,q1⟩=>?_);refine wpAny_Slice (bQ (hl pins s1 σ H1 _ I1 q1) fun vl s2 ⟨l,H2,I2,pl,q2⟩=>bQ (hu pins s2 σ H2 _ I2 q2) fun vu s3 ⟨u,H3,I3,pu,q3⟩=>?_);rw[evalPart_none];refine wpAny_pure ?_;have I4:Inv X pins σ H3 {s3 with heap:=s3.heap.push {cls:= .type "slice",data:= .fields #[vl,vu,.none]}}:=I3.kept (t':=s3.toks) fun b ob q=>Heap.get?_push_of_some _ q;obtain⟨T,id,hT,ht,hg⟩:=hr pins {s3 with heap:=s3.heap.push {cls:= .type "slice",data:= .fields #[vl,vu,.none]}} σ H3 x v vl vu l u s3.heap.objs.size Q I4 r1 (Heap.IsSliceOf.new ..) pl pu q3;show wpAny (model X.prog X.w) X.A (subscriptTail e (.Slice lo hi none p2) v (.ref s3.heap.objs.size)) (EP X pins σ Q) X.xe {s3 with heap:=s3.heap.push {cls:= .type "slice",data:= .fields #[vl,vu,.none]}};exact tail_any (ops:=[.ref s3.heap.objs.size,v]) ht hT hg (by with_unfolding_all rfl)
def qk(xs:List V)(lo hi:Option Int):List V:=(xs.drop (HT.bU xs.length 0 lo)).take (HT.bU xs.length xs.length hi-HT.bU xs.length 0 lo)
theorem tV(xs:List V)(lo hi:Option Int):(qk xs lo hi).length<=xs.length:=by
 unfold qk;rw[List.length_take,List.length_drop];omega
def NT(K:PySem.W.Frag):V->Option Int->Option Int->Hp->VK->Prop:=fun x lo hi H Q=>∃a xs,x= .ref a/\jn K H a xs/\
 ¬(HT.bU xs.length 0 lo=0/\HT.bU xs.length xs.length hi=xs.length)/\∀p,H p=none->Q (.ref p) (upd H p (.tup (qk xs lo hi)))
theorem Kr:Cu X (NT X.K):=by
 intro pins s σ H x v vl vu lo hi sl Q I rx hs pl pu h;obtain⟨a,xs,rfl,hx,hw,q⟩:=h;cases rx;obtain⟨its,r,ht,hz⟩:=I.tuple hx;have hlen:its.toArray.size=xs.length:=by rw[List.size_toArray];exact r.length.symm
 refine⟨"tuple",_,PyProof.Rows.slot_tuple_getitem.lookup,ht.typeIs,?_⟩;refine HT.td ht hs pl pu (by rw[hlen];exact hw) ?_ (by rw[hlen];exact hz);rw[hlen];refine⟨.ref s.heap.objs.size,_,I.laid (t':=s.toks) (o:= .tup (qk xs lo hi)) (fun b ob q=>Heap.get?_push_of_some _ q) (Nat.le_refl _) ?_,rfl,q _ (I.aK.fresh (Nat.le_refl _))⟩;exact⟨Nat.le_trans (tV xs lo hi) hz,_,(r.drop (HT.bU xs.length 0 lo)).take (HT.bU xs.length xs.length hi-HT.bU xs.length 0 lo),IsTup.new _ _⟩
def Mb(K:PySem.W.Frag):R2:=fun x y H Q=>∃a b xs ys,x= .ref a/\y= .ref b/\jn K H a xs/\jn K H b ys/\xs≠ []/\xs.length+ys.length<=sizeLine/\
 (ys=[]->Q (.ref a) H)/\(ys≠ []->∀p,H p=none->Q (.ref p) (upd H p (.tup (xs++ys))))
theorem Vals.sX{xs:List V}{us:List Value}(r:Vals xs us):us=[]↔xs=[]:=by
 cases r with
 |nil=>simp
 |cons _ _=>simp
theorem Hg:cz X (binaryOp .Add) (Mb X.K):=by
 intro pins s σ H x y v u Q I rx ry h;obtain⟨a,b,xs,ys,rfl,rfl,ha,hb,hx,hz,q1,q2⟩:=h;cases rx;cases ry;obtain⟨its,r1,p1,_⟩:=I.tuple ha;obtain⟨its2,r2,p2,_⟩:=I.tuple hb;refine HT.He p1 p2 (fun z=>hx (r1.sX.mp z)) (fun z=>⟨.ref a,H,I,rfl,q1 (r2.sX.mp z)⟩) (fun z=>?_) (by rw[<-r1.length,<-r2.length];exact hz);refine⟨.ref s.heap.objs.size,_,I.laid (t':=s.toks) (o:= .tup (xs++ys)) (fun b ob q=>Heap.get?_push_of_some _ q) (Nat.le_refl _) ?_,rfl,q2 (fun w=>z (r2.sX.mpr w)) _ (I.aK.fresh (Nat.le_refl _))⟩;exact⟨by rw[List.length_append];exact hz,_,r1.append r2,IsTup.new _ _⟩
end
def nR(n:Nat)(i:Int):Option Nat:=if 0<=i then(if i<n then some i.toNat else none)else if-(n:Int)<=i then some (i+n).toNat else none
def fE{α:Type}(xs:List α)(i:Int):Option α:=(nR xs.length i).bind fun j=>xs[j]?
theorem Aq{n:Nat}{i:Int}{j:Nat}(h:nR n i=some j):seqIndex? i n=some j/\j<n/\ -(n:Int)<=i/\i<n:=by
 unfold nR at h;by_cases h0:0<=i
 . rw[if_pos h0]at h;by_cases h1:i<n
   . rw[if_pos h1]at h;have e:i.toNat=j:=Option.some.inj h;exact⟨by rw[seqIndex_of h0 h1,e],by omega,by omega,h1⟩
   . rw[if_neg h1]at h;cases h
 . rw[if_neg h0]at h;by_cases h1: -(n:Int)<=i
   . rw[if_pos h1]at h;have e:(i+n).toNat=j:=Option.some.inj h;exact⟨by rw[seqIndex_neg (by omega) h1,e],by omega,h1,by omega⟩
   . rw[if_neg h1]at h;cases h
theorem wc{α:Type}{xs:List α}{i:Int}{v:α}(h:fE xs i=some v):∃j,seqIndex? i xs.length=some j/\xs[j]?=some v/\j<xs.length/\ -(xs.length:Int)<=i/\i<xs.length:=by
 unfold fE at h;cases e:nR xs.length i with
 |none=>rw[e]at h;cases h
 |some j=>
  rw[e]at h;obtain⟨h1,h2,h3,h4⟩:=Aq e;exact⟨j,h1,h,h2,h3,h4⟩
theorem jH{α:Type}{xs:List α}{j:Nat}{v:α}(h:xs[j]?=some v):fE xs (j:Int)=some v:=by
 have hj:j<xs.length:=(List.getElem?_eq_some_iff.mp h).1
 have e:nR xs.length (j:Int)=some j:=by
  unfold nR;rw[if_pos (by omega),if_pos (by omega)];simp
 unfold fE;rw[e];exact h
def sN(b:Expr):Prop:=∀o i,subscripted b false o i=operate [o,i] (getItem o i)
def FN(X:Cx)(r:R2):Prop:=
 ∀(value slice:Expr) (pins:List (Addr×Obj)) (s:Shared) (σ:St) (H:Hp) (x y:V) (v u:Value) (Q:VK),Inv X pins σ H s->RelV x v->RelV y u->r x y H Q->
  subscripted slice false v u=operate [v,u] (getItem v u)->wpAny (model X.prog X.w) X.A (subscriptTail value slice v u) (EP X pins σ Q) X.xe s
def MW(X:Cx)(id:String)(r:V->List V->Hp->VK->Prop):Prop:=
 ∀(pins:List (Addr×Obj)) (s:Shared) (σ:St) (H:Hp) (x:V) (xs:List V) (v:Value) (us:List Value) (Q:VK),Inv X pins σ H s->RelV x v->Vals xs us->r x xs H Q->
  wpAny (model X.prog X.w) X.A (call (.builtin id) (v::us)) (EP X pins σ Q) X.xe s
section
variable {X:Cx}{a b:Expr}{ta tb:TE}{pos:Pos}
theorem Lh{r:R2}(hr:FN X r)(ha:PE X a ta)(hb:PE X b tb)(hs:sN b):PE X (.Subscript a b pos) (CG r ta tb):=by
 intro pins s σ H Q I h;exact Subscript_ (EO ha hb I h fun v u s2 x y H2 I2 rx ry q=>hr a b pins s2 σ H2 x y v u Q I2 rx ry q (hs _ _))
def Nf(K:PySem.W.Frag):R2:=fun x y H Q=>∃p xs i v,x= .ref p/\y= .int i/\mM K H p xs/\fE xs i=some v/\Q v H
def NF(K:PySem.W.Frag):R2:=fun x y H Q=>∃p xs i v,x= .ref p/\y= .int i/\jn K H p xs/\fE xs i=some v/\Q v H
theorem Az:FN X (Nf X.K):=by
 intro value slice pins s σ H x y v u Q I rx ry h hs;obtain⟨p,xs,i,z,rfl,rfl,hq,he,q⟩:=h;cases rx;obtain⟨t,rfl⟩:=ry;obtain⟨its,r,pl,hz⟩:=I.list hq;obtain⟨j,h1,h2,h3,h4,h5⟩:=wc he;obtain⟨w,ew,rw'⟩:=r.get h2;have hl:=r.length;have hn:=rD;have fin:EP X pins σ Q w s:=⟨z,H,I,rw',q⟩
 by_cases h0:0<=i
 . have hj:i.toNat=j:=by
    rw[seqIndex_of h0 h5]at h1;exact Option.some.inj h1
   exact item_listR pl.isList h0 (by omega) (by rw[hj];simpa using ew) fin hs
 . have hj:(i+(its.toArray.size:Int)).toNat=j:=by
    rw[seqIndex_neg (by omega) h4]at h1;rw[List.size_toArray,<-hl];exact Option.some.inj h1
   exact subscriptTail_builtinR (x:=w) pl.isList.typeIs slot_list_getitem.lookup
    (wpAny_getItem_list_neg (Q:=fun r s'=>r=w/\EP X pins σ Q r s') pl.isList (by omega) (by rw[List.size_toArray]<;>omega) (by omega) (by rw[hj];simpa using ew) ⟨rfl,fin⟩) hs
theorem Jx:FN X (NF X.K):=by
 intro value slice pins s σ H x y v u Q I rx ry h hs;obtain⟨p,xs,i,z,rfl,rfl,hq,he,q⟩:=h;cases rx;obtain⟨t,rfl⟩:=ry;obtain⟨its,r,pl,hz⟩:=I.tuple hq;obtain⟨j,h1,h2,h3,h4,h5⟩:=wc he;obtain⟨w,ew,rw'⟩:=r.get h2;have hl:=r.length;have hn:=rD;have fin:EP X pins σ Q w s:=⟨z,H,I,rw',q⟩
 exact subscriptTail_builtinR (x:=w) pl.typeIs slot_tuple_getitem.lookup
  (getItem_tuple (j:=j) (Q:=fun r s'=>r=w/\EP X pins σ Q r s') pl (by omega) (by omega) (by rw[List.size_toArray,<-hl];exact h1) (by simpa using ew) ⟨rfl,fin⟩) hs
theorem Br(its:List Value)(n j:Nat)(u:Value):Obj.mapSeq (·.setIfInBounds j u) {cls:= .type "list",data:= .seq its.toArray n}= {cls:= .type "list",data:= .seq (its.set j u).toArray n}:=by
 simp[Obj.mapSeq]
theorem Inv.lst{pins:List (Addr×Obj)}{σ:St}{H:Hp}{s:Shared}{p:Addr}{xs:List V}(I:Inv X pins σ H s)(h:H p=some (.lst xs)):
 ∃(its:List Value) (n:Nat),Vals xs its/\s.heap.get? p=some {cls:= .type "list",data:= .seq its.toArray n}/\xs.length<=sizeLine:=by
 obtain⟨z,its,n,r,e⟩:=I.aK p _ h;exact⟨its,n,r,e,z⟩
theorem Inv.Ig{pins:List (Addr×Obj)}{σ:St}{H:Hp}{s:Shared}{p:Addr}{xs ys:List V}{its its':List Value}{n n':Nat}{f:Obj->Obj}(I:Inv X pins σ H s)(h:H p=some (.lst xs))
 (ho:s.heap.get? p=some {cls:= .type "list",data:= .seq its.toArray n}) (hf:f {cls:= .type "list",data:= .seq its.toArray n}= {cls:= .type "list",data:= .seq its'.toArray n'}) (r:Vals ys its') (hz:ys.length<=sizeLine) (t:Nat):
 Inv X pins σ (upd H p (.lst ys)) {s with heap:=s.heap.update p f,toks:=t}:=by
 have e:(s.heap.update p f).get? p=some {cls:= .type "list",data:= .seq its'.toArray n'}:=by
  rw[Heap.get?_update_self f ho (by rw[hf]<;>rfl),hf]
 refine I.write (x:=p) (e:=p) (by rw[h];trivial) (.inl rfl) (fun b u hb q=>(Heap.get?_update_other _ _ (Ne.symm hb)).trans q) ⟨_,e⟩ ?_;exact⟨hz,its',n',r,e⟩
def xn:V->V->V->Hp->(Hp->Prop)->Prop:=fun o i v H Q=>∃p xs k j,o= .ref p/\i= .int k/\H p=some (.lst xs)/\nR xs.length k=some j/\Q (upd H p (.lst (xs.set j v)))
theorem set_list:I_ X xn:=by
 intro pins s σ H o i v ov iv u Q I ro ri rv h;obtain⟨p,xs,k,j,rfl,rfl,hp,hj,q⟩:=h;cases ro;obtain⟨t,rfl⟩:=ri;obtain⟨its,n,r,ho,hz⟩:=I.lst hp;obtain⟨h1,h2,h3,h4⟩:=Aq hj;have hl:=r.length;have hn:=rD
 have I':Inv X pins σ (upd H p (.lst (xs.set j v))) {s with heap:=s.heap.update p (Obj.mapSeq (·.setIfInBounds j u))}:=
  I.Ig hp ho (Br its n j u) (r.set rv j) (by rw[List.length_set];exact hz) s.toks
 by_cases h0:0<=k
 . have hk:k.toNat=j:=by
    rw[seqIndex_of h0 h4]at h1;exact Option.some.inj h1
   exact PySem.W.ki_setAt ho h0 (by omega) (by rw[List.size_toArray,<-hl];exact h4) (by rw[hk];exact⟨_,I',q⟩)
 . have hk:(k+(its.toArray.size:Int)).toNat=j:=by
    rw[seqIndex_neg (by omega) h3]at h1;rw[List.size_toArray,<-hl];exact Option.some.inj h1
   exact PySem.W.ki_setBack ho (by omega) (by rw[List.size_toArray,<-hl];exact h3) (by omega) (by rw[hk];exact⟨_,I',q⟩)
theorem x_(lo hi:Option Int)(n:Nat):(sliceBounds lo hi none n).1=((HT.bU n 0 lo:Nat):Int)/\(sliceBounds lo hi none n).2.1=((HT.bU n n hi:Nat):Int)/\(sliceBounds lo hi none n).2.2=1:=by
 refine⟨?_,?_,rfl⟩
 . cases lo with
   |none=>simp[sliceBounds,HT.bU]
   |some i=>
    simp only[sliceBounds,HT.bU,Option.getD_none,show(1:Int)>0 by decide,if_true];by_cases h:i<0
    . simp only[h,if_true]<;>omega
    . simp only[h,if_false]<;>omega
 . cases hi with
   |none=>simp[sliceBounds,HT.bU]
   |some i=>
    simp only[sliceBounds,HT.bU,Option.getD_none,show(1:Int)>0 by decide,if_true];by_cases h:i<0
    . simp only[h,if_true]<;>omega
    . simp only[h,if_false]<;>omega
theorem wY(its:List Value)(lo hi:Option Int):slicePick its.toArray lo hi none=((its.drop (HT.bU its.length 0 lo)).take (HT.bU its.length its.length hi-HT.bU its.length 0 lo)).toArray:=by
 obtain⟨h1,h2,h3⟩:=x_ lo hi its.toArray.size;unfold slicePick;rw[h1,h2,h3];simp only[sliceRange_one,pick_run,List.size_toArray]<;>rfl
def M_(K:PySem.W.Frag):V->Option Int->Option Int->Hp->VK->Prop:=fun x lo hi H Q=>∃a xs,x= .ref a/\mM K H a xs/\∀p,H p=none->Q (.ref p) (upd H p (.lst (qk xs lo hi)))
theorem Ax:Cu X (M_ X.K):=by
 intro pins s σ H x v vl vu lo hi sl Q I rx hs pl pu h;obtain⟨a,xs,rfl,hx,q⟩:=h;cases rx;obtain⟨its,r,ht,hz⟩:=I.list hx;have hlen:=r.length;refine⟨"list",_,slot_list_getitem.lookup,ht.isList.typeIs,?_⟩;refine wpAny_getItem_list_slice ht.isList hs pl pu .none (by simp) ?_ (by rw[List.size_toArray]<;>omega);rw[wY,<-hlen];refine⟨.ref s.heap.objs.size,_,I.laid (t':=s.toks) (o:= .lst (qk xs lo hi)) (fun b ob q=>Heap.get?_push_of_some _ q) (Nat.le_refl _) ?_,rfl,q _ (I.aK.fresh (Nat.le_refl _))⟩;exact⟨Nat.le_trans (tV xs lo hi) hz,_,0,(r.drop (HT.bU xs.length 0 lo)).take (HT.bU xs.length xs.length hi-HT.bU xs.length 0 lo),Heap.get?_push_size _ rfl⟩
theorem yH:bK X (.builtin "len") (fun xs H Q=>∃p ys,xs=[.ref p]/\(mM X.K H p ys\/jn X.K H p ys)/\Q (.int ys.length) H):=by
 intro pins s σ H xs us Q I r h;obtain⟨p,ys,rfl,hq,q⟩:=h;obtain⟨u,rfl,rx⟩:=vals1 r;cases rx;have hn:=rD;rcases hq with hq|hq
 . obtain⟨its,r',pl,hz⟩:=I.list hq;have hlen:=r'.length;exact Calls.call_len_list pl.isList (by simp only[List.size_toArray]<;>omega) ⟨.int ys.length,H,I.tok _,⟨s.toks+1,by rw[List.size_toArray,hlen]⟩,q⟩
 . obtain⟨its,r',pl,hz⟩:=I.tuple hq;have hlen:=r'.length;exact len_tuple pl (by simp only[List.size_toArray]<;>omega) ⟨.int ys.length,H,I.tok _,⟨s.toks+1,by rw[List.size_toArray,hlen]⟩,q⟩
theorem yY:bK X (.builtin "len") (fun xs H Q=>∃z,xs=[.str z]/\z.length<=sizeLine/\Q (.int z.length) H):=by
 intro pins s σ H xs us Q I r h;obtain⟨z,rfl,hz,q⟩:=h;obtain⟨u,rfl,t,rfl⟩:=vals1 r;have hn:=rD;exact len_str (by omega) ⟨.int z.length,H,I.tok _,⟨_,rfl⟩,q⟩
theorem rL:bK X (.type "list") (fun xs H Q=>∃p ys,xs=[.ref p]/\(mM X.K H p ys\/jn X.K H p ys)/\∀l,H l=none->Q (.ref l) (upd H l (.lst ys))):=by
 intro pins s σ H xs us Q I r h;obtain⟨p,ys,rfl,hq,q⟩:=h;obtain⟨u,rfl,rx⟩:=vals1 r;cases rx
 have fin:∀(its:List Value),Vals ys its->ys.length<=sizeLine->∀(h':Heap) (c':Nat),(∀b o',s.heap.get? b=some o'->h'.get? b=some o')->
  h'.get? s.heap.objs.size=some {cls:= .type "list",dict:=none,data:= .seq its.toArray c',slots:= #[]}->EP X pins σ Q (.ref s.heap.objs.size) {s with heap:=h'}:=fun its r' hz h' c' kp e=>
  ⟨.ref s.heap.objs.size,_,I.laid (t':=s.toks) kp (Nat.le_refl _) (show dP X.prog X.w _ h' _ (.lst ys)from⟨hz,its,c',r',e⟩),rfl,q _ (I.aK.fresh (Nat.le_refl _))⟩
 rcases hq with hq|hq
 . obtain⟨its,r',pl,hz⟩:=I.list hq;have hlen:=r'.length;obtain⟨o,ho,hc,n,hd⟩:=pl.isList;exact call_list_seq p (.inl rfl) ho hc hd (fun h' c' kp e=>fin its r' hz h' c' kp e) (by simp only[List.size_toArray]<;>omega)
 . obtain⟨its,r',pl,hz⟩:=I.tuple hq;have hlen:=r'.length;obtain⟨o,ho,hc,n,hd⟩:=pl;exact call_list_seq p (.inr rfl) ho hc hd (fun h' c' kp e=>fin its r' hz h' c' kp e) (by simp only[List.size_toArray]<;>omega)
theorem w4:bK X (.type "tuple") (fun xs H Q=>∃p ys,xs=[.ref p]/\((mM X.K H p ys/\∀l,H l=none->Q (.ref l) (upd H l (.tup ys)))\/(jn X.K H p ys/\Q (.ref p) H))):=by
 intro pins s σ H xs us Q I r h;obtain⟨p,ys,rfl,h⟩:=h;obtain⟨u,rfl,rx⟩:=vals1 r;cases rx;rcases h with⟨hq,q⟩|⟨hq,q⟩
 . obtain⟨its,r',pl,hz⟩:=I.list hq;have hlen:=r'.length;refine call_tuple_list pl.isList (fun h' kp=>?_) (by simp only[List.size_toArray]<;>omega);have I1:Inv X pins σ H {s with heap:=h'}:=I.kept (t':=s.toks) kp
   have I2:Inv X pins σ (upd H h'.objs.size (.tup ys)) {s with heap:=h'.push {cls:= .type "tuple",data:= .seq its.toArray}}:=
    I1.laid (t':=s.toks) (fun b o e=>Heap.get?_push_of_some _ e) (Nat.le_refl _) (show dP X.prog X.w _ _ _ (.tup ys)from⟨hz,its,r',IsTup.new _ _⟩)
   exact⟨.ref h'.objs.size,_,I2,rfl,q _ (I1.aK.fresh (Nat.le_refl _))⟩
 . obtain⟨its,r',pl,hz⟩:=I.tuple hq;exact call_tuple_same pl ⟨.ref p,H,I,rfl,q⟩
def MC(K:PySem.W.Frag)(T:String)(x:V)(H:Hp):Prop:=match x with
 | .str _=>T="str"
 | .int _=>T="int"
 | .ref p=>(T="list"/\∃xs,mM K H p xs)\/(T="tuple"/\∃o,K.lookup p=some o/\o.cls= .type "tuple"/\o.dict=none)\/
    (T="dict"/\((∃kvs,H p=some (.dK kvs))\/∃kvs,H p=some (.dT kvs)))\/(T="set"/\∃S n,H p=some (.set S n))
 |_=>False
theorem Js{pins:List (Addr×Obj)}{σ:St}{H:Hp}{s:Shared}{T:String}{x:V}{v:Value}(I:Inv X pins σ H s)(r:RelV x v)(ty:MC X.K T x H):
 s.TypeIs v T/\∀a,v= .ref a->∃ob,s.heap.get? a=some ob/\ob.dict=none:=by
 cases x with
 |str z=>
  obtain⟨t,rfl⟩:=r;cases (show T="str" from ty);exact⟨typeIs_str s z t,fun _ e=>nomatch e⟩
 |int i=>
  obtain⟨t,rfl⟩:=r;cases (show T="int" from ty);exact⟨typeIs_int s i t,fun _ e=>nomatch e⟩
 |ref p=>
  cases r;rcases ty with⟨rfl,xs,hq⟩|⟨rfl,o,hk,hc,hd⟩|⟨rfl,hk⟩|⟨rfl,S,n,hk⟩
  . obtain⟨its,_,pl,_⟩:=I.list hq;refine⟨pl.isList.typeIs,fun a e=>?_⟩;cases e;obtain⟨o,n,e,c,hd,_⟩:=pl;exact⟨o,e,hd⟩
  . refine⟨⟨o,I.ib p o hk,hc⟩,fun a e=>?_⟩;cases e;exact⟨o,I.ib _ o hk,hd⟩
  . have z:∃o,s.heap.get? p=some o/\o.ExactDict:=by
     rcases hk with⟨kvs,hk⟩|⟨kvs,hk⟩
     . obtain⟨_,_,_,_,o,_,_,e,ex,_⟩:=I.aK p _ hk;exact⟨o,e,ex⟩
     . obtain⟨_,_,_,_,o,_,_,e,ex,_⟩:=I.aK p _ hk;exact⟨o,e,ex⟩
    obtain⟨o,e,ex⟩:=z;refine⟨⟨o,e,ex.1⟩,fun a e2=>?_⟩;cases e2;exact⟨o,e,ex.2.1⟩
  . obtain⟨o,_,_,_,e,ex,_⟩:=I.aK p _ hk;refine⟨⟨o,e,ex.1⟩,fun a e2=>?_⟩;cases e2;exact⟨o,e,ex.2.1⟩
 |_=>exact False.elim ty
def ML(K:PySem.W.Frag)(T:String)(r:V->List V->Hp->VK->Prop)(to:TE)(t:TA):TE:=fun σ H Q=>to σ H fun x H1=>MC K T x H1/\t σ H1 fun xs H2=>r x xs H2 Q
variable {o e:Expr}{es:List Expr}{to:TE}{t:TA}{name:Str}{apos cpos:Pos}{T id:String}{r:V->List V->Hp->VK->Prop}
theorem Mp(pa:PlainAttrs T)(slot:Slot T name id)(hty:typeOf (.builtin id)=pure (.type "method_descriptor"))(hm:MW X id r)(ho:PE X o to)(ha:PA X (e::es) t)
 (hbase:attributeBase o name X.env (eval o X.env)=eval o X.env:=by rfl)
 (hfew:((backTo cpos (starEach (e::es) X.env)).all (fun x=> !x.1)&&(backToKw cpos (keywordEach [] X.env)).all (fun x=>x.1.isSome)
   &&decide ((e::es).length+([]:List Keyword).length+(if([]:List Keyword).isEmpty then 0 else 1)<30))=true:=by rfl)
 (hline:(apos.endLine==cpos.line)=true:=by rfl) (hs:starEach (e::es) X.env=(false,eval e X.env)::starEach es X.env:=by rfl) (hplain:(backTo cpos (starEach es X.env)).any (·.1)=false:=by rfl):
 PE X (.Call (.Attribute o name apos) (e::es) [] cpos) (ML X.K T r to t):=by
 intro pins s σ H Q I h;refine wpAny_Call_method_late hbase hfew hline rfl (bQ (ho pins s σ H _ I h) fun v s1 ⟨x,H1,I1,r1,ty,q1⟩=>?_);obtain⟨h1,h2⟩:=Js I1 r1 ty;refine⟨T,id,pa,slot,hty,h1,h2,?_⟩;have hA:=ha cpos pins s1 σ H1 _ I1 q1;rw[hs]at hA⊢;refine Calls.callWith_builtin (by show(false||(backTo cpos (starEach es X.env)).any (·.1))=false;rw[hplain]<;>rfl) (Calls.evalArgs_plain ?_);exact bQ hA fun us s2 ⟨vs,H2,I2,r2,q2⟩=>hm pins s2 σ H2 x vs v us Q I2 r1 r2 q2
/-xs.append(e),list.index on a module's tuple .. are MW facts of 06m-/
end
def N8(X:Cx)(id:String)(r:V->List V->Hp->VK->Prop):Prop:=
 ∀(pins:List (Addr×Obj)) (s:Shared) (σ:St) (H:Hp) (x:V) (xs:List V) (v:Value) (us:List Value) (Q:VK),Inv X pins σ H s->RelV x v->Vals xs us->r x xs H Q->
  wpAny (model X.prog X.w) X.A (call (.builtin id) (v::us)) (EP X pins σ Q) X.xe s
theorem Vals.one:∀ {x:V} {us:List Value},Vals [x] us->∃u,us=[u]/\RelV x u
 |_,_,.cons r .nil=>⟨_,rfl,r⟩
theorem Vals.rep{xs:List V}{us:List Value}(h:Vals xs us):∀k:Nat,Vals (List.replicate k xs).flatten (List.replicate k us).flatten
 |0=> .nil
 |k+1=>by
  rw[List.replicate_succ,List.replicate_succ,List.flatten_cons,List.flatten_cons];exact Vals.append h (Vals.rep h k)
theorem foldl_rep(its:List Value):∀(k:Nat) (acc:List Value),
 List.foldl (fun x1 x2=>x1++x2) acc.toArray (List.replicate k its.toArray)=(acc++(List.replicate k its).flatten).toArray
 |0,acc=>by simp
 |k+1,acc=>by
  have e:acc.toArray++its.toArray=(acc++its).toArray:=by simp
  have e2:(acc++its)++(List.replicate k its).flatten=acc++(List.replicate (k+1) its).flatten:=by
   rw[List.replicate_succ,List.flatten_cons,List.append_assoc]
  rw[<-e2,<-foldl_rep its k (acc++its),<-e,List.replicate_succ,List.foldl_cons]
section
variable {X:Cx}{pins:List (Addr×Obj)}{σ:St}{H:Hp}{s:Shared}{l b:Addr}{xs ys zs:List V}
theorem Inv.Nx{its its':List Value}{n:Nat}{f:Array Value->Array Value}{t':Nat}(I:Inv X pins σ H s)(hH:H l=some (.lst xs))
 (e:s.heap.get? l=some {cls:= .type "list",data:= .seq its.toArray n}) (hf:f its.toArray=its'.toArray) (hv:Vals ys its') (hz:ys.length<=sizeLine):
 Inv X pins σ (upd H l (.lst ys)) {s with heap:=s.heap.update l (Obj.mapSeq f),toks:=t'}:=by
 have q:=PySem.IsL.update e f;rw[hf]at q;refine I.write (x:=l) (e:=l) (by rw[hH];exact trivial) (.inl rfl) (fun b' u hb hu=>(Heap.get?_update_other s.heap (Obj.mapSeq f) (Ne.symm hb)).trans hu) ⟨_,q⟩ ?_;exact⟨hz,its',_,hv,q⟩
theorem Inv.EH{its:List Value}{t':Nat}(I:Inv X pins σ H s)(hv:Vals ys its)(hz:ys.length<=sizeLine):
 Inv X pins σ (upd H s.heap.objs.size (.lst ys)) {s with heap:=s.heap.push {cls:= .type "list",data:= .seq its.toArray},toks:=t'}:=
 I.laid (fun _ _ q=>Heap.get?_push_of_some _ q) (Nat.le_refl _) ⟨hz,its,0,hv,Heap.get?_push_size _ rfl⟩
theorem Inv.fresh(I:Inv X pins σ H s):H s.heap.objs.size=none:=I.aK.fresh (Nat.le_refl _)
theorem Inv.Ng(I:Inv X pins σ H s)(hH:H l=some (.lst xs)):xs.length<=sizeLine/\∃(its:List Value) (n:Nat),Vals xs its/\xs.length=its.length/\s.heap.get? l=some {cls:= .type "list",data:= .seq its.toArray n}:=by
 obtain⟨z,its,n,r,e⟩:=I.aK l _ hH;exact⟨z,its,n,r,r.length,e⟩
theorem ET{n:Nat}(h:n<=sizeLine):Builtin.List.listTooLong n=false:=by
 unfold Builtin.List.listTooLong;exact decide_eq_false (by omega)
end
section
variable {X:Cx}
def AE:V->List V->Hp->VK->Prop:=fun x vs H Q=>∃l xs y,x= .ref l/\vs=[y]/\H l=some (.lst xs)/\xs.length<sizeLine/\Q .aI (upd H l (.lst (xs++[y])))
theorem wo:N8 X "list.append" AE:=by
 intro pins s σ H x vs v us Q I rx rv h;obtain⟨l,xs,y,rfl,rfl,hH,hz,q⟩:=h;cases rx;obtain⟨u,rfl,ru⟩:=rv.one;obtain⟨z,its,n,r,hl,e⟩:=I.Ng hH;refine call_meets F.slot_list_append ⟨_,e,rfl⟩ F.entry_list_append (F.args_list_append_2 _ _) (PySem.list_append l its.toArray n u (by rw[List.size_toArray];omega)) ⟨e,?_⟩;refine⟨.aI,_,I.Nx (its':=its++[u]) hH e (by simp) (r.append (.cons ru .nil)) ?_,rfl,q⟩;rw[List.length_append,List.length_singleton];omega
theorem len_rep{α:Type}(xs:List α)(k:Nat):(List.replicate k xs).flatten.length=k*xs.length:=by
 induction k with
 |zero=>simp
 |succ k ih=>rw[List.replicate_succ,List.flatten_cons,List.length_append,ih,Nat.succ_mul,Nat.add_comm]
end
section
variable {prog:Program}{w:World}{A:Around}{E:Value->Shared->Prop}{s:Shared}
set_option maxRecDepth 100000 in
end
section
variable {X:Cx}
end
end L2
namespace Att
open PySem PySem.W PySem.Calls PyProof.Rows
theorem uU{P:Params}{h:Heap}:∀(ns:List Int) (vs:List Value),WellAll P h vs (ns.map WData.int)->IntsAre vs ns:=by
 intro ns;induction ns with
 |nil=>
  intro vs w;rw[List.map_nil]at w;cases w;exact .nil
 |cons n ns ih=>
  intro vs w;rw[List.map_cons]at w;cases w with
  |cons a b=>
   cases a;exact .cons _ _ (ih _ b)
theorem D2{l:OpenLaw}{n:Nat}(hn:l.most=some n){P:Params}{h:Heap}{args:List WData}{vals:List Value}
 (hpre:l.row.toRowW.claim.pre args=true) (hwl:WellAll P h vals args):
 ∃a vs ns,vals=[Value.ref a]/\args=[WData.list (ns.map WData.int)]/\h.get? a=some {cls:= .type "list",data:= .seq vs.toArray}/\IntsAre vs ns/\ns.length<=n:=by
 have hsh:WShape.hasAll [] args [.list .int]=true:=(pre_splitW hpre).1;have hc:l.pre.holds [] {args:=args}=true:=(pre_splitW hpre).2;obtain⟨d,r,rfl,h1,h2⟩:=hasAllW_cons hsh;obtain rfl:=hasAllW_nil h2;obtain⟨xs,rfl,h3⟩:=hasW_list h1;obtain⟨ns,rfl⟩:=items_int h3
 have hlen:ns.length<=n:=by
  unfold OpenLaw.pre at hc
  have h4:(WTm.not (.lt (.lit (.int (n:Int))) (.len (.arg 0)))).holds [] {args:=[.list (ns.map .int)]}=true:=by
   have h4:=(holds_andW hc).1;rw[hn]at h4;exact h4
  have h5:=condW_of h4 (w_not (w_lt w_lit (w_len_list (w_arg rfl))));rw[List.length_map]at h5;refine Nat.le_of_not_lt fun q=>?_;have q':(n:Int)<((ns.length:Nat):Int):=by omega
  first
   |(rw[decide_eq_true q']at h5;exact absurd h5 (by decide))
   |(simp at h5;omega)
 cases hwl with
 |cons w1 w2=>
  cases w2;cases w1 with
  |list ho hall=>exact⟨_,_,ns,rfl,rfl,ho,uU ns _ hall,hlen⟩
theorem DZ(l:OpenLaw)(args:List WData):l.row.toRowW.claim.post args (.bool true) args=true:=
 postW_of (r:=l.row.toRowW) (X:=(true==true))
  (show WShape.has [] (.bool true) .bool=true by first|rfl|decide|simp[WShape.has,WShape.arms,WShape.armsAll])
  (show(WTm.eq .res (.lit (.bool true))).value [] {args:=args,res:=some (.bool true),after:=args}=some (.bool (true==true))from w_eq_bool (w_res rfl) w_lit) rfl
theorem zI{l:OpenLaw}{n:Nat}{q:Program}{loose:List Str}{XP:(Str->Option Value)->Heap->Prop}{YP:World->Heap->Prop}{d:DefRec}
 (hn:l.most=some n) (hdf:d.params.defaults=[])
 (call:∀(w:World) (s₀ s₁:Shared) (mg mb:Str->Option Value) (fa:Addr) (o:Obj) (pm cd doc:Value) (a:Addr) (vs:List Value) (ns:List Int),
   Ground q loose [] XP w s₀ mg mb s₁.heap->YP w s₁.heap->
   s₁.heap.get? fa=some o->o.data= .func (docDef d.name d.params d.body d.scope pm cd doc)->s₁.heap.CodeRec cd d.name->mg d.name=some (.ref fa)->
   s₁.heap.get? a=some {cls:= .type "list",data:= .seq vs.toArray}->IntsAre vs ns->ns.length<=n->s₁.gens= #[]->
   codeAny (model l.prog w) callerA (.call (.ref fa) ⟨[.ref a],[]⟩) (fun r s'=>r= .ok (.ret (.bool true))/\OldK s₁.heap s'.heap/\s'.os=s₁.os/\AllBare s'.gens) s₁):
 WalkO q loose XP YP l.row.toRowW d [] (fun f vs=>PySem.call f vs):=by
 intro w s₀ s₁ mg mb G Y fa o pm cd doc dV kV ho hd hcd hD hmg hg args vals as hpre hlay hrd hwl hlo;obtain rfl:dV= .none:=Dflts.none hD hdf;obtain rfl:kV= .none:=Dflts.noKw hD;obtain⟨a,vs,ns,rfl,rfl,hobj,hints,hlen⟩:=D2 hn hpre hwl;refine enter_call (codeAny_mono (call w s₀ s₁ mg mb fa o pm cd doc a vs ns G Y ho (fd_plain hd) hcd hmg hobj hints hlen hg) fun r s' hq=>?_);obtain⟨rfl,h2,h3,h4⟩:=hq;exact⟨.inl ⟨.bool true,.bool true,[],rfl,fun _=>rfl,.bool true,DZ l _,fun _=>⟨List.Pairwise.nil,fun _ hm=>(nomatch hm)⟩⟩,h2,h3,h4⟩
section
variable {prog:Program}{w:World}{A:Around}{E:Value->Shared->Prop}{s:Shared}{K:Frag}
end
end Att
namespace L2
open PySem PySem.Spec PyProof.Rows
theorem oK:∀ {vs:List Value} {ns:List Int},IntsAre vs ns->Vals (ns.map V.int) vs
 |_,_,.nil=> .nil
 |_,_,.cons n t h=> .cons ⟨t,rfl⟩ (oK h)
end L2
/-THE LAST THEOREM (shape;LID,My.*are yours):
 My.Adr:a structure of the addresses that your layer names (classes,functions);My.Txt K t:a structure (Prop) of the equations over K;
 My.txt_mk:{K} {implicit addresses ..} (e1:nsIn K mainGlobals "law"=some (some (.ref f))) (e2:K.lookup f=some ⟨oc,od,.func (fnOf "law" "law" params body scope dV kV doc pm an cdv ct),sl⟩) (e3:codeIn K cdv "law"=true) .. :∃t,My.Txt K t
set_option maxRecDepth 100000 in
set_option maxHeartbeats 0 in
(the tactic k_is has no namespace:write k_is)-/
namespace L2
open PySem PySem.Spec PyProof.Rows
def inClass(s:Stmt)(j:Nat):Stmt:=match s with
 | .ClassDef _ _ _ body _ _ _ _ _ _ _=>body.getD j (.Pass ⟨0,0,0,0⟩)
 |_=> .Pass ⟨0,0,0,0⟩
def kQ(s:Stmt):Arguments:=match s with
 | .FunctionDef _ a _ _ _ _ _ _ _ _=>a
 |_=>{posonlyargs:=[],args:=[],vararg:=none,kwonlyargs:=[],kw_defaults:=[],kwarg:=none,defaults:=[]}
def iq(s:Stmt):List Stmt:=match s with
 | .FunctionDef _ _ b _ _ _ _ _ _ _=>b
 |_=>[]
def ai(s:Stmt):Scope:=match s with
 | .FunctionDef _ _ _ _ _ _ sc _ _ _=>sc
 |_=>{kind:= .function,names:=[],isGenerator:=false,isCoroutine:=false}
abbrev cG:tJ:=fun _ _ _ _ _ _=>False
abbrev E0:XK:=fun _ _ _=>False
theorem xq{X:Cx}:Passes cG X E0:=fun _ _ _ _ _ _ _ h=>h.elim
structure ow(K:PySem.W.Frag)(x qual:Str)(st:Stmt)(f:Addr)(fd:FuncData):Prop where
 ex:∃(oc:Value) (od:Option Addr) (kV doc pm:Value) (an:Option Addr) (cdv ct:Value) (osl:Array (Option Value)),
  fd=PySem.W.fnOf x qual (kQ st) (iq st) (ai st) .none kV doc pm an cdv ct/\K.lookup f=some ⟨oc,od,.func fd,osl⟩/\PySem.W.codeIn K cdv qual=true
 kp:PySem.W.keepIn K (.ref f)=true
section
variable {P:Program}{w:World}{K:PySem.W.Frag}{mg:Str->Option Value}{base:Heap}
theorem ow.ok{x qual:Str}{st:Stmt}{f:Addr}{fd:FuncData}{N ps:List Str}{k:Nat}{sp:Sp}(F:ow K x qual st f fd)(S:aR N ps (ai st))(len:∀vs H Q E,sp vs H Q E->vs.length=ps.length)
 (hbody:∀(cdv:Value) (A:Around) (outer:List Env) (s:Shared) (H:Hp) (vs:List V) (Q:VK) (E:XK),cP k (A.deeper (envOfC qual (ai st) s.heap.objs.size f cdv))->sp vs H Q E->
   ∃t,iy (qj cG P w K mg base N qual (ai st) f cdv A outer s H E).vo (iq st) t/\t {nx:=fun _ H'=>Q .aI H',rt:=Q} (start N vs) H):bF P w K mg base cG (k+1) f fd ps sp:=by
 obtain⟨oc,od,kV,doc,pm,an,cdv,ct,osl,rfl,lk,hcd⟩:=F.ex;refine F2 lk hcd S len fun A outer s H vs Q E hr hsp=>?_;obtain⟨t,h,q⟩:=hbody cdv A outer s H vs Q E hr hsp;exact⟨t,h.vo,q⟩
theorem ow.binds{x qual:Str}{st:Stmt}{f:Addr}{fd:FuncData}{ps:List Str}(F:ow K x qual st f fd)
 (h:∀(kV doc pm:Value) (an:Option Addr) (cdv ct:Value) (us:List Value),us.length=ps.length->bindArgs (PySem.W.fnOf x qual (kQ st) (iq st) (ai st) .none kV doc pm an cdv ct) ⟨us,[]⟩=pure (ps.zip us)):Binds K fd ps []:=by
 obtain⟨oc,od,kV,doc,pm,an,cdv,ct,osl,rfl,lk,hcd⟩:=F.ex;exact .all (h kV doc pm an cdv ct)
theorem Dq{x qual:Str}{st:Stmt}{f:Addr}{oc:Value}{od an:Option Addr}{osl:Array (Option Value)}{kV doc pm cdv ct:Value}(l:K.lookup f=some ⟨oc,od,.func (PySem.W.fnOf x qual (kQ st) (iq st) (ai st) .none kV doc pm an cdv ct),osl⟩)
 (c:PySem.W.codeIn K cdv qual=true) (k:PySem.W.keepIn K (.ref f)=true):ow K x qual st f (PySem.W.fnOf x qual (kQ st) (iq st) (ai st) .none kV doc pm an cdv ct):=⟨⟨oc,od,kV,doc,pm,an,cdv,ct,osl,rfl,l,c⟩,k⟩
end
section
variable {X:Cx}
end
theorem g7{A B:Prop}(h:A):if true=true then A else B:=by
 rw[if_pos rfl];exact h
def EJ(H H':Hp):Prop:=∀b o,H b=some o->H' b=some o
end L2
set_option maxHeartbeats 4000000
namespace Hd
open PySem PySem.W PySem.Calls PyProof.Rows
noncomputable def bt (P:Params):BT:=(.node (boot_o_0 P) (.node (boot_o_1 P) (.node (boot_o_3 P) (.node (boot_o_7 P) .nil .nil) .nil) (.node (boot_o_5 P) (.node (boot_o_9 P) .nil .nil) .nil)) (.node (boot_o_2 P) (.node (boot_o_4 P) (.node (boot_o_8 P) .nil .nil) .nil) (.node (boot_o_6 P) (.node (boot_o_10 P) .nil .nil) .nil)))
theorem Kn(P:Params):absHeap (bt P) 11 (boot_heap P).life=boot_heap P:=by kernel_rfl
noncomputable def run (p:Program) (w:World) (n:Nat) (ann:Option Value):Nat->SharedT->Thread->Option SharedT
 |0,_,_=>none
 |k+1,s,t=>match through t with
  |true=>some s
  |false=>match Fast.tw6613529449190102663 n ann t with
   |false=>none
   |true=>match Fast.tw10156331382660048174 (Fast.tw11892475500146522536 Fast.tw14364793385576792824) p w s t with
    |some (s',t')=>run p w n ann k s' t'
    |none=>none
theorem DR{p:Program}{w:World}{n:Nat}{ann:Option Value}:∀ {k:Nat} {s s':SharedT} {t:Thread},run p w n ann k s t=some s'->topRun treeTable p w n ann k s.abs t=some s'.abs
 |0,_,_,_,h=>by cases h
 |k+1,s,s',t,h=>by
  unfold run at h;unfold topRun;cases he:through t with
  |true=>rw[he]at h;cases h;rfl
  |false=>
   rw[he]at h;rw[<-Fast.te6613529449190102663,<-Fast.te10156331382660048174,<-Fast.te11892475500146522536,<-Fast.te14364793385576792824]at h;cases hk:stepOk n ann t with
   |false=>simp only[hk]at h;cases h
   |true=>
    simp only[hk]at h;cases hs:stepT (denote treeTable) p w s t with
    |none=>rw[hs]at h;cases h
    |some r=>obtain⟨s2,t2⟩:=r;rw[hs]at h;rw[stepT_spec hs];exact DR h
noncomputable def b0 (w:World) (os:OsState):SharedT:=⟨bt w.params,11,(boot_heap w.params).life,⟨[]⟩,boot_drawn,boot_toks,os⟩
theorem JH(w:World)(os:OsState):(b0 w os).abs=⟨boot_heap w.params,⟨[]⟩,boot_drawn,boot_toks,os⟩:=by
 unfold b0 SharedT.abs;dsimp only;rw[Kn]
theorem left{p q:Program}{loose:List Str}{α:Type}{Yf:Shared->α}{Ya:World->α}{N:Nat}
 (e:opening p=plainProg p.main.scope.names) (f:∀s,fenceModules? p s=some s) (hN:Nat.ble 600 N=true)
 (h:∀(w:World) (os:OsState),(run p w 11 (some (.ref 6)) N (b0 w os) (topStub p)).bind (fun s=>match staticsOk (importedModules p.main.body) (boot_heap w.params) s.abs.heap&&namesBound p s.abs.heap&&gensDone s.abs&&laidKept (boot_heap w.params) s.abs.heap with
   |true=>some (Fast.tw4187177175401517315 q loose (importedModules p.main.body) (fun _=>true) true s.abs,Yf s.abs)
   |false=>none)=some (openGood q loose,Ya w)):LeftO p q loose (fun _=>true) Yf Ya N:=fun w=>by
 obtain⟨⟨hp,gs,d,k,os⟩,e1,e2⟩:=Option.map_eq_some_iff.mp (boot_open e hN f w);obtain⟨rfl,rfl,rfl,rfl⟩:hp=boot_heap w.params/\gs=⟨[]⟩/\d=boot_drawn/\k=boot_toks:=by simpa using e2
 obtain⟨s,r1,r2⟩:=Option.bind_eq_some_iff.mp (h w os);have r3:=DR r1;rw[JH]at r3;rw[<-Fast.te4187177175401517315]at r2;unfold openEnds;rw[e1];show(topFrom treeTable p w N _).map _=_;unfold topFrom;rw[show((boot_heap w.params).isNs mainGlobals&&(⟨[]⟩:Array GenState).size==0)=true from by kernel_rfl];dsimp only;rw[show(boot_heap w.params).objs.size=11 from by kernel_rfl,show(boot_heap w.params).nsMap mainGlobals "__annotations__"=some (.ref 6)from by kernel_rfl,r3];show((match staticsOk (importedModules p.main.body) (boot_heap w.params) s.abs.heap&&namesBound p s.abs.heap&&gensDone s.abs&&laidKept (boot_heap w.params) s.abs.heap with|true=>some s.abs|false=>none):Option Shared).map _=_;cases z:(staticsOk (importedModules p.main.body) (boot_heap w.params) s.abs.heap&&namesBound p s.abs.heap&&gensDone s.abs&&laidKept (boot_heap w.params) s.abs.heap)with
 |false=>rw[z]at r2;cases r2
 |true=>rw[z]at r2;exact r2
abbrev e(x:Str)(t:Nat)(v:Value):Str×Nat×Value:=(x,t,v)
abbrev k(a:Addr)(o:Obj):Addr×Obj:=(a,o)
def no(P:Params)(n:Nat)(l:List (Str×Nat×Value)):Obj:=⟨.type "dict",none,.dict (l.map fun e=>⟨PyData.keyHash P e.1,.str e.1 e.2.1,e.2.2⟩).toArray n,#[]⟩
def fd(st:Stmt)(x q:Str)(pm:Value)(c:Addr):FuncData:=fnOf x q (L2.kQ st) (L2.iq st) (L2.ai st) .none .none .none pm none (.ref c) .none
def fq(st:Stmt)(x q:Str)(pm:Value)(c:Addr):Obj:=⟨.type "function",none,.func (fd st x q pm c),#[]⟩
def co(x q:Str)(t:Nat)(line argc:Int)(a b:Addr)(u v:Value)(d:Addr)(i:Int)(z:Nat):Obj:=⟨.type "code",none,.fields #[.str x t,.str q (t+1),.str "/claim/cut.py" (t+2),.int line 0,.int argc 0,.int 0 0,.int 0 0,.int 3 0,.ref a,.bool true,.int 181 0,.ref b,.none,u,v,.ref d,.int i 0,.int line 0,.str "/claim/cut.py" z],#[]⟩
end Hd
namespace Row
open PySem L2
open PySem.Spec hiding items?
open PyProof.Rows hiding St
def top(i:Nat):Stmt:=PySem.Challenge.pw_latticeworks_k21_numbers_with_turns.main.body.getD i (.Pass ⟨0,0,0,0⟩)
abbrev PW:Program:=PySem.Challenge.pw_latticeworks_k21_numbers_with_turns
abbrev jE:Stmt:=top 1
abbrev lT:Stmt:=top 2
abbrev mh:Stmt:=top 3
abbrev jB:Stmt:=top 4
abbrev kC:Stmt:=top 5
abbrev fO:Stmt:=top 6
abbrev iH:Stmt:=top 7
abbrev g6:Stmt:=top 8
abbrev eK:Stmt:=top 10
abbrev i4:Stmt:=top 11
abbrev jD:Stmt:=top 12
abbrev cZ:Stmt:=inClass (top 13) 0
abbrev ie:Stmt:=inClass (top 13) 1
abbrev fi:Stmt:=inClass (top 13) 2
abbrev dU:Stmt:=inClass (top 13) 3
abbrev df:Stmt:=inClass (top 13) 4
abbrev fY:Stmt:=inClass (top 13) 5
abbrev dS:Stmt:=inClass (top 13) 6
abbrev jL:Stmt:=top 14
abbrev fk:Stmt:=inClass (top 16) 0
abbrev fb:Stmt:=inClass (top 16) 1
abbrev eH:Stmt:=inClass (top 16) 2
abbrev eE:Stmt:=inClass (top 16) 3
abbrev dy:Stmt:=inClass (top 16) 4
abbrev fN:Stmt:=top 18
abbrev fX:Stmt:=inClass (top 16) 5
abbrev eR:Stmt:=top 17
abbrev gw:Stmt:=inClass (top 16) 6
abbrev gd:Stmt:=top 19
abbrev jS:Stmt:=top 20
abbrev ir:Stmt:=top 22
abbrev jP:Stmt:=top 23
abbrev il:Stmt:=top 24
abbrev di:Stmt:=top 25
abbrev fP:Stmt:=top 26
abbrev g4:Stmt:=top 27
abbrev g5:Stmt:=top 28
abbrev fF:Stmt:=top 29
abbrev fh:Stmt:=top 30
abbrev fL:Stmt:=top 31
abbrev eO:Stmt:=top 32
abbrev mE:Stmt:=top 33
def ji:Value:=(.str "latticeworks.rows" 187)
def fS:Value:=(.str "latticeworks.standing" 243)
def fR:Value:=(.str "latticeworks.dividing" 364)
def fg:Value:=(.str "law_latticeworks_k21_numbers_with_turns" 480)
def KX(P:Params):PySem.W.Frag:=[Hd.k 3 (Hd.no P 39 [Hd.e "__name__" 165 (.str "law_latticeworks_k21_numbers_with_turns" 480),Hd.e "__doc__" 166 .none,Hd.e "__package__" 167 .none,Hd.e "__loader__" 168 (.builtin "__main__.__loader__#opaque"),Hd.e "__spec__" 169 .none,Hd.e "__annotations__" 170 (.ref 6),Hd.e "__builtins__" 171 (.ref 4),Hd.e "__file__" 173 (.str "/claim/cut.py" 172),Hd.e "__cached__" 174 .none,Hd.e "as_rows" 194 (.ref 19),Hd.e "added" 200 (.ref 24),Hd.e "sum_by" 212 (.ref 31),Hd.e "product" 218 (.ref 36),Hd.e "column" 224 (.ref 41),Hd.e "turned_over" 230 (.ref 46),Hd.e "unit_row" 236 (.ref 51),Hd.e "unit_rows" 242 (.ref 56),Hd.e "nearest_quotient" 252 (.ref 63),Hd.e "exchanged" 262 (.ref 70),Hd.e "negated" 268 (.ref 75),Hd.e "Bench" 352 (.ref 130),Hd.e "standing" 363 (.ref 141),Hd.e "Sides" 450 (.ref 200),Hd.e "unit_rows_but" 456 (.ref 209),Hd.e "is_diagonal" 462 (.ref 214),Hd.e "numbers_of" 468 (.ref 219),Hd.e "dividing" 479 (.ref 226),Hd.e "_law_source" 490 (.ref 233),Hd.e "_law_take" 500 (.ref 240),Hd.e "_law_number" 508 (.ref 247),Hd.e "_law_rows" 514 (.ref 252),Hd.e "_law_product" 520 (.ref 257),Hd.e "_law_units" 526 (.ref 262),Hd.e "_law_slope" 532 (.ref 267),Hd.e "_law_is_number" 539 (.ref 274),Hd.e "_law_are_rows" 545 (.ref 279),Hd.e "_law_are_turns" 554 (.ref 286),Hd.e "_law_right" 560 (.ref 291),Hd.e "law" 566 (.ref 296)]),
 Hd.k 18 (Hd.co "as_rows" "as_rows" 189 2 1 15 16 .none .none 17 192 193),
 Hd.k 19 (Hd.fq jE "as_rows" "as_rows" ji 18),
 Hd.k 23 (Hd.co "added" "added" 195 4 3 20 21 .none .none 22 198 199),
 Hd.k 24 (Hd.fq lT "added" "added" ji 23),
 Hd.k 30 (Hd.co "sum_by" "sum_by" 201 6 3 25 26 (.ref 27) (.ref 28) 29 210 211),
 Hd.k 31 (Hd.fq mh "sum_by" "sum_by" ji 30),
 Hd.k 35 (Hd.co "product" "product" 213 11 2 32 33 .none .none 34 216 217),
 Hd.k 36 (Hd.fq jB "product" "product" ji 35),
 Hd.k 40 (Hd.co "column" "column" 219 14 2 37 38 .none .none 39 222 223),
 Hd.k 41 (Hd.fq kC "column" "column" ji 40),
 Hd.k 45 (Hd.co "turned_over" "turned_over" 225 16 2 42 43 .none .none 44 228 229),
 Hd.k 46 (Hd.fq fO "turned_over" "turned_over" ji 45),
 Hd.k 50 (Hd.co "unit_row" "unit_row" 231 18 2 47 48 .none .none 49 234 235),
 Hd.k 51 (Hd.fq iH "unit_row" "unit_row" ji 50),
 Hd.k 55 (Hd.co "unit_rows" "unit_rows" 237 20 1 52 53 .none .none 54 240 241),
 Hd.k 56 (Hd.fq g6 "unit_rows" "unit_rows" ji 55),
 Hd.k 62 (Hd.co "nearest_quotient" "nearest_quotient" 245 23 2 57 58 (.ref 59) (.ref 60) 61 250 251),
 Hd.k 63 (Hd.fq eK "nearest_quotient" "nearest_quotient" fS 62),
 Hd.k 69 (Hd.co "exchanged" "exchanged" 253 25 3 64 65 (.ref 66) (.ref 67) 68 260 261),
 Hd.k 70 (Hd.fq i4 "exchanged" "exchanged" fS 69),
 Hd.k 74 (Hd.co "negated" "negated" 263 30 1 71 72 .none .none 73 266 267),
 Hd.k 75 (Hd.fq jD "negated" "negated" fS 74),
 Hd.k 86 (Hd.co "__init__" "Bench.__init__" 281 34 2 83 84 .none .none 85 284 285),
 Hd.k 87 (Hd.fq cZ "__init__" "Bench.__init__" fS 86),
 Hd.k 93 (Hd.co "take" "Bench.take" 287 39 4 88 89 (.ref 90) (.ref 91) 92 294 295),
 Hd.k 94 (Hd.fq ie "take" "Bench.take" fS 93),
 Hd.k 100 (Hd.co "exchange" "Bench.exchange" 297 44 3 95 96 (.ref 97) (.ref 98) 99 303 304),
 Hd.k 101 (Hd.fq fi "exchange" "Bench.exchange" fS 100),
 Hd.k 107 (Hd.co "change_sign" "Bench.change_sign" 306 49 2 102 103 (.ref 104) (.ref 105) 106 311 312),
 Hd.k 108 (Hd.fq dU "change_sign" "Bench.change_sign" fS 107),
 Hd.k 112 (Hd.co "live_rows" "Bench.live_rows" 314 54 3 109 110 .none .none 111 317 318),
 Hd.k 113 (Hd.fq df "live_rows" "Bench.live_rows" fS 112),
 Hd.k 119 (Hd.co "gather" "Bench.gather" 320 58 3 114 115 (.ref 116) (.ref 117) 118 329 330),
 Hd.k 120 (Hd.fq fY "gather" "Bench.gather" fS 119),
 Hd.k 126 (Hd.co "lower_above" "Bench.lower_above" 332 72 3 121 122 (.ref 123) (.ref 124) 125 339 340),
 Hd.k 127 (Hd.fq dS "lower_above" "Bench.lower_above" fS 126),
 Hd.k 129 (Hd.no P 4 [Hd.e "__module__" 276 (.str "latticeworks.standing" 243),Hd.e "__firstlineno__" 280 (.int (32) 279),Hd.e "__init__" 286 (.ref 87),Hd.e "take" 296 (.ref 94),Hd.e "exchange" 305 (.ref 101),Hd.e "change_sign" 313 (.ref 108),Hd.e "live_rows" 319 (.ref 113),Hd.e "gather" 331 (.ref 120),Hd.e "lower_above" 341 (.ref 127),Hd.e "__static_attributes__" 345 (.ref 128),Hd.e "__dict__" 347 (.ref 131),Hd.e "__weakref__" 349 (.ref 132),Hd.e "__doc__" 350 .none]),
 Hd.k 130 (⟨(.type "type"),none,.cls {name:="Bench",bases:=[(.type "object")],mro:=[(.ref 130),(.type "object")],ns:=129,qualname:="Bench",hasDict:=true,subclasses:=[],abstract:=false,hasDel:=false},#[none,none,(some (.str "Bench" 269)),(some (.str "Bench" 277)),(some (.builtin "object.__new__")),(some (.bool true))]⟩),
 Hd.k 140 (Hd.co "standing" "standing" 353 75 1 135 136 (.ref 137) (.ref 138) 139 361 362),
 Hd.k 141 (Hd.fq jL "standing" "standing" fS 140),
 Hd.k 154 (Hd.co "__init__" "Sides.__init__" 378 87 2 149 150 (.ref 151) (.ref 152) 153 383 384),
 Hd.k 155 (Hd.fq fk "__init__" "Sides.__init__" fR 154),
 Hd.k 161 (Hd.co "turn_left" "Sides.turn_left" 386 96 3 156 157 (.ref 158) (.ref 159) 160 392 393),
 Hd.k 162 (Hd.fq fb "turn_left" "Sides.turn_left" fR 161),
 Hd.k 168 (Hd.co "turn_right" "Sides.turn_right" 395 101 3 163 164 (.ref 165) (.ref 166) 167 401 402),
 Hd.k 169 (Hd.fq eH "turn_right" "Sides.turn_right" fR 168),
 Hd.k 175 (Hd.co "stand_rows" "Sides.stand_rows" 404 106 1 170 171 (.ref 172) (.ref 173) 174 409 410),
 Hd.k 176 (Hd.fq eE "stand_rows" "Sides.stand_rows" fR 175),
 Hd.k 182 (Hd.co "stand_columns" "Sides.stand_columns" 412 110 1 177 178 (.ref 179) (.ref 180) 181 417 418),
 Hd.k 183 (Hd.fq dy "stand_columns" "Sides.stand_columns" fR 182),
 Hd.k 189 (Hd.co "settle" "Sides.settle" 420 114 1 184 185 (.ref 186) (.ref 187) 188 424 425),
 Hd.k 190 (Hd.fq fX "settle" "Sides.settle" fR 189),
 Hd.k 196 (Hd.co "merge" "Sides.merge" 427 121 3 191 192 (.ref 193) (.ref 194) 195 433 434),
 Hd.k 197 (Hd.fq gw "merge" "Sides.merge" fR 196),
 Hd.k 199 (Hd.no P 4 [Hd.e "__module__" 373 (.str "latticeworks.dividing" 364),Hd.e "__firstlineno__" 377 (.int (85) 376),Hd.e "__init__" 385 (.ref 155),Hd.e "turn_left" 394 (.ref 162),Hd.e "turn_right" 403 (.ref 169),Hd.e "stand_rows" 411 (.ref 176),Hd.e "stand_columns" 419 (.ref 183),Hd.e "settle" 426 (.ref 190),Hd.e "merge" 435 (.ref 197),Hd.e "__static_attributes__" 443 (.ref 198),Hd.e "__dict__" 445 (.ref 201),Hd.e "__weakref__" 447 (.ref 202),Hd.e "__doc__" 448 .none]),
 Hd.k 200 (⟨(.type "type"),none,.cls {name:="Sides",bases:=[(.type "object")],mro:=[(.ref 200),(.type "object")],ns:=199,qualname:="Sides",hasDict:=true,subclasses:=[],abstract:=false,hasDel:=false},#[none,none,(some (.str "Sides" 366)),(some (.str "Sides" 374)),(some (.builtin "object.__new__")),(some (.bool true))]⟩),
 Hd.k 208 (Hd.co "unit_rows_but" "unit_rows_but" 451 124 4 205 206 .none .none 207 454 455),
 Hd.k 209 (Hd.fq eR "unit_rows_but" "unit_rows_but" fR 208),
 Hd.k 213 (Hd.co "is_diagonal" "is_diagonal" 457 128 1 210 211 .none .none 212 460 461),
 Hd.k 214 (Hd.fq fN "is_diagonal" "is_diagonal" fR 213),
 Hd.k 218 (Hd.co "numbers_of" "numbers_of" 463 133 1 215 216 .none .none 217 466 467),
 Hd.k 219 (Hd.fq gd "numbers_of" "numbers_of" fR 218),
 Hd.k 225 (Hd.co "dividing" "dividing" 469 136 1 220 221 (.ref 222) (.ref 223) 224 477 478),
 Hd.k 226 (Hd.fq jS "dividing" "dividing" fR 225),
 Hd.k 232 (Hd.co "_law_source" "_law_source" 482 146 2 227 228 (.ref 229) (.ref 230) 231 488 489),
 Hd.k 233 (Hd.fq ir "_law_source" "_law_source" fg 232),
 Hd.k 239 (Hd.co "_law_take" "_law_take" 491 151 2 234 235 (.ref 236) (.ref 237) 238 498 499),
 Hd.k 240 (Hd.fq jP "_law_take" "_law_take" fg 239),
 Hd.k 246 (Hd.co "_law_number" "_law_number" 501 160 1 241 242 (.ref 243) (.ref 244) 245 506 507),
 Hd.k 247 (Hd.fq il "_law_number" "_law_number" fg 246),
 Hd.k 251 (Hd.co "_law_rows" "_law_rows" 509 167 1 248 249 .none .none 250 512 513),
 Hd.k 252 (Hd.fq di "_law_rows" "_law_rows" fg 251),
 Hd.k 256 (Hd.co "_law_product" "_law_product" 515 184 2 253 254 .none .none 255 518 519),
 Hd.k 257 (Hd.fq fP "_law_product" "_law_product" fg 256),
 Hd.k 261 (Hd.co "_law_units" "_law_units" 521 189 1 258 259 .none .none 260 524 525),
 Hd.k 262 (Hd.fq g4 "_law_units" "_law_units" fg 261),
 Hd.k 266 (Hd.co "_law_slope" "_law_slope" 527 191 3 263 264 .none .none 265 530 531),
 Hd.k 267 (Hd.fq g5 "_law_slope" "_law_slope" fg 266),
 Hd.k 273 (Hd.co "_law_is_number" "_law_is_number" 533 196 1 268 269 (.ref 270) (.ref 271) 272 537 538),
 Hd.k 274 (Hd.fq fF "_law_is_number" "_law_is_number" fg 273),
 Hd.k 278 (Hd.co "_law_are_rows" "_law_are_rows" 540 198 3 275 276 .none .none 277 543 544),
 Hd.k 279 (Hd.fq fh "_law_are_rows" "_law_are_rows" fg 278),
 Hd.k 285 (Hd.co "_law_are_turns" "_law_are_turns" 546 205 3 280 281 (.ref 282) (.ref 283) 284 552 553),
 Hd.k 286 (Hd.fq fL "_law_are_turns" "_law_are_turns" fg 285),
 Hd.k 290 (Hd.co "_law_right" "_law_right" 555 209 2 287 288 .none .none 289 558 559),
 Hd.k 291 (Hd.fq eO "_law_right" "_law_right" fg 290),
 Hd.k 295 (Hd.co "law" "law" 561 223 1 292 293 .none .none 294 564 565),
 Hd.k 296 (Hd.fq mE "law" "law" fg 295)]
def KA:List Addr:=[3,18,19,23,24,30,31,35,36,40,41,45,46,50,51,55,56,62,63,69,70,74,75,86,87,93,94,100,101,107,108,112,113,119,120,126,127,129,130,140,141,154,155,161,162,168,169,175,176,182,183,189,190,196,197,199,200,208,209,213,214,218,219,225,226,232,233,239,240,246,247,251,252,256,257,261,262,266,267,273,274,278,279,285,286,290,291,295,296]
set_option maxHeartbeats 0 in
theorem left:PySem.W.LeftO PW (PySem.W.view PW [1,2,3,4,5,6,7,8,10,11,12,13,14,16,17,18,19,20,22,23,24,25,26,27,28,29,30,31,32,33]) [] (fun _=>true) (PySem.W.kmHook Row.KX Row.KA (fun _=>rfl) [110]).obs (PySem.W.kmHook Row.KX Row.KA (fun _=>rfl) [110]).val 3442:=
 Hd.left (by kernel_rfl) (fun s=>by kernel_rfl) rfl fun w os=>by kernel_rfl
end Row
namespace L3
open PySem PySem.Spec PyProof.Rows L2
section
variable {prog:Program}{w:World}{A:Around}{R:Result->Shared->Prop}{s:Shared}
theorem zM{elt target iter:Expr}{ifs:List Expr}{scope:Scope}{pos:Pos}{it acc:Value}{env:Env}(I:Nat->Shared->Prop)
 (turn:∀n s,I n s->wpAny (model prog w) A (pyNext it) (fun r s₁=>match r with
   |none=>R (.ok .next) s₁
   |some v=>wpAny (model prog w) A (letOwnedTupleGo target it v) (fun _ s₀=>wpAny (model prog w) A (assign target env v) (fun _ s₂=>
     wpAny (model prog w) A (forIn ifs true fun c r=>if r=true then do let ok <-isTrue c env (eval c env);pure (ForInStep.yield ok)else pure (ForInStep.yield r)) (fun ok s₃=>
      if ok=true then wpAny (model prog w) A (eval elt env) (fun x s₄=>
       wpAny (model prog w) A (call (.builtin "list.append") [acc,x]) (fun _ s₅=>∃m,m<n/\I m s₅) (fun _ _=>False) s₄) (fun _ _=>False) s₃
      else∃m,m<n/\I m s₃) (fun _ _=>False) s₂) (fun _ _=>False) s₀) (fun _ _=>False) s₁) (fun _ _=>False) s)
 (n:Nat) (h:I n s):
 codeAny (model prog w) A (.compLoop (.ListComp elt [⟨target,iter,ifs,0⟩] scope pos) 0 it acc env) R s:=by
 refine codeAny_loop rfl I (fun n s hI=>?_) n h;show wpAny _ A ((compTurn (.ListComp elt [⟨target,iter,ifs,0⟩] scope pos) 0 it acc env).onRaise (fun x=>do noteFrame x env;theTreesLotGoes x)) _ _ s;refine wpAny_noted ?_;rw[compTurn_list];refine wpAny_bind (wpAny_standAt (wpAny_bind (wpAny_mono (turn n s hI) (fun r s₁ h₁=>?_) fun _ _ h'=>h'.elim)));cases r with
 |none=>exact wpAny_pure h₁
 |some v=>
  refine wpAny_bind (wpAny_mono h₁ (fun _ s₀ h₀=>?_) fun _ _ h'=>h'.elim);refine wpAny_bind (wpAny_mono h₀ (fun _ s₂ h₂=>wpAny_bind (wpAny_mono h₂ (fun ok s₃ h₃=>?_) fun _ _ h'=>h'.elim)) fun _ _ h'=>h'.elim);cases ok with
  |false=>exact wpAny_pure ⟨rfl,h₃⟩
  |true=>
   exact wpAny_bind (wpAny_bind (wpAny_mono h₃ (fun x s₄ h₄=>wpAny_bind (wpAny_mono h₄ (fun _ s₅ h₅=>wpAny_pure (wpAny_pure ⟨rfl,h₅⟩)) fun _ _ h'=>h'.elim)) fun _ _ h'=>h'.elim))
end
def dz(cells:List (Str×Addr)):List (Str×NameKind)->List (Str×Addr)->List (Str×Addr)
 | [],acc=>acc
 |(n,k)::r,acc=>if k== .free then(match cells.lookup n with|some c=>dz cells r ((n,c)::acc)|none=>dz cells r acc)else dz cells r acc
theorem cW{cells:List (Str×Addr)}:∀(names:List (Str×NameKind)) (acc:List (Str×Addr)),(∀x c,acc.lookup x=some c->cells.lookup x=some c)->
 ∀x c,(dz cells names acc).lookup x=some c->cells.lookup x=some c
 | [],acc,h,x,c,e=>h x c e
 |(n,k)::r,acc,h,x,c,e=>by
  unfold dz at e;split at e
  . split at e
    . rename_i d q;refine cW r _ (fun y b e'=>?_) x c e;rw[List.lookup_cons]at e';split at e'
      . rename_i z;cases e';have z':y=n:=by simpa using z
        rw[z'];exact q
      . exact h y b e'
    . exact cW r _ h x c e
  . exact cW r _ h x c e
theorem jy{cells:List (Str×Addr)}{x:Str}:∀(names:List (Str×NameKind)) (acc:List (Str×Addr)),(∃c,cells.lookup x=some c)->((x,NameKind.free)∈names\/∃c,acc.lookup x=some c)->
 ∃c,(dz cells names acc).lookup x=some c
 | [],acc,_,h=>by
   rcases h with h|h
   . simp at h
   . exact h
 |(n,k)::r,acc,hc,h=>by
  unfold dz;split
  . rename_i hk;split
    . rename_i d q;refine jy r _ hc ?_;rcases h with h|⟨c,h⟩
      . rcases List.mem_cons.mp h with e|e
        . cases e;exact .inr ⟨d,by simp[List.lookup_cons]⟩
        . exact .inl e
      . refine .inr ?_;rw[List.lookup_cons];split
        . exact⟨_,rfl⟩
        . exact⟨c,h⟩
    . rename_i q;refine jy r _ hc ?_;rcases h with h|h
      . rcases List.mem_cons.mp h with e|e
        . cases e;obtain⟨c,hc⟩:=hc;rw[hc]at q;cases q
        . exact .inl e
      . exact .inr h
  . rename_i hk;refine jy r _ hc ?_;rcases h with h|h
    . rcases List.mem_cons.mp h with e|e
      . cases e;exact absurd rfl hk
      . exact .inl e
    . exact .inr h
theorem m9{scope:Scope}{env:Env}(h:∀x∈scope.names,x.2= .free->∃c,env.cells.lookup x.1=some c):closureFor scope env=pure (dz env.cells scope.names []):=by
 have key:∀(names:List (Str×NameKind)) (acc:List (Str×Addr)),(∀x∈names,x.2= .free->∃c,env.cells.lookup x.1=some c)->
  (forIn names acc (fun(x:Str×NameKind) (cs:List (Str×Addr))=>if(x.2==NameKind.free)=true then(do let a <-cellOf env x.1;pure (ForInStep.yield ((x.1,a)::cs)):Sem (ForInStep (List (Str×Addr))))else pure (ForInStep.yield cs)))=(pure (dz env.cells names acc):Sem (List (Str×Addr))):=by
  intro names;induction names with
  |nil=>intro acc _;rfl
  |cons p r ih=>
   intro acc hh;obtain⟨n,k⟩:=p;rw[List.forIn_cons];have ih':=ih;by_cases hk:(k==NameKind.free)=true
   . obtain⟨c,e⟩:=hh (n,k) List.mem_cons_self (by simpa using hk);simp only[hk,if_true]
     have e1:cellOf env n=pure c:=by
      unfold cellOf;rw[e]
     rw[e1];simp only[pure_bind];rw[ih _ fun x hx=>hh x (List.mem_cons_of_mem _ hx)];conv=>rhs;unfold dz
     simp only[hk,if_true];rw[show env.cells.lookup n=some c from e]
   . have hk':(k==NameKind.free)=false:=by simpa using hk
     simp only[hk',Bool.false_eq_true,if_false,pure_bind];rw[ih _ fun x hx=>hh x (List.mem_cons_of_mem _ hx)];conv=>rhs;unfold dz
     simp only[hk',Bool.false_eq_true,if_false]
 unfold closureFor;have:=key scope.names [] h;rw[bind_pure]
 first
  |exact this
  |(simp only[bind_pure]at this⊢;exact this)
end L3
namespace L3
open PySem PySem.Spec L2
open PyProof.Rows hiding St
theorem jO(env:Env):∀(names:List (Str×NameKind)) (x:Str),
 (names.map fun(n,k)=>if(k==NameKind.free&&env.scope.kind== .function&&env.kindOf n==some .cell)then(n,NameKind.cell)else(n,k)).lookup x=
   (names.lookup x).map fun k=>if(k==NameKind.free&&env.scope.kind== .function&&env.kindOf x==some .cell)then NameKind.cell else k
 | [],_=>rfl
 |(n,k)::r,x=>by
  show List.lookup x ((if(k==NameKind.free&&env.scope.kind== .function&&env.kindOf n==some .cell)=true then(n,NameKind.cell)else(n,k))::_)=_;cases hx:x==n with
  |true=>
   have e:x=n:=by simpa using hx
   subst e;by_cases hc:(k==NameKind.free&&env.scope.kind== .function&&env.kindOf x==some .cell)=true
   . rw[if_pos hc];simp only[List.lookup_cons,beq_self_eq_true,Option.map_some];rw[if_pos hc]
   . rw[if_neg hc];simp only[List.lookup_cons,beq_self_eq_true,Option.map_some];rw[if_neg hc]
  |false=>
   by_cases hc:(k==NameKind.free&&env.scope.kind== .function&&env.kindOf n==some .cell)=true
   . rw[if_pos hc];simp only[List.lookup_cons,hx];exact jO env r x
   . rw[if_neg hc];simp only[List.lookup_cons,hx];exact jO env r x
theorem yI{env:Env}{scope:Scope}{x:Str}(h:scope.names.lookup x=some .free):(relabel scope env).names.lookup x=some .cell\/(relabel scope env).names.lookup x=some .free:=by
 have e:(relabel scope env).names.lookup x=_:=jO env scope.names x;rw[e,h];simp only[Option.map_some];split
 . exact .inl rfl
 . exact .inr rfl
theorem zB{env:Env}{scope:Scope}{x:Str}(h:(relabel scope env).names.lookup x=some .cell\/(relabel scope env).names.lookup x=some .free):(x,NameKind.free)∈scope.names\/scope.names.lookup x=some .cell:=by
 have e:(relabel scope env).names.lookup x=_:=jO env scope.names x;rw[e]at h;cases q:scope.names.lookup x with
 |none=>rw[q]at h;rcases h with h|h<;>cases h
 |some k=>
  rw[q]at h;simp only[Option.map_some]at h;have m:=PySem.mem_of_lookup q;by_cases hc:(k==NameKind.free&&env.scope.kind== .function&&env.kindOf x==some .cell)=true
  . have:k= .free:=by
     simp only[Bool.and_eq_true]at hc;simpa using hc.1.1
    subst this;exact .inl m
  . rw[if_neg hc]at h;rcases h with h|h
    . cases h;exact .inr rfl
    . cases h;exact .inl m
theorem gQ:∀(names:List (Str×NameKind)) (L:Nat) (acc:List (Str×Addr)),cellsFrom L names acc=cellsFrom L names []++acc
 | [],_,_=>rfl
 |(n,k)::r,L,acc=>by
  unfold cellsFrom;by_cases hk:(k==NameKind.cell)=true
  . rw[if_pos hk,if_pos hk,gQ r (L+1) ((n,L)::acc),gQ r (L+1) [(n,L)],List.append_assoc];rfl
  . rw[if_neg hk,if_neg hk];exact gQ r L acc
theorem rl:∀ {names:List (Str×NameKind)} {L:Nat} {x:Str} {c:Addr},(x,c)∈cellsFrom L names []->(x,NameKind.cell)∈names
 | [],_,_,_,h=>by unfold cellsFrom at h;cases h
 |(n,k)::r,L,x,c,h=>by
  unfold cellsFrom at h;by_cases hk:(k==NameKind.cell)=true
  . rw[if_pos hk,gQ]at h;have hk':k= .cell:=by simpa using hk
    subst hk';rcases List.mem_append.mp h with h|h
    . exact List.mem_cons_of_mem _ (rl h)
    . have:(x,c)=(n,L):=by simpa using h
      cases this;exact List.mem_cons_self
  . rw[if_neg hk]at h;exact List.mem_cons_of_mem _ (rl h)
theorem qC:∀ {l1 l2:List (Str×Addr)} {x:Str} {c:Addr},(l1++l2).lookup x=some c->l1.lookup x=some c\/(l1.lookup x=none/\l2.lookup x=some c)
 | [],_,_,_,h=> .inr ⟨rfl,h⟩
 |(n,d)::l1,l2,x,c,h=>by
  rw[List.cons_append,List.lookup_cons]at h;rw[List.lookup_cons];cases hx:x==n with
  |true=>rw[hx]at h;exact .inl h
  |false=>rw[hx]at h;exact qC h
theorem tI:∀ {l1 l2:List (Str×Addr)} {x:Str},l1.lookup x=none->(l1++l2).lookup x=l2.lookup x
 | [],_,_,_=>rfl
 |(n,d)::l1,l2,x,h=>by
  rw[List.lookup_cons]at h;rw[List.cons_append,List.lookup_cons];cases hx:x==n with
  |true=>rw[hx]at h;cases h
  |false=>rw[hx]at h;exact tI h
def mT(scope:Scope)(C:Addr)(cl:List (Str×Addr)):List (Str×Addr):=cellsFrom (C+1) scope.names cl
theorem jw{scope:Scope}{C:Addr}{cl:List (Str×Addr)}{x:Str}{c:Addr}(h:(mT scope C cl).lookup x=some c):(x,c)∈cellsFrom (C+1) scope.names []\/cl.lookup x=some c:=by
 unfold mT at h;rw[gQ]at h;rcases qC h with h|h
 . exact .inl (PySem.mem_of_lookup h)
 . exact .inr h.2
theorem Ik(names:List (Str×NameKind))(h:Heap){C:Addr}(e:h.objs.size=C+1):CellsOk (pushCells h names) (C+1) (cellsFrom (C+1) names []):=by
 have:=cellsFrom_ok names h (C+1) [] ⟨fun _ _ hm=>(nomatch hm),List.Pairwise.nil⟩ (by rw[e];exact Nat.le_refl _);rw[e]at this;exact this
theorem oj{names:List (Str×NameKind)}{C:Addr}{x:Str}{c:Addr}:∀ {L:Nat},C<=L->(x,c)∈cellsFrom L names []->C<=c:=by
 induction names with
 |nil=>intro L _ h;unfold cellsFrom at h;cases h
 |cons p r ih=>
  obtain⟨n,k⟩:=p;intro L hL h;unfold cellsFrom at h;by_cases hk:(k==NameKind.cell)=true
  . rw[if_pos hk,gQ]at h;rcases List.mem_append.mp h with h|h
    . exact ih (Nat.le_trans hL (Nat.le_succ L)) h
    . have:(x,c)=(n,L):=by simpa using h
      cases this;exact hL
  . rw[if_neg hk]at h;exact ih hL h
theorem own_apart{names:List (Str×NameKind)}{x y:Str}{c:Addr}:∀ {L:Nat},(x,c)∈cellsFrom L names []->(y,c)∈cellsFrom L names []->x=y:=by
 induction names with
 |nil=>intro L h;unfold cellsFrom at h;cases h
 |cons p r ih=>
  obtain⟨n,k⟩:=p;intro L h1 h2;unfold cellsFrom at h1 h2;by_cases hk:(k==NameKind.cell)=true
  . rw[if_pos hk,gQ]at h1 h2;rcases List.mem_append.mp h1 with g1|g1<;>rcases List.mem_append.mp h2 with g2|g2
    . exact ih g1 g2
    . have e2:(y,c)=(n,L):=by simpa using g2
      have ec:c=L:=(Prod.mk.inj e2).2;have:=oj (C:=L+1) (Nat.le_refl _) g1;rw[ec]at this;exact absurd this (Nat.not_succ_le_self _)
    . have e1:(x,c)=(n,L):=by simpa using g1
      have ec:c=L:=(Prod.mk.inj e1).2;have:=oj (C:=L+1) (Nat.le_refl _) g2;rw[ec]at this;exact absurd this (Nat.not_succ_le_self _)
    . have e1:(x,c)=(n,L):=by simpa using g1
      have e2:(y,c)=(n,L):=by simpa using g2
      exact(Prod.mk.inj e1).1.trans (Prod.mk.inj e2).1.symm
  . rw[if_neg hk]at h1 h2;exact ih h1 h2
theorem ue{M:Model}{A:Around}{E:Value->Shared->Prop}{s:Shared}{scope:Scope}{globals:Addr}{cl:List (Str×Addr)}{qual:Str}{env:Env}{Q:Env->Shared->Prop}
 (hQ:Q (newEnv scope s.heap.objs.size globals (mT scope s.heap.objs.size cl) qual none .none (some env) builtinsNs) {s with heap:=pushCells (s.heap.push {cls:= .type "dict",data:= .dict #[]}) scope.names}):
 wpAny M A (newFunctionEnv scope globals cl [] qual none .none (some env)) Q E s:=by
 simp only[newFunctionEnv,Option.isSome_some,if_true];refine wpAny_bind (wpAny_alloc ?_);refine wpAny_bind (wpAny_layCells _ (fun name kind cells=>by cases hkc:kind==NameKind.cell<;>simp[hkc]) _ _ _ _ ?_);rw[show({s with heap:=s.heap.push {cls:= .type "dict",data:= .dict #[]}}:Shared).heap.objs.size=s.heap.objs.size+1 from Heap.size_push ..];rw[List.forIn_nil];exact wpAny_bind (wpAny_pure (wpAny_pure hQ))
structure bh(X:Cx)(scope:Scope)(Nc:List Str)(fr:List (Option Nat)):Prop where
 kind:scope.kind= .function
 cells:∀x∈scope.names,x.2= .cell->scope.names.lookup x.1=some .cell
 names:∀x∈scope.names,x.2= .local->scope.names.lookup x.1=some .local
 free:∀x∈scope.names,x.2= .free->X.env.kindOf x.1=some .cell\/X.env.kindOf x.1=some .free
 len:fr.length=Nc.length
 map:∀(i j:Nat) (x:Str),Nc[i]?=some x->fr[i]?=some (some j)->X.N[j]?=some x/\scope.names.lookup x=some .free/\(X.env.kindOf x=some .cell\/X.env.kindOf x=some .free)
def σC(fr:List (Option Nat))(σ:St):St:=fr.map fun o=>o.bind fun j=>(σ[j]?).join
def fH(X:Cx)(scope:Scope)(Nc:List Str)(C:Addr)(s:Shared)(H:Hp)(ex:List Addr):Cx:=
 {X with N:=Nc,s₀:=s,H₀:=H,env:=compEnvC scope (mT scope C (dz X.env.cells scope.names [])) C X.env,outer:=X.stack,stack:=X.stack,ex:=ex,fn:=fun x=>scope.names.lookup x==some .cell,pn:=[],xe:=fun _ _=>False}
def sW(wi:TI)(fr:List (Option Nat))(g:TG)(c:TT)(te:TE):TE:=fun σ H Q=>wi σ H fun J H1=>∀l,H1 l=none->
 ∃W:Nat->Nat->L2.St->Hp->Prop,(∃m,W 0 m (σC fr σ) (upd H1 l (.lst [])))/\∀i m σ H,W i m σ H->
  (J.stop i H/\Q (.ref l) H)\/(J.go i H/\∃N:L2.St->Hp->Prop,(∀σ' H',N σ' H'->∃m',m'<m/\W (i+1) m' σ' H')/\∀x H',J.pP i H x H'->
    g x σ H' fun σ2 H2=>c σ2 H2 fun b H3=>if b=true then te σ2 H3 fun y H4=>∃ys,H4 l=some (.lst ys)/\ys.length<sizeLine/\N σ2 (upd H4 l (.lst (ys++[y])))else N σ2 H3)
def rG(X:Cx)(ifs:List Expr)(t:TT):Prop:=
 ∀(pins:List (Addr×Obj)) (s:Shared) (σ:St) (H:Hp) (Q:Bool->Hp->Prop),Inv X pins σ H s->t σ H Q->
  wpAny (model X.prog X.w) X.A (forIn ifs true fun c r=>if r=true then do let ok <-isTrue c X.env (eval c X.env);pure (ForInStep.yield ok)else pure (ForInStep.yield r)) (TP X pins σ Q) X.xe s
def LY:TT:=fun _ H Q=>Q true H
theorem HR{X:Cx}:rG X [] LY:=fun _ _ _ H _ I h=>wpAny_tests_nil ⟨H,I,h⟩
theorem HP{X:Cx}{c:Expr}{t:TT}(h:PT X c t):rG X [c] t:=fun pins s σ H Q I q=>wpAny_tests_one (h pins s σ H Q I q)
section
variable {X:Cx}{scope:Scope}{Nc:List Str}{fr:List (Option Nat)}{pins:List (Addr×Obj)}{σ:St}{H:Hp}{s:Shared}
theorem Kc{C:Addr}{fp:List Addr}(S:bh X scope Nc fr)(I:Inv X pins σ H s)(hC:C=s.heap.objs.size)(hf:∀b∈fp,l_ X pins H b)(hlt:∀b∈fp,b<s.heap.objs.size)(hnc:∀b∈fp,∀x c,X.env.cells.lookup x=some c->c≠b):
 (fH X scope Nc C s H fp).Ok where
 mod:=I.ok.mod
 kind:=S.kind
 glob:=I.ok.glob
 blt:=I.ok.blt
 above:=Nat.le_of_eq hC.symm
 inj:=fun x y c h1 h2=>by
  have low:∀ {z},(dz X.env.cells scope.names []).lookup z=some c->c<s.heap.objs.size:=fun{z} hz=>by
   obtain⟨v,q⟩:=I.cell z c (cW _ [] (fun _ _ e=>by cases e) z c hz);exact q.lt
  rcases jw h1 with h1|h1<;>rcases jw h2 with h2|h2
  . exact own_apart h1 h2
  . have a:=oj (C:=C+1) (Nat.le_refl _) h1;have b:c<C:=by rw[hC];exact low h2
    exact absurd a (Nat.not_le_of_gt (Nat.lt_succ_of_lt b))
  . have a:=oj (C:=C+1) (Nat.le_refl _) h2;have b:c<C:=by rw[hC];exact low h1
    exact absurd a (Nat.not_le_of_gt (Nat.lt_succ_of_lt b))
  . exact I.ok.inj x y c (cW _ [] (fun _ _ e=>by cases e) x c h1) (cW _ [] (fun _ _ e=>by cases e) y c h2)
 has:=fun x hx=>by
  rcases zB hx with m|m
  . obtain⟨c,e⟩:=jy scope.names [] (I.ok.has x (S.free _ m rfl)) (.inl m);exact Option.isSome_iff_exists.mp (PySem.W.cellsFrom_some _ _ _ (.inr (by rw[e];rfl)))
  . exact Option.isSome_iff_exists.mp (PySem.W.cellsFrom_some _ _ _ (.inl m))
 zx:=fun x c hf h=>by
  have hl:scope.names.lookup x=some .cell:=by
   have:(scope.names.lookup x==some .cell)=true:=hf;simpa using this
  obtain⟨c',e⟩:=Option.isSome_iff_exists.mp (PySem.W.cellsFrom_some (x:=x) scope.names (C+1) [] (.inl hl))
  have h':(cellsFrom (C+1) scope.names []++dz X.env.cells scope.names []).lookup x=some c:=by
   rw[<-gQ];exact h
  rcases qC h' with q|q
  . have:=oj (C:=C+1) (Nat.le_refl _) (PySem.mem_of_lookup q);show s.heap.objs.size<=c;rw[<-hC];exact Nat.le_of_succ_le this
  . rw[q.1]at e;cases e
 hd:=I.ok.hd
 frames:=I.ok.frames
 Ae:= .inl rfl
 Dm:=fun b hb=>⟨by rw[show(fH X scope Nc C s H fp).env.locals=s.heap.objs.size from hC];exact Nat.ne_of_lt (hlt b hb),fun x c h=>by
  rcases jw h with h|h
  . have a:=oj (C:=C+1) (Nat.le_refl _) h;have b':b<C:=by rw[hC];exact hlt b hb
    exact Nat.ne_of_gt (Nat.lt_of_lt_of_le b' (Nat.le_of_succ_le a))
  . exact hnc b hb x c (cW _ [] (fun _ _ e=>by cases e) x c h)⟩
 bs:=I.bs
 rm:=Nat.le_trans I.ok.rm I.sz
 tW:=fun b o e hb=>by
  have hn:=(hf b hb).2.2.2.1;rcases hn with hn|hn
  . exact I.ok.tW b o e hn
  . exact absurd (Heap.lt_size (I.ok.bs b o e).1) (Nat.not_lt.mpr hn)
 uw:=fun b hb z=>by
  have q:=I.x5 b z;rcases List.mem_cons.mp q with q|q
  . exact(hf b hb).2.1 q
  . exact(hf b hb).2.2.1 q
 lI:=I.stack
 uS:=fun b hb=>I.vE b hb
 gt:=I.ok.gt
theorem Aj{i:Nat}{v:V}(h:(σC fr σ)[i]?=some (some v)):∃j,fr[i]?=some (some j)/\σ[j]?=some (some v):=by
 unfold σC at h;rw[List.getElem?_map]at h;cases q:fr[i]? with
 |none=>rw[q]at h;cases h
 |some o=>
  rw[q]at h;cases o with
  |none=>simp at h
  |some j=>
   simp only[Option.map_some,Option.some.injEq,Option.bind_some]at h;refine⟨j,rfl,?_⟩;cases r:σ[j]? with
   |none=>rw[r]at h;cases h
   |some u=>rw[r]at h;simp at h;rw[h]
theorem EI{s':Shared}{h':Heap}{C:Addr}{fp:List Addr}{t':Nat}(S:bh X scope Nc fr)(I:Inv X pins σ H s)(hC:C=s.heap.objs.size)(ok:(fH X scope Nc C s H fp).Ok)(hfr:∀b∈fp,H b=none)
 (k:∀b o,s.heap.get? b=some o->h'.get? b=some o) (hn:h'.Ns C (fun _=>none)) (hcs:∀x c,(x,c)∈cellsFrom (C+1) scope.names []->h'.IsCell c none):Inv (fH X scope Nc C s H fp) [] (σC fr σ) H {s with heap:=h',toks:=t'} where
 ok:=ok
 os:=rfl
 bare:=I.bare
 base:=Un.kept k
 loc:=⟨_,hn,fun i x v h1 h2 h3=>by
  obtain⟨j,q1,q2⟩:=Aj h2;obtain⟨n1,n2,n3⟩:=S.map i j x h1 q1;obtain⟨m,hm,hl⟩:=I.loc
  have vis:ze X.env.scope x:=by
   rcases n3 with z|z
   . exact .inr (.inl z)
   . exact .inr (.inr z)
  obtain⟨u,r,lk⟩:=hl j x v n1 q2 vis;refine⟨u,r,?_⟩;rcases lk with⟨z,_⟩|⟨z,c,e,ic⟩
  . rcases n3 with y|y
    . rw[y]at z;cases z
    . rw[y]at z;cases z
  . refine .inr ⟨yI n2,?_⟩;obtain⟨c',e'⟩:=jy scope.names [] ⟨c,e⟩ (.inl (PySem.mem_of_lookup n2));have e2:=cW _ [] (fun _ _ e=>by cases e) x c' e';rw[e]at e2;cases e2;refine⟨c,?_,ic.keeps k⟩;show(mT scope C (dz X.env.cells scope.names [])).lookup x=some c;unfold mT;rw[gQ,tI ?_]
    . exact e'
    . cases q:(cellsFrom (C+1) scope.names []).lookup x with
      |none=>rfl
      |some c2=>
       have:=S.cells _ (rl (PySem.mem_of_lookup q)) rfl;rw[n2]at this;cases this⟩
 cell:=fun x c h=>by
  rcases jw h with h|h
  . exact⟨_,hcs x c h⟩
  obtain⟨v,q⟩:=I.cell x c (cW _ [] (fun _ _ e=>by cases e) x c h);exact⟨v,q.keeps k⟩
 free:=by show H C=none;rw[hC];exact I.aK.fresh (Nat.le_refl _)
 je:=fun x c h=>by
  rcases jw h with h|h
  . have a:=oj (C:=C+1) (Nat.le_refl _) h;exact I.aK.fresh (by rw[<-hC];exact Nat.le_of_succ_le a)
  . exact I.je x c (cW _ [] (fun _ _ e=>by cases e) x c h)
 pin:=fun p hp=>by cases hp
 aK:=I.aK.kept k
 len:=by unfold σC;rw[List.length_map];exact S.len
theorem Inv.forget{C:Addr}{h':Heap}(I:Inv X pins σ H s)(f:l_ X pins H C)(hs:Heap.SameBut C s.heap h'):Inv X pins σ H {s with heap:=h'}:=by
 refine I.AR (s':={s with heap:=h'}) (ch:=[C]) rfl ?_ ?_ I.bare fun b hb=>?_
 . have ne:∀b,b∉[C]->b≠C:=fun b hb z=>hb (by simp[z]);exact{keep:=fun b o q _ _ hx=>(hs.2 b (ne b hx)).trans q,slot:=fun b o q _ _ hx=>⟨o.slots,(hs.2 b (ne b hx)).trans q⟩,free:=fun b o q n _=>n,there:=fun b o q hx=>⟨o,(hs.2 b (ne b hx)).trans q⟩,o5:=fun _ _ e=>e,nW:=fun _ _ _ e=>e,oq:=fun b ps e=>⟨#[],by rw[e];simp⟩}
 . intro a o q;have na:∀b u,H b=some u->b≠C:=fun b u q z=>by rw[z,f.1]at q;cases q
   refine(I.aK a o q).pq (fun b u hb e=>?_) (fun _ q=>q) fun _ _ q=>q;rw[hs.2 b ?_]
   . exact e
   . rcases hb with rfl|hb
     . exact na _ _ q
     . exact na _ _ hb
 . have:b=C:=by simpa using hb
   subst this;exact⟨f.2.2.2.1,f.2.1,f.2.2.2.2.1,f.2.2.2.2.2⟩
theorem vw{elt tg iter:Expr}{ifs:List Expr}{wi:TI}{g:TG}{c:TT}{te:TE}{pos:Pos}{Q:VK}{RR:Value->Addr->Result->Shared->Prop}(hx:X.xe=fun _ _=>False)(hc:X.calm=true)(S:bh X scope Nc fr)(hi:PI X tg iter wi)
 (hg:∀C s H ex,PG (fH X scope Nc C s H ex) tg g) (ht:∀C s H ex,rG (fH X scope Nc C s H ex) ifs c) (he:∀C s H ex,PE (fH X scope Nc C s H ex) elt te) (I:Inv X pins σ H s) (h:sW wi fr g c te σ H Q)
 (fin:∀(l C:Addr) (s6:Shared) (H5:Hp) (m:Str->Option Value),s6.heap.Ns C m->l_ X pins H5 C->Inv X pins σ H5 s6->Q (.ref l) H5->RR (.ref l) C (.ok .next) s6):
 wpAny (model X.prog X.w) X.A (eval iter X.env) (fun x s₁=>wpAny (model X.prog X.w) X.A (pyIter x) (fun it s₂=>wpAny (model X.prog X.w) X.A (newList []) (fun acc s₃=>
  wpAny (model X.prog X.w) X.A (newFunctionEnv scope X.env.globals (dz X.env.cells scope.names []) [] X.env.qual none .none (some X.env)) (fun cenv s₄=>
   codeAny (model X.prog X.w) X.A (.compStart (.ListComp elt [⟨tg,iter,ifs,0⟩] scope pos) 0 it acc {cenv with scope:=relabel scope X.env}) (RR acc cenv.locals) s₄) X.xe s₃) X.xe s₂) X.xe s₁) X.xe s:=by
 refine bQ (hi pins s σ H _ I h) fun v s1 h1=>bQ h1 fun itv s2 h2=>?_;obtain⟨it,fp,tn,J,H2,e,I2,T,st2,f2,hR⟩:=h2;subst e;refine wpAny_newList ?_ (Nat.zero_le _);have I3:=I2.EH (t':=s2.toks) (its:=[]) (ys:=[]) .nil (Nat.zero_le _);generalize e3:({s2 with heap:=s2.heap.push {cls:= .type "list",data:= .seq ([]:List Value).toArray}}:Shared)=s3;have I3:Inv X pins σ (upd H2 s2.heap.objs.size (.lst [])) s3:=by rw[<-e3];exact I3
 have ml:s2.heap.objs.size<s3.heap.objs.size:=by rw[<-e3];show _<(s2.heap.push _).objs.size;rw[Heap.size_push];omega
 have k3:∀b o,s2.heap.get? b=some o->s3.heap.get? b=some o:=fun b o q=>by rw[<-e3];exact Heap.get?_push_of_some _ q
 obtain⟨W,⟨m0,w0⟩,turn⟩:=hR s2.heap.objs.size (I2.aK.fresh (Nat.le_refl _));refine ue ?_;have hn:(pushCells (s3.heap.push {cls:= .type "dict",data:= .dict #[]}) scope.names).Ns s3.heap.objs.size (fun _=>none):=(Heap.Ns.new s3.heap (.type "dict")).keeps (pushCells_keeps _ _);have hcs:∀x c,(x,c)∈cellsFrom (s3.heap.objs.size+1) scope.names []->(pushCells (s3.heap.push {cls:= .type "dict",data:= .dict #[]}) scope.names).IsCell c none:=fun x c h=>((Ik scope.names _ (Heap.size_push ..)).empty x c h).1;have k4:∀b o,s3.heap.get? b=some o->(pushCells (s3.heap.push {cls:= .type "dict",data:= .dict #[]}) scope.names).get? b=some o:=fun b o q=>pushCells_keeps _ _ b o (Heap.get?_push_of_some _ q);generalize(pushCells (s3.heap.push {cls:= .type "dict",data:= .dict #[]}) scope.names)=h' at hn hcs k4⊢;have hobj:∀b∈fp,∃o,s2.heap.get? b=some o/\∀v,o.data≠ .cell v:=T.obj _ _ st2;have hlt2:∀b∈fp,b<s3.heap.objs.size:=fun b hb=>let⟨o,q,_⟩:=hobj b hb;Heap.lt_size (k3 b o q)
 have hnl:∀b∈fp,b≠s2.heap.objs.size:=fun b hb=>by
  obtain⟨o,q,_⟩:=hobj b hb;exact Nat.ne_of_lt (Heap.lt_size q)
 have f3:∀b∈fp,l_ X pins (upd H2 s2.heap.objs.size (.lst [])) b:=fun b hb=>⟨by rw[ax (hnl b hb)];exact(f2 b hb).1,(f2 b hb).2⟩
 have ok:=Kc (C:=s3.heap.objs.size) (fp:=fp) S I3 rfl f3 hlt2 fun b hb=>(f2 b hb).2.2.2.2.1
 have I4:Inv (fH X scope Nc s3.heap.objs.size s3 (upd H2 s2.heap.objs.size (.lst [])) fp) [] (σC fr σ) (upd H2 s2.heap.objs.size (.lst [])) {s3 with heap:=h',toks:=s3.toks}:=
  EI (s':=s3) S I3 rfl ok (fun b hb=>(f3 b hb).1) k4 hn hcs
 have st4:tn 0 h':=T.keep _ _ _ st2 fun b _ o q=>k4 b o (k3 b o q);generalize hXc:fH X scope Nc s3.heap.objs.size s3 (upd H2 s2.heap.objs.size (.lst [])) fp=Xc at I4;have hgc:PG Xc tg g:=by rw[<-hXc];exact hg _ _ _ _
 have htc:rG Xc ifs c:=by rw[<-hXc];exact ht _ _ _ _
 have hec:PE Xc elt te:=by rw[<-hXc];exact he _ _ _ _
 have xP:Xc.prog=X.prog:=by rw[<-hXc];rfl
 have xW:Xc.w=X.w:=by rw[<-hXc];rfl
 have xK:Xc.K=X.K:=by rw[<-hXc];rfl
 have xc:Xc.calm=true:=by rw[<-hXc];exact hc
 have xA:Xc.A=X.A:=by rw[<-hXc];rfl
 have xE:Xc.env=compEnvC scope (mT scope s3.heap.objs.size (dz X.env.cells scope.names [])) s3.heap.objs.size X.env:=by rw[<-hXc];rfl
 have xx:Xc.xe=fun _ _=>False:=by rw[<-hXc];rfl
 have fpc:∀ {H':Hp},(∀b∈fp,H' b=none)->∀b∈fp,l_ Xc [] H' b:=fun{H'} hn b hb=>by
  rw[<-hXc];refine⟨hn b hb,Nat.ne_of_lt (hlt2 b hb),ok.uw b hb,.inl hb,(ok.Dm b hb).2,fun p hp=>by cases hp⟩
 have loop:codeAny (model X.prog X.w) X.A (.compLoop (.ListComp elt [⟨tg,iter,ifs,0⟩] scope pos) 0 (.ref it) (.ref s2.heap.objs.size) (compEnvC scope (mT scope s3.heap.objs.size (dz X.env.cells scope.names [])) s3.heap.objs.size X.env))
  (RR (.ref s2.heap.objs.size) s3.heap.objs.size) {s3 with heap:=h',toks:=s3.toks}:=by
  refine zM (fun n s'=>∃i σ' H',Inv Xc [] σ' H' s'/\tn i s'.heap/\(∀b∈fp,H' b=none)/\W i n σ' H') ?_ m0 ⟨0,_,_,I4,st4,fun b hb=>(f3 b hb).1,w0⟩;rintro n s5 ⟨i,σ5,H5,I5,st5,fr5,w5⟩;rcases turn i n σ5 H5 w5 with⟨stop,qn⟩|⟨go,N,hN,step⟩
  . have q:=T.done Xc xP xW xK xc i [] s5 σ5 H5 (fun _ _=>False) I5 (fpc fr5) st5 stop;rw[xA]at q;refine bQ q fun r s6 ⟨hr,I6⟩=>?_;subst hr;obtain⟨m,hm,_⟩:=I6.loc;rw[xE]at hm;have free6:H5 s3.heap.objs.size=none:=by have:=I6.free;rw[xE]at this;exact this
    have un6:Un (pN X.stack) fp (upd H2 s2.heap.objs.size (.lst [])) H5 s3.heap s6.heap:=by have:=I6.base;rw[<-hXc]at this;exact this
    have os6:s6.os=s3.os:=by have:=I6.os;rw[<-hXc]at this;exact this
    have hok6:iW X.prog X.w H5 s6.heap:=by have:=I6.aK;rw[xP,xW]at this;exact this
    have J:=I3.AR (s':=s6) (ch:=fp) os6 un6 hok6 I6.bare fun b hb=>⟨(f3 b hb).2.2.2.1,(f3 b hb).2.1,(f3 b hb).2.2.2.2.1,(f3 b hb).2.2.2.2.2⟩
    exact fin _ _ s6 H5 m hm (I3.vS (Nat.le_refl _) free6) J qn
  . have q:=T.item Xc xP xW xK xc i [] s5 σ5 H5 (fun _ _=>False) I5 (fpc fr5) st5 go;rw[xA]at q;refine bQ q fun r s6 ⟨u,hr,h6⟩=>?_;subst hr;refine bQ h6 fun _ s7 ⟨x,H7,I7,r7,y7,st7,fr7⟩=>?_;have I7':=I7.pinned (fpc fr7) (T.obj _ _ st7);have q8:=hgc _ s7 σ5 H7 x u _ I7' r7 (step x H7 y7);rw[xP,xW,xA,xE,xx]at q8;refine bQ q8 fun _ s8 ⟨σ8,H8,I8,q8⟩=>?_;have q9:=htc _ s8 σ8 H8 _ I8 q8;rw[xP,xW,xA,xE,xx]at q9;refine bQ q9 fun b s9 ⟨H9,I9,q9⟩=>?_
    have again:∀ {H':Hp} {s':Shared},Inv Xc ([]++rJ fp s7.heap) σ8 H' s'->N σ8 H'->∃m,m<n/\∃i σ' H',Inv Xc [] σ' H' s'/\tn i s'.heap/\(∀b∈fp,H' b=none)/\W i m σ' H':=fun{H' s'} J nn=>by
     obtain⟨m',hm,w7⟩:=hN σ8 H' nn;refine⟨m',hm,i+1,σ8,H',J.iP,T.keep _ _ _ st7 fun b hb o e=>(J.pin (b,o) (List.mem_append_right _ (List.mem_append_right _ (nC hb e)))).1,fun b hb=>?_,w7⟩;obtain⟨o,e,d⟩:=T.obj _ _ st7 b hb;exact(J.pin (b,o) (List.mem_append_right _ (List.mem_append_right _ (nC hb e)))).2.1
    cases b with
    |false=>exact again I9 q9
    |true=>
     have qe:=hec _ s9 σ8 H9 _ I9 q9;rw[xP,xW,xA,xE,xx]at qe;refine bQ qe fun y s10 ⟨vy,H10,I10,ry,ys,hy,hlt,qN⟩=>?_;have qa:=wo (X:=Xc) _ s10 σ8 H10 (.ref s2.heap.objs.size) [vy] (.ref s2.heap.objs.size) [y] (fun _ H'=>N σ8 H') I10 rfl (.cons ry .nil) ⟨_,ys,vy,rfl,rfl,hy,hlt,qN⟩;rw[xP,xW,xA,xx]at qa;exact bQ qa fun _ s11 ⟨_,H11,I11,_,q11⟩=>again I11 q11
 refine codeAny_compStart_list ?_ ?_
 . exact loop
 . exact T.self _ 0 _ _ _ st4 loop
theorem Ao{elt tg iter:Expr}{ifs:List Expr}{wi:TI}{g:TG}{c:TT}{te:TE}{pos:Pos}(hx:X.xe=fun _ _=>False)(hc:X.calm=true)(S:bh X scope Nc fr)(hi:PI X tg iter wi)
 (hg:∀C s H ex,PG (fH X scope Nc C s H ex) tg g) (ht:∀C s H ex,rG (fH X scope Nc C s H ex) ifs c) (he:∀C s H ex,PE (fH X scope Nc C s H ex) elt te)
 (hs:∀x,foldedSetIterable iter X.env x=pure x:=by intro _;rfl):PE X (.ListComp elt [⟨tg,iter,ifs,0⟩] scope pos) (sW wi fr g c te):=by
 intro pins s σ H Q I h;rw[eval_ListComp];have hcl:closureFor scope X.env=pure (dz X.env.cells scope.names []):=m9 fun x hx hk=>I.ok.has x.1 (S.free x hx hk);refine wpAny_comprehension_free rfl hs hcl S.kind S.names ?_;exact vw (RR:=fun acc C=>compPost (model X.prog X.w) X.A X.xe none (EP X pins σ Q) acc C) hx hc S hi hg ht he I h fun l C s6 H5 m hm f J q=>⟨m,hm,fun h'' hs''=>⟨.ref l,H5,Inv.forget J f hs'',rfl,q⟩⟩
theorem An{elt tg iter:Expr}{ifs:List Expr}{wi:TI}{g:TG}{c:TT}{te:TE}{pos pos' spos:Pos}{i:Nat}{x:Str}(hx:X.xe=fun _ _=>False)(hc:X.calm=true)(S:bh X scope Nc fr)(hi:PI X tg iter wi)
 (hg:∀C s H ex,PG (fH X scope Nc C s H ex) tg g) (ht:∀C s H ex,rG (fH X scope Nc C s H ex) ifs c) (he:∀C s H ex,PE (fH X scope Nc C s H ex) elt te) (hN:X.N.Nodup) (hni:X.N[i]?=some x) (hl:Loc X.env.scope x) (hf:X.fn x=true\/X.env.scope.names.lookup x=some .local)
 (hsw:swapsWith (.ListComp elt [⟨tg,iter,ifs,0⟩] scope pos) (some (.Name x pos')) spos.line X.env=pure true)
 (hs:∀x,foldedSetIterable iter X.env x=pure x:=by intro _;rfl):PS X (.Assign [.Name x pos'] (.ListComp elt [⟨tg,iter,ifs,0⟩] scope pos) spos) (nZ (sW wi fr g c te) (iF i)):=by
 intro pins s σ H D I h;have hcl:closureFor scope X.env=pure (dz X.env.cells scope.names []):=m9 fun x hx hk=>I.ok.has x.1 (S.free x hx hk);rw[exec_Assign_Name_used _ _ _ _ hsw];refine wpAny_bind (wpAny_standAt (wpAny_bind ?_));show wpAny _ X.A (do let _ <-comprehension (.ListComp elt [⟨tg,iter,ifs,0⟩] scope pos) scope X.env _ (newList []) false (eval iter X.env) (some (assign (.Name x pos') X.env))) _ _ s
 refine wpAny_bind (wpAny_mono (wpAny_comprehension_free (use:=some (assign (.Name x pos') X.env)) (Q:=fun _ s'=>SP X pins D .next s') rfl hs hcl S.kind S.names
  (vw (RR:=fun acc C=>compPost (model X.prog X.w) X.A X.xe (some (assign (.Name x pos') X.env)) (fun _ s'=>SP X pins D .next s') acc C) hx hc S hi hg ht he I h fun l C s6 H5 m hm f J q=>?_)) (fun _ s' hq=>wpAny_pure (wpAny_pure hq)) fun _ _ e=>e)
 show wpAny _ X.A (assign (.Name x pos') X.env (.ref l)) _ _ _;refine wpAny_assign_Name (wJ J hN hni hl (show RelV (.ref l) (.ref l)from rfl) (fun s7 J7 hch=>?_) hf);obtain⟨a,hsame,ha⟩:=hch
 have hCa:C≠a:=by
  rcases ha with rfl|ha
  . exact f.2.1
  . exact fun z=>f.2.2.2.2.1 x a ha z.symm
 refine⟨m,hm.sameBut hsame hCa,fun h'' hs''=>⟨σ.set i (some (.ref l)),H5,Inv.forget J7 f hs'',q⟩⟩
end
inductive D where
 |aI|bl (b:Bool)|int (i:Int)|str (x:Str)|ty (n:String)|ref (n:Nat)|lst (xs:List D)|tup (xs:List D)
inductive Cell where
 |lst (xs:List D)|ins (C:Addr) (fs:List (Str×D))|dead
  |tab (P:Addr) (pos:Pos) (qual:Str) (b:Bool)
abbrev af:=List Cell
abbrev cv:=List (Option D)
mutual
def Rep(α:List (Option Addr))(H:Hp):D->V->Prop
 | .aI,v=>v= .aI
 | .bl b,v=>v= .bl b
 | .int i,v=>v= .int i
 | .str x,v=>v= .str x
 | .ty n,v=>v= .ty n
 | .ref n,v=>α[n]?=some none\/∃a,α[n]?=some (some a)/\v= .ref a
 | .lst xs,v=>∃a vs,v= .ref a/\some a∉α/\Rd H a (.lst vs)/\aF α H xs vs
 | .tup xs,v=>∃a vs,v= .ref a/\some a∉α/\H a=some (.tup vs)/\aF α H xs vs
def aF(α:List (Option Addr))(H:Hp):List D->List V->Prop
 | [],vs=>vs=[]
 |d::ds,vs=>∃v r,vs=v::r/\Rep α H d v/\aF α H ds r
end
theorem bI{α:List (Option Addr)}{H:Hp}:∀ {ds:List D} {vs:List V},aF α H ds vs↔Paired (Rep α H) ds vs
 | [],vs=>by
   unfold aF;constructor
   . rintro rfl;exact .nil
   . intro h;cases h;rfl
 |d::ds,vs=>by
  unfold aF;constructor
  . rintro⟨v,r,rfl,h1,h2⟩;exact .cons h1 (bI.mp h2)
  . intro h;cases h with|cons h1 h2=>exact⟨_,_,rfl,h1,bI.mpr h2⟩
section
variable {α:List (Option Addr)}{H:Hp}
theorem aF.length{ds:List D}{vs:List V}(h:aF α H ds vs):ds.length=vs.length:=Paired.length (bI.mp h)
theorem u5{A B:Type}{F:A->B->Prop}:∀ {xs:List A} {ys:List B} {i:Nat} {x:A},Paired F xs ys->xs[i]?=some x->∃y,ys[i]?=some y/\F x y
 |_,_,_,_,.nil,e=>by simp at e
 |_,_,0,_,.cons r _,e=>by simp at e;subst e;exact⟨_,rfl,r⟩
 |_,_,i+1,x,.cons _ t,e=>by
  obtain⟨u,h1,h2⟩:=u5 (i:=i) (x:=x) t (by simpa using e);exact⟨u,by simpa using h1,h2⟩
theorem gE{A B:Type}{F:A->B->Prop}:∀ {xs xs':List A} {ys ys':List B},Paired F xs ys->Paired F xs' ys'->Paired F (xs++xs') (ys++ys')
 |_,_,_,_,.nil,s=>s
 |_,_,_,_,.cons r t,s=> .cons r (gE t s)
theorem tR{A B:Type}{F:A->B->Prop}:∀ {xs:List A} {ys:List B} (n:Nat),Paired F xs ys->Paired F (xs.take n) (ys.take n)
 |_,_,0,_=> .nil
 |_,_,_+1,.nil=> .nil
 |_,_,n+1,.cons r t=> .cons r (tR n t)
theorem tP{A B:Type}{F:A->B->Prop}:∀ {xs:List A} {ys:List B} (n:Nat),Paired F xs ys->Paired F (xs.drop n) (ys.drop n)
 |_,_,0,r=>r
 |_,_,_+1,.nil=> .nil
 |_,_,n+1,.cons _ t=>tP n t
theorem u_{A B:Type}{F:A->B->Prop}{x:A}{y:B}(r:F x y):∀ {xs:List A} {ys:List B} (i:Nat),Paired F xs ys->Paired F (xs.set i x) (ys.set i y)
 |_,_,_,.nil=> .nil
 |_,_,0,.cons _ t=> .cons r t
 |_,_,i+1,.cons q t=> .cons q (u_ r i t)
theorem o_{A B:Type}{F:A->B->Prop}{xs:List A}{ys:List B}(h:Paired F xs ys):∀k:Nat,Paired F (List.replicate k xs).flatten (List.replicate k ys).flatten
 |0=> .nil
 |k+1=>by
  rw[List.replicate_succ,List.replicate_succ,List.flatten_cons,List.flatten_cons];exact gE h (o_ h k)
theorem aF.get{ds:List D}{vs:List V}{i:Nat}{d:D}(h:aF α H ds vs)(e:ds[i]?=some d):∃v,vs[i]?=some v/\Rep α H d v:=u5 (bI.mp h) e
end
structure Step(α:List (Option Addr))(H:Hp)(α':List (Option Addr))(H':Hp):Prop where
 ext:∀b o,some b∉α->H b=some o->H' b=some o
 pre:∀(n:Nat) (x:Option Addr),α[n]?=some x->α'[n]?=some x\/α'[n]?=some none
 new:∀b,some b∈α'->some b∉α->H b=none
theorem Step.refl{α:List (Option Addr)}{H:Hp}:Step α H α H:=⟨fun _ _ _ h=>h,fun _ _ h=> .inl h,fun _ h n=>absurd h n⟩
theorem Step.trans{α α1 α2:List (Option Addr)}{H H1 H2:Hp}(a:Step α H α1 H1)(b:Step α1 H1 α2 H2):Step α H α2 H2 where
 ext:=fun c o hc e=>b.ext c o (fun z=>by rw[a.new c z hc]at e;cases e) (a.ext c o hc e)
 pre:=fun n x e=>by
  rcases a.pre n x e with h|h
  . exact b.pre n x h
  . rcases b.pre n none h with h'|h'
    . exact .inr h'
    . exact .inr h'
 new:=fun c hc n=>by
  by_cases h1:some c∈α1
  . exact a.new c h1 n
  . have:=b.new c hc h1;cases q:H c with
    |none=>rfl
    |some o=>rw[a.ext c o n q]at this;cases this
theorem Step.laid{α:List (Option Addr)}{H:Hp}{p:Addr}{o:HO}(h:H p=none):Step α H α (upd H p o):=
 ⟨fun b u _ e=>by rw[ax (dH e h)];exact e,fun _ _ h=> .inl h,fun _ h n=>absurd h n⟩
theorem Step.cell{α:List (Option Addr)}{H:Hp}{p:Addr}{o:HO}(h:H p=none):Step α H (α++[some p]) (upd H p o):=
 ⟨fun b u _ e=>by rw[ax (dH e h)];exact e,fun n x e=> .inl (by rw[List.getElem?_append_left (List.getElem?_eq_some_iff.mp e).1];exact e),fun b hb n=>by
  rcases List.mem_append.mp hb with z|z
  . exact absurd z n
  . have:b=p:=by simpa using z
    subst this;exact h⟩
theorem Step.write{α:List (Option Addr)}{H:Hp}{p:Addr}{o:HO}(h:some p∈α):Step α H α (upd H p o):=
 ⟨fun b u n e=>by rw[ax (fun z=>by subst z;exact n h)];exact e,fun _ _ h=> .inl h,fun _ h n=>absurd h n⟩
mutual
theorem Rep.step{α α':List (Option Addr)}{H H':Hp}(s:Step α H α' H'):∀ {d:D} {v:V},Rep α H d v->Rep α' H' d v
 | .aI,_,h=>by unfold Rep at h⊢;exact h
 | .bl _,_,h=>by unfold Rep at h⊢;exact h
 | .int _,_,h=>by unfold Rep at h⊢;exact h
 | .str _,_,h=>by unfold Rep at h⊢;exact h
 | .ty _,_,h=>by unfold Rep at h⊢;exact h
 | .ref n,_,h=>by
   unfold Rep at h⊢;rcases h with h|⟨a,e,r⟩
   . rcases s.pre _ _ h with z|z<;>exact .inl z
   . rcases s.pre _ _ e with z|z
     . exact .inr ⟨a,z,r⟩
     . exact .inl z
 | .lst xs,_,h=>by
   unfold Rep at h⊢;obtain⟨a,vs,e,n,r,q⟩:=h;refine⟨a,vs,e,fun z=>?_,?_,aF.step s q⟩
   . have:=s.new a z n;rcases r with r|⟨o,r⟩<;>(rw[this]at r;cases r)
   . rcases r with r|⟨o,r⟩
     . exact .inl (s.ext _ _ n r)
     . exact .inr ⟨o,s.ext _ _ n r⟩
 | .tup xs,_,h=>by
   unfold Rep at h⊢;obtain⟨a,vs,e,n,r,q⟩:=h;exact⟨a,vs,e,(fun z=>by rw[s.new a z n]at r;exact nomatch r),s.ext _ _ n r,aF.step s q⟩
theorem aF.step{α α':List (Option Addr)}{H H':Hp}(s:Step α H α' H'):∀ {ds:List D} {vs:List V},aF α H ds vs->aF α' H' ds vs
 | [],_,h=>by unfold aF at h⊢;exact h
 |d::ds,_,h=>by
  unfold aF at h⊢;obtain⟨v,r,e,h1,h2⟩:=h;exact⟨v,r,e,Rep.step s h1,aF.step s h2⟩
end
structure b_(G F H:Hp):Prop where
 eq:∀b,H b=(G b).or (F b)
 yK:∀b o,G b=some o->F b=none
section
variable {G F H:Hp}
theorem b_.get(P:b_ G F H){b:Addr}{o:HO}(h:G b=some o):H b=some o:=by rw[P.eq b,h];rfl
theorem b_.same(P:b_ G F H):EJ G H:=fun _ _ h=>P.get h
theorem b_.none(P:b_ G F H){b:Addr}(h:H b=none):G b=none/\F b=none:=by
 have e:=P.eq b;rw[h]at e;cases q:G b with
 |none=>rw[q]at e;exact⟨rfl,e.symm⟩
 |some o=>rw[q]at e;cases e
theorem b_.frame(P:b_ G F H){b:Addr}{o:HO}(h:F b=some o):H b=some o/\G b=Option.none:=by
 have hn:G b=Option.none:=by
  cases q:G b with
  |none=>rfl
  |some u=>rw[P.yK b u q]at h;cases h
 exact⟨by rw[P.eq b,hn,h];rfl,hn⟩
theorem b_.laid(P:b_ G F H){p:Addr}{o:HO}(h:H p=Option.none):b_ (upd G p o) F (upd H p o):=by
 obtain⟨h1,h2⟩:=P.none h;refine⟨fun b=>?_,fun b u e=>?_⟩
 . by_cases hb:b=p
   . subst hb;rw[aU,aU];rfl
   . rw[ax hb,ax hb];exact P.eq b
 . by_cases hb:b=p
   . subst hb;exact h2
   . rw[ax hb]at e;exact P.yK b u e
theorem b_.write(P:b_ G F H){p:Addr}{o o':HO}(h:G p=some o):b_ (upd G p o') F (upd H p o'):=by
 refine⟨fun b=>?_,fun b u e=>?_⟩
 . by_cases hb:b=p
   . subst hb;rw[aU,aU];rfl
   . rw[ax hb,ax hb];exact P.eq b
 . by_cases hb:b=p
   . subst hb;exact P.yK b o h
   . rw[ax hb]at e;exact P.yK b u e
theorem b_.hide(P:b_ G F H){p:Addr}{o:HO}(h:H p=Option.none):b_ G (upd F p o) (upd H p o):=by
 obtain⟨h1,h2⟩:=P.none h;refine⟨fun b=>?_,fun b u e=>?_⟩
 . by_cases hb:b=p
   . subst hb;rw[aU,aU,h1];rfl
   . rw[ax hb,ax hb];exact P.eq b
 . by_cases hb:b=p
   . subst hb;rw[h1]at e;cases e
   . rw[ax hb];exact P.yK b u e
theorem b_.N5(P:b_ G F H){p:Addr}{o o':HO}(h:F p=some o):b_ G (upd F p o') (upd H p o'):=by
 have h1:=(P.frame h).2;refine⟨fun b=>?_,fun b u e=>?_⟩
 . by_cases hb:b=p
   . subst hb;rw[aU,aU,h1];rfl
   . rw[ax hb,ax hb];exact P.eq b
 . by_cases hb:b=p
   . subst hb;rw[h1]at e;cases e
   . rw[ax hb];exact P.yK b u e
theorem b_.show{p:Addr}{o:HO}(P:b_ G (upd F p o) H)(h:F p=Option.none):b_ (upd G p o) F H:=by
 have h1:=(P.frame (b:=p) aU)
 refine⟨fun b=>?_,fun b u e=>?_⟩
 . by_cases hb:b=p
   . subst hb;rw[aU,h1.1];rfl
   . rw[ax hb,P.eq b,ax hb]
 . by_cases hb:b=p
   . subst hb;exact h
   . rw[ax hb]at e;have:=P.yK b u e;rw[ax hb]at this;exact this
end
mutual
theorem Rep.mono{α:List (Option Addr)}{G H:Hp}(s:EJ G H):∀ {d:D} {v:V},Rep α G d v->Rep α H d v
 | .aI,_,h=>by unfold Rep at h⊢;exact h
 | .bl _,_,h=>by unfold Rep at h⊢;exact h
 | .int _,_,h=>by unfold Rep at h⊢;exact h
 | .str _,_,h=>by unfold Rep at h⊢;exact h
 | .ty _,_,h=>by unfold Rep at h⊢;exact h
 | .ref n,_,h=>by unfold Rep at h⊢;exact h
 | .lst xs,_,h=>by
   unfold Rep at h⊢;obtain⟨a,vs,e,n,r,q⟩:=h;refine⟨a,vs,e,n,?_,aF.mono s q⟩;rcases r with r|⟨o,r⟩
   . exact .inl (s _ _ r)
   . exact .inr ⟨o,s _ _ r⟩
 | .tup xs,_,h=>by
   unfold Rep at h⊢;obtain⟨a,vs,e,n,r,q⟩:=h;exact⟨a,vs,e,n,s _ _ r,aF.mono s q⟩
theorem aF.mono{α:List (Option Addr)}{G H:Hp}(s:EJ G H):∀ {ds:List D} {vs:List V},aF α G ds vs->aF α H ds vs
 | [],_,h=>by unfold aF at h⊢;exact h
 |d::ds,_,h=>by
  unfold aF at h⊢;obtain⟨v,r,e,h1,h2⟩:=h;exact⟨v,r,e,Rep.mono s h1,aF.mono s h2⟩
end
def kF(α:List (Option Addr))(H:Hp):List (Str×D)->List (Str×V)->Prop:=Paired fun p q=>p.1=q.1/\Rep α H p.2 q.2
def lq(α:List (Option Addr))(H:Hp)(a:Addr):Cell->Prop
 | .lst xs=>∃vs,H a=some (.lst vs)/\aF α H xs vs
 | .ins C fs=>∃dx vs,H a=some (.ins C dx vs)/\kF α H fs vs
 | .dead=>False
 | .tab P pos qual b=>a=P/\∃ps:Array Value,H a=some (.kJ ps)/\TriplesOk ps.toList/\
    ((b=false/\codeAmong pos ps.toList=none)\/(b=true/\∃c o vs t,codeAmong pos ps.toList=some (.ref c)/\some c∉α/\H c=some (.g9 o (.own c))/\o.data= .fields vs/\vs[1]?=some (.str qual t)))
structure aS(α:List (Option Addr))(st:af)(H:Hp):Prop where
 len:α.length=st.length
 nd:∀(i j:Nat) (a:Addr),α[i]?=some (some a)->α[j]?=some (some a)->i=j
 at':∀(n:Nat) (c:Cell),st[n]?=some c->(c= .dead/\α[n]?=some none)\/∃a,α[n]?=some (some a)/\lq α H a c
theorem kF.step{α α':List (Option Addr)}{H H':Hp}(s:Step α H α' H'){ds:List (Str×D)}{vs:List (Str×V)}(h:kF α H ds vs):kF α' H' ds vs:=Paired.D7 h fun _ _ z=>⟨z.1,z.2.step s⟩
theorem lq.same{α α':List (Option Addr)}{H H':Hp}{a:Addr}{c:Cell}(s:Step α H α' H')(e:H' a=H a)(h:lq α H a c):lq α' H' a c:=by
 cases c with
 |lst xs=>obtain⟨vs,h1,h2⟩:=h;exact⟨vs,e.trans h1,h2.step s⟩
 |ins C fs=>obtain⟨dx,vs,h1,h2⟩:=h;exact⟨dx,vs,e.trans h1,h2.step s⟩
 |dead=>exact h.elim
 |tab P pos qual b=>
  obtain⟨z,ps,h1,h2,h3⟩:=h;refine⟨z,ps,e.trans h1,h2,?_⟩;rcases h3 with h3|⟨hb,c,o,vs,t,q1,q2,q3,q4⟩
  . exact .inl h3
  . exact .inr ⟨hb,c,o,vs,t,q1,(fun y=>by rw[s.new c y q2]at q3;cases q3),s.ext c _ q2 q3,q4⟩
theorem lq.some{α:List (Option Addr)}{H:Hp}{a:Addr}{c:Cell}(h:lq α H a c):∃o,H a=some o:=by
 cases c with
 |lst xs=>obtain⟨vs,h1,h2⟩:=h;exact⟨_,h1⟩
 |ins C fs=>obtain⟨dx,vs,h1,h2⟩:=h;exact⟨_,h1⟩
 |dead=>exact h.elim
 |tab P pos qual b=>obtain⟨_,ps,h1,_⟩:=h;exact⟨_,h1⟩
theorem f9{α:List (Option Addr)}{H:Hp}{n:Nat}{v:V}{a:Addr}(e:α[n]?=Option.some (Option.some a))(r:Rep α H (.ref n) v):v= .ref a:=by
 unfold Rep at r;rcases r with r|⟨b,eb,rfl⟩
 . rw[e]at r;cases r
 . rw[e]at eb;cases eb;rfl
section
variable {α:List (Option Addr)}{st:af}{H:Hp}
theorem aS.lH(S:aS α st H){n:Nat}{xs:List D}(e:st[n]?=Option.some (.lst xs)):∃a,α[n]?=Option.some (Option.some a)/\∃vs,H a=Option.some (.lst vs)/\aF α H xs vs:=by
 rcases S.at' n _ e with⟨z,_⟩|z
 . cases z
 . exact z
theorem aS.xS(S:aS α st H){n:Nat}{C:Addr}{fs:List (Str×D)}(e:st[n]?=Option.some (.ins C fs)):∃a,α[n]?=Option.some (Option.some a)/\∃dx vs,H a=Option.some (.ins C dx vs)/\kF α H fs vs:=by
 rcases S.at' n _ e with⟨z,_⟩|z
 . cases z
 . exact z
theorem aS.mem(S:aS α st H){a:Addr}(h:Option.some a∈α):∃(n:Nat) (c:Cell),α[n]?=Option.some (Option.some a)/\st[n]?=Option.some c/\lq α H a c:=by
 obtain⟨n,hn,e⟩:=List.mem_iff_getElem.mp h;have hl:n<st.length:=by rw[<-S.len];exact hn
 have e':α[n]?=Option.some (Option.some a):=by rw[List.getElem?_eq_getElem hn,e]
 rcases S.at' n st[n] (by simp[hl])with⟨_,q⟩|⟨a',q,ca⟩
 . rw[e']at q;cases q
 . rw[e']at q;cases q;exact⟨n,_,e',by simp[hl],ca⟩
theorem aS.lg(S:aS α st H){p:Addr}(h:H p=none):Option.some p∉α:=fun z=>by
 obtain⟨n,c,_,_,ca⟩:=S.mem z;obtain⟨o,e⟩:=ca.some;rw[h]at e;cases e
theorem aS.laid(S:aS α st H){p:Addr}{o:HO}(h:H p=none):aS α st (upd H p o):=
 ⟨S.len,S.nd,fun n c e=>by
  rcases S.at' n c e with z|⟨a,q,ca⟩
  . exact .inl z
  . exact .inr ⟨a,q,ca.same (Step.laid h) (ax (by obtain⟨u,z⟩:=ca.some;exact dH z h))⟩⟩
theorem aS.cell(S:aS α st H){p:Addr}{o:HO}{c:Cell}(h:H p=none)(hc:lq (α++[Option.some p]) (upd H p o) p c):aS (α++[Option.some p]) (st++[c]) (upd H p o) where
 len:=by rw[List.length_append,List.length_append,S.len];rfl
 nd:=fun i j a ei ej=>by
  have key:∀(i:Nat) (a:Addr),(α++[Option.some p])[i]?=Option.some (Option.some a)->(i<α.length/\α[i]?=Option.some (Option.some a))\/(i=α.length/\a=p):=by
   intro i a e;by_cases hi:i<α.length
   . rw[List.getElem?_append_left hi]at e;exact .inl ⟨hi,e⟩
   . rw[List.getElem?_append_right (Nat.le_of_not_lt hi)]at e
     have h0:i-α.length=0:=by
      cases q:i-α.length with
      |zero=>rfl
      |succ k=>rw[q]at e;simp at e
     rw[h0]at e;have:p=a:=by simpa using e
     exact .inr ⟨by omega,this.symm⟩
  rcases key i a ei with⟨h1,e1⟩|⟨h1,e1⟩<;>rcases key j a ej with⟨h2,e2⟩|⟨h2,e2⟩
  . exact S.nd i j a e1 e2
  . subst e2;exact absurd (List.mem_of_getElem? e1) (S.lg h)
  . subst e1;exact absurd (List.mem_of_getElem? e2) (S.lg h)
  . omega
 at':=fun n d e=>by
  by_cases hn:n<st.length
  . rw[List.getElem?_append_left hn]at e;have hl:n<α.length:=by rw[S.len];exact hn
    rcases S.at' n d e with⟨z,q⟩|⟨a,q,ca⟩
    . exact .inl ⟨z,by rw[List.getElem?_append_left hl];exact q⟩
    . exact .inr ⟨a,by rw[List.getElem?_append_left hl];exact q,ca.same (Step.cell h) (ax (by obtain⟨u,z⟩:=ca.some;exact dH z h))⟩
  . rw[List.getElem?_append_right (Nat.le_of_not_lt hn)]at e
    have h0:n-st.length=0:=by
     cases q:n-st.length with
     |zero=>rfl
     |succ k=>rw[q]at e;simp at e
    rw[h0]at e;have hd:c=d:=by simpa using e
    subst hd;refine .inr ⟨p,?_,hc⟩;rw[List.getElem?_append_right (by rw[S.len];exact Nat.le_of_not_lt hn),S.len,h0];rfl
theorem aS.write(S:aS α st H){p:Addr}{o:HO}{c:Cell}{n:Nat}(e:α[n]?=Option.some (Option.some p))(hc:lq α (upd H p o) p c):aS α (st.set n c) (upd H p o) where
 len:=by rw[List.length_set];exact S.len
 nd:=S.nd
 at':=fun m d q=>by
  have hp:Option.some p∈α:=List.mem_of_getElem? e;by_cases hm:m=n
  . subst hm
    have hl:m<st.length:=by
     have:=(List.getElem?_eq_some_iff.mp q).1;rw[List.length_set]at this;exact this
    rw[List.getElem?_set_self hl]at q;cases q;exact .inr ⟨p,e,hc⟩
  . rw[List.getElem?_set_ne (Ne.symm hm)]at q;rcases S.at' m d q with z|⟨a,r,ca⟩
    . exact .inl z
    . refine .inr ⟨a,r,ca.same (Step.write hp) (ax fun z=>?_)⟩;subst z;exact hm (S.nd m n _ r e)
end
abbrev DK:=D->af->Prop
abbrev DE:=cv->af->DK->Prop
abbrev DT:=cv->af->(Bool->af->Prop)->Prop
abbrev DA:=cv->af->(List D->af->Prop)->Prop
structure oP where
 nx:cv->af->Prop
 rt:DK
 bk:cv->af->Prop:=fun _ _=>False
 ct:cv->af->Prop:=fun _ _=>False
abbrev DS:=oP->cv->af->Prop
structure eL(α:List (Option Addr))(H:Hp)(σd:cv)(σ:L2.St):Prop where
 len:σd.length=σ.length
 at':∀(i:Nat) (d:D),σd[i]?=some (some d)->∃v,σ[i]?=some (some v)/\Rep α H d v
theorem eL.step{α α':List (Option Addr)}{H H':Hp}{σd:cv}{σ:L2.St}(s:Step α H α' H')(h:eL α H σd σ):eL α' H' σd σ:=
 ⟨h.len,fun i d e=>let⟨v,q,r⟩:=h.at' i d e;⟨v,q,r.step s⟩⟩
theorem eL.set{α:List (Option Addr)}{H:Hp}{σd:cv}{σ:L2.St}(h:eL α H σd σ)(i:Nat){d:D}{v:V}(r:Rep α H d v):eL α H (σd.set i (some d)) (σ.set i (some v)):=by
 refine⟨by rw[List.length_set,List.length_set,h.len],fun j e q=>?_⟩;have hl:=h.len;by_cases hj:j=i
 . subst hj
   have hlt:j<σd.length:=by
    have:=(List.getElem?_eq_some_iff.mp q).1;rw[List.length_set]at this;exact this
   rw[List.getElem?_set_self hlt]at q;cases q;exact⟨v,List.getElem?_set_self (by omega),r⟩
 . rw[List.getElem?_set_ne (Ne.symm hj)]at q;rw[List.getElem?_set_ne (Ne.symm hj)];exact h.at' j e q
def LK(α:List (Option Addr))(G F:Hp)(K:DK)(Q:VK):Prop:=∀d st',K d st'->∀α' G' H' v,Step α G α' G'->b_ G' F H'->aS α' st' G'->Rep α' G' d v->Q v H'
def Gu(α:List (Option Addr))(G F:Hp)(K:Bool->af->Prop)(Q:Bool->Hp->Prop):Prop:=∀b st',K b st'->∀α' G' H',Step α G α' G'->b_ G' F H'->aS α' st' G'->Q b H'
def N3(α:List (Option Addr))(G F:Hp)(K:List D->af->Prop)(Q:List V->Hp->Prop):Prop:=∀ds st',K ds st'->∀α' G' H' vs,Step α G α' G'->b_ G' F H'->aS α' st' G'->aF α' G' ds vs->Q vs H'
inductive MU(t:DE)(σ:L2.St)(H:Hp)(Q:VK):Prop
 |mk (α:List (Option Addr)) (σd:cv) (st:af) (K:DK) (G F:Hp) (P:b_ G F H) (R:eL α G σd σ) (S:aS α st G) (h:t σd st K) (k:LK α G F K Q):MU t σ H Q
def LE(t:DE):TE:=MU t
inductive M0(t:DT)(σ:L2.St)(H:Hp)(Q:Bool->Hp->Prop):Prop
 |mk (α:List (Option Addr)) (σd:cv) (st:af) (K:Bool->af->Prop) (G F:Hp) (P:b_ G F H) (R:eL α G σd σ) (S:aS α st G) (h:t σd st K) (k:Gu α G F K Q):M0 t σ H Q
def LT(t:DT):TT:=M0 t
inductive MD(t:DA)(σ:L2.St)(H:Hp)(Q:List V->Hp->Prop):Prop
 |mk (α:List (Option Addr)) (σd:cv) (st:af) (K:List D->af->Prop) (G F:Hp) (P:b_ G F H) (R:eL α G σd σ) (S:aS α st G) (h:t σd st K) (k:N3 α G F K Q):MD t σ H Q
def LA(t:DA):TA:=MD t
theorem LK.here{α:List (Option Addr)}{G F H:Hp}{K:DK}{Q:VK}(h:LK α G F K Q)(P:b_ G F H){d:D}{st:af}{v:V}(k:K d st)(S:aS α st G)(r:Rep α G d v):Q v H:=h d st k α G H v Step.refl P S r
theorem LK.at{α α1:List (Option Addr)}{G F G1:Hp}{K:DK}{Q:VK}(h:LK α G F K Q)(s:Step α G α1 G1):LK α1 G1 F K Q:=fun d st' k α' G' H' v s' P S r=>h d st' k α' G' H' v (s.trans s') P S r
theorem Gu.at{α α1:List (Option Addr)}{G F G1:Hp}{K:Bool->af->Prop}{Q:Bool->Hp->Prop}(h:Gu α G F K Q)(s:Step α G α1 G1):Gu α1 G1 F K Q:=fun d st' k α' G' H' s' P S=>h d st' k α' G' H' (s.trans s') P S
section
variable {X:Cx}{a b c e:Expr}{es:List Expr}{ta tb tc te:DE}{pos:Pos}
theorem PE.imp{t t':TE}(h:PE X e t)(f:∀σ H Q,t' σ H Q->t σ H Q):PE X e t':=fun pins s σ H Q I q=>h pins s σ H Q I (f σ H Q q)
theorem PT.imp{t t':TT}(h:PT X e t)(f:∀σ H Q,t' σ H Q->t σ H Q):PT X e t':=fun pins s σ H Q I q=>h pins s σ H Q I (f σ H Q q)
theorem PW.imp{t t':TT}(h:PW X e t)(f:∀σ H Q,t' σ H Q->t σ H Q):PW X e t':=fun w pins s σ H Q I q=>h w pins s σ H Q I (f σ H Q q)
theorem PA.imp{t t':TA}(h:PA X es t)(f:∀σ H Q,t' σ H Q->t σ H Q):PA X es t':=fun p pins s σ H Q I q=>h p pins s σ H Q I (f σ H Q q)
def ab(i:Nat):DE:=fun σ st K=>match σ[i]? with|some (some d)=>K d st|_=>False
def dC(d:D):DE:=fun _ st K=>K d st
theorem Lv{i:Nat}{x:Str}(h:PE X (.Name x pos) (Io i)):PE X (.Name x pos) (LE (ab i)):=PE.imp h fun σ H Q ⟨α,σd,st,K,G,F,P,R,S,t,k⟩=>by
 unfold ab at t;split at t
 . rename_i d q;obtain⟨v,e,r⟩:=R.at' i d q;exact⟨v,e,k.here P t S r⟩
 . exact t.elim
theorem vx{v:V}{d:D}(h:PE X e (tC v))(r:∀α H,Rep α H d v):PE X e (LE (dC d)):=PE.imp h fun σ H Q ⟨α,σd,st,K,G,F,P,R,S,t,k⟩=>k.here P t S (r α G)
theorem Mr{i:Int}{j:Nat}:PE X (.Constant (.int i) j pos) (LE (dC (.int i))):=vx Jl fun _ _=>by unfold Rep;rfl
theorem Nn{i:Bool}{j:Nat}:PE X (.Constant (.bool i) j pos) (LE (dC (.bl i))):=vx K_ fun _ _=>by unfold Rep;rfl
abbrev eN:=D->D->af->DK->Prop
abbrev yC:=D->af->DK->Prop
abbrev fI:=List D->af->DK->Prop
inductive MN(r:eN)(x y:V)(H:Hp)(Q:VK):Prop
 |mk (α:List (Option Addr)) (d e:D) (st:af) (K:DK) (G F:Hp) (P:b_ G F H) (rx:Rep α G d x) (ry:Rep α G e y) (S:aS α st G) (h:r d e st K) (k:LK α G F K Q):MN r x y H Q
def LR(r:eN):R2:=MN r
inductive Jz(r:yC)(x:V)(H:Hp)(Q:VK):Prop
 |mk (α:List (Option Addr)) (d:D) (st:af) (K:DK) (G F:Hp) (P:b_ G F H) (rx:Rep α G d x) (S:aS α st G) (h:r d st K) (k:LK α G F K Q):Jz r x H Q
def Ge(r:yC):V->Hp->VK->Prop:=Jz r
inductive Jv(r:fI)(xs:List V)(H:Hp)(Q:VK):Prop
 |mk (α:List (Option Addr)) (ds:List D) (st:af) (K:DK) (G F:Hp) (P:b_ G F H) (rx:aF α G ds xs) (S:aS α st G) (h:r ds st K) (k:LK α G F K Q):Jv r xs H Q
def gM(r:fI):List V->Hp->VK->Prop:=Jv r
def az(r:eN)(ta tb:DE):DE:=fun σ st K=>ta σ st fun x st1=>tb σ st1 fun y st2=>r x y st2 K
def tG(r:yC)(ta:DE):DE:=fun σ st K=>ta σ st fun x st1=>r x st1 K
theorem LE.op{r:eN}{σ:L2.St}{H:Hp}{Q:VK}(h:LE (az r ta tb) σ H Q):CG (LR r) (LE ta) (LE tb) σ H Q:=by
 obtain⟨α,σd,st,K,G,F,P,R,S,t,k⟩:=h;refine⟨α,σd,st,_,G,F,P,R,S,t,fun d st1 q α1 G1 H1 v s1 P1 S1 r1=>?_⟩;refine⟨α1,σd,st1,_,G1,F,P1,R.step s1,S1,q,fun d2 st2 q2 α2 G2 H2 v2 s2 P2 S2 r2=>?_⟩;exact⟨α2,d,d2,st2,K,G2,F,P2,r1.step s2,r2,S2,q2,(k.at s1).at s2⟩
theorem LE.un{r:yC}{σ:L2.St}{H:Hp}{Q:VK}(h:LE (tG r ta) σ H Q):MP (Ge r) (LE ta) σ H Q:=by
 obtain⟨α,σd,st,K,G,F,P,R,S,t,k⟩:=h;refine⟨α,σd,st,_,G,F,P,R,S,t,fun d st1 q α1 G1 H1 v s1 P1 S1 r1=>?_⟩;exact⟨α1,d,st1,K,G1,F,P1,r1,S1,q,k.at s1⟩
theorem Nl{op:Operator}{r:eN}(ho:cz X (binaryOp op) (LR r))(ha:PE X a (LE ta))(hb:PE X b (LE tb)):PE X (.BinOp a op b pos) (LE (az r ta tb)):=PE.imp (Ls ho ha hb) fun _ _ _ h=>LE.op h
theorem M7{op:UnaryOp}{r:yC}(ho:zW X (unaryOp op) (Ge r))(ha:PE X a (LE ta)):PE X (.UnaryOp op a pos) (LE (tG r ta)):=PE.imp (Ma ho ha) fun _ _ _ h=>LE.un h
theorem LV{op:CmpOp}{r:eN}(ho:cz X (compareOp op) (LR r))(ha:PE X a (LE ta))(hb:PE X b (LE tb))(hm:behindInMarks op b=false:=by first|exact bS _|rfl):PE X (.Compare a [op] [b] pos) (LE (az r ta tb)):=PE.imp (HX ho ha hb hm) fun _ _ _ h=>LE.op h
def bz(t:DE):DT:=fun σ st K=>t σ st fun d st1=>match d with| .bl b=>K b st1|_=>False
theorem LT.test{σ:L2.St}{H:Hp}{Q:Bool->Hp->Prop}(h:LT (bz te) σ H Q):LE te σ H fun x H'=>∃k,x= .bl k/\Q k H':=by
 obtain⟨α,σd,st,K,G,F,P,R,S,t,k⟩:=h;refine⟨α,σd,st,_,G,F,P,R,S,t,fun d st1 q α1 G1 H1 v s1 P1 S1 r1=>?_⟩;cases d with
 |bl b=>
  unfold Rep at r1;exact⟨b,r1,k b st1 q α1 G1 H1 s1 P1 S1⟩
 |_=>exact q.elim
theorem Iv{op:CmpOp}{r:eN}(ho:cz X (compareOp op) (LR r))(ha:PE X a (LE ta))(hb:PE X b (LE tb))(hm:behindInMarks op b=false:=by first|exact bS _|rfl):PT X (.Compare a [op] [b] pos) (LT (bz (az r ta tb))):=PT.imp (GA ho ha hb hm) fun σ H Q h=>by
 have q:=LT.test h;exact LE.op (Q:=fun x H'=>∃k,x= .bl k/\Q k H') q
theorem IY(he:PE X e (LE te))(hv:∀whole,isTrue e X.env whole=(do let v <-whole;standAt e.pos;holding [v] (truthy v)):=by intro _;rfl):PT X e (LT (bz te)):=PT.imp (HZ he hv) fun σ H Q h=>LT.test h
def gZ(t:DT):DT:=fun σ st K=>t σ st fun b st1=>K (!b) st1
def oX(t u:DT):DT:=fun σ st K=>t σ st fun b st1=>if b=true then u σ st1 K else K false st1
def nc(t u:DT):DT:=fun σ st K=>t σ st fun b st1=>if b=true then K true st1 else u σ st1 K
theorem Kj{t:DT}(ha:PT X a (LT t)):PT X (.UnaryOp .Not a pos) (LT (gZ t)):=PT.imp (J3 ha) fun σ H Q ⟨α,σd,st,K,G,F,P,R,S,t,k⟩=>
 ⟨α,σd,st,_,G,F,P,R,S,t,fun b st1 q α1 G1 H1 s1 P1 S1=>k _ st1 q α1 G1 H1 s1 P1 S1⟩
theorem LT.and{t u:DT}{σ:L2.St}{H:Hp}{Q:Bool->Hp->Prop}(h:LT (oX t u) σ H Q):JD (LT t) (LT u) σ H Q:=by
 obtain⟨α,σd,st,K,G,F,P,R,S,t,k⟩:=h;refine⟨α,σd,st,_,G,F,P,R,S,t,fun b st1 q α1 G1 H1 s1 P1 S1=>?_⟩;cases b with
 |true=>exact⟨α1,σd,st1,K,G1,F,P1,R.step s1,S1,q,k.at s1⟩
 |false=>exact k _ st1 q α1 G1 H1 s1 P1 S1
theorem LT.or{t u:DT}{σ:L2.St}{H:Hp}{Q:Bool->Hp->Prop}(h:LT (nc t u) σ H Q):MX (LT t) (LT u) σ H Q:=by
 obtain⟨α,σd,st,K,G,F,P,R,S,t,k⟩:=h;refine⟨α,σd,st,_,G,F,P,R,S,t,fun b st1 q α1 G1 H1 s1 P1 S1=>?_⟩;cases b with
 |false=>exact⟨α1,σd,st1,K,G1,F,P1,R.step s1,S1,q,k.at s1⟩
 |true=>exact k _ st1 q α1 G1 H1 s1 P1 S1
theorem HS{t:DT}(ha:PT X a (LT t)):PW X (.BoolOp .And [a] pos) (LT t):=pw_and1 ha
theorem IP{t:DT}(ha:PT X a (LT t)):PW X (.BoolOp .Or [a] pos) (LT t):=pw_or1 ha
theorem IF{t u:DT}(ha:PT X a (LT t))(hb:PW X (.BoolOp .And (b::es) pos) (LT u)):PW X (.BoolOp .And (a::b::es) pos) (LT (oX t u)):=PW.imp (pw_and ha hb) fun _ _ _ h=>LT.and h
theorem Kw{t u:DT}(ha:PT X a (LT t))(hb:PW X (.BoolOp .Or (b::es) pos) (LT u)):PW X (.BoolOp .Or (a::b::es) pos) (LT (nc t u)):=PW.imp (pw_or ha hb) fun _ _ _ h=>LT.or h
def xR(ta tb:DE):DE:=fun σ st K=>ta σ st fun d st1=>match d with| .bl b=>if b=true then tb σ st1 K else K (.bl false) st1|_=>False
def ER(ta tb:DE):DE:=fun σ st K=>ta σ st fun d st1=>match d with| .bl b=>if b=true then K (.bl true) st1 else tb σ st1 K|_=>False
def Be(t:DT):DE:=fun σ st K=>t σ st fun b st1=>K (.bl (!b)) st1
theorem KI{op:BoolOp}(ha:PE X a (LE ta)):PE X (.BoolOp op [a] pos) (LE ta):=IT ha
theorem Lm(ha:PE X a (LE ta))(hb:PE X (.BoolOp .And (b::es) pos) (LE tb)):PE X (.BoolOp .And (a::b::es) pos) (LE (xR ta tb)):=PE.imp (Kb ha hb) fun σ H Q ⟨α,σd,st,K,G,F,P,R,S,t,k⟩=>by
 refine⟨α,σd,st,_,G,F,P,R,S,t,fun d st1 q α1 G1 H1 v s1 P1 S1 r1=>?_⟩;cases d with
 |bl b=>
  unfold Rep at r1;refine⟨b,r1,?_⟩;cases b with
  |true=>exact⟨α1,σd,st1,K,G1,F,P1,R.step s1,S1,q,k.at s1⟩
  |false=>exact k _ st1 q α1 G1 H1 _ s1 P1 S1 (by unfold Rep;rfl)
 |_=>exact q.elim
theorem Nj(ha:PE X a (LE ta))(hb:PE X (.BoolOp .Or (b::es) pos) (LE tb)):PE X (.BoolOp .Or (a::b::es) pos) (LE (ER ta tb)):=PE.imp (Ky ha hb) fun σ H Q ⟨α,σd,st,K,G,F,P,R,S,t,k⟩=>by
 refine⟨α,σd,st,_,G,F,P,R,S,t,fun d st1 q α1 G1 H1 v s1 P1 S1 r1=>?_⟩;cases d with
 |bl b=>
  unfold Rep at r1;refine⟨b,r1,?_⟩;cases b with
  |false=>exact⟨α1,σd,st1,K,G1,F,P1,R.step s1,S1,q,k.at s1⟩
  |true=>exact k _ st1 q α1 G1 H1 _ s1 P1 S1 (by unfold Rep;rfl)
 |_=>exact q.elim
theorem Mt(ha:PE X a (LE ta)):PE X (.UnaryOp .Not a pos) (LE (Be (bz ta))):=PE.imp (Ie ha) fun σ H Q ⟨α,σd,st,K,G,F,P,R,S,t,k⟩=>by
 refine⟨α,σd,st,_,G,F,P,R,S,t,fun d st1 q α1 G1 H1 v s1 P1 S1 r1=>?_⟩;cases d with
 |bl b=>
  unfold Rep at r1;exact⟨b,r1,k _ st1 q α1 G1 H1 _ s1 P1 S1 (by unfold Rep;rfl)⟩
 |_=>exact q.elim
def De(t:DT)(ta tb:DE):DE:=fun σ st K=>t σ st fun b st1=>if b=true then ta σ st1 K else tb σ st1 K
theorem Mh{t:DT}(hc:PT X c (LT t))(ha:PE X a (LE ta))(hb:PE X b (LE tb)):PE X (.IfExp c a b pos) (LE (De t ta tb)):=PE.imp (E5 hc ha hb) fun σ H Q ⟨α,σd,st,K,G,F,P,R,S,t,k⟩=>by
 refine⟨α,σd,st,_,G,F,P,R,S,t,fun b st1 q α1 G1 H1 s1 P1 S1=>?_⟩;cases b with
 |true=>exact⟨α1,σd,st1,K,G1,F,P1,R.step s1,S1,q,k.at s1⟩
 |false=>exact⟨α1,σd,st1,K,G1,F,P1,R.step s1,S1,q,k.at s1⟩
def ak:DA:=fun _ st K=>K [] st
def ae(ta:DE)(tr:DA):DA:=fun σ st K=>ta σ st fun x st1=>tr σ st1 fun xs st2=>K (x::xs) st2
theorem yl:PA X [] (LA ak):=PA.imp ID fun σ H Q ⟨α,σd,st,K,G,F,P,R,S,t,k⟩=>k [] st t α G H [] Step.refl P S (by unfold aF;rfl)
theorem vZ{tr:DA}(ha:PE X e (LE te))(hr:PA X es (LA tr))(hs:starEach (e::es) X.env=(false,eval e X.env)::starEach es X.env:=by rfl):PA X (e::es) (LA (ae te tr)):=PA.imp (GS ha hr hs) fun σ H Q ⟨α,σd,st,K,G,F,P,R,S,t,k⟩=>by
 refine⟨α,σd,st,_,G,F,P,R,S,t,fun d st1 q α1 G1 H1 v s1 P1 S1 r1=>?_⟩;refine⟨α1,σd,st1,_,G1,F,P1,R.step s1,S1,q,fun ds st2 q2 α2 G2 H2 vs s2 P2 S2 r2=>?_⟩;exact k _ st2 q2 α2 G2 H2 (v::vs) (s1.trans s2) P2 S2 (by unfold aF;exact⟨v,vs,rfl,r1.step s2,r2⟩)
def x9(t:DA):DE:=fun σ st K=>t σ st fun ds st1=>ds.length<=sizeLine/\K (.tup ds) st1
def BG(t:DA):DE:=fun σ st K=>t σ st fun ds st1=>ds.length<=sizeLine/\K (.lst ds) st1
def uf(t:DA):DE:=fun σ st K=>t σ st fun ds st1=>ds.length<=sizeLine/\K (.ref st1.length) (st1++[.lst ds])
theorem LK.tup{α:List (Option Addr)}{G F H:Hp}{K:DK}{Q:VK}{ds:List D}{vs:List V}{st:af}{p:Addr}(k:LK α G F K Q)(P:b_ G F H)(q:K (.tup ds) st)(S:aS α st G)(r:aF α G ds vs)(hp:H p=none):Q (.ref p) (upd H p (.tup vs)):=
 have hg:=(P.none hp).1
 k _ st q α _ _ _ (Step.laid hg) (P.laid hp) (S.laid hg) (by unfold Rep;exact⟨p,vs,rfl,S.lg hg,aU,r.step (Step.laid hg)⟩)
theorem LK.lst{α:List (Option Addr)}{G F H:Hp}{K:DK}{Q:VK}{ds:List D}{vs:List V}{st:af}{p:Addr}(k:LK α G F K Q)(P:b_ G F H)(q:K (.lst ds) st)(S:aS α st G)(r:aF α G ds vs)(hp:H p=none):Q (.ref p) (upd H p (.lst vs)):=
 have hg:=(P.none hp).1
 k _ st q α _ _ _ (Step.laid hg) (P.laid hp) (S.laid hg) (by unfold Rep;exact⟨p,vs,rfl,S.lg hg,.of aU,r.step (Step.laid hg)⟩)
theorem LK.new{α:List (Option Addr)}{G F H:Hp}{K:DK}{Q:VK}{ds:List D}{vs:List V}{st:af}{p:Addr}(k:LK α G F K Q)(P:b_ G F H)(q:K (.ref st.length) (st++[.lst ds]))(S:aS α st G)(r:aF α G ds vs)(hp:H p=none):Q (.ref p) (upd H p (.lst vs)):=
 have hg:=(P.none hp).1
 k _ _ q (α++[some p]) _ _ _ (Step.cell hg) (P.laid hp) (S.cell hg ⟨vs,aU,r.step (Step.cell hg)⟩) (by
  unfold Rep;refine .inr ⟨p,?_,rfl⟩;rw[List.getElem?_append_right (by rw[S.len];exact Nat.le_refl _),S.len,Nat.sub_self];rfl)
theorem KH{n:Nat}{t:DA}(h:PA X es (LA t)):PE X (.Tuple es n pos) (LE (x9 t)):=PE.imp (IC h) fun σ H Q ⟨α,σd,st,K,G,F,P,R,S,t,k⟩=>
 ⟨α,σd,st,_,G,F,P,R,S,t,fun ds st1 q α1 G1 H1 vs s1 P1 S1 r1=>⟨by rw[<-r1.length];exact q.1,fun p hp=>(k.at s1).tup P1 q.2 S1 r1 hp⟩⟩
theorem KY{t:DA}(h:PA X es (LA t)):PE X (.List es pos) (LE (BG t)):=PE.imp (Co h) fun σ H Q ⟨α,σd,st,K,G,F,P,R,S,t,k⟩=>
 ⟨α,σd,st,_,G,F,P,R,S,t,fun ds st1 q α1 G1 H1 vs s1 P1 S1 r1=>⟨by rw[<-r1.length];exact q.1,fun p hp=>(k.at s1).lst P1 q.2 S1 r1 hp⟩⟩
theorem Mf{t:DA}(h:PA X es (LA t)):PE X (.List es pos) (LE (uf t)):=PE.imp (Co h) fun σ H Q ⟨α,σd,st,K,G,F,P,R,S,t,k⟩=>
 ⟨α,σd,st,_,G,F,P,R,S,t,fun ds st1 q α1 G1 H1 vs s1 P1 S1 r1=>⟨by rw[<-r1.length];exact q.1,fun p hp=>(k.at s1).new P1 q.2 S1 r1 hp⟩⟩
abbrev cF:=List D->af->DK->Prop
inductive Ih(T:cF)(vs:List V)(H:Hp)(Q:VK):Prop
 |mk (α:List (Option Addr)) (ds:List D) (st:af) (K:DK) (G F:Hp) (P:b_ G F H) (rx:aF α G ds vs) (S:aS α st G) (h:T ds st K) (k:LK α G F K Q):Ih T vs H Q
def cL(S:cF):Sp:=fun vs H Q _=>Ih S vs H Q
def aH(S:cF)(t:DA):DE:=fun σ st K=>t σ st fun ds st1=>S ds st1 K
theorem LE.call{S:cF}{t:DA}{σ:L2.St}{H:Hp}{Q:VK}(h:LE (aH S t) σ H Q):F7 (cL S) [] E0 (LA t) σ H Q:=by
 obtain⟨α,σd,st,K,G,F,P,R,S,t,k⟩:=h;refine⟨α,σd,st,_,G,F,P,R,S,t,fun ds st1 q α1 G1 H1 vs s1 P1 S1 r1=>?_⟩;try dsimp only
 rw[List.append_nil];exact⟨α1,ds,st1,K,G1,F,P1,r1,S1,q,k.at s1⟩
theorem IW{S:cF}{k:Nat}{f:Addr}{fd:FuncData}{ps:List Str}{x:Str}{p:Pos}{t:DA}(F:bF X.prog X.w X.K X.mg X.base cG k f fd ps (cL S))(hr:cP k X.A)(hg:Gl X x)(hm:X.mg x=some (.ref f))(hk:PySem.W.keepIn X.K (.ref f)=true)(hb:Binds X.K fd ps [])
 (ha:PA X (e::es) (LA t)) (hdb:(x==("__debug__":Str))=false:=by decide) (he:starEach (e::es) X.env=(false,eval e X.env)::starEach es X.env:=by rfl) (hpl:(backTo pos (starEach es X.env)).any (·.1)=false:=by rfl):
 PE X (.Call (.Name x p) (e::es) [] pos) (LE (aH S t)):=PE.imp (HN F hr hg hm hk hb .nil xq ha hdb he hpl) fun _ _ _ h=>LE.call h
def bR(r:fI)(t:DA):DE:=fun σ st K=>t σ st fun ds st1=>r ds st1 K
theorem LE.cb{r:fI}{t:DA}{σ:L2.St}{H:Hp}{Q:VK}(h:LE (bR r t) σ H Q):Kg (gM r) (LA t) σ H Q:=by
 obtain⟨α,σd,st,K,G,F,P,R,S,t,k⟩:=h;refine⟨α,σd,st,_,G,F,P,R,S,t,fun ds st1 q α1 G1 H1 vs s1 P1 S1 r1=>?_⟩;exact⟨α1,ds,st1,K,G1,F,P1,r1,S1,q,k.at s1⟩
end
section
variable {X:Cx}
theorem cz.imp{f:Value->Value->Sem Value}{r r':R2}(h:cz X f r)(k:∀x y H Q,r' x y H Q->r x y H Q):cz X f r':=fun pins s σ H x y v u Q I rx ry q=>h pins s σ H x y v u Q I rx ry (k x y H Q q)
theorem bK.imp{f:Value}{r r':List V->Hp->VK->Prop}(h:bK X f r)(k:∀xs H Q,r' xs H Q->r xs H Q):bK X f r':=fun pins s σ H xs us Q I rs q=>h pins s σ H xs us Q I rs (k xs H Q q)
def vg(C:Int->Int->Prop)(g:Int->Int->D):eN:=fun x y st K=>match x,y with| .int i,.int j=>C i j/\K (g i j) st|_,_=>False
theorem mO{f:Value->Value->Sem Value}{C:Int->Int->Prop}{g:Int->Int->D}{g':Int->Int->V}(hg:∀i j α H,Rep α H (g i j) (g' i j))(h:cz X f (rI C g')):cz X f (LR (vg C g)):=cz.imp h fun x y H Q ⟨α,d,e,st,K,G,F',P,r1,r2,S,q,k⟩=>by
 cases d<;>cases e<;>first
  |exact q.elim
  |(unfold Rep at r1 r2;exact⟨_,_,r1,r2,q.1,k.here P q.2 S (hg _ _ _ _)⟩)
abbrev T2:Int->Int->Prop:=fun _ _=>True
theorem xy{g:Int->Int->V}{f:Value->Value->Sem Value}(h:cz X f (wC g)):cz X f (rI T2 g):=cz.imp h fun x y H Q ⟨i,j,e1,e2,_,q⟩=>⟨i,j,e1,e2,q⟩
abbrev F6:eN:=vg T2 fun i j=> .int (i-j)
abbrev B_:eN:=vg (fun _ j=>j≠0/\j.natAbs.log2<9000) fun i j=> .int (i.fdiv j)
abbrev Ft:eN:=vg (fun _ j=>j≠0) fun i j=> .int (i.fmod j)
abbrev FT:eN:=vg EF fun i j=> .int (i^j.toNat)
abbrev Kk:eN:=vg T2 fun i j=> .bl (decide (i<j))
abbrev IM:eN:=vg T2 fun i j=> .bl (decide (j<i))
abbrev Ku:eN:=vg T2 fun i j=> .bl (decide (j<=i))
theorem Mw:cz X (binaryOp .Sub) (LR F6):=mO (fun _ _ _ _=>by unfold Rep;rfl) (xy JU)
theorem Jh:cz X (binaryOp .FloorDiv) (LR B_):=mO (fun _ _ _ _=>by unfold Rep;rfl) (FH fun i j _ _ _ _ _ hc q=>floordiv_int hc.1 q (.inl (PyProof.noPylong_of_log2 hc.2)))
theorem KU:cz X (binaryOp .Mod) (LR Ft):=mO (fun _ _ _ _=>by unfold Rep;rfl) HK
theorem Mi:cz X (binaryOp .Pow) (LR FT):=mO (fun _ _ _ _=>by unfold Rep;rfl) JJ
theorem Nk:cz X (compareOp .Lt) (LR Kk):=mO (fun _ _ _ _=>by unfold Rep;rfl) (xy Mg)
theorem Np:cz X (compareOp .Gt) (LR IM):=mO (fun _ _ _ _=>by unfold Rep;rfl) (xy Mn)
theorem Nw:cz X (compareOp .GtE) (LR Ku):=mO (fun _ _ _ _=>by unfold Rep;rfl) (xy Mm)
def Gv:yC:=fun x st K=>match x with| .int i=>K (.int (-i)) st|_=>False
theorem Ld:zW X (unaryOp .USub) (Ge Gv):=fun pins s σ H x v Q I rx ⟨α,d,st,K,G,F',P,r,S,q,k⟩=>by
 cases d<;>first
  |exact q.elim
  |(unfold Rep at r;exact IE pins s σ H x v Q I rx ⟨_,r,k.here P q S (by unfold Rep;rfl)⟩)
theorem Inv.uD{pins:List (Addr×Obj)}{σ:L2.St}{H:Hp}{s:Shared}{l:Addr}{xs:List V}(I:Inv X pins σ H s)(h:Rd H l (.lst xs)):
 xs.length<=sizeLine/\∃(its:List Value) (n:Nat),Vals xs its/\xs.length=its.length/\s.heap.get? l=some {cls:= .type "list",data:= .seq its.toArray n}:=by
 obtain⟨z,its,n,r,e⟩:=h.ok I.aK;exact⟨z,its,n,r,r.length,e⟩
theorem hW{G F H:Hp}(P:b_ G F H){a:Addr}{u:HO}(h:Rd G a u):Rd H a u:=by
 rcases h with h|⟨o,h⟩
 . exact .inl (P.get h)
 . exact .inr ⟨o,P.get h⟩
theorem HF:cz X (binaryOp .Add) (fun x y H Q=>∃l b xs zs,x= .ref l/\y= .ref b/\Rd H l (.lst xs)/\Rd H b (.lst zs)/\xs.length+zs.length<=sizeLine/\∀p,H p=none->Q (.ref p) (upd H p (.lst (xs++zs)))):=by
 intro pins s σ H x y v u Q I rx ry h;obtain⟨l,b,xs,zs,rfl,rfl,hH,hB,hz,q⟩:=h;cases rx;cases ry;obtain⟨z,its,n,r,hl,e⟩:=Inv.uD I hH;obtain⟨z2,its2,n2,r2,hl2,e2⟩:=Inv.uD I hB;refine PySem.P.add_list e e2 ?_ (by rw[List.size_toArray,List.size_toArray];omega);have ea:its.toArray++its2.toArray=(its++its2).toArray:=by simp
 rw[ea];exact⟨.ref _,_,I.EH (t':=s.toks) (r.append r2) (by rw[List.length_append];omega),rfl,q _ I.fresh⟩
theorem HM:cz X (binaryOp .Mult) (fun x y H Q=>∃l k xs,x= .ref l/\y= .int k/\Rd H l (.lst xs)/\ -(2^63)<=k/\k<2^63/\xs.length*k.toNat<=sizeLine/\
 ∀p,H p=none->Q (.ref p) (upd H p (.lst (List.replicate k.toNat xs).flatten))):=by
 intro pins s σ H x y v u Q I rx ry h;obtain⟨l,k,xs,rfl,rfl,hH,h1,h2,hz,q⟩:=h;cases rx;obtain⟨t,rfl⟩:=ry;obtain⟨z,its,n,r,hl,e⟩:=Inv.uD I hH;have hlen:its.toArray.size*k.toNat<=sizeLine:=by rw[List.size_toArray,<-hl];exact hz
 have hcap:¬its.toArray.size*k.toNat>(2^63-1)/8:=by
  have:(sizeLine:Nat)<=(2^63-1)/8:=by decide
  omega
 have hfit:¬(!Builtin.List.listFitsIndex k)=true:=by
  rw[fitsIndex_both h1 h2];exact Bool.false_ne_true
 have hlong:¬Builtin.List.listTooLong (its.toArray.size*k.toNat)=true:=by
  rw[ET hlen];exact Bool.false_ne_true
 have hnew:List.foldl (fun x1 x2=>x1++x2) #[] (List.replicate (if its.toArray.isEmpty=true then 0 else k.toNat) its.toArray)=(List.replicate k.toNat its).flatten.toArray:=by
  have f0:∀m:Nat,List.foldl (fun x1 x2=>x1++x2) #[] (List.replicate m its.toArray)=(List.replicate m its).flatten.toArray:=fun m=>by
   have:=foldl_rep its m [];rw[List.nil_append]at this;exact this
  rw[f0];cases its with
  |nil=>simp
  |cons a r'=>rw[if_neg (by simp)]
 refine wpAny_binaryOp_repeat_ref (T:="list") (U:="int") (by decide) ⟨_,e,rfl⟩ (fun s'=>typeIs_int s' k t) noFill_list_mul F.fills_int_mul F.slot_int_rmul repeat_list F.slot_int_index.lookup
  (call_meets F.slot_int_rmul (typeIs_int s k t) F.entry_int_rmul (F.args_int_rmul_2 _ _) (int___rmul___int_list k t l its.toArray n)
    ⟨e,rfl,⟨_,e,rfl⟩,call_meets F.slot_list_mul ⟨_,e,rfl⟩ F.entry_list_mul (F.args_list_mul_2 _ _) (AutoListH.list___mul___list_int_3 l its.toArray n k t hfit hcap hlong) ⟨e,?_⟩⟩)
 rw[hnew];exact⟨.ref _,_,I.EH (t':=s.toks) (r.rep k.toNat) (by rw[len_rep,Nat.mul_comm];exact hz),rfl,q _ I.fresh⟩
theorem EY:cz X (binaryOp .Add) (fun x y H Q=>∃a b xs ys,x= .ref a/\y= .ref b/\H a=some (.tup xs)/\H b=some (.tup ys)/\xs.length+ys.length<=sizeLine/\
 (xs=[]->Q (.ref b) H)/\(xs≠ []->ys=[]->Q (.ref a) H)/\(xs≠ []->ys≠ []->∀p,H p=none->Q (.ref p) (upd H p (.tup (xs++ys))))):=by
 intro pins s σ H x y v u Q I rx ry h;obtain⟨a,b,xs,ys,rfl,rfl,ha,hb,hz,q0,q1,q2⟩:=h;by_cases hx:xs=[]
 . cases rx;cases ry;obtain⟨its,r1,p1,_⟩:=I.tuple (.of ha);obtain⟨its2,r2,p2,_⟩:=I.tuple (.of hb);obtain⟨⟨cls,dd,data,sl⟩,ho,hc,n,hd⟩:=id p1;obtain⟨⟨cls2,dd2,data2,sl2⟩,ho2,hc2,n2,hd2⟩:=id p2;simp only at hc hd hc2 hd2;subst hc hd hc2 hd2;have hi:its=[]:=(L2.Vals.sX r1).mpr hx
   exact concat_meets ⟨_,ho,rfl⟩ ⟨_,ho2,rfl⟩ noFill_tuple_add seq_tuple_add PySem.F.slot_tuple_add PySem.F.entry_tuple_add (PySem.F.args_tuple_add_2 _ _)
    (tuple_addW0 a b its.toArray its2.toArray n n2 dd dd2 sl sl2 (by simp[hi])) ⟨ho,ho2,⟨.ref b,H,I,rfl,q0 hx⟩⟩
 . exact Hg pins s σ H _ _ v u Q I rx ry ⟨a,b,xs,ys,rfl,rfl,.of ha,.of hb,hx,hz,q1 hx,q2 hx⟩
theorem vC:fillsNumberSlot (.type "tuple") "mul"=pure false:=
 PySem.fillsNumberSlot_seq (id:="tuple.__mul__") (r:=some (.builtin "tuple.__rmul__")) F.slot_tuple_mul.lookup (by decide+kernel) F.slot_tuple_rmul.lookup (by decide+kernel)
theorem AN:seqRepeat? (.type "tuple")=pure (some (.builtin "tuple.__mul__")):=by
 unfold seqRepeat?;rw[PySem.seqSlot_of (T:="tuple") (name:="__mul__") (id:="tuple.__mul__") F.slot_tuple_mul.lookup (by decide+kernel),PySem.seqSlot_of (T:="tuple") (name:="__rmul__") (id:="tuple.__rmul__") F.slot_tuple_rmul.lookup (by decide+kernel)];rfl
theorem y_(a:Int)(t:Tok)(l:Addr)(its:Array Value)(n:Nat)(dd:Option Addr)(sl:Array (Option Value)):Meets (Builtin.«int.__rmul__» ⟨[.int a t,.ref l],[]⟩) (fun _ R s=>s.heap.get? l=some {cls:= .type "tuple",dict:=dd,data:= .seq its n,slots:=sl}/\R (.ok (.ret Value.notImplemented)) s):=
 .of_wp fun P w A R s h=>by
  obtain⟨hp,g,d,tk,os⟩:=s;obtain⟨hl,h⟩:=h
  wp_walk
  exact⟨_,rfl,h⟩
theorem y9(l:Addr)(its:Array Value)(n:Nat)(dd:Option Addr)(sl:Array (Option Value))(x:Int)(u:Tok)(h0:(decide (x< -(2^63))||decide (x>=2^63))=false)(h1:(its.isEmpty||x==1)=true):
 Meets (Builtin.«tuple.__mul__» ⟨[.ref l,.int x u],[]⟩) (fun _ R s=>s.heap.get? l=some {cls:= .type "tuple",dict:=dd,data:= .seq its n,slots:=sl}/\R (.ok (.ret (.ref l))) s):=
 .of_wp fun P w A R s h=>by
  obtain⟨hp,g,d,tk,os⟩:=s;obtain⟨hl,h⟩:=h
  wp_walk
  refine wpAny_ite_false (by rw[h0];rfl) ?_
  wp_walk
  exact⟨_,rfl,h⟩
theorem yv(l:Addr)(its:Array Value)(n:Nat)(dd:Option Addr)(sl:Array (Option Value))(x:Int)(u:Tok)(h0:(decide (x< -(2^63))||decide (x>=2^63))=false)(h1:(its.isEmpty||x==1)=false)(h2:(decide (x<=0)||its.isEmpty)=true):
 Meets (Builtin.«tuple.__mul__» ⟨[.ref l,.int x u],[]⟩) (fun _ R s=>s.heap.get? l=some {cls:= .type "tuple",dict:=dd,data:= .seq its n,slots:=sl}/\R (.ok (.ret (.ref s.heap.objs.size))) {s with heap:=s.heap.push {cls:= .type "tuple",data:= .seq #[]}}):=
 .of_wp fun P w A R s h=>by
  obtain⟨hp,g,d,tk,os⟩:=s;obtain⟨hl,h⟩:=h
  wp_walk
  refine wpAny_ite_false (by rw[h0];rfl) ?_
  wp_walk
  exact⟨_,rfl,h⟩
theorem yA(l:Addr)(its:Array Value)(n:Nat)(dd:Option Addr)(sl:Array (Option Value))(x:Int)(u:Tok)(h0:(decide (x< -(2^63))||decide (x>=2^63))=false)(h1:(its.isEmpty||x==1)=false)(h2:(decide (x<=0)||its.isEmpty)=false)(h3:¬((its.size:Int)*x>(2^63-1)/8))(h4:Builtin.Tuple.tupleTooMany (its.size*x)=false)
 (hz:(List.foldl (fun x1 x2=>x1++x2) #[] (List.replicate x.toNat its)).size<=sizeLine):
 Meets (Builtin.«tuple.__mul__» ⟨[.ref l,.int x u],[]⟩) (fun _ R s=>s.heap.get? l=some {cls:= .type "tuple",dict:=dd,data:= .seq its n,slots:=sl}/\R (.ok (.ret (.ref s.heap.objs.size))) {s with heap:=s.heap.push {cls:= .type "tuple",data:= .seq (List.foldl (fun x1 x2=>x1++x2) #[] (List.replicate x.toNat its))}}):=
 .of_wp fun P w A R s h=>by
  obtain⟨hp,g,d,tk,os⟩:=s;obtain⟨hl,h⟩:=h
  wp_walk
  refine wpAny_ite_false (by rw[h0];rfl) ?_
  wp_walk
  refine wpAny_ite_false (decide_eq_false h3) ?_
  wp_walk
  exact⟨_,rfl,h⟩
theorem GJ:cz X (binaryOp .Mult) (fun x y H Q=>∃l k xs,x= .ref l/\y= .int k/\H l=some (.tup xs)/\ -(2^63)<=k/\k<2^63/\xs.length*k.toNat<=sizeLine/\
 ((xs=[]\/k=1)->Q (.ref l) H)/\(¬(xs=[]\/k=1)->∀p,H p=none->Q (.ref p) (upd H p (.tup (List.replicate k.toNat xs).flatten)))):=by
 intro pins s σ H x y v u Q I rx ry h;obtain⟨l,k,xs,rfl,rfl,hH,h1,h2,hz,q1,q2⟩:=h;cases rx;obtain⟨t,rfl⟩:=ry;obtain⟨its,r,p1,_⟩:=I.tuple (.of hH);obtain⟨⟨cls,dd,data,sl⟩,ho,hc,n,hd⟩:=id p1;simp only at hc hd;subst hc hd;have hl:xs.length=its.length:=r.length
 have f0:(decide (k< -(2^63))||decide (k>=2^63))=false:=by
  rw[decide_eq_false (by omega),decide_eq_false (by omega)];rfl
 refine wpAny_binaryOp_repeat_ref (T:="tuple") (U:="int") (by decide) ⟨_,ho,rfl⟩ (fun s'=>typeIs_int s' k t) vC F.fills_int_mul F.slot_int_rmul AN F.slot_int_index.lookup
  (call_meets F.slot_int_rmul (typeIs_int s k t) F.entry_int_rmul (F.args_int_rmul_2 _ _) (y_ k t l its.toArray n dd sl) ⟨ho,rfl,⟨_,ho,rfl⟩,?_⟩)
 by_cases hs:xs=[]\/k=1
 . have f1:(its.toArray.isEmpty||k==1)=true:=by
    rcases hs with z|z
    . have:its=[]:=List.length_eq_zero_iff.mp (by rw[<-hl,z];rfl);rw[this];rfl
    . rw[z];simp
   exact call_meets F.slot_tuple_mul ⟨_,ho,rfl⟩ F.entry_tuple_mul (F.args_tuple_mul_2 _ _) (y9 l its.toArray n dd sl k t f0 f1) ⟨ho,⟨.ref l,H,I,rfl,q1 hs⟩⟩
 . have hne:its≠ []:=fun z=>hs (.inl (List.length_eq_zero_iff.mp (by rw[hl,z];rfl)));have hk1:k≠1:=fun z=>hs (.inr z);have e1:its.toArray.isEmpty=false:=by simpa using hne
   have f1:(its.toArray.isEmpty||k==1)=false:=by rw[e1];simpa using hk1
   have new:∀(us:List Value) (ys:List V),Vals ys us->ys.length<=sizeLine->Inv X pins σ (upd H s.heap.objs.size (.tup ys)) {s with heap:=s.heap.push {cls:= .type "tuple",data:= .seq us.toArray}}:=fun us ys hv hy=>
    I.laid (t':=s.toks) (fun _ _ q=>Heap.get?_push_of_some _ q) (Nat.le_refl _) ⟨hy,us,hv,⟨_,Heap.get?_push_size _ rfl,rfl,_,rfl⟩⟩
   by_cases h0:k<=0
   . have f2:(decide (k<=0)||its.toArray.isEmpty)=true:=by rw[decide_eq_true h0];rfl
     refine call_meets F.slot_tuple_mul ⟨_,ho,rfl⟩ F.entry_tuple_mul (F.args_tuple_mul_2 _ _) (yv l its.toArray n dd sl k t f0 f1 f2) ⟨ho,?_⟩;have ez:k.toNat=0:=by omega
     rw[ez]at q2;exact⟨.ref _,_,new [] [] .nil (Nat.zero_le _),rfl,q2 hs _ I.fresh⟩
   . have f2:(decide (k<=0)||its.toArray.isEmpty)=false:=by rw[decide_eq_false h0,e1];rfl
     have hk:(k.toNat:Int)=k:=by omega
     have hlen:its.toArray.size*k.toNat<=sizeLine:=by rw[List.size_toArray,<-hl];exact hz
     have hsz:((its.toArray.size:Nat):Int)*k<=(sizeLine:Int):=by
      rw[<-hk]
      exact_mod_cast hlen
     have f3:¬(((its.toArray.size:Nat):Int)*k>(2^63-1)/8):=by
      have:((sizeLine:Nat):Int)<=(2^63-1)/8:=by decide
      omega
     have f4:Builtin.Tuple.tupleTooMany (((its.toArray.size:Nat):Int)*k)=false:=by
      unfold Builtin.Tuple.tupleTooMany;exact decide_eq_false (by omega)
     have hnew:List.foldl (fun x1 x2=>x1++x2) #[] (List.replicate k.toNat its.toArray)=(List.replicate k.toNat its).flatten.toArray:=by
      have:=foldl_rep its k.toNat [];rw[List.nil_append]at this;exact this
     have hfl:(List.replicate k.toNat its).flatten.length=its.length*k.toNat:=by rw[len_rep,Nat.mul_comm]
     refine call_meets F.slot_tuple_mul ⟨_,ho,rfl⟩ F.entry_tuple_mul (F.args_tuple_mul_2 _ _) (yA l its.toArray n dd sl k t f0 f1 f2 f3 f4 (by rw[hnew,List.size_toArray,hfl];exact hlen)) ⟨ho,?_⟩;rw[hnew];exact⟨.ref _,_,new _ _ (r.rep k.toNat) (by rw[len_rep,Nat.mul_comm];exact hz),rfl,q2 hs _ I.fresh⟩
def FU:eN:=fun x y st K=>match x,y with
 | .int i,.int j=>K (.int (i+j)) st
 | .tup xs,.tup ys=>xs.length+ys.length<=sizeLine/\K (.tup (xs++ys)) st
 | .lst xs,.lst ys=>xs.length+ys.length<=sizeLine/\K (.lst (xs++ys)) st
 | .str x,.str y=>x.length+y.length<=sizeLine/\K (.str (x++y)) st
 |_,_=>False
theorem L4:cz X (binaryOp .Add) (LR FU):=fun pins s σ H x y v u Q I rx ry ⟨α,d,e,st,K,G,F',P,r1,r2,S,q,k⟩=>by
 cases d<;>cases e<;>try exact q.elim
 . unfold Rep at r1 r2;exact Jw pins s σ H x y v u Q I rx ry ⟨_,_,r1,r2,k.here P q S (by unfold Rep;rfl)⟩
 . unfold Rep at r1 r2;exact AI pins s σ H x y v u Q I rx ry ⟨_,_,r1,r2,q.1,k.here P q.2 S (by unfold Rep;rfl)⟩
 . unfold Rep at r1 r2;obtain⟨a,vs,rfl,na,ha,ra⟩:=r1;obtain⟨b,ws,rfl,nb,hb,rb⟩:=r2;refine HF pins s σ H _ _ v u Q I rx ry ⟨a,b,vs,ws,rfl,rfl,hW P ha,hW P hb,by rw[<-ra.length,<-rb.length];exact q.1,fun p hp=>?_⟩;exact k.lst P q.2 S (bI.mpr (gE (bI.mp ra) (bI.mp rb))) hp
 . rename_i xs ys;unfold Rep at r1 r2;obtain⟨a,vs,rfl,na,ha,ra⟩:=r1;obtain⟨b,ws,rfl,nb,hb,rb⟩:=r2;have hl1:=ra.length;have hl2:=rb.length;refine EY pins s σ H _ _ v u Q I rx ry ⟨a,b,vs,ws,rfl,rfl,P.get ha,P.get hb,by rw[<-hl1,<-hl2];exact q.1,fun z=>?_,fun _ z=>?_,fun _ _ p hp=>?_⟩
   . refine k.here P q.2 S ?_;unfold Rep;have:xs=[]:=by rw[z]at hl1;exact List.length_eq_zero_iff.mp hl1
     subst this;exact⟨b,ws,rfl,nb,hb,rb⟩
   . refine k.here P q.2 S ?_;unfold Rep;have:ys=[]:=by rw[z]at hl2;exact List.length_eq_zero_iff.mp hl2
     subst this;rw[List.append_nil];exact⟨a,vs,rfl,na,ha,ra⟩
   . exact k.tup P q.2 S (bI.mpr (gE (bI.mp ra) (bI.mp rb))) hp
def F0:eN:=fun x y st K=>match x,y with
 | .int i,.int j=>IntMulOk i j/\K (.int (i*j)) st
 | .lst xs,.int k=>(-(2^63)<=k/\k<2^63/\xs.length*k.toNat<=sizeLine)/\K (.lst (List.replicate k.toNat xs).flatten) st
 | .tup xs,.int k=>(-(2^63)<=k/\k<2^63/\xs.length*k.toNat<=sizeLine)/\K (.tup (List.replicate k.toNat xs).flatten) st
 |_,_=>False
theorem LN:cz X (binaryOp .Mult) (LR F0):=fun pins s σ H x y v u Q I rx ry ⟨α,d,e,st,K,G,F',P,r1,r2,S,q,k⟩=>by
 cases d<;>cases e<;>try exact q.elim
 . unfold Rep at r1 r2;have h:cz X (binaryOp .Mult) (rI IntMulOk fun i j=> .int (i*j)):=FH fun _ _ _ _ _ _ _ hc q=>mul_int q hc;exact h pins s σ H x y v u Q I rx ry ⟨_,_,r1,r2,q.1,k.here P q.2 S (by unfold Rep;rfl)⟩
 . unfold Rep at r1 r2;obtain⟨a,vs,rfl,na,ha,ra⟩:=r1;refine HM pins s σ H _ _ v u Q I rx ry ⟨a,_,vs,rfl,r2,hW P ha,q.1.1,q.1.2.1,by rw[<-ra.length];exact q.1.2.2,fun p hp=>?_⟩;exact k.lst P q.2 S (bI.mpr (o_ (bI.mp ra) _)) hp
 . rename_i xs m;have r1':=r1;unfold Rep at r1 r2;obtain⟨a,vs,rfl,na,ha,ra⟩:=r1;refine GJ pins s σ H _ _ v u Q I rx ry ⟨a,_,vs,rfl,r2,P.get ha,q.1.1,q.1.2.1,by rw[<-ra.length];exact q.1.2.2,fun hs=>?_,fun _ p hp=>k.tup P q.2 S (bI.mpr (o_ (bI.mp ra) _)) hp⟩
   have e:(List.replicate m.toNat xs).flatten=xs:=by
    rcases hs with z|z
    . have:xs=[]:=List.length_eq_zero_iff.mp (by rw[ra.length,z];rfl);rw[this];simp
    . rw[z];simp
   have q2:=q.2;rw[e]at q2;exact k.here P q2 S r1'
def live(st:af):D->Bool
 | .ref n=>(match st[n]? with|some (.lst _)=>true|some (.ins _ _)=>true|_=>false)
 |_=>true
def ql:eN:=fun x y st K=>match y with
 | .int i=>(match x with
   | .lst xs=>(match fE xs i with|some d=>K d st|none=>False)
   | .tup xs=>(match fE xs i with|some d=>K d st|none=>False)
   | .ref n=>(match st[n]? with|some (.lst xs)=>(match fE xs i with|some d=>K d st|none=>False)|_=>False)
   |_=>False)
 |_=>False
theorem aF.fE{α:List (Option Addr)}{H:Hp}{ds:List D}{vs:List V}{i:Int}{d:D}(h:aF α H ds vs)(e:L2.fE ds i=some d):∃v,L2.fE vs i=some v/\Rep α H d v:=by
 unfold L2.fE at e⊢;rw[<-h.length];cases q:nR ds.length i with
 |none=>rw[q]at e;cases e
 |some j=>rw[q]at e;exact h.get e
theorem Na:FN X (LR ql):=fun value slice pins s σ H x y v u Q I rx ry ⟨α,d,e,st,K,G,F',P,r1,r2,S,q,k⟩ hs=>by
 cases e<;>try exact q.elim
 unfold Rep at r2;cases d<;>try exact q.elim
 . rename_i i n;unfold ql at q;simp only at q;split at q
   . split at q
     . rename_i xs e1 _ d' e2;obtain⟨a,ea,vs,hv,rv⟩:=S.lH e1;have r1':=f9 ea r1;subst r1';obtain⟨z,ez,rz⟩:=rv.fE e2;exact Az value slice pins s σ H _ _ v u Q I rx ry ⟨a,vs,_,z,rfl,r2,.of (P.get hv),ez,k.here P q S rz⟩ hs
     . exact q.elim
   . exact q.elim
 . unfold ql at q;simp only at q;split at q
   . rename_i xs d' e2;unfold Rep at r1;obtain⟨a,vs,rfl,na,ha,ra⟩:=r1;obtain⟨z,ez,rz⟩:=ra.fE e2;exact Az value slice pins s σ H _ _ v u Q I rx ry ⟨a,vs,_,z,rfl,r2,.inl (hW P ha),ez,k.here P q S rz⟩ hs
   . exact q.elim
 . unfold ql at q;simp only at q;split at q
   . rename_i xs d' e2;unfold Rep at r1;obtain⟨a,vs,rfl,na,ha,ra⟩:=r1;obtain⟨z,ez,rz⟩:=ra.fE e2;exact Jx value slice pins s σ H _ _ v u Q I rx ry ⟨a,vs,_,z,rfl,r2,.of (P.get ha),ez,k.here P q S rz⟩ hs
   . exact q.elim
theorem Nr{a b:Expr}{ta tb:DE}{pos:Pos}(ha:PE X a (LE ta))(hb:PE X b (LE tb))(hs:sN b:=by intro _ _;rfl):PE X (.Subscript a b pos) (LE (az ql ta tb)):=PE.imp (Lh Na ha hb hs) fun _ _ _ h=>LE.op h
def items?(st:af):D->Option (List D)
 | .lst xs=>some xs
 | .tup xs=>some xs
 | .ref n=>(match st[n]? with|some (.lst xs)=>some xs|_=>none)
 |_=>none
@[simp] theorem M3(st:af)(xs:List D):items? st (.lst xs)=some xs:=rfl
@[simp] theorem MM(st:af)(xs:List D):items? st (.tup xs)=some xs:=rfl
@[simp] theorem items_int(st:af)(i:Int):items? st (.int i)=none:=rfl
@[simp] theorem NS(st:af)(i:Bool):items? st (.bl i)=none:=rfl
@[simp] theorem items_str(st:af)(i:Str):items? st (.str i)=none:=rfl
@[simp] theorem M1(st:af):items? st .aI=none:=rfl
theorem a9{st:af}{n:Nat}{xs:List D}(h:st[n]?=some (.lst xs)):items? st (.ref n)=some xs:=by unfold items?;simp only[h]
theorem oH{α:List (Option Addr)}{H:Hp}{st:af}{d:D}{v:V}{xs:List D}(S:aS α st H)(r:Rep α H d v)(e:items? st d=some xs):
 ∃p vs,v= .ref p/\aF α H xs vs/\(Rd H p (.lst vs)\/H p=some (.tup vs)):=by
 cases d<;>try(cases e;done)
 . unfold items? at e;simp only at e;split at e
   . rename_i ys q;cases e;obtain⟨a,ea,vs,h1,h2⟩:=S.lH q;have r':=f9 ea r;subst r';exact⟨a,vs,rfl,h2,.inl (.of h1)⟩
   . cases e
 . cases e;unfold Rep at r;obtain⟨a,vs,rfl,_,h1,h2⟩:=r;exact⟨a,vs,rfl,h2,.inl h1⟩
 . cases e;unfold Rep at r;obtain⟨a,vs,rfl,_,h1,h2⟩:=r;exact⟨a,vs,rfl,h2,.inr h1⟩
theorem Bg{K:PySem.W.Frag}{G F H:Hp}(P:b_ G F H){p:Addr}{vs:List V}(h:Rd G p (.lst vs)\/G p=some (.tup vs)):mM K H p vs\/jn K H p vs:=h.elim (fun z=> .inl (.inl (hW P z))) fun z=> .inr (.of (P.get z))
theorem iO{α:List (Option Addr)}{H:Hp}{ds:List D}{xs:List V}{d:D}(r:aF α H ds xs)(e:ds=[d]):∃v,xs=[v]/\Rep α H d v:=by
 subst e;unfold aF at r;obtain⟨v,q,rfl,h1,h2⟩:=r;unfold aF at h2;subst h2;exact⟨v,rfl,h1⟩
theorem oZ{α:List (Option Addr)}{H:Hp}{ds:List D}{xs:List V}{d e:D}(r:aF α H ds xs)(q:ds=[d,e]):∃v u,xs=[v,u]/\Rep α H d v/\Rep α H e u:=by
 subst q;unfold aF at r;obtain⟨v,q,rfl,h1,h2⟩:=r;obtain⟨u,rfl,h3⟩:=iO h2 rfl;exact⟨v,u,rfl,h1,h3⟩
def xT:fI:=fun ds st K=>match ds with
 | [.str x]=>x.length<=sizeLine/\K (.int x.length) st
 | [d]=>(match items? st d with|some xs=>K (.int xs.length) st|none=>False)
 |_=>False
theorem L0:bK X (.builtin "len") (gM xT):=fun pins s σ H xs us Q I rs ⟨α,ds,st,K,G,F',P,r,S,q,k⟩=>by
 unfold xT at q;split at q
 . rename_i x;obtain⟨v,rfl,r1⟩:=iO r rfl;unfold Rep at r1;subst r1;exact yY pins s σ H _ us Q I rs ⟨x,rfl,q.1,k.here P q.2 S (by unfold Rep;rfl)⟩
 . rename_i d _;split at q
   . rename_i ys e;obtain⟨v,rfl,r1⟩:=iO r rfl;obtain⟨p,vs,rfl,r2,h⟩:=oH S r1 e;refine yH pins s σ H _ us Q I rs ⟨p,vs,rfl,Bg P h,k.here P q S (by unfold Rep;rw[r2.length])⟩
   . exact q.elim
 . exact q.elim
def MH(g:Int->Int):fI:=fun ds st K=>match ds with| [.int i]=>K (.int (g i)) st|_=>False
abbrev Bm:fI:=MH fun i=>if i<0 then-i else i
theorem KQ:bK X (.builtin "abs") (gM Bm):=bK.imp EC fun xs H Q ⟨α,ds,st,K,G,F',P,r,S,q,k⟩=>by
 unfold Bm MH at q;split at q
 . obtain⟨v,rfl,r1⟩:=iO r rfl;unfold Rep at r1;subst r1;exact⟨_,rfl,k.here P q S (by unfold Rep;rfl)⟩
 . exact q.elim
def JR(g:Int->Int->Int):fI:=fun ds st K=>match ds with| [.int i,.int j]=>K (.int (g i j)) st|_=>False
abbrev BR:fI:=JR fun i j=>if j<i then j else i
theorem Mj(hc:X.calm=true):bK X (.builtin "min") (gM BR):=bK.imp (CQ hc) fun xs H Q ⟨α,ds,st,K,G,F',P,r,S,q,k⟩=>by
 unfold BR JR at q;split at q
 . obtain⟨v,u,rfl,r1,r2⟩:=oZ r rfl;unfold Rep at r1 r2;subst r1 r2;exact⟨_,_,rfl,k.here P q S (by unfold Rep;rfl)⟩
 . exact q.elim
def Bj:fI:=fun ds st K=>match ds with| [.int i]=>K (.int i) st| [.bl b]=>K (.int (if b then 1 else 0)) st|_=>False
theorem MB:bK X (.type "int") (gM Bj):=bK.imp Cs fun xs H Q ⟨α,ds,st,K,G,F',P,r,S,q,k⟩=>by
 unfold Bj at q;split at q
 . obtain⟨v,rfl,r1⟩:=iO r rfl;unfold Rep at r1;subst r1;exact .inl ⟨_,rfl,k.here P q S (by unfold Rep;rfl)⟩
 . obtain⟨v,rfl,r1⟩:=iO r rfl;unfold Rep at r1;subst r1;exact .inr ⟨_,rfl,k.here P q S (by unfold Rep;rfl)⟩
 . exact q.elim
def sI:fI:=fun ds st K=>match ds with| [d]=>(match items? st d with|some xs=>K (.tup xs) st|none=>False)|_=>False
theorem GL:bK X (.type "tuple") (gM sI):=bK.imp w4 fun xs H Q ⟨α,ds,st,K,G,F',P,r,S,q,k⟩=>by
 unfold sI at q;split at q
 . rename_i d;split at q
   . rename_i ys e;obtain⟨v,rfl,r1⟩:=iO r rfl;cases d with
     |tup zs=>
      cases e;have r0:=r1;unfold Rep at r1;obtain⟨a,vs,rfl,na,h1,h2⟩:=r1;exact⟨a,vs,rfl,.inr ⟨.of (P.get h1),k.here P q S r0⟩⟩
     |_=>
      obtain⟨p,vs,rfl,r2,h⟩:=oH S r1 e;refine⟨p,vs,rfl,?_⟩;rcases h with h|h
      . exact .inl ⟨.inl (hW P h),fun l hl=>k.tup P q S r2 hl⟩
      . first
         |(cases e;done)
         |(exfalso
           unfold items? at e;simp only at e
           first
            |(split at e
              . rename_i z;obtain⟨a,ea,vs',h1,h2⟩:=S.lH z;have e':=f9 ea r1;cases e';rw[h]at h1;cases h1
              . cases e)
            |(unfold Rep at r1
              obtain⟨a,vs',e',_,h1,_⟩:=r1;cases e';rcases h1 with h1|⟨o,h1⟩<;>(rw[h]at h1;cases h1)))
   . exact q.elim
 . exact q.elim
def u7:fI:=fun ds st K=>match ds with| [d]=>(match items? st d with|some xs=>K (.lst xs) st|none=>False)|_=>False
theorem Ic:bK X (.type "list") (gM u7):=bK.imp rL fun xs H Q ⟨α,ds,st,K,G,F',P,r,S,q,k⟩=>by
 unfold u7 at q;split at q
 . split at q
   . rename_i ys e;obtain⟨v,rfl,r1⟩:=iO r rfl;obtain⟨p,vs,rfl,r2,h⟩:=oH S r1 e;exact⟨p,vs,rfl,Bg P h,fun l hl=>k.lst P q S r2 hl⟩
   . exact q.elim
 . exact q.elim
def sx:fI:=fun ds st K=>match ds with| [d]=>(match items? st d with|some xs=>K (.ref st.length) (st++[.lst xs])|none=>False)|_=>False
theorem Hb:bK X (.type "list") (gM sx):=bK.imp rL fun xs H Q ⟨α,ds,st,K,G,F',P,r,S,q,k⟩=>by
 unfold sx at q;split at q
 . split at q
   . rename_i ys e;obtain⟨v,rfl,r1⟩:=iO r rfl;obtain⟨p,vs,rfl,r2,h⟩:=oH S r1 e;exact⟨p,vs,rfl,Bg P h,fun l hl=>k.new P q S r2 hl⟩
   . exact q.elim
 . exact q.elim
def gX:List D->Option (List Bool)
 | []=>some []
 | .bl b::r=>(gX r).map (b:: ·)
 |_::_=>none
def oU:List D->Option (List Int)
 | []=>some []
 | .int b::r=>(oU r).map (b:: ·)
 |_::_=>none
theorem qz{α:List (Option Addr)}{H:Hp}:∀ {ds:List D} {vs:List V} {bs:List Bool},aF α H ds vs->gX ds=some bs->vs=bs.map V.bl
 | [],vs,bs,r,e=>by
   unfold aF at r;cases e;exact r
 |d::ds,vs,bs,r,e=>by
  unfold aF at r;obtain⟨v,q,rfl,h1,h2⟩:=r;cases d<;>try(cases e;done)
  unfold gX at e;cases z:gX ds with
  |none=>rw[z]at e;cases e
  |some cs=>
   rw[z]at e;cases e;unfold Rep at h1;rw[h1,qz h2 z];rfl
theorem wO{α:List (Option Addr)}{H:Hp}:∀ {ds:List D} {vs:List V} {bs:List Int},aF α H ds vs->oU ds=some bs->vs=bs.map V.int
 | [],vs,bs,r,e=>by
   unfold aF at r;cases e;exact r
 |d::ds,vs,bs,r,e=>by
  unfold aF at r;obtain⟨v,q,rfl,h1,h2⟩:=r;cases d<;>try(cases e;done)
  unfold oU at e;cases z:oU ds with
  |none=>rw[z]at e;cases e
  |some cs=>
   rw[z]at e;cases e;unfold Rep at h1;rw[h1,wO h2 z];rfl
theorem qH:∀ {bs:List Bool} {us:List Value},Vals (bs.map V.bl) us->us=bs.map Value.bool
 | [],_,.nil=>rfl
 |b::bs,_,.cons h t=>by
  have h:_=Value.bool b:=h;rw[h,qH t];rfl
def xN:fI:=fun ds st K=>match ds with| [.lst xs]=>(match gX xs with|some bs=>K (.bl (bs.all id)) st|none=>False)|_=>False
theorem range_all{α:Type}(l:List α)(f:α->Bool)(tr:Nat->Bool)(h:∀i x,l[i]?=some x->tr i=f x):(List.range l.length).all tr=l.all f:=by
 induction l generalizing tr with
 |nil=>rfl
 |cons a l ih=>
  rw[List.length_cons,List.range_succ_eq_map,List.all_cons,List.all_cons,List.all_map,h 0 a rfl];congr 1;exact ih (tr∘Nat.succ) fun i x e=>h (i+1) x (by simpa using e)
theorem Li(hc:X.calm=true):bK X (.builtin "all") (gM xN):=fun pins s σ H xs us Q I rs ⟨α,ds,st,K,G,F',P,r,S,q,k⟩=>by
 unfold xN at q;split at q
 . rename_i ys;split at q
   . rename_i bs e;obtain⟨v,rfl,r1⟩:=iO r rfl;unfold Rep at r1;obtain⟨a,vs,rfl,na,h1,h2⟩:=r1;obtain⟨u,rfl,ru⟩:=vals1 rs;cases ru;have hv:=qz h2 e;subst hv;obtain⟨z,its,n,rv,hl,eo⟩:=Inv.uD I (hW P h1);have hits:=qH rv;subst hits;have isL:s.heap.IsList a (bs.map Value.bool).toArray:=⟨_,eo,rfl,n,rfl⟩
     refine call_all_walk (wpAny_pyIter_list isL ?_);have hne:a≠s.heap.objs.size:=Nat.ne_of_lt (Heap.lt_size eo);refine⟨s.heap.objs.size,_,_,_,_,_,fun i=>(bs[i]?).getD true,rfl,Walks.list (A:=X.A.in1) (I.ok.hd hc) _ a hne (bs.map Value.bool).toArray,⟨⟨_,Heap.get?_push_size _ rfl,rfl,rfl⟩,⟨_,Heap.get?_push_of_some _ eo,rfl,n,rfl⟩⟩,?_,?_⟩
     . intro i w s' Q' E' hP hQ;rw[List.getElem?_toArray,List.getElem?_map]at hP;cases zb:bs[i]? with
       |none=>rw[zb]at hP;cases hP
       |some b=>
        rw[zb]at hP;cases hP;simp only[zb]at hQ;exact wpAny_truthy_bool hQ
     . intro h' tk hk
       have kp:∀b o,s.heap.get? b=some o->h'.get? b=some o:=fun b o q=>hk b o (by
        intro hb;have:b=s.heap.objs.size:=by simpa using hb
        exact absurd (Heap.lt_size q) (by rw[this];exact Nat.lt_irrefl _)) (Heap.get?_push_of_some _ q)
       have ea:(List.range (bs.map Value.bool).toArray.size).all (fun i=>(bs[i]?).getD true)=bs.all id:=by
        rw[List.size_toArray,List.length_map];exact range_all bs id _ fun i x e=>by rw[e];rfl
       rw[ea];exact⟨.bl (bs.all id),H,I.kept (t':=tk) kp,rfl,k.here P q S (by unfold Rep;rfl)⟩
   . exact q.elim
 . exact q.elim
def jI(st:af):D->Option String
 | .aI=>some "NoneType"
 | .bl _=>some "bool"
 | .int _=>some "int"
 | .str _=>some "str"
 | .lst _=>some "list"
 | .tup _=>some "tuple"
 | .ref n=>(match st[n]? with|some (.lst _)=>some "list"|_=>none)
 | .ty _=>none
@[simp] theorem N4(st:af)(xs:List D):jI st (.lst xs)=some "list":=rfl
@[simp] theorem Oc(st:af)(xs:List D):jI st (.tup xs)=some "tuple":=rfl
@[simp] theorem ty_int(st:af)(i:Int):jI st (.int i)=some "int":=rfl
@[simp] theorem Ol(st:af)(i:Bool):jI st (.bl i)=some "bool":=rfl
@[simp] theorem ty_str(st:af)(i:Str):jI st (.str i)=some "str":=rfl
@[simp] theorem Oe(st:af):jI st .aI=some "NoneType":=rfl
def t9(t c:String):Bool:=t==c||(t=="bool"&&c=="int")
theorem zc{α:List (Option Addr)}{H:Hp}{st:af}{K:PySem.W.Frag}{d:D}{v:V}{t:String}(S:aS α st H)(r:Rep α H d v)(e:jI st d=some t):j7 K H v (.type t):=by
 cases d<;>unfold jI at e<;>try(cases e;done)
 . unfold Rep at r;cases e;subst r;exact .aI
 . unfold Rep at r;cases e;subst r;exact .bl _
 . unfold Rep at r;cases e;subst r;exact .int _
 . unfold Rep at r;cases e;subst r;exact .str _
 . simp only at e;split at e
   . rename_i z;cases e;obtain⟨a,ea,vs',h1,h2⟩:=S.lH z;have r':=f9 ea r;subst r';exact .lst h1
   . cases e
 . cases e;unfold Rep at r;obtain⟨a,vs,rfl,na,h1,h2⟩:=r;rcases h1 with h1|⟨o,h1⟩
   . exact .lst h1
   . exact .g9 h1
 . cases e;unfold Rep at r;obtain⟨a,vs,rfl,na,h1,h2⟩:=r;exact .tup h1
theorem Au{G F H:Hp}{K:PySem.W.Frag}(P:b_ G F H){x:V}{t:Value}(h:j7 K G x t):j7 K H x t:=by
 cases h with
 |aI=>exact .aI
 |bl x=>exact .bl x
 |int x=>exact .int x
 |str x=>exact .str x
 |tT x=>exact .tT x
 |lst e=>exact .lst (P.get e)
 |g9 e=>exact .g9 (P.get e)
 |tup e=>exact .tup (P.get e)
 |dK e=>exact .dK (P.get e)
 |dT e=>exact .dT (P.get e)
 |ins e a b c d f=>exact .ins (P.get e) a b c d f
def sF:List String:=["NoneType","bool","int","str","list","tuple"]
def nO:List String:=["bool","int","str","list","tuple"]
theorem z9(K:PySem.W.Frag){t c:String}(ht:t∈sF)(hc:c∈nO):PySem.W.kitOne K (.type t) (.type c)=some (t9 t c):=by
 simp only[sF,nO,List.mem_cons,List.not_mem_nil,or_false]at ht hc;rcases ht with rfl|rfl|rfl|rfl|rfl|rfl<;>rcases hc with rfl|rfl|rfl|rfl|rfl<;>with_unfolding_all rfl
theorem yf{st:af}{d:D}{t:String}(e:jI st d=some t):t∈sF:=by
 cases d<;>unfold jI at e<;>first
  |(cases e;done)
  |(cases e;decide)
  |(simp only at e;split at e<;>cases e;decide)
theorem kitx_of{pins:List (Addr×Obj)}{σ:L2.St}{H:Hp}{s:Shared}{x:V}{u:Value}{t:String}(I:Inv X pins σ H s)(rx:RelV x u)(ty:j7 X.K H x (.type t)):
 ∃Hh:Heap->Prop,PySem.W.KitX X.K u (.type t) Hh/\Hh s.heap/\u≠ .builtin "__main__.__loader__#opaque":=by
 cases ty with
 |aI=>cases (show u=Value.none from rx);exact⟨_,PySem.W.kitx_none,True.intro,fun z=>nomatch z⟩
 |bl y=>cases (show u=Value.bool y from rx);exact⟨_,PySem.W.kitx_bool,True.intro,fun z=>nomatch z⟩
 |int i=>obtain⟨t,q⟩:=(show∃t,u=Value.int i t from rx);cases q;exact⟨_,PySem.W.kitx_int,True.intro,fun z=>nomatch z⟩
 |str y=>obtain⟨t,q⟩:=(show∃t,u=Value.str y t from rx);cases q;exact⟨_,PySem.W.kitx_str,True.intro,fun z=>nomatch z⟩
 |tT y=>obtain⟨t,q⟩:=(show∃t,u=Value.float y t from rx);cases q;exact⟨_,PySem.W.kitx_float,True.intro,fun z=>nomatch z⟩
 | @lst a xs ea=>
   cases (show u=Value.ref a from rx);obtain⟨_,_,n,_,h1⟩:=(show dP X.prog X.w H s.heap a (.lst xs)from I.aK a _ ea)
   exact⟨_,PySem.W.kitx_list,⟨_,h1,rfl⟩,fun z=>nomatch z⟩
 | @g9 a ob xs ea=>
   cases (show u=Value.ref a from rx);obtain⟨_,_,_,n,_,h1⟩:=(show dP X.prog X.w H s.heap a (.g9 ob (.lst xs))from I.aK a _ ea)
   exact⟨_,PySem.W.kitx_list,⟨_,h1,rfl⟩,fun z=>nomatch z⟩
 | @tup a xs ea=>
   cases (show u=Value.ref a from rx);obtain⟨_,_,_,p⟩:=(show dP X.prog X.w H s.heap a (.tup xs)from I.aK a _ ea)
   obtain⟨o,h1,h2,_⟩:=p;exact⟨_,PySem.W.kitx_tuple,⟨o,h1,h2⟩,fun z=>nomatch z⟩
 | @dK a kvs ea=>
   cases (show u=Value.ref a from rx);obtain⟨_,_,vs,_,p⟩:=(show dP X.prog X.w H s.heap a (.dK kvs)from I.aK a _ ea)
   obtain⟨o,es,ep,h1,h2,_⟩:=p;exact⟨_,PySem.W.kitx_dict,⟨o,h1,h2.1⟩,fun z=>nomatch z⟩
 | @dT a kvs ea=>
   cases (show u=Value.ref a from rx);obtain⟨_,_,xs,_,o,es,ep,h1,h2,_⟩:=(show dP X.prog X.w H s.heap a (.dT kvs)from I.aK a _ ea)
   exact⟨_,PySem.W.kitx_dict,⟨o,h1,h2.1⟩,fun z=>nomatch z⟩
def p7:List D->Option (List String)
 | []=>some []
 | .ty b::r=>(p7 r).map (b:: ·)
 |_::_=>none
theorem yF{α:List (Option Addr)}{H:Hp}:∀ {ds:List D} {vs:List V} {bs:List String},aF α H ds vs->p7 ds=some bs->vs=bs.map V.ty
 | [],vs,bs,r,e=>by
   unfold aF at r;cases e;exact r
 |d::ds,vs,bs,r,e=>by
  unfold aF at r;obtain⟨v,q,rfl,h1,h2⟩:=r;cases d<;>try(cases e;done)
  unfold p7 at e;cases z:p7 ds with
  |none=>rw[z]at e;cases e
  |some cs=>
   rw[z]at e;cases e;unfold Rep at h1;rw[h1,yF h2 z];rfl
theorem x3:∀ {bs:List String} {us:List Value},Vals (bs.map V.ty) us->us=bs.map Value.type
 | [],_,.nil=>rfl
 |b::bs,_,.cons h t=>by
  have h:_=Value.type b:=h;rw[h,x3 t];rfl
theorem Al(K:PySem.W.Frag){t:String}(ht:t∈sF):∀cs:List String,(∀c∈cs,c∈nO)->PySem.W.kitAny K (.type t) (cs.map Value.type)=some (cs.any (t9 t))
 | [],_=>rfl
 |c::cs,h=>by
  show(match PySem.W.kitOne K (.type t) (.type c)with|some true=>some true|some false=>PySem.W.kitAny K (.type t) (cs.map Value.type)|none=>none)=_;rw[z9 K ht (h c List.mem_cons_self),List.any_cons];cases t9 t c with
  |true=>rfl
  |false=>exact Al K ht cs fun c hc=>h c (List.mem_cons_of_mem _ hc)
def xw:fI:=fun ds st K=>match ds with
 | [d,.ty c]=>(match jI st d with|some t=>c∈nO/\K (.bl (t9 t c)) st|none=>False)
 | [d,.tup cs]=>(match jI st d,p7 cs with|some t,some cl=>(∀c∈cl,c∈nO)/\K (.bl (cl.any (t9 t))) st|_,_=>False)
 |_=>False
theorem LJ:bK X (.builtin "isinstance") (gM xw):=fun pins s σ H xs us Q I rs ⟨α,ds,st,K,G,F',P,r,S,q,k⟩=>by
 unfold xw at q;split at q
 . rename_i d c;split at q
   . rename_i t e;obtain⟨v,v2,rfl,r1,r2⟩:=oZ r rfl;obtain⟨u,u2,rfl,ru,ru2⟩:=vals2 rs;unfold Rep at r2;subst r2;cases (show u2=Value.type c from ru2);exact CS I ru (Au P (zc S r1 e)) (z9 _ (yf e) q.1) fun tk=>⟨.bl (t9 t c),H,I.tok tk,rfl,k.here P q.2 S (by unfold Rep;rfl)⟩
   . exact q.elim
 . rename_i d cs;split at q
   . rename_i t cl e ec;obtain⟨v,v2,rfl,r1,r2⟩:=oZ r rfl;obtain⟨u,u2,rfl,ru,ru2⟩:=vals2 rs;unfold Rep at r2;obtain⟨a,vs,rfl,na,h1,h2⟩:=r2;cases (show u2=Value.ref a from ru2);have hv:=yF h2 ec;subst hv;obtain⟨Hh,Z,hh,hne⟩:=kitx_of I ru (Au P (zc S r1 e));obtain⟨its,r',pl,hz⟩:=I.tuple (jn.of (P.get h1));have hi:=x3 r';subst hi;obtain⟨⟨cls,dd,data,sl⟩,ho,hc,n,hd⟩:=pl;simp only at hc hd;subst hc hd;exact PySem.W.kia_tup Z I.ib hh ho (Al _ (yf e) cl q.1) hne fun tk=>⟨.bl _,H,I.tok tk,rfl,k.here P q.2 S (by unfold Rep;rfl)⟩
   . exact q.elim
 . exact q.elim
end
end L3
namespace L3
open PySem PySem.Spec L2 PySem.SeqAt
open PyProof.Rows hiding St
mutual
def cS:D->D->Bool
 | .aI,.aI=>true
 | .bl a,.bl b=>a==b
 | .bl a,.int b=>(if a then 1 else 0)==b
 | .int a,.bl b=>a==(if b then 1 else 0)
 | .int a,.int b=>a==b
 | .str a,.str b=>a==b
 | .lst xs,.lst ys=>lR xs ys
 | .tup xs,.tup ys=>lR xs ys
 |_,_=>false
def lR:List D->List D->Bool
 | [],[]=>true
 |x::xs,y::ys=>cS x y&&lR xs ys
 |_,_=>false
end
def pl:Nat->D->Bool
 |_,.aI=>true
 |_,.bl _=>true
 |_,.int _=>true
 |_,.str _=>true
 |n+1,.lst xs=>xs.all (pl n)
 |n+1,.tup xs=>xs.all (pl n)
 |_,_=>false
mutual
theorem mj:∀(n:Nat) (d:D),pl n d=true->cS d d=true
 |_,.aI,_=>rfl
 |_,.bl _,_=>by simp[cS]
 |_,.int _,_=>by simp[cS]
 |_,.str _,_=>by simp[cS]
 |n+1,.lst xs,h=>by unfold cS;exact rS n xs (by unfold pl at h;exact h)
 |n+1,.tup xs,h=>by unfold cS;exact rS n xs (by unfold pl at h;exact h)
 |0,.lst xs,h=>by cases h
 |0,.tup xs,h=>by cases h
 |_,.ref _,h=>by unfold pl at h;cases h
 |_,.ty _,h=>by unfold pl at h;cases h
theorem rS:∀(n:Nat) (xs:List D),xs.all (pl n)=true->lR xs xs=true
 |_,[],_=>by unfold lR;rfl
 |n,x::xs,h=>by
  rw[List.all_cons,Bool.and_eq_true]at h;unfold lR;rw[mj n x h.1,rS n xs h.2];rfl
end
mutual
theorem Rep.inj{α:List (Option Addr)}{H:Hp}:∀ {d e:D} {v:V} (n:Nat),pl n d=true->pl n e=true->Rep α H d v->Rep α H e v->d=e
 | .aI,e,v,n,_,he,h1,h2=>by
   unfold Rep at h1;subst h1;cases e<;>first|(unfold pl at he;cases he;done)|(unfold Rep at h2;cases h2;rfl)|(unfold Rep at h2;cases h2;done)|(unfold Rep at h2;obtain⟨_,_,h2,_⟩:=h2;cases h2)|rfl|(cases h2;done)|(obtain⟨_,_,h2,_⟩:=h2;cases h2)|(obtain⟨_,_,h2⟩:=h2;cases h2)
 | .bl b,e,v,n,_,he,h1,h2=>by
   unfold Rep at h1;subst h1;cases e<;>first|(unfold pl at he;cases he;done)|(unfold Rep at h2;cases h2;rfl)|(unfold Rep at h2;cases h2;done)|(unfold Rep at h2;obtain⟨_,_,h2,_⟩:=h2;cases h2)|(cases h2;rfl)|(cases h2;done)|(obtain⟨_,_,h2,_⟩:=h2;cases h2)|(obtain⟨_,_,h2⟩:=h2;cases h2)
 | .int b,e,v,n,_,he,h1,h2=>by
   unfold Rep at h1;subst h1;cases e<;>first|(unfold pl at he;cases he;done)|(unfold Rep at h2;cases h2;rfl)|(unfold Rep at h2;cases h2;done)|(unfold Rep at h2;obtain⟨_,_,h2,_⟩:=h2;cases h2)|(cases h2;rfl)|(cases h2;done)|(obtain⟨_,_,h2,_⟩:=h2;cases h2)|(obtain⟨_,_,h2⟩:=h2;cases h2)
 | .str b,e,v,n,_,he,h1,h2=>by
   unfold Rep at h1;subst h1;cases e<;>first|(unfold pl at he;cases he;done)|(unfold Rep at h2;cases h2;rfl)|(unfold Rep at h2;cases h2;done)|(unfold Rep at h2;obtain⟨_,_,h2,_⟩:=h2;cases h2)|(cases h2;rfl)|(cases h2;done)|(obtain⟨_,_,h2,_⟩:=h2;cases h2)|(obtain⟨_,_,h2⟩:=h2;cases h2)
 | .ty b,e,v,n,hd,he,h1,h2=>by unfold pl at hd;cases hd
 | .ref b,e,v,n,hd,he,h1,h2=>by unfold pl at hd;cases hd
 | .lst xs,e,v,0,hd,he,h1,h2=>by cases hd
 | .tup xs,e,v,0,hd,he,h1,h2=>by cases hd
 | .lst xs,e,v,n+1,hd,he,h1,h2=>by
   unfold Rep at h1;obtain⟨a,vs,rfl,na,ha,ra⟩:=h1;cases e<;>unfold Rep at h2<;>try(cases h2;done)
   . unfold pl at he;cases he
   . obtain⟨a',vs',e',na',ha',ra'⟩:=h2;cases e'
     have:vs=vs':=by
      rcases ha with ha|⟨o,ha⟩<;>rcases ha' with ha'|⟨o',ha'⟩<;>(rw[ha]at ha';first|(cases ha';rfl)|(cases ha';done))
     subst this;rw[aF.inj n (by unfold pl at hd;exact hd) (by unfold pl at he;exact he) ra ra']
   . obtain⟨a',vs',e',na',ha',ra'⟩:=h2;cases e';rcases ha with ha|⟨o,ha⟩<;>(rw[ha]at ha';cases ha')
 | .tup xs,e,v,n+1,hd,he,h1,h2=>by
   unfold Rep at h1;obtain⟨a,vs,rfl,na,ha,ra⟩:=h1;cases e<;>unfold Rep at h2<;>try(cases h2;done)
   . unfold pl at he;cases he
   . obtain⟨a',vs',e',na',ha',ra'⟩:=h2;cases e';rcases ha' with ha'|⟨o,ha'⟩<;>(rw[ha]at ha';cases ha')
   . obtain⟨a',vs',e',na',ha',ra'⟩:=h2;cases e';rw[ha]at ha';cases ha';rw[aF.inj n (by unfold pl at hd;exact hd) (by unfold pl at he;exact he) ra ra']
theorem aF.inj{α:List (Option Addr)}{H:Hp}:∀ {ds es:List D} {vs:List V} (n:Nat),ds.all (pl n)=true->es.all (pl n)=true->aF α H ds vs->aF α H es vs->ds=es
 | [],es,vs,n,_,_,h1,h2=>by
   unfold aF at h1;subst h1;cases es with
   |nil=>rfl
   |cons e es=>unfold aF at h2;obtain⟨_,_,h,_⟩:=h2;cases h
 |d::ds,es,vs,n,hd,he,h1,h2=>by
  unfold aF at h1;obtain⟨v,r,rfl,r1,r2⟩:=h1;cases es with
  |nil=>unfold aF at h2;cases h2
  |cons e es=>
   unfold aF at h2;obtain⟨v',r',h,q1,q2⟩:=h2;cases h;rw[List.all_cons,Bool.and_eq_true]at hd he;rw[Rep.inj n hd.1 he.1 r1 q1,aF.inj n hd.2 he.2 r2 q2]
end
theorem oh:∀ {xs ys:List D},xs.length≠ys.length->lR xs ys=false
 | [],[],h=>absurd rfl h
 | [],_::_,_=>by unfold lR;rfl
 |_::_,[],_=>by unfold lR;rfl
 |x::xs,y::ys,h=>by
  unfold lR;rw[oh (by simpa using h),Bool.and_false]
theorem om:∀ {xs ys:List D},xs.length=ys.length->lR xs ys=(List.range xs.length).all fun j=>cS (xs.getD j .aI) (ys.getD j .aI)
 | [],[],_=>by unfold lR;rfl
 | [],_::_,h=>by cases h
 |_::_,[],h=>by cases h
 |x::xs,y::ys,h=>by
  unfold lR;rw[List.length_cons,List.range_succ_eq_map,List.all_cons,List.all_map,om (by simpa using h)];rfl
section
variable {X:Cx}{pins:List (Addr×Obj)}{σ:L2.St}{H:Hp}{s:Shared}{α:List (Option Addr)}
theorem kM{xs:List D}{vs:List V}{its:List Value}(r:aF α H xs vs)(v:Vals vs its)(j:Nat)(hj:j<its.length):∃x,xs[j]?=some (xs.getD j .aI)/\Rep α H (xs.getD j .aI) x/\RelV x its[j]:=by
 have h1:=r.length;have h2:=v.length;have hx:j<xs.length:=by omega
 have e:xs[j]?=some (xs.getD j .aI):=by rw[List.getElem?_eq_getElem hx,List.getD_eq_getElem?_getD,List.getElem?_eq_getElem hx];rfl
 obtain⟨x,q,rr⟩:=r.get e;obtain⟨u,q2,rv⟩:=v.get q;rw[List.getElem?_eq_getElem hj]at q2;cases q2;exact⟨x,e,rr,rv⟩
theorem jA{xs:List D}{n:Nat}(h:xs.all (pl n)=true)(j:Nat):pl n (xs.getD j .aI)=true:=by
 rw[List.getD_eq_getElem?_getD];cases e:xs[j]? with
 |none=>cases n<;>rfl
 |some d=>exact List.all_eq_true.mp h d (List.mem_of_getElem? e)
def wm:D->Bool
 | .aI=>true
 | .bl _=>true
 | .int _=>true
 | .str _=>true
 |_=>false
theorem zX{A:Around}{d e:D}{x y:V}{u v:Value}(hd:wm d=true)(he:wm e=true)(rd:Rep α H d x)(re:Rep α H e y)(rx:RelV x u)(ry:RelV y v):RcAt A s u v (cS d e)/\EqAt A s u v (cS d e):=by
 cases d<;>cases e<;>try(first|(cases hd;done)|(cases he;done))
 all_goals(unfold Rep at rd re;subst rd re)
 all_goals(first|(obtain⟨t,rfl⟩:=rx;obtain⟨t',rfl⟩:=ry)|(obtain⟨t,rfl⟩:=rx;cases ry)|(cases rx;obtain⟨t,rfl⟩:=ry)|(cases rx;cases ry))
 all_goals unfold cS
 . exact⟨RcAt.none_none,EqAt.same _⟩
 . exact⟨RcAt.none_bool _,EqAt.none_bool _⟩
 . exact⟨RcAt.none_int _ _,EqAt.none_int _ _⟩
 . exact⟨RcAt.none_str _ _,EqAt.none_str _ _⟩
 . exact⟨RcAt.bool_none _,EqAt.bool_none _⟩
 . exact⟨RcAt.bool_bool _ _,EqAt.bool_bool _ _⟩
 . exact⟨RcAt.bool_int _ _ _,EqAt.bool_int _ _ _⟩
 . exact⟨RcAt.bool_str _ _ _,EqAt.bool_str _ _ _⟩
 . exact⟨RcAt.int_none _ _,EqAt.int_none _ _⟩
 . exact⟨RcAt.int_bool _ _ _,EqAt.int_bool _ _ _⟩
 . exact⟨RcAt.int_int _ _ _ _,EqAt.int_int _ _ _ _⟩
 . exact⟨RcAt.int_str _ _ _ _,EqAt.int_str _ _ _ _⟩
 . exact⟨RcAt.str_none _ _,EqAt.str_none _ _⟩
 . exact⟨RcAt.str_bool _ _ _,EqAt.str_bool _ _ _⟩
 . exact⟨RcAt.str_int _ _ _ _,EqAt.str_int _ _ _ _⟩
 . exact⟨RcAt.str_str _ _ _ _,EqAt.str_str _ _ _ _⟩
theorem lst_is(I:Inv X pins σ H s){xs:List D}{x:V}{u:Value}(r:Rep α H (.lst xs) x)(rx:RelV x u):∃a vs its,u= .ref a/\aF α H xs vs/\Vals vs its/\s.heap.IsList a its.toArray:=by
 unfold Rep at r;obtain⟨a,vs,rfl,na,ha,ra⟩:=r;cases rx;obtain⟨z,its,n,rv,hl,eo⟩:=Inv.uD I ha;exact⟨a,vs,its,rfl,ra,rv,⟨_,eo,rfl,n,rfl⟩⟩
theorem tup_is(I:Inv X pins σ H s){xs:List D}{x:V}{u:Value}(r:Rep α H (.tup xs) x)(rx:RelV x u):∃a vs its,u= .ref a/\aF α H xs vs/\Vals vs its/\s.heap.IsTuple a its.toArray:=by
 unfold Rep at r;obtain⟨a,vs,rfl,na,ha,ra⟩:=r;cases rx;obtain⟨its,r',p,hz⟩:=I.tuple (jn.of ha);exact⟨a,vs,its,rfl,ra,r',p⟩
theorem wM(I:Inv X pins σ H s){A:Around}{xs:List D}{e:D}{x y:V}{u v:Value}(he:wm e=true)(rd:Rep α H (.lst xs) x)(re:Rep α H e y)(rx:RelV x u)(ry:RelV y v)(hu:A.units<cLine):
 (RcAt A s u v (cS (.lst xs) e)/\EqAt A s u v (cS (.lst xs) e))/\RcAt A s v u (cS e (.lst xs))/\EqAt A s v u (cS e (.lst xs)):=by
 obtain⟨a,vs,its,rfl,_,_,hl⟩:=lst_is I rd rx;cases e<;>try(cases he;done)
 all_goals(unfold Rep at re;subst re)
 all_goals(first|(obtain⟨t,rfl⟩:=ry)|(cases ry))
 all_goals unfold cS
 . exact⟨⟨RcAt.list_none hl hu,EqAt.list_none hl hu⟩,RcAt.none_list hl hu,EqAt.none_list hl hu⟩
 . exact⟨⟨RcAt.list_bool _ hl hu,EqAt.list_bool _ hl hu⟩,RcAt.bool_list _ hl hu,EqAt.bool_list _ hl hu⟩
 . exact⟨⟨RcAt.list_int _ _ hl hu,EqAt.list_int _ _ hl hu⟩,RcAt.int_list _ _ hl hu,EqAt.int_list _ _ hl hu⟩
 . exact⟨⟨RcAt.list_str _ _ hl hu,EqAt.list_str _ _ hl hu⟩,RcAt.str_list _ _ hl hu,EqAt.str_list _ _ hl hu⟩
theorem wN(I:Inv X pins σ H s){A:Around}{xs:List D}{e:D}{x y:V}{u v:Value}(he:wm e=true)(rd:Rep α H (.tup xs) x)(re:Rep α H e y)(rx:RelV x u)(ry:RelV y v)(hu:A.units<cLine):
 (RcAt A s u v (cS (.tup xs) e)/\EqAt A s u v (cS (.tup xs) e))/\RcAt A s v u (cS e (.tup xs))/\EqAt A s v u (cS e (.tup xs)):=by
 obtain⟨a,vs,its,rfl,_,_,hl⟩:=tup_is I rd rx;cases e<;>try(cases he;done)
 all_goals(unfold Rep at re;subst re)
 all_goals(first|(obtain⟨t,rfl⟩:=ry)|(cases ry))
 all_goals unfold cS
 . exact⟨⟨RcAt.tuple_none hl hu,EqAt.tuple_none hl hu⟩,RcAt.none_tuple hl hu,EqAt.none_tuple hl hu⟩
 . exact⟨⟨RcAt.tuple_bool _ hl hu,EqAt.tuple_bool _ hl hu⟩,RcAt.bool_tuple _ hl hu,EqAt.bool_tuple _ hl hu⟩
 . exact⟨⟨RcAt.tuple_int _ _ hl hu,EqAt.tuple_int _ _ hl hu⟩,RcAt.int_tuple _ _ hl hu,EqAt.int_tuple _ _ hl hu⟩
 . exact⟨⟨RcAt.tuple_str _ _ hl hu,EqAt.tuple_str _ _ hl hu⟩,RcAt.str_tuple _ _ hl hu,EqAt.str_tuple _ _ hl hu⟩
theorem AH{A:Around}{n:Nat}{d e:D}{x y:V}{a b:Addr}(hd:pl n d=true)(he:pl n e=true)(rd:Rep α H d x)(re:Rep α H e y)(rx:RelV x (.ref a))(ry:RelV y (.ref b))(h:RcAt A s (.ref a) (.ref b) (cS d e)):
 RcAt A s (.ref a) (.ref b) (cS d e)/\EqAt A s (.ref a) (.ref b) (cS d e):=by
 refine⟨h,?_⟩;by_cases hab:a=b
 . subst hab;have hx:x=y:=RelV.inj rx ry;subst hx;have:=Rep.inj n hd he rd re;subst this;rw[mj n d hd];exact EqAt.same _
 . exact EqAt.of_refs hab h
theorem A4(I:Inv X pins σ H s):∀(n:Nat) (A:Around) (d e:D) (x y:V) (u v:Value),pl n d=true->pl n e=true->Rep α H d x->Rep α H e y->RelV x u->RelV y v->A.units+n<cLine->
 RcAt A s u v (cS d e)/\EqAt A s u v (cS d e):=by
 intro n;induction n with
 |zero=>
  intro A d e x y u v hd he rd re rx ry hu;refine zX ?_ ?_ rd re rx ry
  . cases d<;>first|rfl|(cases hd)
  . cases e<;>first|rfl|(cases he)
 |succ n ih=>
  intro A d e x y u v hd he rd re rx ry hu;have hu0:A.units<cLine:=by omega
  have hin:A.in1.units+n<cLine:=by rw[Around.in1_units];omega
  cases d<;>try(cases hd;done)
  case lst xs=>
   cases e<;>try(cases he;done)
   case lst ys=>
    have rd0:=rd;have re0:=re;have rx0:=rx;have ry0:=ry;obtain⟨a,vs,its,rfl,r1,v1,l1⟩:=lst_is I rd rx;obtain⟨b,ws,jts,rfl,r2,v2,l2⟩:=lst_is I re ry;have e1:=r1.length;have e2:=v1.length;have e3:=r2.length;have e4:=v2.length;refine AH hd he rd0 re0 rx0 ry0 ?_;unfold cS;by_cases hlen:xs.length=ys.length
    . rw[om hlen];have hsz:its.toArray.size=jts.toArray.size:=by simp only[List.size_toArray];omega
      have hx:xs.length=its.toArray.size:=by simp only[List.size_toArray];omega
      rw[hx];refine RcAt.lists l1 l2 hsz hu0 fun j h1 h2=>?_;have h1':j<its.length:=by simpa using h1
      have h2':j<jts.length:=by simpa using h2
      obtain⟨p,_,q1,q2⟩:=kM r1 v1 j h1';obtain⟨p',_,q1',q2'⟩:=kM r2 v2 j h2';exact(ih A.in1 _ _ p p' _ _ (jA (by unfold pl at hd;exact hd) j) (jA (by unfold pl at he;exact he) j) q1 q1' (by simpa using q2) (by simpa using q2') hin).2
    . rw[oh hlen];exact RcAt.lists_lengths l1 l2 (by simp only[List.size_toArray,bne_iff_ne,ne_eq];omega) hu0
   case tup ys=>
    obtain⟨a,vs,its,rfl,r1,v1,l1⟩:=lst_is I rd rx;obtain⟨b,ws,jts,rfl,r2,v2,l2⟩:=tup_is I re ry;unfold cS;exact⟨RcAt.list_tuple l1 l2 hu0,EqAt.list_tuple l1 l2 hu0⟩
   all_goals exact(wM I rfl rd re rx ry hu0).1
  case tup xs=>
   cases e<;>try(cases he;done)
   case tup ys=>
    have rd0:=rd;have re0:=re;have rx0:=rx;have ry0:=ry;obtain⟨a,vs,its,rfl,r1,v1,l1⟩:=tup_is I rd rx;obtain⟨b,ws,jts,rfl,r2,v2,l2⟩:=tup_is I re ry;have e1:=r1.length;have e2:=v1.length;have e3:=r2.length;have e4:=v2.length;refine AH hd he rd0 re0 rx0 ry0 ?_;unfold cS
    have key:=RcAt.tuples (e:=fun j=>cS (xs.getD j .aI) (ys.getD j .aI)) l1 l2 hu0 fun j h1 h2=>by
     have h1':j<its.length:=by simpa using h1
     have h2':j<jts.length:=by simpa using h2
     obtain⟨p,_,q1,q2⟩:=kM r1 v1 j h1';obtain⟨p',_,q1',q2'⟩:=kM r2 v2 j h2';exact(ih A.in1 _ _ p p' _ _ (jA (by unfold pl at hd;exact hd) j) (jA (by unfold pl at he;exact he) j) q1 q1' (by simpa using q2) (by simpa using q2') hin).2
    by_cases hlen:xs.length=ys.length
    . rw[om hlen];have hsz:its.toArray.size=jts.toArray.size:=by simp only[List.size_toArray];omega
      have hx:xs.length=its.toArray.size:=by simp only[List.size_toArray];omega
      rw[hsz,Nat.min_self,beq_self_eq_true,Bool.and_true,<-hsz,<-hx]at key;exact key
    . rw[oh hlen];have hne:(its.toArray.size==jts.toArray.size)=false:=by simp only[List.size_toArray,beq_eq_false_iff_ne,ne_eq];omega
      rw[hne,Bool.and_false]at key;exact key
   case lst ys=>
    obtain⟨a,vs,its,rfl,r1,v1,l1⟩:=tup_is I rd rx;obtain⟨b,ws,jts,rfl,r2,v2,l2⟩:=lst_is I re ry;unfold cS;exact⟨RcAt.tuple_list l1 l2 hu0,EqAt.tuple_list l1 l2 hu0⟩
   all_goals exact(wN I rfl rd re rx ry hu0).1
  all_goals
   cases e<;>try(cases he;done)
   case lst ys=>exact(wM I rfl re rd ry rx hu0).2
   case tup ys=>exact(wN I rfl re rd ry rx hu0).2
   all_goals exact zX rfl rfl rd re rx ry
def Ks:eN:=fun x y st K=>pl 40 x=true/\pl 40 y=true/\K (.bl (cS x y)) st
theorem NJ{k:Nat}(hr:cP k X.A):cz X (compareOp .Eq) (LR Ks):=fun pins s σ H x y v u Q I rx ry ⟨α,d,e,st,K,G,F',P,r1,r2,S,q,k⟩=>by
 have hu:=hr.units;exact(A4 I 40 X.A d e x y v u q.1 q.2.1 (r1.mono P.same) (r2.mono P.same) rx ry (by omega)).1 _ _ _ _ ⟨.bl (cS d e),H,I,rfl,k.here P q.2.2 S (by unfold Rep;rfl)⟩
def Ja:eN:=fun x y st K=>match x,y with
 | .int i,.int j=>K (.bl (!decide (i=j))) st
 | .bl i,.bl j=>K (.bl (!decide (i=j))) st
 | .str i,.str j=>K (.bl (!decide (i=j))) st
 |_,_=>False
theorem NR:cz X (compareOp .NotEq) (LR Ja):=cz.imp Lk fun x y H Q ⟨α,d,e,st,K,G,F',P,r1,r2,S,q,k⟩=>by
 cases d<;>cases e<;>try exact q.elim
 all_goals(unfold Rep at r1 r2;subst r1 r2)
 . exact⟨rfl,k.here P q S (by unfold Rep;congr 2;exact decide_eq_decide.mpr ⟨fun h=>by cases h;rfl,fun h=>by rw[h]⟩)⟩
 . exact⟨rfl,k.here P q S (by unfold Rep;congr 2;exact decide_eq_decide.mpr ⟨fun h=>by cases h;rfl,fun h=>by rw[h]⟩)⟩
 . exact⟨rfl,k.here P q S (by unfold Rep;congr 2;exact decide_eq_decide.mpr ⟨fun h=>by cases h;rfl,fun h=>by rw[h]⟩)⟩
end
end L3
namespace L3
open PySem PySem.Spec L2
open PyProof.Rows hiding St
def LC(α:List (Option Addr))(G F:Hp)(K:cv->af->Prop)(Q:L2.St->Hp->Prop):Prop:=∀σd' st',K σd' st'->∀α' G' H' σ',Step α G α' G'->b_ G' F H'->eL α' G' σd' σ'->aS α' st' G'->Q σ' H'
structure xo(α:List (Option Addr))(G F:Hp)(DD:oP)(D:Ends):Prop where
 nx:LC α G F DD.nx D.nx
 rt:LK α G F DD.rt D.rt
 bk:LC α G F DD.bk D.bk
 ct:LC α G F DD.ct D.ct
inductive MV(t:DS)(D:Ends)(σ:L2.St)(H:Hp):Prop
 |mk (α:List (Option Addr)) (σd:cv) (st:af) (DD:oP) (G F:Hp) (P:b_ G F H) (R:eL α G σd σ) (S:aS α st G) (h:t DD σd st) (k:xo α G F DD D):MV t D σ H
def LS(t:DS):TS:=MV t
theorem LC.at{α α1:List (Option Addr)}{G F G1:Hp}{K:cv->af->Prop}{Q:L2.St->Hp->Prop}(h:LC α G F K Q)(s:Step α G α1 G1):LC α1 G1 F K Q:=fun d st' k α' G' H' v s' P R S=>h d st' k α' G' H' v (s.trans s') P R S
theorem LC.here{α:List (Option Addr)}{G F H:Hp}{K:cv->af->Prop}{Q:L2.St->Hp->Prop}(h:LC α G F K Q)(P:b_ G F H){σd:cv}{st:af}{σ:L2.St}(k:K σd st)(R:eL α G σd σ)(S:aS α st G):Q σ H:=h σd st k α G H σ Step.refl P R S
theorem xo.at{α α1:List (Option Addr)}{G F G1:Hp}{DD:oP}{D:Ends}(h:xo α G F DD D)(s:Step α G α1 G1):xo α1 G1 F DD D:=⟨h.nx.at s,h.rt.at s,h.bk.at s,h.ct.at s⟩
section
variable {X:Cx}{a b c e o i:Expr}{es:List Expr}{ta tb tc te:DE}{pos:Pos}{st:Stmt}{sts:List Stmt}{t u:DS}
theorem PS.imp{t t':TS}(h:PS X st t)(f:∀D σ H,t' D σ H->t D σ H):PS X st t':=fun pins s σ H D I q=>h pins s σ H D I (f D σ H q)
theorem iy.imp{t t':TS}(h:iy X sts t)(f:∀D σ H,t' D σ H->t D σ H):iy X sts t':=fun pins s σ H D I q=>h pins s σ H D I (f D σ H q)
def dJ:DS:=fun D σ st=>D.nx σ st
def aL(t u:DS):DS:=fun D σ st=>t {D with nx:=u D} σ st
theorem GB:iy X [] (LS dJ):=iy.imp GP fun D σ H ⟨α,σd,st,DD,G,F,P,R,S,t,k⟩=>k.nx.here P t R S
theorem HQ(h:PS X st (LS t)):iy X [st] (LS t):=Hu h
theorem EW(h:PS X st (LS t))(h2:iy X sts (LS u)):iy X (st::sts) (LS (aL t u)):=iy.imp (E8 h h2) fun D σ H ⟨α,σd,st,DD,G,F,P,R,S,t,k⟩=>
 ⟨α,σd,st,_,G,F,P,R,S,t,fun σd' st' q α' G' H' σ' s' P' R' S'=>⟨α',σd',st',DD,G',F,P',R',S',q,k.at s'⟩,k.rt,k.bk,k.ct⟩
def cu(te:DE):DS:=fun D σ st=>te σ st D.rt
theorem J4(h:PE X e (LE te)):PS X (.Return (some e) pos) (LS (cu te)):=PS.imp (Jp h) fun D σ H ⟨α,σd,st,DD,G,F,P,R,S,t,k⟩=>⟨α,σd,st,_,G,F,P,R,S,t,k.rt⟩
def fu(te:DE):DS:=fun D σ st=>te σ st fun _ st1=>D.nx σ st1
theorem Ho(h:PE X e (LE te))(hs:swapsWith e none pos.line X.env=pure false:=by rfl):PS X (.Expr e pos) (LS (fu te)):=PS.imp (GI h hs) fun D σ H ⟨α,σd,st,DD,G,F,P,R,S,t,k⟩=>
 ⟨α,σd,st,_,G,F,P,R,S,t,fun d st1 q α1 G1 H1 v s1 P1 S1 r1=>(k.nx.at s1).here P1 q (R.step s1) S1⟩
def eV(c:DT)(t u:DS):DS:=fun D σ st=>c σ st fun b st1=>if b=true then t D σ st1 else u D σ st1
theorem Lj{x y:List Stmt}{tc:DT}(hc:PT X c (LT tc))(ha:iy X x (LS t))(hb:iy X y (LS u)):PS X (.If c x y pos) (LS (eV tc t u)):=PS.imp (Lg hc ha hb) fun D σ H ⟨α,σd,st,DD,G,F,P,R,S,t,k⟩=>by
 refine⟨α,σd,st,_,G,F,P,R,S,t,fun b st1 q α1 G1 H1 s1 P1 S1=>?_⟩;cases b with
 |true=>exact⟨α1,σd,st1,DD,G1,F,P1,R.step s1,S1,q,k.at s1⟩
 |false=>exact⟨α1,σd,st1,DD,G1,F,P1,R.step s1,S1,q,k.at s1⟩
abbrev fQ:=D->cv->Option cv
def bP(i:Nat):fQ:=fun d σ=>some (σ.set i (some d))
def kU(i j:Nat):fQ:=fun d σ=>match d with| .tup [x,y]=>some ((σ.set i (some x)).set j (some y))|_=>none
inductive MT(t:fQ)(v:V)(σ:L2.St)(H:Hp)(Q:L2.St->Hp->Prop):Prop
 |mk (α:List (Option Addr)) (σd:cv) (st:af) (d:D) (K:cv->af->Prop) (G F:Hp) (P:b_ G F H) (R:eL α G σd σ) (S:aS α st G) (r:Rep α G d v) (h:∃σ',t d σd=some σ'/\K σ' st) (k:LC α G F K Q):MT t v σ H Q
def LG(t:fQ):TG:=MT t
theorem PG.imp{tg:Expr}{t t':TG}(h:PG X tg t)(f:∀v σ H Q,t' v σ H Q->t v σ H Q):PG X tg t':=fun pins s σ H v u Q I r q=>h pins s σ H v u Q I r (f v σ H Q q)
theorem Hk{tg:Expr}{i:Nat}(h:PG X tg (iF i)):PG X tg (LG (bP i)):=PG.imp h fun v σ H Q ⟨α,σd,st,d,K,G,F,P,R,S,r,⟨σ',e,q⟩,k⟩=>by
 cases e;exact k.here P q (R.set i r) S
theorem IU{tg:Expr}{i j:Nat}(h:PG X tg (Fl X.K 2 (oF (iF i) (oF (iF j) Eo)))):PG X tg (LG (kU i j)):=PG.imp h fun v σ H Q ⟨α,σd,st,d,K,G,F,P,R,S,r,⟨σ',e,q⟩,k⟩=>by
 unfold kU at e;split at e
 . rename_i x y;cases e;unfold Rep at r;obtain⟨a,vs,rfl,na,h1,h2⟩:=r;obtain⟨v1,v2,rfl,r1,r2⟩:=oZ h2 rfl;exact⟨a,_,rfl,.of (P.get h1),rfl,v1,_,rfl,v2,_,rfl,rfl,k.here P q ((R.set i r1).set j r2) S⟩
 . cases e
def cJ(i:Nat)(te:DE):DS:=fun D σ st=>te σ st fun d st1=>D.nx (σ.set i (some d)) st1
theorem Jq{i:Nat}(h:PS X st (nZ (LE te) (iF i))):PS X st (LS (cJ i te)):=PS.imp h fun D σ H ⟨α,σd,st,DD,G,F,P,R,S,t,k⟩=>
 ⟨α,σd,st,_,G,F,P,R,S,t,fun d st1 q α1 G1 H1 v s1 P1 S1 r1=>(k.nx.at s1).here P1 q ((R.step s1).set i r1) S1⟩
def Fi(tg:fQ)(te:DE):DS:=fun D σ st=>te σ st fun d st1=>∃σ',tg d σ=some σ'/\D.nx σ' st1
theorem Ip{tg:fQ}(h:PS X st (nZ (LE te) (LG tg))):PS X st (LS (Fi tg te)):=PS.imp h fun D σ H ⟨α,σd,st,DD,G,F,P,R,S,t,k⟩=>
 ⟨α,σd,st,_,G,F,P,R,S,t,fun d st1 q α1 G1 H1 v s1 P1 S1 r1=>⟨α1,σd,st1,d,DD.nx,G1,F,P1,R.step s1,S1,r1,q,k.nx.at s1⟩⟩
def yq(i j:Nat)(ta:DA):DS:=fun D σ st=>ta σ st fun ds st1=>match ds with| [x,y]=>D.nx ((σ.set i (some x)).set j (some y)) st1|_=>False
theorem Ib{i j:Nat}{ta:DA}(h:PS X st (Il i j (LA ta))):PS X st (LS (yq i j ta)):=PS.imp h fun D σ H ⟨α,σd,st,DD,G,F,P,R,S,t,k⟩=>by
 refine⟨α,σd,st,_,G,F,P,R,S,t,fun ds st1 q α1 G1 H1 vs s1 P1 S1 r1=>?_⟩;match ds,q,r1 with
 | [x,y],q,r1=>
   obtain⟨v1,v2,rfl,q1,q2⟩:=oZ r1 rfl;exact⟨v1,v2,rfl,(k.nx.at s1).here P1 q (((R.step s1).set i q1).set j q2) S1⟩
def BY(i:Nat)(r:eN)(te:DE):DS:=fun D σ st=>match σ[i]? with|some (some x)=>te σ st fun y st1=>r x y st1 fun z st2=>D.nx (σ.set i (some z)) st2|_=>False
def zo(f:Int->Int->Int):eN:=fun x y st K=>match x,y with| .int i,.int j=>K (.int (f i j)) st|_,_=>False
theorem JP{i:Nat}{f:Int->Int->Int}(h:PS X st (H0 i (LE te) (IS f))):PS X st (LS (BY i (zo f) te)):=PS.imp h fun D σ H ⟨α,σd,st,DD,G,F,P,R,S,t,k⟩=>by
 unfold BY at t;split at t
 . rename_i x e;obtain⟨v,ev,rv⟩:=R.at' i x e;refine⟨v,ev,α,σd,st,_,G,F,P,R,S,t,fun y st1 q α1 G1 H1 w s1 P1 S1 r1=>?_⟩;cases x<;>cases y<;>try exact q.elim
   have rv':=rv;unfold Rep at rv r1;exact⟨_,_,rv,r1,(k.nx.at s1).here P1 q ((R.step s1).set i (by unfold Rep;rfl)) S1⟩
 . exact t.elim
def BU(x y d:D)(st:af)(K:af->Prop):Prop:=match x,y with
 | .ref n,.int k=>(match st[n]? with
   |some (.lst xs)=>(match nR xs.length k with|some j=>K (st.set n (.lst (xs.set j d)))|none=>False)
   |_=>False)
 |_,_=>False
def Km(to ti te:DE):DS:=fun D σ st=>te σ st fun d st1=>to σ st1 fun x st2=>ti σ st2 fun y st3=>BU x y d st3 fun st4=>D.nx σ st4
theorem D9{to ti:DE}(h:PS X st (nZ (LE te) (BZ (LE to) (LE ti) xn))):PS X st (LS (Km to ti te)):=PS.imp h fun D σ H ⟨α,σd,st,DD,G,F,P,R,S,t,k⟩=>by
 refine⟨α,σd,st,_,G,F,P,R,S,t,fun d st1 q α1 G1 H1 v s1 P1 S1 r1=>?_⟩;refine⟨α1,σd,st1,_,G1,F,P1,R.step s1,S1,q,fun x st2 q2 α2 G2 H2 v2 s2 P2 S2 r2=>?_⟩;refine⟨α2,σd,st2,_,G2,F,P2,(R.step s1).step s2,S2,q2,fun y st3 q3 α3 G3 H3 v3 s3 P3 S3 r3=>?_⟩;cases x<;>cases y<;>try exact q3.elim
 rename_i n kk;unfold BU at q3;simp only at q3;split at q3
 . rename_i xs e;split at q3
   . rename_i j ej;obtain⟨p,ep,vs,hv,rv⟩:=S3.lH e;have r2':=f9 ep (r2.step s3);subst r2';unfold Rep at r3;have hm:some p∈α3:=List.mem_of_getElem? ep;have rd:=(r1.step s2).step s3;refine⟨p,vs,kk,j,rfl,r3,P3.get hv,by rw[<-rv.length];exact ej,?_⟩;refine(((k.nx.at s1).at s2).at s3) σd _ q3 α3 (upd G3 p (.lst (vs.set j v))) _ σ (Step.write hm) (P3.write hv) ((((R.step s1).step s2).step s3).step (Step.write hm)) ?_;exact S3.write ep ⟨vs.set j v,aU,(bI.mpr (u_ rd j (bI.mp rv))).step (Step.write hm)⟩
   . exact q3.elim
 . exact q3.elim
def uF(c:DT)(tb:DS):DS:=fun D σ st=>∃W:Nat->cv->af->Prop,(∃m,W m σ st)/\∀m σ st,W m σ st->
 c σ st fun b st1=>if b=true then tb {D with nx:=fun σ' st'=>∃m',m'<m/\W m' σ' st',ct:=fun σ' st'=>∃m',m'<m/\W m' σ' st',bk:=D.nx} σ st1 else D.nx σ st1
theorem Fe{tc:DT}(h:PS X st (Cj (LT tc) (LS t))):PS X st (LS (uF tc t)):=PS.imp h fun D σ H ⟨α,σd,st,DD,G,F,P,R,S,⟨W,⟨m0,w0⟩,turn⟩,k⟩=>by
 refine⟨fun m σ' H'=>∃α' σd' st' G',Step α G α' G'/\b_ G' F H'/\eL α' G' σd' σ'/\aS α' st' G'/\W m σd' st',⟨m0,α,σd,st,G,Step.refl,P,R,S,w0⟩,?_⟩;rintro m σ1 H1 ⟨α1,σd1,st1,G1,s1,P1,R1,S1,w1⟩;refine⟨α1,σd1,st1,_,G1,F,P1,R1,S1,turn m σd1 st1 w1,fun b st2 q α2 G2 H2 s2 P2 S2=>?_⟩;cases b with
 |false=>exact((k.nx.at s1).at s2).here P2 q (R1.step s2) S2
 |true=>
  refine⟨fun σ' H'=>∃m',m'<m/\∃α' σd' st' G',Step α G α' G'/\b_ G' F H'/\eL α' G' σd' σ'/\aS α' st' G'/\W m' σd' st',fun σ' H' z=>z,?_⟩;refine⟨α2,σd1,st2,_,G2,F,P2,R1.step s2,S2,q,?_⟩;refine⟨?_,(k.rt.at s1).at s2,(k.nx.at s1).at s2,?_⟩
  . rintro σd3 st3 ⟨m',hm,w3⟩ α3 G3 H3 σ3 s3 P3 R3 S3;exact⟨m',hm,α3,σd3,st3,G3,(s1.trans s2).trans s3,P3,R3,S3,w3⟩
  . rintro σd3 st3 ⟨m',hm,w3⟩ α3 G3 H3 σ3 s3 P3 R3 S3;exact⟨m',hm,α3,σd3,st3,G3,(s1.trans s2).trans s3,P3,R3,S3,w3⟩
abbrev DI:=cv->af->(List D->(af->Prop)->af->Prop)->Prop
structure vQ(J:It)(α:List (Option Addr))(G:Hp)(ok:af->Prop)(xs:List D):Prop where
 stop:∀(n:Nat) α' G' F' H' st',Step α G α' G'->b_ G' F' H'->aS α' st' G'->ok st'->xs.length<=n->J.stop n H'
 go:∀(n:Nat) d α' G' F' H' st',Step α G α' G'->b_ G' F' H'->aS α' st' G'->ok st'->xs[n]?=some d->J.go n H'
 pP:∀(n:Nat) d α' G' F' H' st' x H'',Step α G α' G'->b_ G' F' H'->aS α' st' G'->ok st'->xs[n]?=some d->J.pP n H' x H''->∃G'',Step α' G' α' G''/\b_ G'' F' H''/\aS α' st' G''/\Rep α' G'' d x
def LI(t:DI):TI:=fun σ H R=>∃α σd st K G F,b_ G F H/\eL α G σd σ/\aS α st G/\t σd st K/\∀xs ok st1,K xs ok st1->∀J α1 G1 H1,Step α G α1 G1->b_ G1 F H1->aS α1 st1 G1->vQ J α1 G1 ok xs->R J H1
def zt(d:D)(st1:af)(K:List D->(af->Prop)->af->Prop):Prop:=match d with
 | .lst xs=>K xs (fun _=>True) st1
 | .tup xs=>K xs (fun _=>True) st1
 | .ref n=>(match st1[n]? with|some (.lst xs)=>K xs (fun st'=>st'[n]?=some (.lst xs)) st1|_=>False)
 |_=>False
def K0(t:DE):DI:=fun σ st K=>t σ st fun d st1=>zt d st1 K
theorem Aw{K:PySem.W.Frag}{a:Addr}{α:List (Option Addr)}{G:Hp}{ok:af->Prop}{xs:List D}
 (h:∀α' G' st',Step α G α' G'->aS α' st' G'->ok st'->∃vs,Rd G' a (.lst vs)/\aF α' G' xs vs):vQ (J0 K a) α G ok xs where
 stop:=fun n α' G' F' H' st' s P S o hn=>by
  obtain⟨vs,h1,h2⟩:=h α' G' st' s S o;exact⟨vs,.inl (hW P h1),by rw[<-h2.length];exact hn⟩
 go:=fun n d α' G' F' H' st' s P S o hn=>by
  obtain⟨vs,h1,h2⟩:=h α' G' st' s S o;obtain⟨v,e,_⟩:=h2.get hn;exact⟨vs,v,.inl (hW P h1),e⟩
 pP:=fun n d α' G' F' H' st' x H'' s P S o hn y=>by
  obtain⟨vs,h1,h2⟩:=h α' G' st' s S o;obtain⟨v,e,r⟩:=h2.get hn;obtain⟨rfl,y⟩:=y;have:=y vs (.inl (hW P h1));rw[e]at this;cases this;exact⟨G',Step.refl,P,S,r⟩
theorem Jj{K:PySem.W.Frag}{a:Addr}{α:List (Option Addr)}{G:Hp}{ok:af->Prop}{xs:List D}
 (h:∀α' G' st',Step α G α' G'->aS α' st' G'->ok st'->∃vs,G' a=some (.tup vs)/\aF α' G' xs vs):vQ (Ij K a) α G ok xs where
 stop:=fun n α' G' F' H' st' s P S o hn=>by
  obtain⟨vs,h1,h2⟩:=h α' G' st' s S o;exact⟨vs,.of (P.get h1),by rw[<-h2.length];exact hn⟩
 go:=fun n d α' G' F' H' st' s P S o hn=>by
  obtain⟨vs,h1,h2⟩:=h α' G' st' s S o;obtain⟨v,e,_⟩:=h2.get hn;exact⟨vs,v,.of (P.get h1),e⟩
 pP:=fun n d α' G' F' H' st' x H'' s P S o hn y=>by
  obtain⟨vs,h1,h2⟩:=h α' G' st' s S o;obtain⟨v,e,r⟩:=h2.get hn;obtain⟨rfl,y⟩:=y;have:=y vs (.of (P.get h1));rw[e]at this;cases this;exact⟨G',Step.refl,P,S,r⟩
theorem Fm{α α':List (Option Addr)}{G G':Hp}{a:Addr}{vs:List V}{xs:List D}(s:Step α G α' G')(na:some a∉α)(h1:Rd G a (.lst vs))(h2:aF α G xs vs):Rd G' a (.lst vs)/\aF α' G' xs vs:=by
 refine⟨?_,h2.step s⟩;rcases h1 with h|⟨o,h⟩
 . exact .inl (s.ext _ _ na h)
 . exact .inr ⟨o,s.ext _ _ na h⟩
theorem JY{l tg:Expr}{tl:DE}(hl:PE X l (LE tl)):PI X tg l (LI (K0 tl)):=by
 intro pins s σ H R I h;obtain⟨α,σd,st,K,G,F,P,RS,S,t,k⟩:=h;refine bQ (hl pins s σ H (fun x H1=>∃d α1 G1 st1,Step α G α1 G1/\b_ G1 F H1/\aS α1 st1 G1/\Rep α1 G1 d x/\zt d st1 K) I ⟨α,σd,st,_,G,F,P,RS,S,t,fun d st1 q α1 G1 H1 v s1 P1 S1 r1=>⟨d,α1,G1,st1,s1,P1,S1,r1,q⟩⟩) fun v s1 ⟨x,H1,I1,rx,d,α1,G1,st1,s1',P1,S1,r1,q⟩=>?_;unfold zt at q
 have viaL:∀ {a:Addr} {vs:List V},x= .ref a->Rd H1 a (.lst vs)->R (J0 X.K a) H1->wpAny (model X.prog X.w) X.A (pyIter v) (Gj X pins σ tg R) X.xe s1:=by
  intro a vs ex hr hR;subst ex;cases rx;obtain⟨its,rv,p,hz⟩:=I1.list (.inl hr);refine wpAny_pyIter_list p.isList ?_;refine⟨s1.heap.objs.size,[s1.heap.objs.size],_,_,H1,rfl,I1.kept (t':=s1.toks) fun b o e=>Heap.get?_push_of_some _ e,Dx a _,⟨_,Heap.get?_push_size _ rfl,rfl,rfl⟩,fun b hb=>?_,hR⟩;have e:b=s1.heap.objs.size:=by simpa using hb
  subst e;exact I1.vS (Nat.le_refl _) (I1.aK.fresh (Nat.le_refl _))
 have viaT:∀ {a:Addr} {vs:List V},x= .ref a->H1 a=some (.tup vs)->R (Ij X.K a) H1->wpAny (model X.prog X.w) X.A (pyIter v) (Gj X pins σ tg R) X.xe s1:=by
  intro a vs ex hr hR;subst ex;cases rx;obtain⟨its,rv,p,hz⟩:=I1.tuple (jn.of hr);refine wpAny_pyIter_tuple (show s1.heap.IsTuple a its.toArray from p) ?_;refine⟨s1.heap.objs.size,[s1.heap.objs.size],_,_,H1,rfl,I1.kept (t':=s1.toks) fun b o e=>Heap.get?_push_of_some _ e,AL a _,⟨_,Heap.get?_push_size _ rfl,rfl,rfl⟩,fun b hb=>?_,hR⟩;have e:b=s1.heap.objs.size:=by simpa using hb
  subst e;exact I1.vS (Nat.le_refl _) (I1.aK.fresh (Nat.le_refl _))
 cases d<;>try exact q.elim
 . rename_i n;simp only at q;split at q
   . rename_i xs e;obtain⟨a,ea,vs,h1,h2⟩:=S1.lH e;have r1':=f9 ea r1;subst r1';refine viaL rfl (hW P1 (.of h1)) (k _ _ st1 q _ α1 G1 H1 s1' P1 S1 (Aw fun α' G' st' s S o=>?_));obtain⟨b,eb,ws,g1,g2⟩:=S.lH o
     have hb:b=a:=by
      rcases s.pre _ _ ea with z|z<;>(rw[z]at eb;cases eb)
      rfl
     subst hb;exact⟨ws,.of g1,g2⟩
   . exact q.elim
 . unfold Rep at r1;obtain⟨a,vs,rfl,na,ha,ra⟩:=r1;exact viaL rfl (hW P1 ha) (k _ _ st1 q _ α1 G1 H1 s1' P1 S1 (Aw fun α' G' st' s S o=>⟨vs,Fm s na ha ra⟩))
 . unfold Rep at r1;obtain⟨a,vs,rfl,na,ha,ra⟩:=r1;exact viaT rfl (P1.get ha) (k _ _ st1 q _ α1 G1 H1 s1' P1 S1 (Jj fun α' G' st' s S o=>⟨vs,s.ext _ _ na ha,ra.step s⟩))
def eF(lo:Int)(n:Nat):List D:=(List.range n).map fun(k:Nat)=>D.int (lo+(k:Int))
theorem uT{lo:Int}{n k:Nat}:(eF lo n)[k]?=if k<n then some (.int (lo+(k:Int)))else none:=by
 unfold eF;rw[List.getElem?_map];by_cases h:k<n
 . rw[List.getElem?_range h,if_pos h];rfl
 . rw[List.getElem?_eq_none (by simpa using h),if_neg h];rfl
theorem dq{lo:Int}{n:Nat}:(eF lo n).length=n:=by unfold eF;simp
theorem yJ{α:List (Option Addr)}{G:Hp}{lo:Int}{n:Nat}:vQ (wk lo n) α G (fun _=>True) (eF lo n) where
 stop:=fun m α' G' F' H' st' s P S o hn=>by rw[dq]at hn;exact hn
 go:=fun m d α' G' F' H' st' s P S o hn=>by
  rw[uT]at hn;split at hn
  . assumption
  . cases hn
 pP:=fun m d α' G' F' H' st' x H'' s P S o hn y=>by
  obtain⟨rfl,rfl⟩:=y;rw[uT]at hn;split at hn
  . cases hn;exact⟨G',Step.refl,P,S,by unfold Rep;rfl⟩
  . cases hn
theorem PI.imp{tg iter:Expr}{t t':TI}(h:PI X tg iter t)(f:∀σ H R,t' σ H R->t σ H R):PI X tg iter t':=fun pins s σ H R I q=>h pins s σ H R I (f σ H R q)
def F3(ds:List D)(st1:af)(K:List D->(af->Prop)->af->Prop):Prop:=match ds with
 | [.int j]=>(-(2^62)<=j/\j<2^62)/\K (eF 0 j.toNat) (fun _=>True) st1
 |_=>False
def Fy(ds:List D)(st1:af)(K:List D->(af->Prop)->af->Prop):Prop:=match ds with
 | [.int i,.int j]=>(-(2^62)<=i/\i<2^62/\ -(2^62)<=j/\j<2^62)/\K (eF i (j-i).toNat) (fun _=>True) st1
 |_=>False
def GR(t:DA):DI:=fun σ st K=>t σ st fun ds st1=>F3 ds st1 K
def G9(t:DA):DI:=fun σ st K=>t σ st fun ds st1=>Fy ds st1 K
theorem CK{tg iter:Expr}{t:DA}(h:PI X tg iter (By (LA t))):PI X tg iter (LI (GR t)):=PI.imp h fun σ H R ⟨α,σd,st,K,G,F,P,RS,S,t,k⟩=>by
 refine⟨α,σd,st,_,G,F,P,RS,S,t,fun ds st1 q α1 G1 H1 vs s1 P1 S1 r1=>?_⟩;match ds,q,r1 with
 | [.int j],q,r1=>
   obtain⟨v,rfl,r2⟩:=iO r1 rfl;unfold Rep at r2;subst r2;exact⟨j,rfl,q.1.1,q.1.2,k _ _ st1 q.2 _ α1 G1 H1 s1 P1 S1 yJ⟩
theorem DG{tg iter:Expr}{t:DA}(h:PI X tg iter (A6 (LA t))):PI X tg iter (LI (G9 t)):=PI.imp h fun σ H R ⟨α,σd,st,K,G,F,P,RS,S,t,k⟩=>by
 refine⟨α,σd,st,_,G,F,P,RS,S,t,fun ds st1 q α1 G1 H1 vs s1 P1 S1 r1=>?_⟩;match ds,q,r1 with
 | [.int i,.int j],q,r1=>
   obtain⟨v,u,rfl,r2,r3⟩:=oZ r1 rfl;unfold Rep at r2 r3;subst r2 r3;exact⟨i,j,rfl,q.1,k _ _ st1 q.2 _ α1 G1 H1 s1 P1 S1 yJ⟩
def jC(tg:fQ)(body:DS)(ok:af->Prop)(E:oP):List D->cv->af->Prop
 | [],σ,st=>ok st/\E.nx σ st
 |x::xs,σ,st=>ok st/\∃σ1,tg x σ=some σ1/\body {E with nx:=jC tg body ok E xs,ct:=jC tg body ok E xs,bk:=E.nx} σ1 st
def kE(src:DI)(tg:fQ)(body:DS):DS:=fun D σ st=>src σ st fun xs ok st1=>jC tg body ok D xs σ st1
theorem IV{src:DI}{tg:fQ}(h:PS X st (Kf (LI src) (LG tg) (LS t))):PS X st (LS (kE src tg t)):=PS.imp h fun D σ H ⟨α,σd,st,DD,G,F,P,R,S,tt,k⟩=>by
 refine⟨α,σd,st,_,G,F,P,R,S,tt,fun xs ok st1 q J α1 G1 H1 s1 P1 S1 it=>?_⟩;refine⟨fun i m σ' H'=>∃α' σd' st' G',Step α1 G1 α' G'/\b_ G' F H'/\eL α' G' σd' σ'/\aS α' st' G'/\jC tg t ok DD (xs.drop i) σd' st'/\m=xs.length-i,⟨xs.length,α1,σd,st1,G1,Step.refl,P1,R.step s1,S1,q,rfl⟩,?_⟩;rintro i m σ2 H2 ⟨α2,σd2,st2,G2,s2,P2,R2,S2,q2,rfl⟩;cases e:xs[i]? with
 |none=>
  have hl:xs.length<=i:=List.getElem?_eq_none_iff.mp e;rw[List.drop_eq_nil_of_le hl]at q2;unfold jC at q2;exact .inl ⟨it.stop i α2 G2 F H2 st2 s2 P2 S2 q2.1 hl,((k.nx.at s1).at s2).here P2 q2.2 R2 S2⟩
 |some d=>
  have hl:i<xs.length:=(List.getElem?_eq_some_iff.mp e).1
  have ed:xs.drop i=d::xs.drop (i+1):=by
   rw[List.drop_eq_getElem_cons hl];congr 1;rw[List.getElem?_eq_getElem hl]at e;exact Option.some.inj e
  rw[ed]at q2;unfold jC at q2;obtain⟨aK,σ3,e3,q3⟩:=q2;refine .inr ⟨it.go i d α2 G2 F H2 st2 s2 P2 S2 aK e,fun σ' H'=>∃α' σd' st' G',Step α1 G1 α' G'/\b_ G' F H'/\eL α' G' σd' σ'/\aS α' st' G'/\jC tg t ok DD (xs.drop (i+1)) σd' st',?_,?_⟩
  . rintro σ' H' ⟨α',σd',st',G',z1,z2,z3,z4,z5⟩;exact⟨xs.length-(i+1),by omega,α',σd',st',G',z1,z2,z3,z4,z5,rfl⟩
  . intro x H' y;obtain⟨G3,s3,P3,S3,r3⟩:=it.pP i d α2 G2 F H2 st2 x H' s2 P2 S2 aK e y;refine⟨α2,σd2,st2,d,fun σ' st'=>σ'=σ3/\st'=st2,G3,F,P3,R2.step s3,S3,r3,⟨σ3,e3,rfl,rfl⟩,?_⟩;rintro σ' st' ⟨rfl,rfl⟩ α4 G4 H4 σ4 s4 P4 R4 S4;have s24:=(s2.trans s3).trans s4;refine⟨α4,σ',st',_,G4,F,P4,R4,S4,q3,?_,((k.rt.at s1).at s24),(k.nx.at s1).at s24,?_⟩
    . intro σd5 st5 q5 α5 G5 H5 σ5 s5 P5 R5 S5;exact⟨α5,σd5,st5,G5,s24.trans s5,P5,R5,S5,q5⟩
    . intro σd5 st5 q5 α5 G5 H5 σ5 s5 P5 R5 S5;exact⟨α5,σd5,st5,G5,s24.trans s5,P5,R5,S5,q5⟩
end
def iu(fr:List (Option Nat))(σ:cv):cv:=fr.map fun o=>o.bind fun j=>(σ[j]?).join
theorem eL.comp{α:List (Option Addr)}{G:Hp}{σd:cv}{σ:L2.St}{fr:List (Option Nat)}(h:eL α G σd σ):eL α G (iu fr σd) (σC fr σ):=by
 refine⟨by unfold iu σC;simp,fun i d e=>?_⟩;unfold iu at e;rw[List.getElem?_map]at e;cases q:fr[i]? with
 |none=>rw[q]at e;cases e
 |some o=>
  rw[q]at e;cases o with
  |none=>simp at e
  |some j=>
   simp only[Option.map_some,Option.some.injEq,Option.bind_some]at e
   have ej:σd[j]?=some (some d):=by
    cases r:σd[j]? with
    |none=>rw[r]at e;cases e
    |some u=>rw[r]at e;simp at e;rw[e]
   obtain⟨v,ev,rv⟩:=h.at' j d ej;refine⟨v,?_,rv⟩;unfold σC;rw[List.getElem?_map,q];simp[ev]
def c9(tg:fQ)(c:DT)(te:DE)(ok:af->Prop)(σc:cv):List D->List D->af->(List D->af->Prop)->Prop
 | [],acc,st,K=>ok st/\K acc st
 |x::xs,acc,st,K=>ok st/\∃σ2,tg x σc=some σ2/\c σ2 st fun b st1=>if b=true then te σ2 st1 fun y st2=>c9 tg c te ok σc xs (acc++[y]) st2 K else c9 tg c te ok σc xs acc st1 K
def dm(src:DI)(fr:List (Option Nat))(tg:fQ)(c:DT)(te:DE):DE:=fun σ st K=>src σ st fun xs ok st1=>xs.length<=sizeLine/\c9 tg c te ok (iu fr σ) xs [] st1 fun ys st2=>K (.lst ys) st2
def mS(src:DI)(fr:List (Option Nat))(tg:fQ)(c:DT)(te:DE):DE:=fun σ st K=>src σ st fun xs ok st1=>xs.length<=sizeLine/\c9 tg c te ok (iu fr σ) xs [] st1 fun ys st2=>K (.ref st2.length) (st2++[.lst ys])
def cB:DT:=fun _ st K=>K true st
def qR(fr:List (Option Nat))(tg:fQ):Prop:=∀(σ:cv) (d:D) (σ2:cv),tg d (iu fr σ)=some σ2->σ2.length=(iu fr σ).length/\∀(i:Nat) (e:D),(iu fr σ)[i]?=some (some e)->σ2[i]?=some (some e)
theorem rO{fr:List (Option Nat)}{σ:cv}{k:Nat}(h:fr[k]?=some none){e:D}(q:(iu fr σ)[k]?=some (some e)):False:=by
 unfold iu at q;rw[List.getElem?_map,h]at q;simp at q
theorem cm{fr:List (Option Nat)}{k:Nat}(h:fr[k]?=some none:=by rfl):qR fr (bP k):=fun σ d σ2 e=>by
 cases e;refine⟨List.length_set,fun i x q=>?_⟩;by_cases hi:i=k
 . subst hi;exact(rO h q).elim
 . rw[List.getElem?_set_ne (Ne.symm hi)];exact q
theorem sY{fr:List (Option Nat)}{k j:Nat}(h:fr[k]?=some none:=by rfl)(h':fr[j]?=some none:=by rfl):qR fr (kU k j):=fun σ d σ2 e=>by
 unfold kU at e;split at e
 . cases e;refine⟨by rw[List.length_set,List.length_set],fun i x q=>?_⟩;by_cases hi:i=k
   . subst hi;exact(rO h q).elim
   . by_cases hj:i=j
     . subst hj;exact(rO h' q).elim
     . rw[List.getElem?_set_ne (Ne.symm hj),List.getElem?_set_ne (Ne.symm hi)];exact q
 . cases e
section
variable {X:Cx}
theorem IZ{c:Expr}{t:DT}(h:PT X c (LT t)):rG X [c] (LT t):=HP h
theorem EU:rG X [] (LT cB):=fun pins s σ H Q I ⟨α,σd,st,K,G,F,P,R,S,t,k⟩=>HR pins s σ H Q I (k true st t α G H Step.refl P S)
theorem LE.comp{src:DI}{fr:List (Option Nat)}{tg:fQ}{c:DT}{te:DE}(fit:qR fr tg){σ:L2.St}{H:Hp}{Q:VK}{α:List (Option Addr)}{σd:cv}{st:af}{KE:List D->af->Prop}{G F:Hp}(P:b_ G F H)(R:eL α G σd σ)(S:aS α st G)
 (t:src σd st fun xs ok st1=>xs.length<=sizeLine/\c9 tg c te ok (iu fr σd) xs [] st1 KE)
 (fin:∀ys st2 α2 G2 H2 l vs,KE ys st2->Step α G α2 G2->b_ G2 (upd F l (.lst vs)) H2->F l=none->aS α2 st2 G2->aF α2 G2 ys vs->Q (.ref l) H2):
 sW (LI src) fr (LG tg) (LT c) (LE te) σ H Q:=by
 refine⟨α,σd,st,_,G,F,P,R,S,t,fun xs ok st1 q J α1 G1 H1 s1 P1 S1 it l hl=>?_⟩;obtain⟨hsz,q⟩:=q;obtain⟨hG,hF⟩:=P1.none hl
 refine⟨fun i m σ' H'=>∃α' st' G' acc vs,Step α1 G1 α' G'/\b_ G' (upd F l (.lst vs)) H'/\eL α' G' (iu fr σd) σ'/\aS α' st' G'/\aF α' G' acc vs/\acc.length<=i/\i<=xs.length/\c9 tg c te ok (iu fr σd) (xs.drop i) acc st' KE/\m=xs.length-i,
  ⟨xs.length,α1,st1,G1,[],[],Step.refl,P1.hide hl,(R.step s1).comp,S1,by unfold aF;rfl,Nat.le_refl _,Nat.zero_le _,q,rfl⟩,?_⟩
 rintro i m σ2 H2 ⟨α2,st2,G2,acc,vs,s2,P2,R2,S2,ra,hacc,hi,q2,rfl⟩;cases e:xs[i]? with
 |none=>
  have hl2:xs.length<=i:=List.getElem?_eq_none_iff.mp e;rw[List.drop_eq_nil_of_le hl2]at q2;unfold c9 at q2;exact .inl ⟨it.stop i α2 G2 _ H2 st2 s2 P2 S2 q2.1 hl2,fin acc st2 α2 G2 H2 l vs q2.2 (s1.trans s2) P2 hF S2 ra⟩
 |some d=>
  have hl2:i<xs.length:=(List.getElem?_eq_some_iff.mp e).1
  have ed:xs.drop i=d::xs.drop (i+1):=by
   rw[List.drop_eq_getElem_cons hl2];congr 1;rw[List.getElem?_eq_getElem hl2]at e;exact Option.some.inj e
  rw[ed]at q2;unfold c9 at q2;obtain⟨aK,σ3,e3,q3⟩:=q2;refine .inr ⟨it.go i d α2 G2 _ H2 st2 s2 P2 S2 aK e,fun σ' H'=>∃α' st' G' acc vs,Step α1 G1 α' G'/\b_ G' (upd F l (.lst vs)) H'/\eL α' G' (iu fr σd) σ'/\aS α' st' G'/\aF α' G' acc vs/\acc.length<=i+1/\c9 tg c te ok (iu fr σd) (xs.drop (i+1)) acc st' KE,?_,?_⟩
  . rintro σ' H' ⟨α',st',G',acc',vs',z1,z2,z3,z4,z5,z6,z7⟩;exact⟨xs.length-(i+1),by omega,α',st',G',acc',vs',z1,z2,z3,z4,z5,z6,hl2,z7,rfl⟩
  . intro x H' y;obtain⟨G3,s3,P3,S3,r3⟩:=it.pP i d α2 G2 _ H2 st2 x H' s2 P2 S2 aK e y;refine⟨α2,iu fr σd,st2,d,fun σ' st'=>σ'=σ3/\st'=st2,G3,_,P3,R2.step s3,S3,r3,⟨σ3,e3,rfl,rfl⟩,?_⟩;rintro σ' st' ⟨rfl,rfl⟩ α4 G4 H4 σ4 s4 P4 R4 S4;have s24:=(s2.trans s3).trans s4;have Rc:eL α4 G4 (iu fr σd) σ4:=⟨by rw[<-(fit σd d σ' e3).1];exact R4.len,fun j z hz=>R4.at' j z ((fit σd d σ' e3).2 j z hz)⟩
    refine⟨α4,σ',st',_,G4,_,P4,R4,S4,q3,fun b st5 q5 α5 G5 H5 s5 P5 S5=>?_⟩;cases b with
    |false=>exact⟨α5,st5,G5,acc,vs,s24.trans s5,P5,Rc.step s5,S5,((ra.step s3).step s4).step s5,by omega,q5⟩
    |true=>
     refine⟨α5,σ',st5,_,G5,_,P5,R4.step s5,S5,q5,fun z st6 q6 α6 G6 H6 v6 s6 P6 S6 r6=>?_⟩;have hr:=(((ra.step s3).step s4).step s5).step s6;refine⟨vs,(P6.frame aU).1,by rw[<-hr.length];omega,α6,st6,G6,acc++[z],vs++[v6],(s24.trans s5).trans s6,?_,(Rc.step s5).step s6,S6,bI.mpr (gE (bI.mp hr) (.cons r6 .nil)),by rw[List.length_append,List.length_singleton];omega,q6⟩;have:=P6.N5 (p:=l) (o':= .lst (vs++[v6])) aU;rw[Hx]at this;exact this
theorem Kd{scope:Scope}{Nc:List Str}{elt tg iter:Expr}{ifs:List Expr}{pos:Pos}{src:DI}{fr:List (Option Nat)}{dtg:fQ}{c:DT}{te:DE}(S:bh X scope Nc fr)(hi:PI X tg iter (LI src))
 (hg:∀C s H ex,PG (fH X scope Nc C s H ex) tg (LG dtg)) (ht:∀C s H ex,rG (fH X scope Nc C s H ex) ifs (LT c)) (he:∀C s H ex,PE (fH X scope Nc C s H ex) elt (LE te)) (fit:qR fr dtg)
 (hx:X.xe=fun _ _=>False:=by rfl) (hc:X.calm=true:=by rfl) (hs:∀x,foldedSetIterable iter X.env x=pure x:=by intro _;rfl):PE X (.ListComp elt [⟨tg,iter,ifs,0⟩] scope pos) (LE (dm src fr dtg c te)):=
 PE.imp (Ao hx hc S hi hg ht he hs) fun σ H Q ⟨α,σd,st,K,G,F,P,R,S,t,k⟩=>LE.comp fit P R S t fun ys st2 α2 G2 H2 l vs q s2 P2 hl S2 r=>by
  have hg:G2 l=none:=(P2.frame aU).2;refine k _ st2 q α2 (upd G2 l (.lst vs)) H2 (.ref l) (s2.trans (Step.laid hg)) (P2.show hl) (S2.laid hg) ?_;unfold Rep;exact⟨l,vs,rfl,S2.lg hg,.of aU,r.step (Step.laid hg)⟩
theorem GV{scope:Scope}{Nc:List Str}{elt tg iter:Expr}{ifs:List Expr}{pos:Pos}{src:DI}{fr:List (Option Nat)}{dtg:fQ}{c:DT}{te:DE}(S:bh X scope Nc fr)(hi:PI X tg iter (LI src))
 (hg:∀C s H ex,PG (fH X scope Nc C s H ex) tg (LG dtg)) (ht:∀C s H ex,rG (fH X scope Nc C s H ex) ifs (LT c)) (he:∀C s H ex,PE (fH X scope Nc C s H ex) elt (LE te)) (fit:qR fr dtg)
 (hx:X.xe=fun _ _=>False:=by rfl) (hc:X.calm=true:=by rfl) (hs:∀x,foldedSetIterable iter X.env x=pure x:=by intro _;rfl):PE X (.ListComp elt [⟨tg,iter,ifs,0⟩] scope pos) (LE (mS src fr dtg c te)):=
 PE.imp (Ao hx hc S hi hg ht he hs) fun σ H Q ⟨α,σd,st,K,G,F,P,R,S,t,k⟩=>LE.comp fit P R S t fun ys st2 α2 G2 H2 l vs q s2 P2 hl S2 r=>by
  have hg:G2 l=none:=(P2.frame aU).2;refine k _ _ q (α2++[some l]) (upd G2 l (.lst vs)) H2 (.ref l) (s2.trans (Step.cell hg)) (P2.show hl) (S2.cell hg ⟨vs,aU,r.step (Step.cell hg)⟩) ?_;unfold Rep;refine .inr ⟨l,?_,rfl⟩;rw[List.getElem?_append_right (by rw[S2.len];exact Nat.le_refl _),S2.len,Nat.sub_self];rfl
theorem GZ{st:Stmt}{k:Nat}{src:DI}{fr:List (Option Nat)}{dtg:fQ}{c:DT}{te:DE}(fit:qR fr dtg)(h:PS X st (nZ (sW (LI src) fr (LG dtg) (LT c) (LE te)) (iF k))):PS X st (LS (cJ k (dm src fr dtg c te))):=
 PS.imp h fun D σ H ⟨α,σd,st,DD,G,F,P,R,S,t,q⟩=>LE.comp fit P R S t fun ys st2 α2 G2 H2 l vs qq s2 P2 hl S2 r=>by
  have hg:G2 l=none:=(P2.frame aU).2;have s3:=s2.trans (Step.laid (o:= .lst vs) hg);refine q.nx _ st2 qq α2 (upd G2 l (.lst vs)) H2 _ s3 (P2.show hl) ((R.step s3).set k ?_) (S2.laid hg);unfold Rep;exact⟨l,vs,rfl,S2.lg hg,.of aU,r.step (Step.laid hg)⟩
theorem Fh{st:Stmt}{k:Nat}{src:DI}{fr:List (Option Nat)}{dtg:fQ}{c:DT}{te:DE}(fit:qR fr dtg)(h:PS X st (nZ (sW (LI src) fr (LG dtg) (LT c) (LE te)) (iF k))):PS X st (LS (cJ k (mS src fr dtg c te))):=
 PS.imp h fun D σ H ⟨α,σd,st,DD,G,F,P,R,S,t,q⟩=>LE.comp fit P R S t fun ys st2 α2 G2 H2 l vs qq s2 P2 hl S2 r=>by
  have hg:G2 l=none:=(P2.frame aU).2;have s3:=s2.trans (Step.cell (o:= .lst vs) hg);refine q.nx _ _ qq (α2++[some l]) (upd G2 l (.lst vs)) H2 _ s3 (P2.show hl) ((R.step s3).set k ?_) (S2.cell hg ⟨vs,aU,r.step (Step.cell hg)⟩);unfold Rep;refine .inr ⟨l,?_,rfl⟩;rw[List.getElem?_append_right (by rw[S2.len];exact Nat.le_refl _),S2.len,Nat.sub_self];rfl
def a7(N:List Str)(ds:List D):cv:=ds.map some++List.replicate (N.length-ds.length) none
theorem eL.start{α:List (Option Addr)}{G:Hp}{N:List Str}{ds:List D}{vs:List V}(r:aF α G ds vs):eL α G (a7 N ds) (L2.start N vs):=by
 have hl:=r.length;refine⟨by unfold a7 L2.start;simp[hl],fun i d e=>?_⟩;unfold a7 at e;by_cases hi:i<ds.length
 . rw[List.getElem?_append_left (by simpa using hi),List.getElem?_map]at e;cases q:ds[i]? with
   |none=>rw[q]at e;cases e
   |some x=>
    rw[q]at e;cases e;obtain⟨v,ev,rv⟩:=r.get q;refine⟨v,?_,rv⟩;unfold L2.start;rw[List.getElem?_append_left (by rw[List.length_map];omega),List.getElem?_map,ev];rfl
 . rw[List.getElem?_append_right (by simpa using hi),List.getElem?_replicate]at e;split at e<;>cases e
theorem L6{P:Program}{w:World}{K:PySem.W.Frag}{mg:Str->Option Value}{base:Heap}{x qual:Str}{st:Stmt}{f:Addr}{fd:FuncData}{N ps:List Str}{k:Nat}{sp:cF}{t:DS}(F:ow K x qual st f fd)(S:aR N ps (ai st))
 (hbody:∀(cdv:Value) (A:Around) (outer:List Env) (s:Shared) (H:Hp) (E:XK),cP k (A.deeper (envOfC qual (ai st) s.heap.objs.size f cdv))->iy (qj cG P w K mg base N qual (ai st) f cdv A outer s H E).vo (iq st) (LS t))
 (hsp:∀ds st K,sp ds st K->ds.length=ps.length/\t {nx:=fun _ st'=>K .aI st',rt:=K} (a7 N ds) st):bF P w K mg base cG (k+1) f fd ps (cL sp):=by
 refine F.ok S (fun vs H Q E h=>?_) fun cdv A outer s H vs Q E hr h=>⟨_,hbody cdv A outer s H E hr,?_⟩
 . obtain⟨α,ds,st,K,G,F,P,r,S,q,k⟩:=h;rw[<-r.length];exact(hsp ds st K q).1
 . obtain⟨α,ds,st,K,G,F,P,r,S,q,k⟩:=h;refine⟨α,a7 N ds,st,_,G,F,P,eL.start r,S,(hsp ds st K q).2,?_,k,?_,?_⟩
   . intro σd' st' kk α' G' H' σ' s' P' R' S';exact k .aI st' kk α' G' H' .aI s' P' S' (by unfold Rep;rfl)
   . intro σd' st' kk;exact kk.elim
   . intro σd' st' kk;exact kk.elim
def p_(to te:DE):DE:=fun σ st K=>to σ st fun x st1=>match x with
 | .ref n=>(match st1[n]? with
   |some (.lst _)=>te σ st1 fun y st2=>∃y',[y]=[y']/\(match st2[n]? with|some (.lst xs)=>xs.length<sizeLine/\K .aI (st2.set n (.lst (xs++[y'])))|_=>False)
   |_=>False)
 |_=>False
end
structure cD(K:PySem.W.Frag)(mg:Str->Option Value)(x qual:Str)(st:Stmt)(ps:List Str)(f:Addr)(fd:FuncData):Prop where
 fn:ow K x qual st f fd
 mg:mg x=some (.ref f)
 bd:Binds K fd ps []
def vh(sc:Scope)(N:List Str)(scope:Scope)(Nc:List Str)(fr:List (Option Nat)):Bool:=
 (scope.kind== .function)&&scope.names.all (fun x=>x.2 != .cell||scope.names.lookup x.1==some .cell)&&scope.names.all (fun x=>x.2 != .local||scope.names.lookup x.1==some .local)&&
 scope.names.all (fun x=>x.2 != .free||sc.names.lookup x.1==some .cell||sc.names.lookup x.1==some .free)&&(fr.length==Nc.length)&&
 (List.range fr.length).all fun i=>match fr[i]?,Nc[i]? with
   |some (some j),some x=>(N[j]?==some x)&&(scope.names.lookup x==some .free)&&(sc.names.lookup x==some .cell||sc.names.lookup x==some .free)
   |_,_=>true
theorem bh.look{X:Cx}{scope:Scope}{Nc:List Str}{fr:List (Option Nat)}(sc:Scope)(N:List Str)(h:vh sc N scope Nc fr=true)(hsc:X.env.scope=sc:=by rfl)(hN:X.N=N:=by rfl):bh X scope Nc fr:=by
 unfold vh at h;simp only[Bool.and_eq_true]at h;obtain⟨⟨⟨⟨⟨h1,h2⟩,h3⟩,h4⟩,h5⟩,h6⟩:=h;subst hsc hN;refine⟨by simpa using h1,fun x hx hk=>?_,fun x hx hk=>?_,fun x hx hk=>?_,by simpa using h5,fun i j x e1 e2=>?_⟩
 . have:=List.all_eq_true.mp h2 x hx;rw[hk]at this;simpa using this
 . have:=List.all_eq_true.mp h3 x hx;rw[hk]at this;simpa using this
 . have:=List.all_eq_true.mp h4 x hx;rw[hk]at this;have z:X.env.scope.names.lookup x.1=some .cell\/X.env.scope.names.lookup x.1=some .free:=by simpa using this
   exact z
 . have hi:i<fr.length:=(List.getElem?_eq_some_iff.mp e2).1;have:=List.all_eq_true.mp h6 i (List.mem_range.mpr hi);rw[e1,e2]at this;simp only[Bool.and_eq_true,Bool.or_eq_true,beq_iff_eq]at this;exact⟨this.1.1,this.1.2,this.2⟩
section
variable {X:Cx}
theorem NK{e:Expr}{es:List Expr}{pos p:Pos}{x:Str}{id:String}{r:fI}{t:DA}(hc:bK X (.builtin id) (gM r))(ha:PA X (e::es) (LA t))(hm:X.mg x=none)(hv:bootBuiltins x=some (.builtin id))(hg:Gl X x:=by rfl)(hn:x≠"__name__":=by decide)(hdb:(x==("__debug__":Str))=false:=by decide)
 (he:starEach (e::es) X.env=(false,eval e X.env)::starEach es X.env:=by rfl) (hpl:(backTo pos (starEach es X.env)).any (·.1)=false:=by rfl):PE X (.Call (.Name x p) (e::es) [] pos) (LE (bR r t)):=PE.imp (Ec hc hg hm hv ha hn hdb he hpl) fun _ _ _ h=>LE.cb h
theorem Nd{e:Expr}{es:List Expr}{pos p:Pos}{x:Str}{T:String}{r:fI}{t:DA}(hc:bK X (.type T) (gM r))(ha:PA X (e::es) (LA t))(hm:X.mg x=none)(hv:bootBuiltins x=some (.type T))(hg:Gl X x:=by rfl)(hn:x≠"__name__":=by decide)(hdb:(x==("__debug__":Str))=false:=by decide)
 (he:starEach (e::es) X.env=(false,eval e X.env)::starEach es X.env:=by rfl) (hpl:(backTo pos (starEach es X.env)).any (·.1)=false:=by rfl):PE X (.Call (.Name x p) (e::es) [] pos) (LE (bR r t)):=PE.imp (DQ hc hg hm hv ha hn hdb he hpl) fun _ _ _ h=>LE.cb h
theorem M5{pos:Pos}{x:Str}{T:String}(hm:X.mg x=none)(hv:bootBuiltins x=some (.type T))(hg:Gl X x:=by rfl)(hn:x≠"__name__":=by decide)(hdb:(x==("__debug__":Str))=false:=by decide):PE X (.Name x pos) (LE (dC (.ty T))):=
 vx (v:= .ty T) (Hy hg hm hv rfl hn hdb) fun _ _=>by unfold Rep;rfl
theorem Nu{e:Expr}{es:List Expr}{pos p:Pos}{x qual:Str}{st:Stmt}{ps:List Str}{f:Addr}{fd:FuncData}{k:Nat}{S:cF}{t:DA}(A:cD X.K X.mg x qual st ps f fd)(F:bF X.prog X.w X.K X.mg X.base cG k f fd ps (cL S))(hr:cP k X.A)
 (ha:PA X (e::es) (LA t)) (hg:Gl X x:=by rfl) (hdb:(x==("__debug__":Str))=false:=by decide) (he:starEach (e::es) X.env=(false,eval e X.env)::starEach es X.env:=by rfl) (hpl:(backTo pos (starEach es X.env)).any (·.1)=false:=by rfl):
 PE X (.Call (.Name x p) (e::es) [] pos) (LE (aH S t)):=IW F hr hg A.mg A.fn.kp A.bd ha hdb he hpl
theorem LE.append{to te:DE}{σ:L2.St}{H:Hp}{Q:VK}(h:LE (p_ to te) σ H Q):ML X.K "list" AE (LE to) (LA (ae te ak)) σ H Q:=by
 obtain⟨α,σd,st,K,G,F,P,R,S,t,k⟩:=h;refine⟨α,σd,st,_,G,F,P,R,S,t,fun x st1 q α1 G1 H1 v s1 P1 S1 r1=>?_⟩;cases x<;>try exact q.elim
 rename_i n;simp only at q;split at q
 . rename_i ys e;obtain⟨p,ep,vs,h1,h2⟩:=S1.lH e;have r1':=f9 ep r1;subst r1';refine⟨.inl ⟨rfl,vs,.inl (.of (P1.get h1))⟩,α1,σd,st1,fun ds st2=>∃y,ds=[y]/\(match st2[n]? with|some (.lst xs)=>xs.length<sizeLine/\K .aI (st2.set n (.lst (xs++[y])))|_=>False),G1,F,P1,R.step s1,S1,?_,?_⟩
   . refine Eq.mp ?_ q;rfl
   . rintro ds st2 ⟨y,rfl,q2⟩ α2 G2 H2 ws s2 P2 S2 r2;obtain⟨w,rfl,rw'⟩:=iO r2 rfl;split at q2
     . rename_i xs e2;obtain⟨p2,ep2,us,g1,g2⟩:=S2.lH e2
       have:p2=p:=by
        rcases s2.pre _ _ ep with z|z<;>(rw[z]at ep2;cases ep2)
        rfl
       subst this;have hm:some p2∈α2:=List.mem_of_getElem? ep2;refine⟨p2,us,w,rfl,rfl,P2.get g1,by rw[<-g2.length];exact q2.1,?_⟩;refine((k.at s1).at s2) _ _ q2.2 α2 (upd G2 p2 (.lst (us++[w]))) _ .aI (Step.write hm) (P2.write g1) ?_ (by unfold Rep;rfl);exact S2.write ep2 ⟨us++[w],aU,(bI.mpr (gE (bI.mp g2) (.cons rw' .nil))).step (Step.write hm)⟩
     . exact q2.elim
 . exact q.elim
theorem E9{o e:Expr}{to te:DE}{apos cpos:Pos}(ho:PE X o (LE to))(he:PE X e (LE te))(hbase:attributeBase o "append" X.env (eval o X.env)=eval o X.env:=by rfl)
 (hfew:((backTo cpos (starEach [e] X.env)).all (fun x=> !x.1)&&(backToKw cpos (keywordEach [] X.env)).all (fun x=>x.1.isSome)
   &&decide (([e]:List Expr).length+([]:List Keyword).length+(if([]:List Keyword).isEmpty then 0 else 1)<30))=true:=by rfl)
 (hline:(apos.endLine==cpos.line)=true:=by rfl) (hs:starEach [e] X.env=(false,eval e X.env)::starEach [] X.env:=by rfl) (hplain:(backTo cpos (starEach [] X.env)).any (·.1)=false:=by rfl):PE X (.Call (.Attribute o "append" apos) [e] [] cpos) (LE (p_ to te)):=
 PE.imp (Mp PySem.F.plainAttrs_list PySem.F.slot_list_append PySem.F.type_list_append wo ho (vZ he yl hs) hbase hfew hline hs hplain) fun _ _ _ h=>LE.append h
end
end L3
namespace L3
open PySem L2
open PySem.Spec hiding items?
open PyProof.Rows hiding St
section
variable {X:Cx}
@[irreducible] def jq:eN:=FU
theorem jM:cz X (binaryOp .Add) (LR jq):=by unfold jq;exact L4
@[irreducible] def oa:eN:=F6
theorem qc:cz X (binaryOp .Sub) (LR oa):=by unfold oa;exact Mw
@[irreducible] def fM:eN:=F0
theorem gO:cz X (binaryOp .Mult) (LR fM):=by unfold fM;exact LN
@[irreducible] def sM:eN:=B_
theorem D3:cz X (binaryOp .FloorDiv) (LR sM):=by unfold sM;exact Jh
@[irreducible] def lZ:eN:=Ft
theorem nF:cz X (binaryOp .Mod) (LR lZ):=by unfold lZ;exact KU
@[irreducible] def qw:eN:=FT
theorem xI:cz X (binaryOp .Pow) (LR qw):=by unfold qw;exact Mi
@[irreducible] def su:eN:=Kk
theorem A3:cz X (compareOp .Lt) (LR su):=by unfold su;exact Nk
@[irreducible] def oQ:eN:=IM
theorem uz:cz X (compareOp .Gt) (LR oQ):=by unfold oQ;exact Np
@[irreducible] def Ac:eN:=Ku
theorem NB:cz X (compareOp .GtE) (LR Ac):=by unfold Ac;exact Nw
@[irreducible] def oY:eN:=Ja
theorem uA:cz X (compareOp .NotEq) (LR oY):=by unfold oY;exact NR
@[irreducible] def jY:eN:=Ks
theorem k_{k:Nat}(hr:cP k X.A):cz X (compareOp .Eq) (LR jY):=by unfold jY;exact NJ hr
@[irreducible] def nj:yC:=Gv
theorem Me:zW X (unaryOp .USub) (Ge nj):=by unfold nj;exact Ld
@[irreducible] def bV:eN:=ql
theorem Ni{a b:Expr}{ta tb:DE}{pos:Pos}(ha:PE X a (LE ta))(hb:PE X b (LE tb))(hs:sN b:=by intro _ _;rfl):PE X (.Subscript a b pos) (LE (az bV ta tb)):=by unfold bV;exact Nr ha hb hs
@[irreducible] def eQ:fI:=xT
theorem d_:bK X (.builtin "len") (gM eQ):=by unfold eQ;exact L0
@[irreducible] def yc:fI:=Bm
theorem L5:bK X (.builtin "abs") (gM yc):=by unfold yc;exact KQ
@[irreducible] def vK:fI:=BR
theorem F5(hc:X.calm=true):bK X (.builtin "min") (gM vK):=by unfold vK;exact Mj hc
@[irreducible] def um:fI:=Bj
theorem FJ:bK X (.type "int") (gM um):=by unfold um;exact MB
@[irreducible] def d7:fI:=sI
theorem eG:bK X (.type "tuple") (gM d7):=by unfold d7;exact GL
@[irreducible] def nD:fI:=u7
theorem rT:bK X (.type "list") (gM nD):=by unfold nD;exact Ic
@[irreducible] def pQ:fI:=sx
theorem Ap:bK X (.type "list") (gM pQ):=by unfold pQ;exact Hb
@[irreducible] def tX:fI:=xN
theorem AY(hc:X.calm=true):bK X (.builtin "all") (gM tX):=by unfold tX;exact Li hc
@[irreducible] def pd:fI:=xw
theorem sQ:bK X (.builtin "isinstance") (gM pd):=by unfold pd;exact LJ
@[irreducible] def wd:D->af->(List D->(af->Prop)->af->Prop)->Prop:=zt
def gn(t:DE):DI:=fun σ st K=>t σ st fun d st1=>wd d st1 K
theorem Ir{l tg:Expr}{tl:DE}(hl:PE X l (LE tl)):PI X tg l (LI (gn tl)):=by unfold gn wd;exact JY hl
@[irreducible] def xQ:List D->af->(List D->(af->Prop)->af->Prop)->Prop:=F3
@[irreducible] def xF:List D->af->(List D->(af->Prop)->af->Prop)->Prop:=Fy
def du(t:DA):DI:=fun σ st K=>t σ st fun ds st1=>xQ ds st1 K
def pG(t:DA):DI:=fun σ st K=>t σ st fun ds st1=>xF ds st1 K
theorem DW{tg iter:Expr}{t:DA}(h:PI X tg iter (By (LA t))):PI X tg iter (LI (du t)):=by unfold du xQ;exact CK h
theorem Df{tg iter:Expr}{t:DA}(h:PI X tg iter (A6 (LA t))):PI X tg iter (LI (pG t)):=by unfold pG xF;exact DG h
@[irreducible] def yS:D->D->D->af->(af->Prop)->Prop:=BU
def gY(to ti te:DE):DS:=fun D σ st=>te σ st fun d st1=>to σ st1 fun x st2=>ti σ st2 fun y st3=>yS x y d st3 fun st4=>D.nx σ st4
theorem Ej{st:Stmt}{to ti te:DE}(h:PS X st (nZ (LE te) (BZ (LE to) (LE ti) xn))):PS X st (LS (gY to ti te)):=by unfold gY yS;exact D9 h
end
section
variable {st:af}{K:DK}{i j:Int}{b c:Bool}{xs ys:List D}{d e:D}{n:Nat}
theorem ij(k:K (.int (i+j)) st):jq (.int i) (.int j) st K:=by unfold jq;exact k
theorem n_(k:K (.int (i-j)) st):oa (.int i) (.int j) st K:=by unfold oa;exact⟨trivial,k⟩
theorem fZ(h:IntMulOk i j)(k:K (.int (i*j)) st):fM (.int i) (.int j) st K:=by unfold fM;exact⟨h,k⟩
theorem Ak(h: -(2^63)<=i/\i<2^63/\xs.length*i.toNat<=sizeLine)(k:K (.lst (List.replicate i.toNat xs).flatten) st):fM (.lst xs) (.int i) st K:=by unfold fM;exact⟨h,k⟩
theorem zY(h0:j≠0)(h:j.natAbs.log2<9000)(k:K (.int (i.fdiv j)) st):sM (.int i) (.int j) st K:=by unfold sM;exact⟨⟨h0,h⟩,k⟩
theorem lu(h0:j≠0)(k:K (.int (i.fmod j)) st):lZ (.int i) (.int j) st K:=by unfold lZ;exact⟨h0,k⟩
theorem vf(h:EF i j)(k:K (.int (i^j.toNat)) st):qw (.int i) (.int j) st K:=by unfold qw;exact⟨h,k⟩
theorem FE(k:K (.bl (decide (i<j))) st):su (.int i) (.int j) st K:=by unfold su;exact⟨trivial,k⟩
theorem A5(k:K (.bl (decide (j<i))) st):oQ (.int i) (.int j) st K:=by unfold oQ;exact⟨trivial,k⟩
theorem LF(k:K (.bl (decide (j<=i))) st):Ac (.int i) (.int j) st K:=by unfold Ac;exact⟨trivial,k⟩
theorem FI(k:K (.bl (!decide (i=j))) st):oY (.int i) (.int j) st K:=by unfold oY;exact k
theorem vn(h1:pl 40 d=true)(h2:pl 40 e=true)(k:K (.bl (cS d e)) st):jY d e st K:=by unfold jY;exact⟨h1,h2,k⟩
theorem GY(a b:Int):(a==b)=decide (a=b):=by
 by_cases h:a=b
 . subst h;simp
 . simp[h]
theorem Dc(k:K (.bl (decide (i=j))) st):jY (.int i) (.int j) st K:=by
 refine vn rfl rfl ?_;have:cS (.int i) (.int j)=decide (i=j):=by unfold cS;exact GY i j
 rw[this];exact k
theorem oB(k:K (.int (-i)) st):nj (.int i) st K:=by unfold nj;exact k
theorem Ew(h:items? st d=some xs)(a:fE xs i=some e)(k:K e st):ql d (.int i) st K:=by
 cases d<;>unfold items? at h<;>first
  |(cases h;done)
  |(cases h;simp only[ql,a];exact k)
  |(simp only at h
    split at h
    . rename_i q;cases h;simp only[ql,q,a];exact k
    . cases h)
theorem aX(h:items? st d=some xs)(a:fE xs i=some e)(k:K e st):bV d (.int i) st K:=by unfold bV;exact Ew h a k
theorem c8(h:items? st d=some xs)(k:K (.int xs.length) st):eQ [d] st K:=by
 unfold eQ xT;split
 . rename_i z;cases z;cases h
 . rename_i z;cases z;rw[h];exact k
 . rename_i z1 z2;exact absurd rfl (z2 d)
theorem Hc(i:Int):(if i<0 then-i else i)=((i.natAbs:Nat):Int):=by split<;>omega
theorem IH(k:K (.int ((i.natAbs:Nat):Int)) st):yc [.int i] st K:=by unfold yc;show K (.int (if i<0 then-i else i)) st;rw[Hc];exact k
theorem Cq(k:K (.int (if j<i then j else i)) st):vK [.int i,.int j] st K:=by unfold vK;exact k
theorem vM(k:K (.int (if b then 1 else 0)) st):um [.bl b] st K:=by unfold um;exact k
theorem dA(h:items? st d=some xs)(k:K (.tup xs) st):d7 [d] st K:=by unfold d7 sI;simp only[h];exact k
theorem pM(h:items? st d=some xs)(k:K (.lst xs) st):nD [d] st K:=by unfold nD u7;simp only[h];exact k
theorem yw(h:items? st d=some xs)(k:K (.ref st.length) (st++[.lst xs])):pQ [d] st K:=by unfold pQ sx;simp only[h];exact k
theorem yB{bs:List Bool}(h:gX xs=some bs)(k:K (.bl (bs.all id)) st):tX [.lst xs] st K:=by unfold tX xN;simp only[h];exact k
theorem pJ{t c:String}(h:jI st d=some t)(hc:c∈nO)(k:K (.bl (t9 t c)) st):pd [d,.ty c] st K:=by unfold pd xw;simp only[h];exact⟨hc,k⟩
theorem rQ{K:List D->(af->Prop)->af->Prop}(h:items? st d=some xs)(k:∀ok:af->Prop,ok st->K xs ok st):wd d st K:=by
 unfold wd zt
 cases d<;>unfold items? at h<;>first
  |(cases h;done)
  |(cases h;exact k _ trivial)
  |(simp only at h
    split at h
    . rename_i q;cases h;simp only[q];exact k _ q
    . cases h)
theorem i7{K:List D->(af->Prop)->af->Prop}(k:K xs (fun _=>True) st):wd (.tup xs) st K:=by unfold wd;exact k
theorem eJ{K:List D->(af->Prop)->af->Prop}(h: -(2^62)<=j/\j<2^62)(k:K (eF 0 j.toNat) (fun _=>True) st):xQ [.int j] st K:=by unfold xQ;exact⟨h,k⟩
theorem AD{K:List D->(af->Prop)->af->Prop}(h: -(2^62)<=i/\i<2^62/\ -(2^62)<=j/\j<2^62)(k:K (eF i (j-i).toNat) (fun _=>True) st):xF [.int i,.int j] st K:=by unfold xF;exact⟨h,k⟩
theorem jo{K:af->Prop}{m:Nat}(h:st[n]?=some (.lst xs))(e:nR xs.length i=some m)(k:K (st.set n (.lst (xs.set m d)))):yS (.ref n) (.int i) d st K:=by unfold yS BU;simp only[h,e];exact k
end
def DP(K:PySem.W.Frag):Bool:=K.all fun p=>p.2.cls != .type "list"
theorem tL{a:Addr}{o:Obj}:∀ {l:List (Addr×Obj)},l.lookup a=some o->(a,o)∈l
 | [],h=>by cases h
 |(b,u)::r,h=>by
  rw[List.lookup_cons]at h;split at h
  . rename_i z;cases h;have:a=b:=by simpa using z
    subst this;exact List.mem_cons_self
  . exact List.mem_cons_of_mem _ (tL h)
theorem wZ{K:PySem.W.Frag}(h:DP K=true){a:Addr}{o:Obj}(e:K.lookup a=some o):o.cls≠ .type "list":=by
 have:=List.all_eq_true.mp h (a,o) (tL e);simpa using this
theorem wH{α:List (Option Addr)}{G:Hp}:∀ns:List Int,aF α G (ns.map D.int) (ns.map V.int)
 | []=>by unfold aF;rfl
 |n::ns=>by
  rw[List.map_cons,List.map_cons];unfold aF;exact⟨_,_,rfl,by unfold Rep;rfl,wH ns⟩
def notStar:Expr->Bool
 | .Starred .. =>false
 |_=>true
theorem cT{e:Expr}{es:List Expr}{env:Env}(h:notStar e=true):starEach (e::es) env=(false,eval e env)::starEach es env:=by
 cases e<;>first|rfl|cases h
def ip:List Expr->Bool
 | []=>true
 |e::es=>notStar e&&ip es
theorem lK{pos:Pos}{env:Env}:∀ {es:List Expr},ip es=true->(backTo pos (starEach es env)).any (·.1)=false
 | [],_=>rfl
 |e::es,h=>by
  unfold ip at h;rw[Bool.and_eq_true]at h;rw[cT h.1];have ih:=lK (pos:=pos) (env:=env) h.2;unfold backTo at ih⊢;rw[List.map_cons,List.any_cons,ih];rfl
def nP:Expr->Bool
 | .Slice .. =>false
 |_=>true
def sj:Expr->Bool
 | .Name .. =>true
 | .Call .. =>true
 | .Subscript .. =>true
 | .Attribute .. =>true
 |_=>false
def lQ:Expr->Bool
 | .ListComp .. =>false
 | .SetComp .. =>false
 | .DictComp .. =>false
 |_=>true
section
variable {X:Cx}
theorem Fp{b:Expr}(h:nP b=true):sN b:=by
 intro o i;cases b<;>first|rfl|cases h
theorem BK{e:Expr}(h:sj e=true):∀whole,isTrue e X.env whole=(do let v <-whole;standAt e.pos;holding [v] (truthy v)):=by
 intro whole;cases e<;>first|(cases h;done)|rfl
theorem vI{e:Expr}{tg:Option Expr}{n:Nat}{env:Env}(h:lQ e=true):swapsWith e tg n env=pure false:=by
 cases e<;>first|(cases h;done)|rfl
theorem Ep{e:Expr}{es:List Expr}{te:DE}{tr:DA}(ha:PE X e (LE te))(hr:PA X es (LA tr))(hs:notStar e=true:=by rfl):PA X (e::es) (LA (ae te tr)):=vZ ha hr (cT hs)
theorem La{e:Expr}{es:List Expr}{pos p:Pos}{x:Str}{id:String}{r:fI}{t:DA}(hc:bK X (.builtin id) (gM r))(ha:PA X (e::es) (LA t))(hm:X.mg x=none)(hv:bootBuiltins x=some (.builtin id))(hn:x≠"__name__")(hdb:(x==("__debug__":Str))=false)(hg:Gl X x:=by rfl)(hs:notStar e=true:=by rfl)(hs2:ip es=true:=by rfl):
 PE X (.Call (.Name x p) (e::es) [] pos) (LE (bR r t)):=NK hc ha hm hv hg hn hdb (cT hs) (lK hs2)
theorem Ms{e:Expr}{es:List Expr}{pos p:Pos}{x:Str}{T:String}{r:fI}{t:DA}(hc:bK X (.type T) (gM r))(ha:PA X (e::es) (LA t))(hm:X.mg x=none)(hv:bootBuiltins x=some (.type T))(hn:x≠"__name__")(hdb:(x==("__debug__":Str))=false)(hg:Gl X x:=by rfl)(hs:notStar e=true:=by rfl)(hs2:ip es=true:=by rfl):
 PE X (.Call (.Name x p) (e::es) [] pos) (LE (bR r t)):=Nd hc ha hm hv hg hn hdb (cT hs) (lK hs2)
theorem LH{e:Expr}{es:List Expr}{pos p:Pos}{x qual:Str}{st:Stmt}{ps:List Str}{f:Addr}{fd:FuncData}{k:Nat}{S:cF}{t:DA}(A:cD X.K X.mg x qual st ps f fd)(F:bF X.prog X.w X.K X.mg X.base cG k f fd ps (cL S))(hr:cP k X.A)
 (ha:PA X (e::es) (LA t)) (hdb:(x==("__debug__":Str))=false) (hg:Gl X x:=by rfl) (hs:notStar e=true:=by rfl) (hs2:ip es=true:=by rfl):
 PE X (.Call (.Name x p) (e::es) [] pos) (LE (aH S t)):=Nu A F hr ha hg hdb (cT hs) (lK hs2)
theorem KR{a b:Expr}{ta tb:DE}{pos:Pos}(ha:PE X a (LE ta))(hb:PE X b (LE tb))(hs:nP b=true:=by rfl):PE X (.Subscript a b pos) (LE (az bV ta tb)):=Ni ha hb (Fp hs)
theorem HG{e:Expr}{te:DE}(he:PE X e (LE te))(h:sj e=true:=by rfl):PT X e (LT (bz te)):=IY he (BK h)
theorem Ex{e:Expr}{te:DE}{pos:Pos}(he:PE X e (LE te))(h:lQ e=true:=by rfl):PS X (.Expr e pos) (LS (fu te)):=Ho he (vI h)
theorem HC{i:Nat}{x:Str}{e:Expr}{te:TE}{pos pos':Pos}(hN:X.N.Nodup)(hi:X.N[i]?=some x)(hx:Loc X.env.scope x)(he:PE X e te)(hf:X.fn x=true\/X.env.scope.names.lookup x=some .local:=by first|exact .inl rfl|exact .inr rfl)(h:lQ e=true:=by rfl):
 PS X (.Assign [.Name x pos'] e pos) (nZ te (iF i)):=Ia hN hi hx he (vI h) hf
theorem Hz{i:Nat}{x:Str}{pos:Pos}(hd:(x==("__debug__":Str))=false)(hcd:(x==("__classdict__":Str))=false)(hv:ze X.env.scope x)(hN:X.N[i]?=some x:=by rfl):PE X (.Name x pos) (LE (ab i)):=Lv (Ka hN hv hd hcd)
theorem Jk{o i e:Expr}{to ti te:TE}{pos pos':Pos}(he:PE X e te)(ho:PE X o to)(hi:PE X i ti)(h1:lQ e=true:=by rfl)(h2:nP i=true:=by rfl):PS X (.Assign [.Subscript o i pos'] e pos) (nZ te (BZ to ti xn)):=
 DV he (Ko ho hi set_list (by intro v;cases i<;>first|rfl|cases h2)) (by unfold swapsWithSole;exact vI h1) (by cases e<;>rfl) rfl
end
@[irreducible] def JE(X:Cx)(e:Expr)(t:DE):Prop:=PE X e (LE t)
@[irreducible] def JT(X:Cx)(e:Expr)(t:DT):Prop:=PT X e (LT t)
@[irreducible] def JW(X:Cx)(e:Expr)(t:DT):Prop:=PW X e (LT t)
@[irreducible] def JA(X:Cx)(es:List Expr)(t:DA):Prop:=PA X es (LA t)
@[irreducible] def JS(X:Cx)(s:Stmt)(t:DS):Prop:=PS X s (LS t)
@[irreducible] def JB(X:Cx)(s:List Stmt)(t:DS):Prop:=iy X s (LS t)
@[irreducible] def JG(X:Cx)(e:Expr)(t:fQ):Prop:=PG X e (LG t)
@[irreducible] def JI(X:Cx)(tg e:Expr)(t:DI):Prop:=PI X tg e (LI t)
@[irreducible] def JC(X:Cx)(es:List Expr)(t:DT):Prop:=rG X es (LT t)
section
variable {X:Cx}{a b c e o i:Expr}{es:List Expr}{ta tb tc te to ti:DE}{t u:DT}{ar:DA}{pos p pos':Pos}{s:Stmt}{ss:List Stmt}{T U:DS}
theorem DL{n:Nat}{x:Str}(hd:(x==("__debug__":Str))=false)(hcd:(x==("__classdict__":Str))=false)(hv:ze X.env.scope x)(hN:X.N[n]?=some x:=by rfl):JE X (.Name x pos) (ab n):=by unfold JE;exact Hz hd hcd hv hN
theorem vP{x:Str}{T:String}(hm:X.mg x=none)(hv:bootBuiltins x=some (.type T))(hn:x≠"__name__")(hdb:(x==("__debug__":Str))=false)(hg:Gl X x):JE X (.Name x pos) (dC (.ty T)):=by unfold JE;exact M5 hm hv hg hn hdb
theorem av{k:Int}{j:Nat}:JE X (.Constant (.int k) j pos) (dC (.int k)):=by unfold JE;exact Mr
theorem jZ{k:Bool}{j:Nat}:JE X (.Constant (.bool k) j pos) (dC (.bl k)):=by unfold JE;exact Nn
theorem bT{op:Operator}{r:eN}(ho:cz X (binaryOp op) (LR r))(ha:JE X a ta)(hb:JE X b tb):JE X (.BinOp a op b pos) (az r ta tb):=by unfold JE at*;exact Nl ho ha hb
theorem qg(ha:JE X a ta):JE X (.UnaryOp .USub a pos) (tG nj ta):=by unfold JE at*;exact M7 Me ha
theorem L7(ha:JE X a ta):JE X (.UnaryOp .Not a pos) (Be (bz ta)):=by unfold JE at*;exact Mt ha
theorem BX{op:BoolOp}(ha:JE X a ta):JE X (.BoolOp op [a] pos) ta:=by unfold JE at*;exact KI ha
theorem Gq(ha:JE X a ta)(hb:JE X (.BoolOp .And (b::es) pos) tb):JE X (.BoolOp .And (a::b::es) pos) (xR ta tb):=by unfold JE at*;exact Lm ha hb
theorem Ny(ha:JE X a ta)(hb:JE X (.BoolOp .Or (b::es) pos) tb):JE X (.BoolOp .Or (a::b::es) pos) (ER ta tb):=by unfold JE at*;exact Nj ha hb
theorem mF{op:CmpOp}{r:eN}(ho:cz X (compareOp op) (LR r))(hm:behindInMarks op b=false)(ha:JE X a ta)(hb:JE X b tb):JE X (.Compare a [op] [b] pos) (az r ta tb):=by unfold JE at*;exact LV ho ha hb hm
theorem BA(hc:JT X c t)(ha:JE X a ta)(hb:JE X b tb):JE X (.IfExp c a b pos) (De t ta tb):=by unfold JE at*;unfold JT at hc;exact Mh hc ha hb
theorem BH{n:Nat}(h:JA X es ar):JE X (.Tuple es n pos) (x9 ar):=by unfold JE;unfold JA at h;exact KH h
theorem Gd(h:JA X es ar):JE X (.List es pos) (BG ar):=by unfold JE;unfold JA at h;exact KY h
theorem xO(h:JA X es ar):JE X (.List es pos) (uf ar):=by unfold JE;unfold JA at h;exact Mf h
theorem aj:JA X [] ak:=by unfold JA;exact yl
theorem aa(ha:JE X e te)(hr:JA X es ar)(hs:notStar e=true:=by rfl):JA X (e::es) (ae te ar):=by unfold JA at*;unfold JE at ha;exact Ep ha hr hs
theorem bC(ha:JE X a ta)(hb:JE X b tb)(hs:nP b=true:=by rfl):JE X (.Subscript a b pos) (az bV ta tb):=by unfold JE at*;exact KR ha hb hs
theorem cY{x:Str}{id:String}{r:fI}(hc:bK X (.builtin id) (gM r))(ha:JA X (e::es) ar)(hm:X.mg x=none)(hv:bootBuiltins x=some (.builtin id))(hn:x≠"__name__")(hdb:(x==("__debug__":Str))=false)(hg:Gl X x)(hs:notStar e=true:=by rfl)(hs2:ip es=true:=by rfl):JE X (.Call (.Name x p) (e::es) [] pos) (bR r ar):=by
 unfold JE;unfold JA at ha;exact La hc ha hm hv hn hdb hg hs hs2
theorem fy{x:Str}{T:String}{r:fI}(hc:bK X (.type T) (gM r))(ha:JA X (e::es) ar)(hm:X.mg x=none)(hv:bootBuiltins x=some (.type T))(hn:x≠"__name__")(hdb:(x==("__debug__":Str))=false)(hg:Gl X x)(hs:notStar e=true:=by rfl)(hs2:ip es=true:=by rfl):JE X (.Call (.Name x p) (e::es) [] pos) (bR r ar):=by
 unfold JE;unfold JA at ha;exact Ms hc ha hm hv hn hdb hg hs hs2
theorem a_{x qual:Str}{st:Stmt}{ps:List Str}{f:Addr}{fd:FuncData}{k:Nat}{S:cF}(A:cD X.K X.mg x qual st ps f fd)(F:bF X.prog X.w X.K X.mg X.base cG k f fd ps (cL S))(hr:cP k X.A)(ha:JA X (e::es) ar)(hdb:(x==("__debug__":Str))=false)(hg:Gl X x)(hs:notStar e=true:=by rfl)(hs2:ip es=true:=by rfl):
 JE X (.Call (.Name x p) (e::es) [] pos) (aH S ar):=by unfold JE;unfold JA at ha;exact LH A F hr ha hdb hg hs hs2
theorem EZ{apos cpos:Pos}(ho:JE X o to)(he:JE X e te)(hbase:attributeBase o "append" X.env (eval o X.env)=eval o X.env:=by rfl)(hline:(apos.endLine==cpos.line)=true:=by rfl)(hs:notStar e=true:=by rfl):JE X (.Call (.Attribute o "append" apos) [e] [] cpos) (p_ to te):=by
 unfold JE at*;refine E9 ho he hbase ?_ hline (cT hs) rfl;rw[cT hs];rfl
theorem dh{op:CmpOp}{r:eN}(ho:cz X (compareOp op) (LR r))(hm:behindInMarks op b=false)(ha:JE X a ta)(hb:JE X b tb):JT X (.Compare a [op] [b] pos) (bz (az r ta tb)):=by unfold JE at*;unfold JT;exact Iv ho ha hb hm
theorem gg(ha:JT X a t):JT X (.UnaryOp .Not a pos) (gZ t):=by unfold JT at*;exact Kj ha
theorem eD(he:JE X e te)(h:sj e=true:=by rfl):JT X e (bz te):=by unfold JT;unfold JE at he;exact HG he h
theorem sS(ha:JT X a t):JW X (.BoolOp .And [a] pos) t:=by unfold JW;unfold JT at ha;exact HS ha
theorem oi(ha:JT X a t):JW X (.BoolOp .Or [a] pos) t:=by unfold JW;unfold JT at ha;exact IP ha
theorem rX(ha:JT X a t)(hb:JW X (.BoolOp .And (b::es) pos) u):JW X (.BoolOp .And (a::b::es) pos) (oX t u):=by unfold JW at*;unfold JT at ha;exact IF ha hb
theorem ny(ha:JT X a t)(hb:JW X (.BoolOp .Or (b::es) pos) u):JW X (.BoolOp .Or (a::b::es) pos) (nc t u):=by unfold JW at*;unfold JT at ha;exact Kw ha hb
theorem lh(h:JW X e t):JT X e t:=by unfold JT;unfold JW at h;exact PW.pt h
theorem iK{l tg:Expr}(hl:JE X l ta):JI X tg l (gn ta):=by unfold JI;unfold JE at hl;exact Ir hl
theorem dG{tg:Expr}(hg:Gl X "range")(hm:X.mg "range"=none)(ha:JA X [a] ar)(hs:notStar a=true:=by rfl):JI X tg (.Call (.Name "range" p) [a] [] pos) (du ar):=by unfold JI;unfold JA at ha;exact DW (DM hg hm ha (cT hs))
theorem yE{tg:Expr}(hg:Gl X "range")(hm:X.mg "range"=none)(ha:JA X [a,b] ar)(hs:notStar a=true:=by rfl)(hs2:notStar b=true:=by rfl):JI X tg (.Call (.Name "range" p) [a,b] [] pos) (pG ar):=by unfold JI;unfold JA at ha;exact Df (Dk hg hm ha (by rw[cT hs,cT hs2];rfl) (cT hs2))
theorem dR{k:Nat}{x:Str}(hN:X.N.Nodup)(hx:Loc X.env.scope x)(hf:X.fn x=true\/X.env.scope.names.lookup x=some .local)(hi:X.N[k]?=some x:=by rfl):JG X (.Name x pos) (bP k):=by unfold JG;exact Hk (kL hN hi hx hf)
theorem sV{k j n:Nat}{x y:Str}{px py:Pos}(hc:X.calm=true)(hN:X.N.Nodup)(hx:Loc X.env.scope x)(hf:X.fn x=true\/X.env.scope.names.lookup x=some .local)(hy:Loc X.env.scope y)(hg:X.fn y=true\/X.env.scope.names.lookup y=some .local)(hi:X.N[k]?=some x:=by rfl)(hj:X.N[j]?=some y:=by rfl):
 JG X (.Tuple [.Name x px,.Name y py] n pos) (kU k j):=by unfold JG;exact IU (D0 hc (kD (kL hN hi hx hf) (kD (kL hN hj hy hg) Ar)))
theorem cw:JC X [] cB:=by unfold JC;exact EU
theorem Ci(h:JT X c t):JC X [c] t:=by unfold JC;unfold JT at h;exact IZ h
theorem d5{scope:Scope}{Nc:List Str}{elt tg iter:Expr}{ifs:List Expr}{src:DI}{fr:List (Option Nat)}{dtg:fQ}(S:bh X scope Nc fr)(hi:JI X tg iter src)(hg:∀C s H ex,JG (fH X scope Nc C s H ex) tg dtg)(ht:∀C s H ex,JC (fH X scope Nc C s H ex) ifs t)(he:∀C s H ex,JE (fH X scope Nc C s H ex) elt te)(fit:qR fr dtg)
 (hx:X.xe=fun _ _=>False:=by rfl) (hc:X.calm=true:=by rfl) (hs:∀x,foldedSetIterable iter X.env x=pure x:=by intro _;rfl):JE X (.ListComp elt [⟨tg,iter,ifs,0⟩] scope pos) (dm src fr dtg t te):=by
 unfold JE JI JG JC at*;exact Kd S hi hg ht he fit hx hc hs
theorem vJ{scope:Scope}{Nc:List Str}{elt tg iter:Expr}{ifs:List Expr}{src:DI}{fr:List (Option Nat)}{dtg:fQ}(S:bh X scope Nc fr)(hi:JI X tg iter src)(hg:∀C s H ex,JG (fH X scope Nc C s H ex) tg dtg)(ht:∀C s H ex,JC (fH X scope Nc C s H ex) ifs t)(he:∀C s H ex,JE (fH X scope Nc C s H ex) elt te)(fit:qR fr dtg)
 (hx:X.xe=fun _ _=>False:=by rfl) (hc:X.calm=true:=by rfl) (hs:∀x,foldedSetIterable iter X.env x=pure x:=by intro _;rfl):JE X (.ListComp elt [⟨tg,iter,ifs,0⟩] scope pos) (mS src fr dtg t te):=by
 unfold JE JI JG JC at*;exact GV S hi hg ht he fit hx hc hs
theorem dF:JB X [] dJ:=by unfold JB;exact GB
theorem aD(h:JS X s T):JB X [s] T:=by unfold JB;unfold JS at h;exact HQ h
theorem aq(h:JS X s T)(h2:JB X ss U):JB X (s::ss) (aL T U):=by unfold JB at*;unfold JS at h;exact EW h h2
theorem bp(h:JE X e te):JS X (.Return (some e) pos) (cu te):=by unfold JS;unfold JE at h;exact J4 h
theorem dX(h:JE X e te)(hc:lQ e=true:=by rfl):JS X (.Expr e pos) (fu te):=by unfold JS;unfold JE at h;exact Ex h hc
theorem eW{x y:List Stmt}(hc:JT X c t)(ha:JB X x T)(hb:JB X y U):JS X (.If c x y pos) (eV t T U):=by unfold JS;unfold JB at*;unfold JT at hc;exact Lj hc ha hb
theorem yD{x:List Stmt}(hc:JT X c t)(hb:JB X x T)(hx:X.xe=fun _ _=>False:=by rfl):JS X (.While c x [] pos) (uF t T):=by unfold JS;unfold JB at hb;unfold JT at hc;exact Fe (E3 (by rw[hx];exact PassesOwn.never) hc hb)
theorem jm{tg iter:Expr}{x:List Stmt}{src:DI}{dtg:fQ}(hi:JI X tg iter src)(hg:JG X tg dtg)(hb:JB X x T)(hx:X.xe=fun _ _=>False:=by rfl)(hc:X.calm=true:=by rfl)(hs:∀x,foldedSetIterable iter X.env x=pure x:=by intro _;rfl):JS X (.For tg iter x [] pos) (kE src dtg T):=by
 unfold JS;unfold JI at hi;unfold JG at hg;unfold JB at hb;exact IV (JM (by rw[hx];exact PassesOwn.never) hc hi hg hb hs)
theorem cA{k:Nat}{x:Str}(hN:X.N.Nodup)(hx:Loc X.env.scope x)(he:JE X e te)(hf:X.fn x=true\/X.env.scope.names.lookup x=some .local:=by first|exact .inl rfl|exact .inr rfl)(h:lQ e=true:=by rfl)(hi:X.N[k]?=some x:=by rfl):JS X (.Assign [.Name x pos'] e pos) (cJ k te):=by
 unfold JS;unfold JE at he;exact Jq (HC hN hi hx he hf h)
theorem sP{scope:Scope}{Nc:List Str}{elt tg iter:Expr}{ifs:List Expr}{src:DI}{fr:List (Option Nat)}{dtg:fQ}{k:Nat}{x:Str}(hN:X.N.Nodup)(hl:Loc X.env.scope x)(S:bh X scope Nc fr)(hi:JI X tg iter src)(hg:∀C s H ex,JG (fH X scope Nc C s H ex) tg dtg)(ht:∀C s H ex,JC (fH X scope Nc C s H ex) ifs t)(he:∀C s H ex,JE (fH X scope Nc C s H ex) elt te)(fit:qR fr dtg)
 (hf:X.fn x=true\/X.env.scope.names.lookup x=some .local:=by first|exact .inl rfl|exact .inr rfl) (hsw:swapsWith (.ListComp elt [⟨tg,iter,ifs,0⟩] scope p) (some (.Name x pos')) pos.line X.env=pure true:=by rfl) (hni:X.N[k]?=some x:=by rfl) (hx:X.xe=fun _ _=>False:=by rfl) (hc:X.calm=true:=by rfl) (hs:∀x,foldedSetIterable iter X.env x=pure x:=by intro _;rfl):
 JS X (.Assign [.Name x pos'] (.ListComp elt [⟨tg,iter,ifs,0⟩] scope p) pos) (cJ k (dm src fr dtg t te)):=by
 unfold JS;unfold JE JI JG JC at*;exact GZ fit (An hx hc S hi hg ht he hN hni hl hf hsw hs)
theorem EL{scope:Scope}{Nc:List Str}{elt tg iter:Expr}{ifs:List Expr}{src:DI}{fr:List (Option Nat)}{dtg:fQ}{k:Nat}{x:Str}(hN:X.N.Nodup)(hl:Loc X.env.scope x)(S:bh X scope Nc fr)(hi:JI X tg iter src)(hg:∀C s H ex,JG (fH X scope Nc C s H ex) tg dtg)(ht:∀C s H ex,JC (fH X scope Nc C s H ex) ifs t)(he:∀C s H ex,JE (fH X scope Nc C s H ex) elt te)(fit:qR fr dtg)
 (hf:X.fn x=true\/X.env.scope.names.lookup x=some .local:=by first|exact .inl rfl|exact .inr rfl) (hsw:swapsWith (.ListComp elt [⟨tg,iter,ifs,0⟩] scope p) (some (.Name x pos')) pos.line X.env=pure true:=by rfl) (hni:X.N[k]?=some x:=by rfl) (hx:X.xe=fun _ _=>False:=by rfl) (hc:X.calm=true:=by rfl) (hs:∀x,foldedSetIterable iter X.env x=pure x:=by intro _;rfl):
 JS X (.Assign [.Name x pos'] (.ListComp elt [⟨tg,iter,ifs,0⟩] scope p) pos) (cJ k (mS src fr dtg t te)):=by
 unfold JS;unfold JE JI JG JC at*;exact Fh fit (An hx hc S hi hg ht he hN hni hl hf hsw hs)
theorem f7(he:JE X e te)(ho:JE X o to)(hi:JE X i ti)(h1:lQ e=true:=by rfl)(h2:nP i=true:=by rfl):JS X (.Assign [.Subscript o i pos'] e pos) (gY to ti te):=by unfold JS;unfold JE at*;exact Ej (Jk he ho hi h1 h2)
theorem Iz{k:Nat}{x:Str}{op:Operator}{f:Int->Int->Int}(hN:X.N.Nodup)(hx:Loc X.env.scope x)(he:JE X e te)(ho:Ii X op (IS f))(hf:X.fn x=true\/X.env.scope.names.lookup x=some .local:=by first|exact .inl rfl|exact .inr rfl)(hi:X.N[k]?=some x:=by rfl):JS X (.AugAssign (.Name x pos') op e pos) (BY k (zo f) te):=by
 unfold JS;unfold JE at he;exact JP (Iy hN hi hx he ho hf)
theorem zw{k j kt k2:Nat}{x y:Str}{px py pt pt2:Pos}(hN:X.N.Nodup)(hij:k≠j)(hx:X.env.scope.names.lookup x=some .local)(hy:X.env.scope.names.lookup y=some .local)(ha:JA X [a,b] ar)
 (hw:swappedStores [.Tuple [.Name x px,.Name y py] kt pt] (.Tuple [a,b] k2 pt2) X.env=pure (some [x,y]):=by rfl) (hc:X.calm=true:=by rfl) (hi:X.N[k]?=some x:=by rfl) (hj:X.N[j]?=some y:=by rfl) (hs:swapsWithSole [.Tuple [.Name x px,.Name y py] kt pt] (.Tuple [a,b] k2 pt2) pos.line X.env=pure false:=by rfl):
 JS X (.Assign [.Tuple [.Name x px,.Name y py] kt pt] (.Tuple [a,b] k2 pt2) pos) (yq k j ar):=by unfold JS;unfold JA at ha;exact Ib (II hc hN hi hj hij hx hy ha hw hs)
theorem Kp{tg:Expr}{dtg:fQ}(he:JE X e te)(hg:JG X tg dtg)(hs:swapsWithSole [tg] e pos.line X.env=pure false:=by rfl)(hw:swappedStores [tg] e X.env=pure none:=by rfl)(h1:(assignEach [tg] X.env).map (·.2)=[assign tg X.env]:=by rfl):JS X (.Assign [tg] e pos) (Fi dtg te):=by
 unfold JS;unfold JE at he;unfold JG at hg;exact Ip (DV he hg hs hw h1)
end
theorem cf{P:Program}{w:World}{K:PySem.W.Frag}{mg:Str->Option Value}{base:Heap}{x qual:Str}{st:Stmt}{f:Addr}{fd:FuncData}{N ps:List Str}{k:Nat}{sp:cF}{t:DS}(F:ow K x qual st f fd)(S:aR N ps (ai st))
 (hbody:∀(cdv:Value) (A:Around) (outer:List Env) (s:Shared) (H:Hp) (E:XK),cP k (A.deeper (envOfC qual (ai st) s.heap.objs.size f cdv))->JB (qj cG P w K mg base N qual (ai st) f cdv A outer s H E).vo (iq st) t)
 (hsp:∀ds st K,sp ds st K->ds.length=ps.length/\t {nx:=fun _ st'=>K .aI st',rt:=K} (a7 N ds) st):bF P w K mg base cG (k+1) f fd ps (cL sp):=by
 unfold JB at hbody;exact L6 F S hbody hsp
end L3
namespace HT
open PySem PyProof.Rows
section
variable {prog:Program}{w:World}{A:Around}{E:Value->Shared->Prop}{s:Shared}
theorem qY{t sl:Addr}{items:Array Value}{vl vu:Value}{lo hi:Option Int}{Q:Value->Shared->Prop}(ht:IsTup s.heap t items)(hs:s.heap.IsSliceOf sl vl vu .none)(pl:IsPart vl lo)(pu:IsPart vu hi)
 (hw:bU items.size 0 lo=0/\bU items.size items.size hi=items.size) (h:Q (.ref t) s):wpAny (model prog w) A (getItem (.ref t) (.ref sl)) Q E s:=by
 obtain⟨os,hos,hcs,hds⟩:=id hs;have hTs:s.TypeIs (.ref sl) "slice":=⟨os,hos,hcs⟩
 unfold getItem;try with_reducible refine wpAny_holding ?_
 first|refine wpAny_bind (wpAny_pure ?_)|skip
 refine wpAny_bind (wpAny_sequenceKey ht.typeIs (by decide) ?_)
 refine wpAny_bind (wpAny_callSpecial?_slot (name:=Str.ofString "__getitem__") ht.typeIs PyProof.Rows.slot_tuple_getitem
  (wpAny_call_entry PyProof.Rows.slot_tuple_getitem ht.typeIs entry_tuple_getitem ?_ (args_tuple_getitem _ _)))
 show wpAny _ _ (Builtin.Tuple.tupleItemsOf (.ref t) >>= _) _ _ s;refine wpAny_bind (tupleItemsOf_ ht ?_);refine wpAny_bind (wpAny_typeOf hTs ?_);rw[if_pos (by decide)];refine wpAny_bind (oy hs pl pu ?_)
 have hyes:(((bU items.size 0 lo:Nat):Int)==0&&(1:Int)==1&&(bU items.size items.size hi-bU items.size 0 lo)==items.size)=true:=by
  rw[hw.1,hw.2];simp
 show wpAny _ _ (if(((bU items.size 0 lo:Nat):Int)==0&&(1:Int)==1&&(bU items.size items.size hi-bU items.size 0 lo)==items.size)=true then _ else _) _ _ s;rw[if_pos hyes];refine wpAny_bind ?_;unfold Builtin.Tuple.tupleIsExact;exact wpAny_bind (wpAny_typeOf ht.typeIs (wpAny_pure (wpAny_bind (wpAny_rule (wpAny_pure ⟨_,rfl,wpAny_pure h⟩)))))
end
end HT
namespace L3
open PySem L2
open PySem.Spec hiding items?
open PyProof.Rows hiding St
abbrev DO:=cv->af->(Option Int->af->Prop)->Prop
def vT:DO:=fun _ st K=>K none st
def BP(t:DE):DO:=fun σ st K=>t σ st fun d st1=>match d with| .int i=>K (some i) st1|_=>False
def cutD(xs:List D)(lo hi:Option Int):List D:=(xs.drop (HT.bU xs.length 0 lo)).take (HT.bU xs.length xs.length hi-HT.bU xs.length 0 lo)
def zu(d:D)(lo hi:Option Int)(st:af)(K:DK):Prop:=match d with
 | .lst xs=>K (.lst (cutD xs lo hi)) st
 | .tup xs=>K (.tup (cutD xs lo hi)) st
 | .ref n=>(match st[n]? with|some (.lst xs)=>K (.lst (cutD xs lo hi)) st|_=>False)
 |_=>False
@[irreducible] def rp:D->Option Int->Option Int->af->DK->Prop:=zu
def zf(t:DE)(lo hi:DO):DE:=fun σ st K=>t σ st fun d st1=>lo σ st1 fun l st2=>hi σ st2 fun u st3=>rp d l u st3 K
theorem ug{α:List (Option Addr)}{G:Hp}{xs:List D}{vs:List V}{lo hi:Option Int}(r:aF α G xs vs):aF α G (cutD xs lo hi) (qk vs lo hi):=by
 unfold cutD qk;rw[<-r.length];exact bI.mpr (tR _ (tP _ (bI.mp r)))
def Oi(α:List (Option Addr))(G F:Hp)(K:Option Int->af->Prop)(Q:Option Int->Hp->Prop):Prop:=∀o st',K o st'->∀α' G' H',Step α G α' G'->b_ G' F H'->aS α' st' G'->Q o H'
inductive MY(t:DO)(σ:L2.St)(H:Hp)(Q:Option Int->Hp->Prop):Prop
 |mk (α:List (Option Addr)) (σd:cv) (st:af) (K:Option Int->af->Prop) (G F:Hp) (P:b_ G F H) (R:eL α G σd σ) (S:aS α st G) (h:t σd st K) (k:Oi α G F K Q):MY t σ H Q
def LO(t:DO):TO:=MY t
section
variable {X:Cx}
theorem PO.imp{e:Option Expr}{t t':TO}(h:PO X e t)(f:∀σ H Q,t' σ H Q->t σ H Q):PO X e t':=fun pins s σ H Q I q=>h pins s σ H Q I (f σ H Q q)
theorem HW:PO X none (LO vT):=PO.imp GO fun σ H Q ⟨α,σd,st,K,G,F,P,R,S,t,k⟩=>k none st t α G H Step.refl P S
theorem HI{e:Expr}{te:DE}(h:PE X e (LE te)):PO X (some e) (LO (BP te)):=PO.imp (Hv h) fun σ H Q ⟨α,σd,st,K,G,F,P,R,S,t,k⟩=>by
 refine⟨α,σd,st,_,G,F,P,R,S,t,fun d st1 q α1 G1 H1 v s1 P1 S1 r1=>?_⟩;cases d<;>try exact q.elim
 unfold Rep at r1;exact⟨_,r1,k _ st1 q α1 G1 H1 s1 P1 S1⟩
def N7(x:V)(lo hi:Option Int)(H:Hp)(Q:VK):Prop:=∃α d st K G F,b_ G F H/\Rep α G d x/\aS α st G/\rp d lo hi st K/\LK α G F K Q
theorem Gx:Cu X (fun x lo hi H Q=>∃a xs,x= .ref a/\H a=some (.tup xs)/\((HT.bU xs.length 0 lo=0/\HT.bU xs.length xs.length hi=xs.length)->Q (.ref a) H)/\(¬(HT.bU xs.length 0 lo=0/\HT.bU xs.length xs.length hi=xs.length)->∀p,H p=none->Q (.ref p) (upd H p (.tup (qk xs lo hi))))):=by
 intro pins s σ H x v vl vu lo hi sl Q I rx hs pl pu h;obtain⟨a,xs,rfl,hx,q1,q2⟩:=h;by_cases hw:HT.bU xs.length 0 lo=0/\HT.bU xs.length xs.length hi=xs.length
 . cases rx;obtain⟨its,r,ht,hz⟩:=I.tuple (jn.of hx);have hlen:its.toArray.size=xs.length:=by rw[List.size_toArray];exact r.length.symm
   exact⟨"tuple",_,PyProof.Rows.slot_tuple_getitem.lookup,ht.typeIs,HT.qY ht hs pl pu (by rw[hlen];exact hw) ⟨.ref a,H,I,rfl,q1 hw⟩⟩
 . exact Kr pins s σ H _ v vl vu lo hi sl Q I rx hs pl pu ⟨a,xs,rfl,.of hx,hw,q2 hw⟩
theorem Cc{xs:List D}{lo hi:Option Int}(hw:HT.bU xs.length 0 lo=0/\HT.bU xs.length xs.length hi=xs.length):cutD xs lo hi=xs:=by
 unfold cutD;rw[hw.1,hw.2];simp
theorem Kv:Cu X N7:=by
 intro pins s σ H x v vl vu lo hi sl Q I rx hs pl pu ⟨α,d,st,K,G,F',P,r1,S,q,k⟩;unfold rp zu at q;cases d<;>try exact q.elim
 . rename_i n;simp only at q;split at q
   . rename_i xs e;obtain⟨a,ea,vs,h1,h2⟩:=S.lH e;have r1':=f9 ea r1;subst r1';exact Ax pins s σ H _ v vl vu lo hi sl Q I rx hs pl pu ⟨a,vs,rfl,.inl (.of (P.get h1)),fun p hp=>k.lst P q S (ug h2) hp⟩
   . exact q.elim
 . unfold Rep at r1;obtain⟨a,vs,rfl,na,ha,ra⟩:=r1;exact Ax pins s σ H _ v vl vu lo hi sl Q I rx hs pl pu ⟨a,vs,rfl,.inl (hW P ha),fun p hp=>k.lst P q S (ug ra) hp⟩
 . rename_i xs;have r0:=r1;unfold Rep at r1;obtain⟨a,vs,rfl,na,ha,ra⟩:=r1;refine Gx pins s σ H _ v vl vu lo hi sl Q I rx hs pl pu ⟨a,vs,rfl,P.get ha,fun hw=>?_,fun _ p hp=>k.tup P q S (ug ra) hp⟩;rw[<-ra.length]at hw;simp only at q;rw[Cc hw]at q;exact k.here P q S r0
theorem GK{e:Expr}{lo hi:Option Expr}{te:DE}{tl th:DO}{p2 pos:Pos}(he:PE X e (LE te))(hl:PO X lo (LO tl))(hh:PO X hi (LO th)):PE X (.Subscript e (.Slice lo hi none p2) pos) (LE (zf te tl th)):=PE.imp (Ei Kv he hl hh) fun σ H Q ⟨α,σd,st,K,G,F,P,R,S,t,k⟩=>by
 refine⟨α,σd,st,_,G,F,P,R,S,t,fun d st1 q α1 G1 H1 v s1 P1 S1 r1=>?_⟩;refine⟨α1,σd,st1,_,G1,F,P1,R.step s1,S1,q,fun l st2 q2 α2 G2 H2 s2 P2 S2=>?_⟩;refine⟨α2,σd,st2,_,G2,F,P2,(R.step s1).step s2,S2,q2,fun u st3 q3 α3 G3 H3 s3 P3 S3=>?_⟩;exact⟨α3,d,st3,K,G3,F,P3,(r1.step s2).step s3,S3,q3,((k.at s1).at s2).at s3⟩
@[irreducible] def JO(X:Cx)(e:Option Expr)(t:DO):Prop:=PO X e (LO t)
theorem GX:JO X none vT:=by unfold JO;exact HW
theorem HA{e:Expr}{te:DE}(h:JE X e te):JO X (some e) (BP te):=by unfold JO;unfold JE at h;exact HI h
theorem Hq{e:Expr}{lo hi:Option Expr}{te:DE}{tl th:DO}{p2 pos:Pos}(he:JE X e te)(hl:JO X lo tl)(hh:JO X hi th):JE X (.Subscript e (.Slice lo hi none p2) pos) (zf te tl th):=by unfold JE at*;unfold JO at*;exact GK he hl hh
end
theorem CP{st:af}{K:DK}{xs:List D}{lo hi:Option Int}{n:Nat}(h:st[n]?=some (.lst xs))(k:K (.lst (cutD xs lo hi)) st):rp (.ref n) lo hi st K:=by unfold rp zu;simp only[h];exact k
section
variable {prog:Program}{w:World}{A:Around}{E:Value->Shared->Prop}{s:Shared}
theorem A8{iT tp:Addr}{n:Nat}{its:Array Value}{v:Value}{Q:Value->Shared->Prop}(hI:s.heap.IsTupleIter iT tp n)(hT:s.heap.IsTuple tp its)(hv:its[n]?=some v)
 (q:∀g,g.IsTupleIter iT tp (n+1)->Heap.SameBut iT s.heap g->Q v {s with heap:=g}):wpAny (model prog w) A (Builtin.SmallTypes.nextOf (.ref iT)) Q E s:=by
 obtain⟨oI,eI,cI,dI⟩:=id hI;obtain⟨oT,eT,_,nT,dT⟩:=hT;unfold Builtin.SmallTypes.nextOf;refine wpAny_bind (wpAny_callSpecial?_slot (name:=Str.ofString "__next__") hI.typeIs F.slot_tuple_iterator_next (wpAny_call_entry F.slot_tuple_iterator_next hI.typeIs F.entry_tuple_iterator_next ?_ (F.args_tuple_iterator_next_1 _)));show wpAny _ _ (field (.ref iT) 0 >>= _) _ _ s;refine wpAny_bind (wpAny_field eI dI (x:= .ref tp) rfl ?_);show wpAny _ _ (if(Value.ref tp==Value.none)=true then _ else _) _ _ s;rw[if_neg (show¬((Value.ref tp==Value.none)=true)from Bool.false_ne_true)];show wpAny _ _ (field (.ref iT) 1 >>= _) _ _ s;refine wpAny_bind (wpAny_field eI dI (x:= .int n 0) rfl ?_);show wpAny _ _ (seqItems? (.ref tp) >>= _) _ _ s;refine wpAny_bind (wpAny_seqItems eT dT ?_);simp only[Int.toNat_natCast,hv];refine wpAny_bind (wpAny_setField eI dI (by simp) (wpAny_pure ⟨v,rfl,wpAny_pure (q _ ?_ (Heap.SameBut.update ..))⟩));refine⟨_,Heap.get?_update_self _ eI (Obj.isFreed_of_fields (Obj.data_mapFields dI _)),(Obj.cls_mapFields ..).trans cI,?_⟩;rw[Obj.data_mapFields dI];simp[rawInt]
theorem Dj{iT tp:Addr}{n:Nat}{its:Array Value}{Q:Value->Shared->Prop}(hh:A.handled=none)(hI:s.heap.IsTupleIter iT tp n)(hT:s.heap.IsTuple tp its)(hv:its[n]?=none)
 (q:∀g e,Heap.ExtBut iT s.heap g->(∃o,g.get? e=some o/\o.cls= .type "StopIteration")->E (.ref e) {s with heap:=g}):wpAny (model prog w) A (Builtin.SmallTypes.nextOf (.ref iT)) Q E s:=by
 obtain⟨oI,eI,cI,dI⟩:=id hI;obtain⟨oT,eT,_,nT,dT⟩:=hT;unfold Builtin.SmallTypes.nextOf;refine wpAny_bind (wpAny_callSpecial?_slot (name:=Str.ofString "__next__") hI.typeIs F.slot_tuple_iterator_next (wpAny_call_entry F.slot_tuple_iterator_next hI.typeIs F.entry_tuple_iterator_next ?_ (F.args_tuple_iterator_next_1 _)));show wpAny _ _ (field (.ref iT) 0 >>= _) _ _ s;refine wpAny_bind (wpAny_field eI dI (x:= .ref tp) rfl ?_);show wpAny _ _ (if(Value.ref tp==Value.none)=true then _ else _) _ _ s;rw[if_neg (show¬((Value.ref tp==Value.none)=true)from Bool.false_ne_true)];show wpAny _ _ (field (.ref iT) 1 >>= _) _ _ s;refine wpAny_bind (wpAny_field eI dI (x:= .int n 0) rfl ?_);show wpAny _ _ (seqItems? (.ref tp) >>= _) _ _ s;refine wpAny_bind (wpAny_seqItems eT dT ?_);simp only[Int.toNat_natCast,hv];refine wpAny_bind (wpAny_rule (wpAny_bind (wpAny_setField eI dI (by simp) ?_)));show wpAny _ _ (newExc (.type "StopIteration") [] >>= _) _ _ _;refine wpAny_bind ?_;simp only[newExc,newTuple];refine wpAny_bind (wpAny_newObj_type ?_ (by size_fits));refine wpAny_bind (m:=firstArgMember _ _) (wpAny_of_eq (a:=Value.none) (by first|rfl|(simp only[firstArgMember];rfl)) ?_);refine wpAny_newObj_type ?_ (by size_fits);simp only[raiseNew];refine wpAny_bind (wpAny_handled ?_);first|rw[show A.in1.handled=none from hh]|rw[hh]
 refine wpAny_bind (wpAny_pure (wpAny_throw ?_));exact q _ _ (((Heap.SameBut.update ..).extBut.push _).push _) ⟨_,Heap.get?_push_size _ rfl,rfl⟩
end
section
variable {st:af}{K:DK}{i j:Int}{b c:Bool}{xs ys:List D}{d e:D}{n:Nat}
theorem eqT(h:i=j)(k:K (.bl true) st):jY (.int i) (.int j) st K:=Dc (by rw[decide_eq_true h];exact k)
theorem N9(h:i≠j)(k:K (.bl false) st):jY (.int i) (.int j) st K:=Dc (by rw[decide_eq_false h];exact k)
theorem eq2(h1:i=j->K (.bl true) st)(h2:i≠j->K (.bl false) st):jY (.int i) (.int j) st K:=by
 by_cases h:i=j
 . exact eqT h (h1 h)
 . exact N9 h (h2 h)
theorem neT(h:i≠j)(k:K (.bl true) st):oY (.int i) (.int j) st K:=FI (by rw[decide_eq_false h];exact k)
theorem Cf(h:i=j)(k:K (.bl false) st):oY (.int i) (.int j) st K:=FI (by rw[decide_eq_true h];exact k)
theorem ne2(h1:i≠j->K (.bl true) st)(h2:i=j->K (.bl false) st):oY (.int i) (.int j) st K:=by
 by_cases h:i=j
 . exact Cf h (h2 h)
 . exact neT h (h1 h)
theorem Oa(h:i<j)(k:K (.bl true) st):su (.int i) (.int j) st K:=FE (by rw[decide_eq_true h];exact k)
theorem N2(h:j<=i)(k:K (.bl false) st):su (.int i) (.int j) st K:=FE (by rw[decide_eq_false (by omega)];exact k)
theorem FW(h1:i<j->K (.bl true) st)(h2:j<=i->K (.bl false) st):su (.int i) (.int j) st K:=by
 by_cases h:i<j
 . exact Oa h (h1 h)
 . exact N2 (by omega) (h2 (by omega))
theorem MJ(h:j<i)(k:K (.bl true) st):oQ (.int i) (.int j) st K:=A5 (by rw[decide_eq_true h];exact k)
theorem ME(h:i<=j)(k:K (.bl false) st):oQ (.int i) (.int j) st K:=A5 (by rw[decide_eq_false (by omega)];exact k)
theorem FK(h1:j<i->K (.bl true) st)(h2:i<=j->K (.bl false) st):oQ (.int i) (.int j) st K:=by
 by_cases h:j<i
 . exact MJ h (h1 h)
 . exact ME (by omega) (h2 (by omega))
theorem MO{P:Prop}(h:xs.length<=1000)(k:P):xs.length<=sizeLine/\P:=⟨by rw[sizeLine_eq];omega,k⟩
theorem cy{m:Nat}(h:m<=1000):m<=sizeLine:=by rw[sizeLine_eq];omega
theorem wc(h0:0<=i)(e:xs[i.toNat]?=some d):fE xs i=some d:=by
 have:=jH e;rw[Int.toNat_of_nonneg h0]at this;exact this
theorem Ca{m:Nat}(h0:0<=i)(h:i.toNat<m):nR m i=some i.toNat:=by
 unfold nR;have:i<(m:Int):=by omega
 simp[h0,this]
end
theorem ma{tg:fQ}{body:DS}{ok:af->Prop}{E:oP}(I:List D->cv->af->Prop)(hend:∀σ st,I [] σ st->ok st/\E.nx σ st)
 (hstep:∀x xs σ st,I (x::xs) σ st->(∀σ' st',I xs σ' st'->jC tg body ok E xs σ' st')->ok st/\∃σ1,tg x σ=some σ1/\body {E with nx:=jC tg body ok E xs,ct:=jC tg body ok E xs,bk:=E.nx} σ1 st):
 ∀xs σ st,I xs σ st->jC tg body ok E xs σ st
 | [],σ,st,h=>by unfold jC;exact hend σ st h
 |x::xs,σ,st,h=>by unfold jC;exact hstep x xs σ st h fun σ' st' h'=>ma I hend hstep xs σ' st' h'
theorem gc{tg:fQ}{c:DT}{te:DE}{ok:af->Prop}{σc:cv}{K:List D->af->Prop}(I:List D->List D->af->Prop)(hend:∀acc st,I [] acc st->ok st/\K acc st)
 (hstep:∀x xs acc st,I (x::xs) acc st->(∀acc' st',I xs acc' st'->c9 tg c te ok σc xs acc' st' K)->ok st/\∃σ2,tg x σc=some σ2/\c σ2 st fun b st1=>if b=true then te σ2 st1 fun y st2=>c9 tg c te ok σc xs (acc++[y]) st2 K else c9 tg c te ok σc xs acc st1 K):
 ∀xs acc st,I xs acc st->c9 tg c te ok σc xs acc st K
 | [],acc,st,h=>by unfold c9;exact hend acc st h
 |x::xs,acc,st,h=>by unfold c9;exact hstep x xs acc st h fun acc' st' h'=>gc I hend hstep xs acc' st' h'
theorem comp_map{tg:fQ}{te:DE}{ok:af->Prop}{σc:cv}{st:af}{K:List D->af->Prop}{g:D->D}(aK:ok st)(xs:List D)(hx:∀x∈xs,∀K',K' (g x) st->∃σ2,tg x σc=some σ2/\te σ2 st K')(k:K (xs.map g) st):c9 tg cB te ok σc xs [] st K:=by
 refine gc (fun r acc st'=>st'=st/\(∀x∈r,x∈xs)/\acc++r.map g=xs.map g) (fun acc st' h=>?_) (fun x r acc st' h next=>?_) xs [] st ⟨rfl,fun _ h=>h,rfl⟩
 . obtain⟨rfl,_,e⟩:=h;rw[List.map_nil,List.append_nil]at e;rw[e];exact⟨aK,k⟩
 . obtain⟨rfl,hm,e⟩:=h;obtain⟨σ2,e2,q⟩:=hx x (hm x List.mem_cons_self) (fun y st2=>c9 tg cB te ok σc r (acc++[y]) st2 K) (next _ _ ⟨rfl,fun z hz=>hm z (List.mem_cons_of_mem _ hz),by rw[<-e];simp⟩);exact⟨aK,σ2,e2,q⟩
theorem jG{A B:DS}{E:oP}{σ:cv}{st:af}(J:cv->af->Prop)(h:∀nx,(∀σ' st',J σ' st'->nx σ' st')->A {E with nx:=nx} σ st)(k:∀σ' st',J σ' st'->B E σ' st'):aL A B E σ st:=h (B E) k
def JN(n:Nat)(K:DK)(y:D)(st2:af):Prop:=∃y',[y]=[y']/\(match st2[n]? with|some (.lst xs)=>xs.length<sizeLine/\K .aI (st2.set n (.lst (xs++[y'])))|_=>False)
theorem vD{n:Nat}{K:DK}{y:D}{st:af}{xs:List D}(e:st[n]?=some (.lst xs))(h:xs.length<sizeLine)(k:K .aI (st.set n (.lst (xs++[y])))):JN n K y st:=by
 refine⟨y,rfl,?_⟩;simp only[e];exact⟨h,k⟩
@[irreducible] def lO(to te:DE):DE:=p_ to te
theorem yR{σ:cv}{st:af}{K:DK}{i n:Nat}{xs:List D}{te:DE}(ei:σ[i]?=some (some (.ref n)))(e:st[n]?=some (.lst xs))(h:te σ st (JN n K)):lO (ab i) te σ st K:=by
 unfold lO p_ ab;simp only[ei,e];exact h
theorem rk{X:Cx}{o e:Expr}{to te:DE}{apos cpos:Pos}(ho:JE X o to)(he:JE X e te)(hbase:attributeBase o "append" X.env (eval o X.env)=eval o X.env:=by rfl)(hline:(apos.endLine==cpos.line)=true:=by rfl)(hs:notStar e=true:=by rfl):JE X (.Call (.Attribute o "append" apos) [e] [] cpos) (lO to te):=by
 unfold lO;exact EZ ho he hbase hline hs
section
variable {X:Cx}
end
structure Src(P:Program)(w:World)(t a:Addr)(J:Nat->Heap->Prop)(us:Array Value):Prop where
 fr:∀n g k,J n g->(∀b,b=t\/b=a->∀o,g.get? b=some o->k.get? b=some o)->J n k
 lv:∀n g,J n g->(∃o,g.get? t=some o)/\∃o,g.get? a=some o
 nx:∀n (A:Around) (s:Shared) (Q:Value->Shared->Prop) (E:Value->Shared->Prop) v,J n s.heap->us[n]?=some v->(∀k,J (n+1) k->Heap.SameBut t s.heap k->Q v {s with heap:=k})->wpAny (model P w) A (Builtin.SmallTypes.nextOf (.ref t)) Q E s
 en:∀n (A:Around) (s:Shared) (Q:Value->Shared->Prop) (E:Value->Shared->Prop),A.handled=none->J n s.heap->us[n]?=none->(∀k e,Heap.ExtBut t s.heap k->(∃o,k.get? e=some o/\o.cls= .type "StopIteration")->E (.ref e) {s with heap:=k})->wpAny (model P w) A (Builtin.SmallTypes.nextOf (.ref t)) Q E s
section
variable {P:Program}{w:World}
theorem src_list(t a:Addr)(hne:a≠t)(us:Array Value):Src P w t a (fun n g=>g.IsListIter t a n/\g.IsList a us) us where
 fr:=fun n g k j kp=>⟨j.1.at fun o e=>kp t (.inl rfl) o e,j.2.at fun o e=>kp a (.inr rfl) o e⟩
 lv:=fun n g j=>⟨let⟨o,e,_⟩:=j.1;⟨o,e⟩,let⟨o,e,_⟩:=j.2;⟨o,e⟩⟩
 nx:=fun n A s Q E v j hv q=>wpAny_nextOf_list_item j.1 j.2 hv fun k jk sb=>q k ⟨jk,j.2.extBut sb.extBut hne⟩ sb
 en:=fun n A s Q E hh j hv q=>wpAny_nextOf_list_end hh j.1 j.2 hv q
theorem Hl(t a:Addr)(hne:a≠t)(us:Array Value):Src P w t a (fun n g=>g.IsTupleIter t a n/\g.IsTuple a us) us where
 fr:=fun n g k j kp=>by
  obtain⟨⟨o,e,r⟩,⟨o2,e2,r2⟩⟩:=j;exact⟨⟨o,kp t (.inl rfl) o e,r⟩,⟨o2,kp a (.inr rfl) o2 e2,r2⟩⟩
 lv:=fun n g j=>⟨let⟨o,e,_⟩:=j.1;⟨o,e⟩,let⟨o,e,_⟩:=j.2;⟨o,e⟩⟩
 nx:=fun n A s Q E v j hv q=>A8 j.1 j.2 hv fun k jk sb=>q k ⟨jk,j.2.extBut sb.extBut hne⟩ sb
 en:=fun n A s Q E hh j hv q=>Dj hh j.1 j.2 hv q
theorem Src.ext{t a c:Addr}{J:Nat->Heap->Prop}{us:Array Value}(S:Src P w t a J us){n:Nat}{g k:Heap}(j:J n g)(x:Heap.ExtBut c g k)(h1:c≠t)(h2:c≠a):J n k:=
 S.fr n g k j fun b hb o e=>x b o (by rcases hb with rfl|rfl;exact Ne.symm h1;exact Ne.symm h2) e
structure AB(z ti to t1 t2 a1 a2:Addr):Prop where
 nd: [z,ti,to,t1,t2].Nodup
 a1:a1∉[z,ti,to,t1,t2]
 a2:a2∉[z,ti,to,t1,t2]
section
variable {z ti to t1 t2 a1 a2:Addr}
theorem AB.n(D:AB z ti to t1 t2 a1 a2):(ti≠z/\to≠z/\t1≠z/\t2≠z)/\(ti≠to/\ti≠t1/\ti≠t2)/\(to≠t1/\to≠t2)/\t1≠t2:=by
 have:=D.nd;simp only[List.nodup_cons,List.mem_cons,not_or,List.not_mem_nil,not_false_eq_true,and_true,List.nodup_nil]at this;obtain⟨⟨b1,b2,b3,b4⟩,⟨b5,b6,b7⟩,⟨b8,b9⟩,b10⟩:=this;exact⟨⟨Ne.symm b1,Ne.symm b2,Ne.symm b3,Ne.symm b4⟩,⟨b5,b6,b7⟩,⟨b8,b9⟩,b10⟩
theorem DU{A:Around}{s:Shared}{E:Value->Shared->Prop}{J1 J2:Nat->Heap->Prop}{us vs:Array Value}{n:Nat}{x y a b:Value}{Q:Value->Shared->Prop}(D:AB z ti to t1 t2 a1 a2)(S1:Src P w t1 a1 J1 us)(S2:Src P w t2 a2 J2 vs)
 (Z:IsZip s.heap z ti to .none) (pI:IsPair s.heap ti (.ref t1) (.ref t2)) (pO:IsPair s.heap to a b) (j1:J1 n s.heap) (j2:J2 n s.heap) (ex:us[n]?=some x) (ey:vs[n]?=some y)
 (q:∀k,IsZip k z ti to (rawInt s.heap.objs.size)->IsPair k to x y->J1 (n+1) k->J2 (n+1) k->IsPair k s.heap.objs.size x y->k.objs.size=s.heap.objs.size+1->
   (∀c o,c≠z->c≠to->c≠t1->c≠t2->s.heap.get? c=some o->k.get? c=some o)->Q (.ref s.heap.objs.size) {s with heap:=k}):
 wpAny (model P w) A (Builtin.«zip.__next__» ⟨[.ref z],[]⟩) (fun fin s'=>∃v,fin= .done (.ret v)/\Q v s') E s:=by
 obtain⟨⟨n1,n2,n3,n4⟩,⟨n5,n6,n7⟩,⟨n8,n9⟩,n10⟩:=D.n;have m1:=D.a1;have m2:=D.a2;simp only[List.mem_cons,not_or,List.not_mem_nil,not_false_eq_true,and_true]at m1 m2;show wpAny _ _ (field (.ref z) 2 >>= _) _ _ _;refine wpAny_bind (wpAny_field Z rfl (x:= .bool false) rfl ?_);show wpAny _ _ (field (.ref z) 3 >>= _) _ _ _;refine wpAny_bind (wpAny_field Z rfl (x:= .ref ti) rfl ?_);refine wpAny_bind (wpAny_seqItems pI rfl ?_);show wpAny _ _ (Builtin.SmallTypes.ownedTupleIsFree (.ref z) >>= _) _ _ _;refine wpAny_bind ?_;unfold Builtin.SmallTypes.ownedTupleIsFree;refine wpAny_bind (wpAny_field Z rfl (x:= .none) rfl (wpAny_pure ?_));simp only[if_true];refine wpAny_bind (wpAny_rule ?_);refine wpAny_bind (wpAny_field Z rfl (x:= .ref to) rfl ?_);refine wpAny_bind (wpAny_setField_rec Z (by simp) fun k1 Z1 b1=>?_);replace Z1:IsZip k1 z ti to .ellipsis:=Z1;refine wpAny_bind ?_;simp only[List.zipIdx_cons,List.zipIdx_nil,List.forIn_cons,List.forIn_nil];refine wpAny_bind (wpAny_bind (wpAny_onRaise ?_));show wpAny _ _ (Builtin.SmallTypes.nextOf (.ref t1) >>= _) _ _ _;refine wpAny_bind (S1.nx n _ _ _ _ x (S1.ext j1 b1.extBut (Ne.symm n3) (Ne.symm m1.1)) ex fun k2 j1b b2=>wpAny_pure ?_);have pO2:IsPair k2 to a b:=b2.extBut _ _ n8 (b1.extBut _ _ n2 pO);refine wpAny_bind (wpAny_seqItems pO2 rfl ?_);refine wpAny_bind (wpAny_updateSeq_pair pO2 fun k3 pO3 b3=>?_);replace pO3:IsPair k3 to x b:=pO3;refine wpAny_bind (wpAny_letGo (wpAny_pure ?_));refine wpAny_bind (wpAny_bind (wpAny_onRaise ?_));show wpAny _ _ (Builtin.SmallTypes.nextOf (.ref t2) >>= _) _ _ _;have j2c:J2 n k3:=S2.ext (S2.ext (S2.ext j2 b1.extBut (Ne.symm n4) (Ne.symm m2.1)) b2.extBut n10 (Ne.symm m2.2.2.2.1)) b3.extBut n9 (Ne.symm m2.2.2.1);refine wpAny_bind (S2.nx n _ _ _ _ y j2c ey fun k4 j2d b4=>wpAny_pure ?_);have pO4:IsPair k4 to x b:=b4.extBut _ _ n9 pO3;refine wpAny_bind (wpAny_seqItems pO4 rfl ?_);refine wpAny_bind (wpAny_updateSeq_pair pO4 fun k5 pO5 b5=>?_);replace pO5:IsPair k5 to x y:=pO5;refine wpAny_bind (wpAny_letGo (wpAny_pure (wpAny_pure ?_)));refine wpAny_bind (wpAny_seqItems pO5 rfl ?_);refine wpAny_bind (wpAny_newTuple ?_);have sz:k5.objs.size=s.heap.objs.size:=by rw[b5.1,b4.1,b3.1,b2.1,b1.1]
 have Z5:IsZip k5 z ti to .ellipsis:=b5.extBut _ _ (Ne.symm n2) (b4.extBut _ _ (Ne.symm n4) (b3.extBut _ _ (Ne.symm n2) (b2.extBut _ _ (Ne.symm n3) Z1)));have kp5:∀c o,c≠z->c≠to->c≠t1->c≠t2->s.heap.get? c=some o->k5.get? c=some o:=fun c o c1 c2 c3 c4 e=>b5.extBut _ _ c2 (b4.extBut _ _ c4 (b3.extBut _ _ c2 (b2.extBut _ _ c3 (b1.extBut _ _ c1 e))));have j1e:J1 (n+1) k5:=S1.ext (S1.ext (S1.ext j1b b3.extBut n8 (Ne.symm m1.2.2.1)) b4.extBut (Ne.symm n10) (Ne.symm m1.2.2.2.2)) b5.extBut n8 (Ne.symm m1.2.2.1);have j2e:J2 (n+1) k5:=S2.ext j2d b5.extBut n9 (Ne.symm m2.2.2.1);have ltz:z<k5.objs.size:=Heap.lt_size Z5;show wpAny _ _ (Builtin.SmallTypes.ownedTupleHandOut (.ref z) (.ref k5.objs.size) >>= _) _ _ _;refine wpAny_bind ?_;unfold Builtin.SmallTypes.ownedTupleHandOut;have Z6:IsZip (k5.push {cls:= .type "tuple",data:= .seq #[x,y]}) z ti to .ellipsis:=Heap.get?_push_of_some _ Z5;refine wpAny_bind (wpAny_setField_rec Z6 (by simp) fun k7 Z7 b7=>?_);replace Z7:IsZip k7 z ti to (rawInt k5.objs.size):=Z7;refine wpAny_setField_rec Z7 (by simp) fun k8 Z8 b8=>?_;replace Z8:IsZip k8 z ti to (rawInt k5.objs.size):=Z8;have up:∀c o,c≠z->k5.get? c=some o->k8.get? c=some o:=fun c o c1 e=>b8.extBut _ _ c1 (b7.extBut _ _ c1 (Heap.get?_push_of_some _ e));have pT:IsPair k8 k5.objs.size x y:=b8.extBut _ _ (Nat.ne_of_gt ltz) (b7.extBut _ _ (Nat.ne_of_gt ltz) (Heap.get?_push_size _ rfl));have sz8:k8.objs.size=k5.objs.size+1:=by rw[b8.1,b7.1,Heap.size_push]
 rw[sz]at Z8 pT sz8;refine wpAny_pure ⟨_,rfl,?_⟩;show Q (.ref k5.objs.size) _;rw[sz];refine q k8 Z8 (up _ _ n2 pO5) (S1.fr _ _ _ j1e fun b hb o e=>up b o ?_ e) (S2.fr _ _ _ j2e fun b hb o e=>up b o ?_ e) pT sz8 fun c o c1 c2 c3 c4 e=>up c o c1 (kp5 c o c1 c2 c3 c4 e)
 . rcases hb with rfl|rfl
   . exact n3
   . exact m1.1
 . rcases hb with rfl|rfl
   . exact n4
   . exact m2.1
theorem EN{A:Around}{s:Shared}{E:Value->Shared->Prop}{J1 J2:Nat->Heap->Prop}{us vs:Array Value}{n:Nat}{a b:Value}{Q:Fin->Shared->Prop}(hh:A.handled=none)(D:AB z ti to t1 t2 a1 a2)(S1:Src P w t1 a1 J1 us)(S2:Src P w t2 a2 J2 vs)
 (Z:IsZip s.heap z ti to .none) (pI:IsPair s.heap ti (.ref t1) (.ref t2)) (pO:IsPair s.heap to a b) (j1:J1 n s.heap) (j2:J2 n s.heap) (he:us[n]?=none\/vs[n]?=none)
 (q:∀k e,(∀c o,c≠z->c≠to->c≠t1->c≠t2->s.heap.get? c=some o->k.get? c=some o)->(∃o,k.get? e=some o/\o.cls= .type "StopIteration")->E (.ref e) {s with heap:=k}):
 wpAny (model P w) A (Builtin.«zip.__next__» ⟨[.ref z],[]⟩) Q E s:=by
 obtain⟨⟨n1,n2,n3,n4⟩,⟨n5,n6,n7⟩,⟨n8,n9⟩,n10⟩:=D.n;have m1:=D.a1;have m2:=D.a2;simp only[List.mem_cons,not_or,List.not_mem_nil,not_false_eq_true,and_true]at m1 m2;show wpAny _ _ (field (.ref z) 2 >>= _) _ _ _;refine wpAny_bind (wpAny_field Z rfl (x:= .bool false) rfl ?_);show wpAny _ _ (field (.ref z) 3 >>= _) _ _ _;refine wpAny_bind (wpAny_field Z rfl (x:= .ref ti) rfl ?_);refine wpAny_bind (wpAny_seqItems pI rfl ?_);show wpAny _ _ (Builtin.SmallTypes.ownedTupleIsFree (.ref z) >>= _) _ _ _;refine wpAny_bind ?_;unfold Builtin.SmallTypes.ownedTupleIsFree;refine wpAny_bind (wpAny_field Z rfl (x:= .none) rfl (wpAny_pure ?_));simp only[if_true];refine wpAny_bind (wpAny_rule ?_);refine wpAny_bind (wpAny_field Z rfl (x:= .ref to) rfl ?_);refine wpAny_bind (wpAny_setField_rec Z (by simp) fun k1 Z1 b1=>?_);replace Z1:IsZip k1 z ti to .ellipsis:=Z1;refine wpAny_bind ?_;simp only[List.zipIdx_cons,List.zipIdx_nil,List.forIn_cons,List.forIn_nil];refine wpAny_bind (wpAny_bind (wpAny_onRaise ?_));show wpAny _ _ (Builtin.SmallTypes.nextOf (.ref t1) >>= _) _ _ _;have j1a:J1 n k1:=S1.ext j1 b1.extBut (Ne.symm n3) (Ne.symm m1.1);cases ex:us[n]? with
 |none=>
  refine wpAny_bind (S1.en n _ _ _ _ hh j1a ex fun k2 e b2 hx=>?_);obtain⟨oe,he1,he2⟩:=hx;have Z2:IsZip k2 z ti to .ellipsis:=b2 _ _ (Ne.symm n3) Z1;have hez:e≠z:=fun c=>by subst c;rw[Z2]at he1;cases he1;simp at he2
  refine wpAny_setField_rec Z2 (by simp) fun k3 _ b3=>q k3 e (fun c o c1 _ c3 _ f=>b3.extBut _ _ c1 (b2 _ _ c3 (b1.extBut _ _ c1 f))) ⟨oe,b3.extBut _ _ hez he1,he2⟩
 |some x=>
  have ey:vs[n]?=none:=by
   rcases he with h|h
   . rw[ex]at h;cases h
   . exact h
  refine wpAny_bind (S1.nx n _ _ _ _ x j1a ex fun k2 j1b b2=>wpAny_pure ?_);have pO2:IsPair k2 to a b:=b2.extBut _ _ n8 (b1.extBut _ _ n2 pO);refine wpAny_bind (wpAny_seqItems pO2 rfl ?_);refine wpAny_bind (wpAny_updateSeq_pair pO2 fun k3 pO3 b3=>?_);refine wpAny_bind (wpAny_letGo (wpAny_pure ?_));refine wpAny_bind (wpAny_bind (wpAny_onRaise ?_));show wpAny _ _ (Builtin.SmallTypes.nextOf (.ref t2) >>= _) _ _ _;have j2c:J2 n k3:=S2.ext (S2.ext (S2.ext j2 b1.extBut (Ne.symm n4) (Ne.symm m2.1)) b2.extBut n10 (Ne.symm m2.2.2.2.1)) b3.extBut n9 (Ne.symm m2.2.2.1);refine wpAny_bind (S2.en n _ _ _ _ hh j2c ey fun k4 e b4 hx=>?_);obtain⟨oe,he1,he2⟩:=hx;have Z4:IsZip k4 z ti to .ellipsis:=b4 _ _ (Ne.symm n4) (b3.extBut _ _ (Ne.symm n2) (b2.extBut _ _ (Ne.symm n3) Z1));have hez:e≠z:=fun c=>by subst c;rw[Z4]at he1;cases he1;simp at he2
  refine wpAny_setField_rec Z4 (by simp) fun k5 _ b5=>q k5 e (fun c o c1 c2 c3 c4 f=>b5.extBut _ _ c1 (b4 _ _ c4 (b3.extBut _ _ c2 (b2.extBut _ _ c3 (b1.extBut _ _ c1 f))))) ⟨oe,b5.extBut _ _ hez he1,he2⟩
end
end
theorem Gf{X:Cx}{pins:List (Addr×Obj)}{σ:L2.St}{H:Hp}{s:Shared}{g:Heap}{tk:Nat}{fp:List Addr}{T:Addr}{xs:List V}(I:Inv X pins σ H s)(hf:∀b∈fp,l_ X pins H b)
 (k:∀b o,b∉fp->s.heap.get? b=some o->g.get? b=some o) (hT:s.heap.objs.size<=T) (new:dP X.prog X.w (upd H T (.tup xs)) g T (.tup xs)):Inv X pins σ (upd H T (.tup xs)) {s with heap:=g,toks:=tk}:=by
 have hn:H T=none:=I.aK.fresh hT;have nfp:∀b u,H b=some u->b∉fp:=fun b u e z=>by rw[(hf b z).1]at e;cases e
 have nT:∀b u,H b=some u->b≠T:=fun b u e=>dH e hn
 refine I.step (g':=s.gens) (d':=s.drawn) (ch:=fp) (fun b hb=>?_) (fun b o _ _ hc e _=>k b o hc e) (fun b o _ _ hc e _=>⟨o.slots,k b o hc e⟩) (fun b o _ e n=>?_) (fun b o hc e=>⟨o,k b o hc e⟩)
  (fun b ys e=>by rw[ax (nT b _ e)];exact e) (fun b o u e=>by rw[ax (nT b _ e)];exact e) (fun b ps e=>⟨#[],by rw[ax (nT b _ e),e];simp⟩) (fun m hm=>?_) (fun b u e=>?_) I.bare
 . obtain⟨f0,f1,f2,f3,f4,f5⟩:=hf b hb;exact⟨f3,f1,f4,f5⟩
 . rw[ax (Nat.ne_of_lt (Nat.lt_of_lt_of_le (Heap.lt_size e) hT))];exact n
 . obtain⟨o,es,ep,ho,r⟩:=hm;exact⟨o,es,ep,k _ o (fun z=>(hf _ z).2.1 rfl) ho,r⟩
 . by_cases hb:b=T
   . subst hb;rw[aU]at e;cases e;exact new
   . rw[ax hb]at e;refine(I.aK b u e).pq (fun c v hc q=>k c v ?_ q) (fun c q=>by rw[ax (nT c _ q)];exact q) fun c ys q=>by rw[ax (nT c _ q)];exact q
     rcases hc with z|z
     . rw[z];exact nfp b u e
     . exact nfp c _ z
theorem FO{X:Cx}{pins:List (Addr×Obj)}{σ:L2.St}{H:Hp}{s:Shared}{g:Heap}{tk:Nat}{fp:List Addr}(I:Inv X pins σ H s)(hf:∀b∈fp,l_ X pins H b)
 (k:∀b o,b∉fp->s.heap.get? b=some o->g.get? b=some o):Inv X pins σ H {s with heap:=g,toks:=tk}:=by
 have nfp:∀b u,H b=some u->b∉fp:=fun b u e z=>by rw[(hf b z).1]at e;cases e
 refine I.step (g':=s.gens) (d':=s.drawn) (ch:=fp) (fun b hb=>?_) (fun b o _ _ hc e _=>k b o hc e) (fun b o _ _ hc e _=>⟨o.slots,k b o hc e⟩) (fun b o _ e n=>n) (fun b o hc e=>⟨o,k b o hc e⟩)
  (fun b ys e=>e) (fun b o u e=>e) (fun b ps e=>⟨#[],by rw[e];simp⟩) (fun m hm=>?_) (fun b u e=>?_) I.bare
 . obtain⟨f0,f1,f2,f3,f4,f5⟩:=hf b hb;exact⟨f3,f1,f4,f5⟩
 . obtain⟨o,es,ep,ho,r⟩:=hm;exact⟨o,es,ep,k _ o (fun z=>(hf _ z).2.1 rfl) ho,r⟩
 . refine(I.aK b u e).pq (fun c v hc q=>k c v ?_ q) (fun c q=>q) fun c ys q=>q;rcases hc with z|z
   . rw[z];exact nfp b u e
   . exact nfp c _ z
inductive SK where
 |l|t
def pW(k:SK)(K:PySem.W.Frag)(H:Hp)(a:Addr)(xs:List V):Prop:=match k with
 | .l=>mM K H a xs
 | .t=>jn K H a xs
def qQ(k:SK)(t a:Addr)(n:Nat)(g:Heap):Prop:=match k with
 | .l=>g.IsListIter t a n
 | .t=>g.IsTupleIter t a n
def mY(k:SK)(g:Heap)(a:Addr)(us:Array Value):Prop:=match k with
 | .l=>g.IsList a us
 | .t=>g.IsTuple a us
def yU(k:SK)(a:Addr):Obj:=match k with
 | .l=>{cls:= .type "list_iterator",data:= .fields #[.ref a,.int 0 0]}
 | .t=>{cls:= .type "tuple_iterator",data:= .fields #[.ref a,.int 0 0]}
theorem nJ{P:Program}{w:World}(k:SK)(t a:Addr)(hne:a≠t)(us:Array Value):Src P w t a (fun n g=>qQ k t a n g/\mY k g a us) us:=by
 cases k
 . exact src_list t a hne us
 . exact Hl t a hne us
theorem ly{X:Cx}{pins:List (Addr×Obj)}{σ:L2.St}{H:Hp}{s:Shared}{k:SK}{a:Addr}{xs:List V}(I:Inv X pins σ H s)(h:pW k X.K H a xs):∃its:List Value,Vals xs its/\mY k s.heap a its.toArray:=by
 cases k
 . obtain⟨its,rv,p,_⟩:=I.list h;exact⟨its,rv,p.isList⟩
 . obtain⟨its,rv,p,_⟩:=I.tuple h;exact⟨its,rv,p⟩
theorem vW{X:Cx}{pins:List (Addr×Obj)}{σ:L2.St}{H:Hp}{s:Shared}{k:SK}{a:Addr}{xs ys:List V}(I:Inv X pins σ H s)(h:pW k X.K H a xs)(h':pW k X.K H a ys):xs=ys:=by
 cases k
 . exact I.yi h h'
 . exact I.wU h h'
theorem Cr{P:Program}{w:World}{A:Around}{s:Shared}{E:Value->Shared->Prop}{k:SK}{a:Addr}{us:Array Value}{Q:Value->Shared->Prop}(h:mY k s.heap a us)(q:Q (.ref s.heap.objs.size) {s with heap:=s.heap.push (yU k a)}):wpAny (model P w) A (pyIter (.ref a)) Q E s:=by
 cases k
 . exact wpAny_pyIter_list h q
 . exact wpAny_pyIter_tuple h q
theorem mY.push{k:SK}{g:Heap}{a:Addr}{us:Array Value}(h:mY k g a us)(o:Obj):mY k (g.push o) a us:=by
 cases k
 . obtain⟨o',e,r⟩:=h;exact⟨o',Heap.get?_push_of_some _ e,r⟩
 . obtain⟨o',e,r⟩:=h;exact⟨o',Heap.get?_push_of_some _ e,r⟩
theorem mY.some{k:SK}{g:Heap}{a:Addr}{us:Array Value}(h:mY k g a us):∃o,g.get? a=Option.some o:=by
 cases k
 . obtain⟨o',e,r⟩:=h;exact⟨o',e⟩
 . obtain⟨o',e,r⟩:=h;exact⟨o',e⟩
theorem Aa{k:SK}{g h:Heap}{t a:Addr}(e:g.get? t=Option.some (yU k a)):qQ k t a 0 g:=by
 cases k
 . exact⟨_,e,rfl,rfl⟩
 . exact⟨_,e,rfl,rfl⟩
theorem pC{k:SK}{t a:Addr}{n:Nat}{g g':Heap}(h:qQ k t a n g)(kp:∀o,g.get? t=Option.some o->g'.get? t=Option.some o):qQ k t a n g':=by
 cases k
 . obtain⟨o,e,r⟩:=h;exact⟨o,kp o e,r⟩
 . obtain⟨o,e,r⟩:=h;exact⟨o,kp o e,r⟩
theorem nM{k:SK}{t a:Addr}{n:Nat}{g:Heap}(h:qQ k t a n g):∃o,g.get? t=Option.some o/\∀v,o.data≠ .cell v:=by
 cases k
 . obtain⟨o,e,c,d⟩:=h;exact⟨o,e,fun v z=>by rw[d]at z;cases z⟩
 . obtain⟨o,e,c,d⟩:=h;exact⟨o,e,fun v z=>by rw[d]at z;cases z⟩
def MZ(K:PySem.W.Frag)(k1 k2:SK)(a1 a2:Addr):It:=
 ⟨fun i H=>∃xs ys x y,pW k1 K H a1 xs/\pW k2 K H a2 ys/\xs[i]?=some x/\ys[i]?=some y,
  fun i H v H'=>∃T x y,H T=none/\v= .ref T/\H'=upd H T (.tup [x,y])/\(∀xs,pW k1 K H a1 xs->xs[i]?=some x)/\∀ys,pW k2 K H a2 ys->ys[i]?=some y,
  fun i H=>∃xs ys,pW k1 K H a1 xs/\pW k2 K H a2 ys/\(xs.length<=i\/ys.length<=i)⟩
def Lp(z ti to t1 t2 a1 a2:Addr)(k1 k2:SK)(i:Nat)(h:Heap):Prop:=IsZip h z ti to .none/\IsPair h ti (.ref t1) (.ref t2)/\(∃a b,IsPair h to a b)/\qQ k1 t1 a1 i h/\qQ k2 t2 a2 i h
theorem Eg{P:Program}{w:World}{K:PySem.W.Frag}{elts:List Expr}{kx:Nat}{pos:Pos}{z ti to t1 t2 a1 a2:Addr}(k1 k2:SK)(D:AB z ti to t1 t2 a1 a2):
 Turn P w K (.Tuple elts kx pos) (MZ K k1 k2 a1 a2) [z,ti,to,t1,t2] z (Lp z ti to t1 t2 a1 a2 k1 k2) where
 mem:=by simp
 obj:=fun i h st b hb=>by
  obtain⟨Z,pI,⟨a,b',pO⟩,i1,i2⟩:=st;simp only[List.mem_cons,List.not_mem_nil,or_false]at hb;rcases hb with rfl|rfl|rfl|rfl|rfl
  . exact⟨_,Z,fun v e=>by cases e⟩
  . exact⟨_,pI,fun v e=>by cases e⟩
  . exact⟨_,pO,fun v e=>by cases e⟩
  . exact nM i1
  . exact nM i2
 keep:=fun i h h' st k=>by
  obtain⟨Z,pI,⟨a,b',pO⟩,i1,i2⟩:=st;exact⟨k z (by simp) _ Z,k ti (by simp) _ pI,⟨a,b',k to (by simp) _ pO⟩,pC i1 (k t1 (by simp)),pC i2 (k t2 (by simp))⟩
 item:=by
  intro X hP hw hK hc i pins s σ H E I hf st hg;subst hP hw hK;obtain⟨Z,pI,⟨a,b',pO⟩,i1,i2⟩:=st;obtain⟨xs,ys,x,y,q1,q2,ex,ey⟩:=hg;obtain⟨us,r1,l1⟩:=ly I q1;obtain⟨vs,r2,l2⟩:=ly I q2;obtain⟨u,eu,ru⟩:=r1.get ex;obtain⟨v,ev,rv⟩:=r2.get ey;have m1:=D.a1;have m2:=D.a2;simp only[List.mem_cons,not_or,List.not_mem_nil,not_false_eq_true,and_true]at m1 m2;obtain⟨⟨n1,n2,n3,n4⟩,⟨n5,n6,n7⟩,⟨n8,n9⟩,n10⟩:=D.n;have tz:s.TypeIs (.ref z) "zip":=⟨_,Z,rfl⟩
  unfold pyNext;refine wpAny_bind (wpAny_attempt (wpAny_callSpecial?_slot (name:=Str.ofString "__next__") tz F.slot_zip_next (wpAny_call_entry F.slot_zip_next tz F.entry_zip_next (DU D (nJ k1 t1 a1 m1.2.2.2.1 us.toArray) (nJ k2 t2 a2 m2.2.2.2.2 vs.toArray) Z pI pO ⟨i1,l1⟩ ⟨i2,l2⟩ (x:=u) (y:=v) (by simpa using eu) (by simpa using ev) fun k Z2 pO2 j1 j2 pT szk kp=>wpAny_pure ⟨_,rfl,?_⟩) (F.args_zip_next_1 _))));refine wpAny_letOwnedTupleGo_zip (s:={s with heap:=k}) Z2 fun k' Z3 b3=>?_;have hT:s.heap.objs.size≠z:=Nat.ne_of_gt (Heap.lt_size Z)
  have kp3:∀b o,b∉[z,ti,to,t1,t2]->s.heap.get? b=some o->k'.get? b=some o:=fun b o hb e=>by
   simp only[List.mem_cons,not_or,List.not_mem_nil,not_false_eq_true,and_true]at hb;exact b3.extBut _ _ hb.1 (kp b o hb.1 hb.2.2.1 hb.2.2.2.1 hb.2.2.2.2 e)
  refine⟨.ref s.heap.objs.size,upd H s.heap.objs.size (.tup [x,y]),Gf (s:=s) (tk:=s.toks) I hf kp3 (Nat.le_refl _) ?_,rfl,⟨s.heap.objs.size,x,y,I.aK.fresh (Nat.le_refl _),rfl,rfl,?_,?_⟩,?_,?_⟩
  . refine⟨Nat.le_of_ble_eq_true rfl,[u,v],.cons ru (.cons rv .nil),?_⟩;exact⟨_,b3.extBut _ _ hT pT,rfl,_,rfl⟩
  . intro xs' q';rw[vW I q' q1];exact ex
  . intro ys' q';rw[vW I q' q2];exact ey
  . refine⟨Z3,b3.extBut _ _ n1 (kp _ _ n1 n5 n6 n7 pI),⟨_,_,b3.extBut _ _ n2 pO2⟩,pC j1.1 fun o e=>b3.extBut _ _ n3 e,pC j2.1 fun o e=>b3.extBut _ _ n4 e⟩
  . intro b hb
    have:b≠s.heap.objs.size:=by
     obtain⟨o,e,_⟩:∃o,s.heap.get? b=some o/\True:=by
      simp only[List.mem_cons,List.not_mem_nil,or_false]at hb;rcases hb with rfl|rfl|rfl|rfl|rfl
      . exact⟨_,Z,trivial⟩
      . exact⟨_,pI,trivial⟩
      . exact⟨_,pO,trivial⟩
      . obtain⟨o,e,_⟩:=nM i1;exact⟨o,e,trivial⟩
      . obtain⟨o,e,_⟩:=nM i2;exact⟨o,e,trivial⟩
     exact Nat.ne_of_lt (Heap.lt_size e)
    rw[ax this];exact(hf b hb).1
 done:=by
  intro X hP hw hK hc i pins s σ H E I hf st hg;subst hP hw hK;obtain⟨Z,pI,⟨a,b',pO⟩,i1,i2⟩:=st;obtain⟨xs,ys,q1,q2,he⟩:=hg;obtain⟨us,r1,l1⟩:=ly I q1;obtain⟨vs,r2,l2⟩:=ly I q2;have e1:=r1.length;have e2:=r2.length;have m1:=D.a1;have m2:=D.a2;simp only[List.mem_cons,not_or,List.not_mem_nil,not_false_eq_true,and_true]at m1 m2;have tz:s.TypeIs (.ref z) "zip":=⟨_,Z,rfl⟩
  unfold pyNext;refine wpAny_bind (wpAny_attempt (wpAny_callSpecial?_slot (name:=Str.ofString "__next__") tz F.slot_zip_next (wpAny_call_entry F.slot_zip_next tz F.entry_zip_next (EN (I.ok.hd hc) D (nJ k1 t1 a1 m1.2.2.2.1 us.toArray) (nJ k2 t2 a2 m2.2.2.2.2 vs.toArray) Z pI pO ⟨i1,l1⟩ ⟨i2,l2⟩ ?_ fun k e kp hx=>?_) (F.args_zip_next_1 _))))
  . rcases he with h|h
    . left;simp;omega
    . right;simp;omega
  . obtain⟨o,ho,hc2⟩:=hx;refine wpAny_bind (wpAny_isInstance (T:="StopIteration") (b:=true) ⟨o,ho,hc2⟩ isSubtype_stop ?_);refine wpAny_pure ⟨rfl,FO (s:=s) (tk:=s.toks) I hf fun b o hb e=>?_⟩;simp only[List.mem_cons,not_or,List.not_mem_nil,not_false_eq_true,and_true]at hb;exact kp b o hb.1 hb.2.2.1 hb.2.2.2.1 hb.2.2.2.2 e
 self:=fun _ _ _ _ _ st h=>wpAny_pyIter_zip st.1 h
abbrev FV(h:Heap)(k1:SK)(a1:Addr):Heap:=h.push (yU k1 a1)
abbrev FL(h:Heap)(k1 k2:SK)(a1 a2:Addr):Heap:=(FV h k1 a1).push (yU k2 a2)
abbrev F9(h:Heap)(k1 k2:SK)(a1 a2:Addr):Heap:=(FL h k1 k2 a1 a2).push {cls:= .type "tuple",data:= .seq #[.ref h.objs.size,.ref (FV h k1 a1).objs.size]}
abbrev Fv(h:Heap)(k1 k2:SK)(a1 a2:Addr):Heap:=(F9 h k1 k2 a1 a2).push {cls:= .type "tuple",data:= .seq #[.none,.none]}
abbrev Ag(h:Heap)(k1 k2:SK)(a1 a2:Addr):Heap:=(Fv h k1 k2 a1 a2).push {cls:= .type "zip",data:= .fields #[.none,.bool false,.bool false,.ref (FL h k1 k2 a1 a2).objs.size,.ref (F9 h k1 k2 a1 a2).objs.size]}
theorem D4(k1 k2:SK)(a1 a2:Addr)(us vs:Array Value):Meets (Builtin.«zip.__new__» ⟨[.type "zip",.ref a1,.ref a2],[]⟩) (fun _ R s=>mY k1 s.heap a1 us/\mY k2 s.heap a2 vs/\
 R (.ok (.ret (.ref (Fv s.heap k1 k2 a1 a2).objs.size))) {s with heap:=Ag s.heap k1 k2 a1 a2}):=
 .of_wp fun P w A R s h=>by
  obtain⟨hp,g,d,tk,os⟩:=s;obtain⟨c1,c2,h⟩:=h;have hsub:=sub_zip;have L1:mY k1 (Shared.heap ⟨hp,g,d,tk,os⟩) a1 us:=c1;have L2:mY k2 (Shared.heap ⟨hp.push (yU k1 a1),g,d,tk,os⟩) a2 vs:=mY.push c2 _
  wp_walk using Cr L1,Cr L2
  exact⟨_,rfl,h⟩
theorem E2{P:Program}{w:World}{A:Around}{s:Shared}{E:Value->Shared->Prop}{k1 k2:SK}{a1 a2:Addr}{us vs:Array Value}{Q:Value->Shared->Prop}(c1:mY k1 s.heap a1 us)(c2:mY k2 s.heap a2 vs)
 (q:∀g n,n=s.heap.objs.size->IsZip g (n+4) (n+2) (n+3) .none->IsPair g (n+2) (.ref n) (.ref (n+1))->IsPair g (n+3) .none .none->qQ k1 n a1 0 g->qQ k2 (n+1) a2 0 g->(∀c o,s.heap.get? c=some o->g.get? c=some o)->Q (.ref (n+4)) {s with heap:=g}):
 wpAny (model P w) A (call (.type "zip") [.ref a1,.ref a2]) Q E s:=by
 refine callType_new F.called_zip (by decide) (F.typeCall_zip_2 _ _) (F.newCall_zip_2 _ _) (fun ob=>F.args_object_init_3 ob _ _) F.entry_zip_new (D4 k1 k2 a1 a2 us vs) ⟨c1,c2,?_⟩;have y1:(FV s.heap k1 a1).objs.size=s.heap.objs.size+1:=Heap.size_push ..;have y2:(FL s.heap k1 k2 a1 a2).objs.size=s.heap.objs.size+2:=by rw[Heap.size_push,y1]
 have y3:(F9 s.heap k1 k2 a1 a2).objs.size=s.heap.objs.size+3:=by rw[Heap.size_push,y2]
 have y4:(Fv s.heap k1 k2 a1 a2).objs.size=s.heap.objs.size+4:=by rw[Heap.size_push,y3]
 have e5:(Ag s.heap k1 k2 a1 a2).get? (Fv s.heap k1 k2 a1 a2).objs.size=some _:=Heap.get?_push_size _ rfl;have e4:(Ag s.heap k1 k2 a1 a2).get? (F9 s.heap k1 k2 a1 a2).objs.size=some _:=Heap.get?_push_of_some _ (Heap.get?_push_size _ rfl);have e3:(Ag s.heap k1 k2 a1 a2).get? (FL s.heap k1 k2 a1 a2).objs.size=some _:=Heap.get?_push_of_some _ (Heap.get?_push_of_some _ (Heap.get?_push_size _ rfl));have e2:(Ag s.heap k1 k2 a1 a2).get? (FV s.heap k1 a1).objs.size=some (yU k2 a2):=Heap.get?_push_of_some _ (Heap.get?_push_of_some _ (Heap.get?_push_of_some _ (Heap.get?_push_size _ (by cases k2<;>rfl))));have e1:(Ag s.heap k1 k2 a1 a2).get? s.heap.objs.size=some (yU k1 a1):=Heap.get?_push_of_some _ (Heap.get?_push_of_some _ (Heap.get?_push_of_some _ (Heap.get?_push_of_some _ (Heap.get?_push_size _ (by cases k1<;>rfl)))));show _/\_;rw[y2,y3,y4]at e5;rw[y1,y2]at e3;rw[y3]at e4;rw[y1]at e2;rw[y4];exact⟨⟨_,e5,rfl⟩,q _ _ rfl e5 e3 e4 (Aa (h:=s.heap) e1) (Aa (h:=s.heap) e2) fun c o x=>Heap.get?_push_of_some _ (Heap.get?_push_of_some _ (Heap.get?_push_of_some _ (Heap.get?_push_of_some _ (Heap.get?_push_of_some _ x))))⟩
def Gm:D->SK
 | .tup _=> .t
 |_=> .l
def Du(k:SK)(G:Hp)(a:Addr)(vs:List V):Prop:=match k with
 | .l=>Rd G a (.lst vs)
 | .t=>G a=some (.tup vs)
theorem ko{K:PySem.W.Frag}{k:SK}{G F H:Hp}(P:b_ G F H){a:Addr}{vs:List V}(h:Du k G a vs):pW k K H a vs:=by
 cases k
 . exact .inl (hW P h)
 . exact jn.of (P.get h)
theorem nK{α:List (Option Addr)}{H:Hp}{st:af}{d:D}{v:V}{xs:List D}(S:aS α st H)(r:Rep α H d v)(e:items? st d=some xs):∃p vs,v= .ref p/\aF α H xs vs/\Du (Gm d) H p vs:=by
 cases d<;>try(cases e;done)
 . unfold items? at e;simp only at e;split at e
   . rename_i ys q;cases e;obtain⟨a,ea,vs,h1,h2⟩:=S.lH q;exact⟨a,vs,f9 ea r,h2,Rd.of h1⟩
   . cases e
 . cases e;unfold Rep at r;obtain⟨a,vs,rfl,_,h1,h2⟩:=r;exact⟨a,vs,rfl,h2,h1⟩
 . cases e;unfold Rep at r;obtain⟨a,vs,rfl,_,h1,h2⟩:=r;exact⟨a,vs,rfl,h2,h1⟩
def ik(xs ys:List D):List D:=(xs.zip ys).map fun p=> .tup [p.1,p.2]
theorem qh{xs ys:List D}:(ik xs ys).length=min xs.length ys.length:=by unfold ik;simp
theorem tY{xs ys:List D}{n:Nat}{d:D}(e:(ik xs ys)[n]?=some d):∃x y,xs[n]?=some x/\ys[n]?=some y/\d= .tup [x,y]:=by
 unfold ik at e;rw[List.getElem?_map]at e;cases q:(xs.zip ys)[n]? with
 |none=>rw[q]at e;cases e
 |some p=>
  rw[q]at e;cases e;rw[List.getElem?_zip_eq_some]at q;exact⟨p.1,p.2,q.1,q.2,rfl⟩
theorem Jm{K:PySem.W.Frag}{k1 k2:SK}{a1 a2:Addr}{α:List (Option Addr)}{G:Hp}{ok:af->Prop}{xs ys:List D}
 (h:∀α' G' st',Step α G α' G'->aS α' st' G'->ok st'->∃vs ws,Du k1 G' a1 vs/\Du k2 G' a2 ws/\aF α' G' xs vs/\aF α' G' ys ws):vQ (MZ K k1 k2 a1 a2) α G ok (ik xs ys) where
 stop:=fun n α' G' F' H' st' s P S o hn=>by
  obtain⟨vs,ws,h1,h2,r1,r2⟩:=h α' G' st' s S o;rw[qh]at hn;refine⟨vs,ws,ko P h1,ko P h2,?_⟩;have:=r1.length;have:=r2.length;omega
 go:=fun n d α' G' F' H' st' s P S o hn=>by
  obtain⟨vs,ws,h1,h2,r1,r2⟩:=h α' G' st' s S o;obtain⟨x,y,ex,ey,rfl⟩:=tY hn;obtain⟨v,ev,_⟩:=r1.get ex;obtain⟨u,eu,_⟩:=r2.get ey;exact⟨vs,ws,v,u,ko P h1,ko P h2,ev,eu⟩
 pP:=fun n d α' G' F' H' st' x H'' s P S o hn y=>by
  obtain⟨vs,ws,h1,h2,r1,r2⟩:=h α' G' st' s S o;obtain⟨c,e,ec,ee,rfl⟩:=tY hn;obtain⟨T,v,u,hT,rfl,rfl,y1,y2⟩:=y;obtain⟨v',ev,rv⟩:=r1.get ec;obtain⟨u',eu,ru⟩:=r2.get ee;rw[y1 vs (ko P h1)]at ev;rw[y2 ws (ko P h2)]at eu;cases ev;cases eu;have hg:=(P.none hT).1;refine⟨upd G' T (.tup [v,u]),Step.laid hg,P.laid hT,S.laid hg,?_⟩;unfold Rep;refine⟨T,[v,u],rfl,S.lg hg,aU,?_⟩;unfold aF;refine⟨v,[u],rfl,rv.step (Step.laid hg),?_⟩;unfold aF;exact⟨u,[],rfl,ru.step (Step.laid hg),by unfold aF;rfl⟩
def Ez(ds:List D)(st1:af)(K:List D->(af->Prop)->af->Prop):Prop:=match ds with
 | [x,y]=>(match items? st1 x,items? st1 y with
   |some xs,some ys=>K (ik xs ys) (fun st'=>items? st' x=some xs/\items? st' y=some ys) st1
   |_,_=>False)
 |_=>False
@[irreducible] def u0:List D->af->(List D->(af->Prop)->af->Prop)->Prop:=Ez
def vz(t:DA):DI:=fun σ st K=>t σ st fun ds st1=>u0 ds st1 K
theorem G0{n a1 a2:Nat}(h1:a1<n)(h2:a2<n):AB (n+4) (n+2) (n+3) n (n+1) a1 a2:=by
 have e0:([n+4,n+2,n+3,n,n+1]:List Nat).Nodup:=by
  simp only[List.nodup_cons,List.mem_cons,not_or,List.not_mem_nil,not_false_eq_true,and_true,List.nodup_nil];omega
 have e1:∀a:Nat,a<n->a∉([n+4,n+2,n+3,n,n+1]:List Nat):=fun a ha=>by
  simp only[List.mem_cons,not_or,List.not_mem_nil,not_false_eq_true,and_true];omega
 exact⟨e0,e1 a1 h1,e1 a2 h2⟩
theorem HY{X:Cx}{a b:Expr}{elts:List Expr}{kx:Nat}{tpos p pos:Pos}{t:DA}(hg:Gl X "zip")(hm:X.mg "zip"=none)(ha:PA X [a,b] (LA t))(hs:starEach [a,b] X.env=[(false,eval a X.env),(false,eval b X.env)])(hs2:starEach [b] X.env=[(false,eval b X.env)]):
 PI X (.Tuple elts kx tpos) (.Call (.Name "zip" p) [a,b] [] pos) (LI (vz t)):=by
 intro pins s σ H R I h;obtain⟨α,σd,st,K,G,F,P,RS,S,t,k⟩:=h;refine Call_ (mN I hg hm boot_zip (PyProof.Rows.callWith_type1 (bQ (ha pos pins s σ H (fun vs H1=>∃ds α1 G1 st1,Step α G α1 G1/\b_ G1 F H1/\aS α1 st1 G1/\aF α1 G1 ds vs/\u0 ds st1 K) I ⟨α,σd,st,_,G,F,P,RS,S,t,fun ds st1 q α1 G1 H1 vs s1 P1 S1 r1=>⟨ds,α1,G1,st1,s1,P1,S1,r1,q⟩⟩) fun us s1 ⟨vs,H1,I1,rv,ds,α1,G1,st1,w1,P1,S1,r1,q⟩=>?_) (by rw[hs,hs2]) (by rw[hs2];rfl)));unfold u0 Ez at q;split at q
 . rename_i x y;split at q
   . rename_i xs ys ex ey;obtain⟨v1,v2,rfl,q1,q2⟩:=oZ r1 rfl;obtain⟨p1,vs1,rfl,g1,c1⟩:=nK S1 q1 ex;obtain⟨p2,vs2,rfl,g2,c2⟩:=nK S1 q2 ey;obtain⟨u1,u2,rfl,ru1,ru2⟩:=vals2 rv;cases ru1;cases ru2;obtain⟨its1,_,l1⟩:=ly I1 (ko P1 c1);obtain⟨its2,_,l2⟩:=ly I1 (ko P1 c2);refine E2 l1 l2 fun g n hn Z pI pO i1 i2 kp=>?_;obtain⟨o1,eo1⟩:=l1.some;obtain⟨o2,eo2⟩:=l2.some;refine wpAny_pyIter_zip (s:={s1 with heap:=g}) Z ?_;refine⟨n+4,[n+4,n+2,n+3,n,n+1],_,_,H1,rfl,I1.kept (t':=s1.toks) kp,Eg (Gm x) (Gm y) (G0 (by rw[hn];exact Heap.lt_size eo1) (by rw[hn];exact Heap.lt_size eo2)),⟨Z,pI,⟨_,_,pO⟩,i1,i2⟩,fun b hb=>?_,?_⟩
     . have hb':s1.heap.objs.size<=b:=by
        simp only[List.mem_cons,List.not_mem_nil,or_false]at hb;rcases hb with rfl|rfl|rfl|rfl|rfl<;>(rw[<-hn];first|exact Nat.le_refl _|exact Nat.le_add_right _ _)
       exact I1.vS hb' (I1.aK.fresh hb')
     . refine k _ _ st1 q _ α1 G1 H1 w1 P1 S1 (Jm fun α' G' st' s' S' o=>?_);obtain⟨p1',ws1,e1,f1,d1⟩:=nK S' (q1.step s') o.1;obtain⟨p2',ws2,e2,f2,d2⟩:=nK S' (q2.step s') o.2;cases e1;cases e2;exact⟨ws1,ws2,d1,d2,f1,f2⟩
   . exact q.elim
 . exact q.elim
theorem uK{st:af}{x y:D}{xs ys:List D}{K:List D->(af->Prop)->af->Prop}(ex:items? st x=some xs)(ey:items? st y=some ys)(k:∀ok:af->Prop,(∀st',items? st' x=some xs->items? st' y=some ys->ok st')->K (ik xs ys) ok st):u0 [x,y] st K:=by
 unfold u0 Ez;simp only[ex,ey];exact k _ fun st' h1 h2=>⟨h1,h2⟩
theorem xp{X:Cx}{a b:Expr}{elts:List Expr}{kx:Nat}{tpos p pos:Pos}{ar:DA}(hg:Gl X "zip")(hm:X.mg "zip"=none)(ha:JA X [a,b] ar)(hs:notStar a=true:=by rfl)(hs2:notStar b=true:=by rfl):JI X (.Tuple elts kx tpos) (.Call (.Name "zip" p) [a,b] [] pos) (vz ar):=by
 unfold JI;unfold JA at ha;exact HY hg hm ha (by rw[cT hs,cT hs2];rfl) (cT hs2)
theorem yx(f:Nat->Int):∀n,preSum f (n+1)=f 0+preSum (fun i=>f (i+1)) n
 |0=>by show preSum f 0+f 0=f 0+0;show(0:Int)+f 0=f 0+0;omega
 |n+1=>by
  have h:=yx f n;show preSum f (n+1)+f (n+1)=f 0+(preSum (fun i=>f (i+1)) n+f (n+1));rw[h];omega
theorem AA:∀ns:List Int,preSum (fun i=>ns.getD i 0) ns.length=ns.sum
 | []=>rfl
 |n::ns=>by
  rw[List.length_cons,yx];have:(fun i=>(n::ns).getD (i+1) 0)=fun i=>ns.getD i 0:=by funext i;simp
  rw[this,AA ns,List.sum_cons];rfl
section
variable {X:Cx}
def xt:fI:=fun ds st K=>match ds with| [.lst xs]=>(match oU xs with|some ns=>K (.int ns.sum) st|none=>False)|_=>False
theorem oK:∀ {ns:List Int} {us:List Value},Vals (ns.map V.int) us->∀(i:Nat) (u:Value),us[i]?=some u->∃t,u=Value.int (ns.getD i 0) t
 | [],_,.nil,i,u,e=>by simp at e
 |n::ns,_,.cons h t,0,u,e=>by
  obtain⟨tk,rfl⟩:=h;simp at e;exact⟨tk,by rw[<-e];rfl⟩
 |n::ns,_,.cons h t,i+1,u,e=>by
  obtain⟨tk,q⟩:=oK t i u (by simpa using e);exact⟨tk,by rw[q];simp⟩
theorem KG(hc:X.calm=true):bK X (.builtin "sum") (gM xt):=fun pins s σ H xs us Q I rs ⟨α,ds,st,K,G,F',P,r,S,q,k⟩=>by
 unfold xt at q;split at q
 . rename_i ys;split at q
   . rename_i ns e;obtain⟨v,rfl,r1⟩:=iO r rfl;unfold Rep at r1;obtain⟨a,vs,rfl,na,h1,h2⟩:=r1;obtain⟨u,rfl,ru⟩:=vals1 rs;cases ru;have hv:=wO h2 e;subst hv;obtain⟨z,its,n,rv,hl,eo⟩:=Inv.uD I (hW P h1);have isL:s.heap.IsList a its.toArray:=⟨_,eo,rfl,n,rfl⟩
     refine call_sum_walkAnyB (wpAny_pyIter_list isL ?_);have hne:a≠s.heap.objs.size:=Nat.ne_of_lt (Heap.lt_size eo);refine⟨s.heap.objs.size,_,_,_,_,_,_,fun i=>ns.getD i 0,rfl,(Walks.list (A:=X.A.in1) (I.ok.hd hc) _ a hne its.toArray).toS,⟨⟨_,Heap.get?_push_size _ rfl,rfl,rfl⟩,⟨_,Heap.get?_push_of_some _ eo,rfl,n,rfl⟩⟩,?_,?_,?_⟩
     . intro b hb;rw[Heap.size_push];simp only[List.mem_cons,List.not_mem_nil,or_false]at hb;rcases hb with rfl|rfl
       . exact Nat.lt_succ_self _
       . exact Nat.lt_succ_of_lt (Heap.lt_size eo)
     . intro i w hw;obtain⟨t,e⟩:=oK rv i w (by simpa using hw);exact .inl ⟨t,e⟩
     . intro s' t' hm
       have kp:∀b o,s.heap.get? b=some o->s'.heap.get? b=some o:=fun b o q=>hm.heap b o (by
        intro hb;have:b=s.heap.objs.size:=by simpa using hb
        exact absurd (Heap.lt_size q) (by rw[this];exact Nat.lt_irrefl _)) (Heap.get?_push_of_some _ q)
       have es:s'= {s with heap:=s'.heap,toks:=s'.toks}:=by
        have g:=hm.gens;have d:=hm.drawn;have o:=hm.os;cases s';cases s
        simp_all
       have en:preSum (fun i=>ns.getD i 0) its.toArray.size=ns.sum:=by
        have:its.toArray.size=ns.length:=by rw[List.size_toArray,<-hl,List.length_map]
        rw[this];exact AA ns
       rw[en,es];exact⟨.int ns.sum,H,I.kept (t':=s'.toks) kp,⟨t',rfl⟩,k.here P q S (by unfold Rep;rfl)⟩
   . exact q.elim
 . exact q.elim
@[irreducible] def x6:fI:=xt
theorem LP(hc:X.calm=true):bK X (.builtin "sum") (gM x6):=by unfold x6;exact KG hc
end
theorem ints_map:∀ns:List Int,oU (ns.map D.int)=some ns
 | []=>rfl
 |n::ns=>by simp[oU,ints_map ns]
theorem Ji{st:af}{K:DK}{xs:List D}{ns:List Int}(h:oU xs=some ns)(k:K (.int ns.sum) st):x6 [.lst xs] st K:=by unfold x6 xt;simp only[h];exact k
section
variable {X:Cx}{pos:Pos}
theorem Mz{α:List (Option Addr)}{H:Hp}{ds:List D}{xs:List V}{d e f:D}(r:aF α H ds xs)(q:ds=[d,e,f]):∃v u t,xs=[v,u,t]/\Rep α H d v/\Rep α H e u/\Rep α H f t:=by
 subst q;unfold aF at r;obtain⟨v,q,rfl,h1,h2⟩:=r;obtain⟨u,t,rfl,h3,h4⟩:=oZ h2 rfl;exact⟨v,u,t,rfl,h1,h3,h4⟩
end
end L3
namespace L3
open PySem L2 PySem.SeqAt
open PySem.Spec hiding items?
open PyProof.Rows hiding St
section
variable {X:Cx}{pins:List (Addr×Obj)}{σ:L2.St}{H:Hp}{s:Shared}{α:List (Option Addr)}
theorem Ai{A:Around}{d e:D}{x y:V}{u v:Value}(hd:wm d=true)(he:wm e=true)(rd:Rep α H d x)(re:Rep α H e y)(rx:RelV x u)(ry:RelV y v):RcNeAt A s u v (!cS d e):=by
 cases d<;>cases e<;>try(first|(cases hd;done)|(cases he;done))
 all_goals(unfold Rep at rd re;subst rd re)
 all_goals(first|(obtain⟨t,rfl⟩:=rx;obtain⟨t',rfl⟩:=ry)|(obtain⟨t,rfl⟩:=rx;cases ry)|(cases rx;obtain⟨t,rfl⟩:=ry)|(cases rx;cases ry))
 all_goals unfold cS
 . exact RcNeAt.none_none
 . exact RcNeAt.none_bool _
 . exact RcNeAt.none_int _ _
 . exact RcNeAt.none_str _ _
 . exact RcNeAt.bool_none _
 . exact RcNeAt.bool_bool _ _
 . exact RcNeAt.bool_int _ _ _
 . exact RcNeAt.bool_str _ _ _
 . exact RcNeAt.int_none _ _
 . exact RcNeAt.int_bool _ _ _
 . exact RcNeAt.int_int _ _ _ _
 . exact RcNeAt.int_str _ _ _ _
 . exact RcNeAt.str_none _ _
 . exact RcNeAt.str_bool _ _ _
 . exact RcNeAt.str_int _ _ _ _
 . exact RcNeAt.str_str _ _ _ _
theorem wD(I:Inv X pins σ H s){A:Around}{xs:List D}{e:D}{x y:V}{u v:Value}(he:wm e=true)(rd:Rep α H (.lst xs) x)(re:Rep α H e y)(rx:RelV x u)(ry:RelV y v)(hu:A.units<cLine):
 RcNeAt A s u v (!cS (.lst xs) e)/\RcNeAt A s v u (!cS e (.lst xs)):=by
 obtain⟨a,vs,its,rfl,_,_,hl⟩:=lst_is I rd rx;cases e<;>try(cases he;done)
 all_goals(unfold Rep at re;subst re)
 all_goals(first|(obtain⟨t,rfl⟩:=ry)|(cases ry))
 all_goals unfold cS
 . exact⟨RcNeAt.list_none hl hu,RcNeAt.none_list hl hu⟩
 . exact⟨RcNeAt.list_bool _ hl hu,RcNeAt.bool_list _ hl hu⟩
 . exact⟨RcNeAt.list_int _ _ hl hu,RcNeAt.int_list _ _ hl hu⟩
 . exact⟨RcNeAt.list_str _ _ hl hu,RcNeAt.str_list _ _ hl hu⟩
theorem wW(I:Inv X pins σ H s){A:Around}{xs:List D}{e:D}{x y:V}{u v:Value}(he:wm e=true)(rd:Rep α H (.tup xs) x)(re:Rep α H e y)(rx:RelV x u)(ry:RelV y v)(hu:A.units<cLine):
 RcNeAt A s u v (!cS (.tup xs) e)/\RcNeAt A s v u (!cS e (.tup xs)):=by
 obtain⟨a,vs,its,rfl,_,_,hl⟩:=tup_is I rd rx;cases e<;>try(cases he;done)
 all_goals(unfold Rep at re;subst re)
 all_goals(first|(obtain⟨t,rfl⟩:=ry)|(cases ry))
 all_goals unfold cS
 . exact⟨RcNeAt.tuple_none hl hu,RcNeAt.none_tuple hl hu⟩
 . exact⟨RcNeAt.tuple_bool _ hl hu,RcNeAt.bool_tuple _ hl hu⟩
 . exact⟨RcNeAt.tuple_int _ _ hl hu,RcNeAt.int_tuple _ _ hl hu⟩
 . exact⟨RcNeAt.tuple_str _ _ hl hu,RcNeAt.str_tuple _ _ hl hu⟩
theorem Ml(I:Inv X pins σ H s)(n:Nat)(A:Around)(d e:D)(x y:V)(u v:Value)(hd:pl n d=true)(he:pl n e=true)(rd:Rep α H d x)(re:Rep α H e y)(rx:RelV x u)(ry:RelV y v)(hu:A.units+n<cLine):RcNeAt A s u v (!cS d e):=by
 cases n with
 |zero=>
  refine Ai ?_ ?_ rd re rx ry
  . cases d<;>first|rfl|(cases hd)
  . cases e<;>first|rfl|(cases he)
 |succ n=>
  have hu0:A.units<cLine:=by omega
  have hin:A.in1.units+n<cLine:=by rw[Around.in1_units];omega
  cases d<;>try(cases hd;done)
  case lst xs=>
   cases e<;>try(cases he;done)
   case lst ys=>
    obtain⟨a,vs,its,rfl,r1,v1,l1⟩:=lst_is I rd rx;obtain⟨b,ws,jts,rfl,r2,v2,l2⟩:=lst_is I re ry;have e1:=r1.length;have e2:=v1.length;have e3:=r2.length;have e4:=v2.length;unfold cS;by_cases hlen:xs.length=ys.length
    . rw[om hlen];have hsz:its.toArray.size=jts.toArray.size:=by simp only[List.size_toArray];omega
      have hx:xs.length=its.toArray.size:=by simp only[List.size_toArray];omega
      rw[hx];refine RcNeAt.lists l1 l2 hsz hu0 fun j h1 h2=>?_;obtain⟨p,_,q1,q2⟩:=kM r1 v1 j (by simpa using h1);obtain⟨p',_,q1',q2'⟩:=kM r2 v2 j (by simpa using h2);exact(A4 I n A.in1 _ _ p p' _ _ (jA (by unfold pl at hd;exact hd) j) (jA (by unfold pl at he;exact he) j) q1 q1' (by simpa using q2) (by simpa using q2') hin).2
    . rw[oh hlen];exact RcNeAt.lists_lengths l1 l2 (by simp only[List.size_toArray,bne_iff_ne,ne_eq];omega) hu0
   case tup ys=>
    obtain⟨a,vs,its,rfl,r1,v1,l1⟩:=lst_is I rd rx;obtain⟨b,ws,jts,rfl,r2,v2,l2⟩:=tup_is I re ry;unfold cS;exact RcNeAt.list_tuple l1 l2 hu0
   all_goals exact(wD I rfl rd re rx ry hu0).1
  case tup xs=>
   cases e<;>try(cases he;done)
   case tup ys=>
    obtain⟨a,vs,its,rfl,r1,v1,l1⟩:=tup_is I rd rx;obtain⟨b,ws,jts,rfl,r2,v2,l2⟩:=tup_is I re ry;have e1:=r1.length;have e2:=v1.length;have e3:=r2.length;have e4:=v2.length;unfold cS
    have key:=RcNeAt.tuples (e:=fun j=>cS (xs.getD j .aI) (ys.getD j .aI)) l1 l2 hu0 fun j h1 h2=>by
     obtain⟨p,_,q1,q2⟩:=kM r1 v1 j (by simpa using h1);obtain⟨p',_,q1',q2'⟩:=kM r2 v2 j (by simpa using h2);exact(A4 I n A.in1 _ _ p p' _ _ (jA (by unfold pl at hd;exact hd) j) (jA (by unfold pl at he;exact he) j) q1 q1' (by simpa using q2) (by simpa using q2') hin).2
    by_cases hlen:xs.length=ys.length
    . rw[om hlen];have hsz:its.toArray.size=jts.toArray.size:=by simp only[List.size_toArray];omega
      have hx:xs.length=its.toArray.size:=by simp only[List.size_toArray];omega
      rw[hsz,Nat.min_self,beq_self_eq_true,Bool.and_true,<-hsz,<-hx]at key;exact key
    . rw[oh hlen];have hne:(its.toArray.size==jts.toArray.size)=false:=by simp only[List.size_toArray,beq_eq_false_iff_ne,ne_eq];omega
      rw[hne,Bool.and_false]at key;exact key
   case lst ys=>
    obtain⟨a,vs,its,rfl,r1,v1,l1⟩:=tup_is I rd rx;obtain⟨b,ws,jts,rfl,r2,v2,l2⟩:=lst_is I re ry;unfold cS;exact RcNeAt.tuple_list l1 l2 hu0
   all_goals exact(wW I rfl rd re rx ry hu0).1
  all_goals
   cases e<;>try(cases he;done)
   case lst ys=>exact(wD I rfl re rd ry rx hu0).2
   case tup ys=>exact(wW I rfl re rd ry rx hu0).2
   all_goals exact Ai rfl rfl rd re rx ry
def Jb:eN:=fun x y st K=>pl 40 x=true/\pl 40 y=true/\K (.bl (!cS x y)) st
theorem Kx{k:Nat}(hr:cP k X.A):cz X (compareOp .NotEq) (LR Jb):=fun pins s σ H x y v u Q I rx ry ⟨α,d,e,st,K,G,F',P,r1,r2,S,q,k⟩=>by
 have hu:=hr.units;exact Ml I 40 X.A d e x y v u q.1 q.2.1 (r1.mono P.same) (r2.mono P.same) rx ry (by omega) _ _ _ _ ⟨.bl (!cS d e),H,I,rfl,k.here P q.2.2 S (by unfold Rep;rfl)⟩
@[irreducible] def vR:eN:=Jb
theorem Mu{k:Nat}(hr:cP k X.A):cz X (compareOp .NotEq) (LR vR):=by unfold vR;exact Kx hr
end
theorem IG{st:af}{K:DK}{d e:D}(h1:pl 40 d=true)(h2:pl 40 e=true)(k:K (.bl (!cS d e)) st):vR d e st K:=by unfold vR;exact⟨h1,h2,k⟩
theorem D8{st:af}{K:DK}{d:D}(h:pl 40 d=true)(k:K (.bl false) st):vR d d st K:=IG h h (by rw[mj 40 d h];exact k)
theorem C9{st:af}{n:Nat}{xs:List D}(h:items? st (.ref n)=some xs):st[n]?=some (.lst xs):=by
 unfold items? at h;simp only at h;split at h
 . rename_i q;cases h;exact q
 . cases h
theorem qi{env:Env}:∀(l:List (Str×NameKind)) (x:Str),(l.lookup x=some .cell\/l.lookup x=some .free)->
 ((l.map fun(n,k)=>if(k== .free&&env.scope.kind== .function&&env.kindOf n==some .cell)then(n,.cell)else(n,k)).lookup x=some .cell\/(l.map fun(n,k)=>if(k== .free&&env.scope.kind== .function&&env.kindOf n==some .cell)then(n,.cell)else(n,k)).lookup x=some .free)
 | [],x,h=>by simp at h
 |(n,k)::l,x,h=>by
  rw[List.map_cons];dsimp only;by_cases hx:x=n
  . subst hx;rw[List.lookup_cons_self]at h;split
    . rw[List.lookup_cons_self];exact .inl rfl
    . rw[List.lookup_cons_self];exact h
  . have hb:(x==n)=false:=by simpa using hx
    have e1:List.lookup x ((n,k)::l)=List.lookup x l:=by rw[List.lookup_cons,hb]
    rw[e1]at h;have ih:=qi (env:=env) l x h;split
    . rw[List.lookup_cons,hb];exact ih
    . rw[List.lookup_cons,hb];exact ih
theorem bh.Fx{X0:Cx}{scope0 scope:Scope}{Nc0 Nc:List Str}{C:Addr}{s:Shared}{H:Hp}{ex:List Addr}{fr:List (Option Nat)}(h:vh scope0 Nc0 scope Nc fr=true):bh (fH X0 scope0 Nc0 C s H ex) scope Nc fr:=by
 unfold vh at h;simp only[Bool.and_eq_true]at h;obtain⟨⟨⟨⟨⟨h1,h2⟩,h3⟩,h4⟩,h5⟩,h6⟩:=h;refine⟨by simpa using h1,fun x hx hk=>?_,fun x hx hk=>?_,fun x hx hk=>?_,by simpa using h5,fun i j x e1 e2=>?_⟩
 . have:=List.all_eq_true.mp h2 x hx;rw[hk]at this;simpa using this
 . have:=List.all_eq_true.mp h3 x hx;rw[hk]at this;simpa using this
 . have:=List.all_eq_true.mp h4 x hx;rw[hk]at this;have z:scope0.names.lookup x.1=some .cell\/scope0.names.lookup x.1=some .free:=by simpa using this
   exact qi _ _ z
 . have hi:i<fr.length:=(List.getElem?_eq_some_iff.mp e2).1;have:=List.all_eq_true.mp h6 i (List.mem_range.mpr hi);rw[e1,e2]at this;simp only[Bool.and_eq_true,Bool.or_eq_true,beq_iff_eq]at this;exact⟨this.1.1,this.1.2,qi _ _ this.2⟩
end L3
namespace L3
open PySem L2
open PySem.Spec hiding items?
open PyProof.Rows hiding St
section
variable {X:Cx}
end
theorem Cg{n:Nat}{d:D}(h:d∈eF 0 n):∃i:Nat,i<n/\d= .int (i:Int):=by
 unfold eF at h;obtain⟨i,hi,rfl⟩:=List.mem_map.mp h;rw[List.mem_range]at hi;exact⟨i,hi,by rw[Int.zero_add]⟩
theorem DH{f:Nat->D}(n:Nat):(eF 0 n).map (fun d=>match d with| .int i=>f i.toNat|_=> .aI)=(List.range n).map f:=by
 unfold eF;rw[List.map_map];refine List.map_congr_left fun i _=>?_;show f ((0:Int)+(i:Int)).toNat=f i;have:((0:Int)+(i:Int)).toNat=i:=by omega
 rw[this]
theorem gS{tg:fQ}{te:DE}{σc:cv}{st:af}{K:List D->af->Prop}(f:Nat->D)(n:Nat)(hx:∀i:Nat,i<n->∀K',K' (f i) st->∃σ2,tg (.int (i:Int)) σc=some σ2/\te σ2 st K')(k:K ((List.range n).map f) st):c9 tg cB te (fun _=>True) σc (eF 0 n) [] st K:=by
 refine comp_map (g:=fun d=>match d with| .int i=>f i.toNat|_=> .aI) trivial _ (fun d hd K' q=>?_) (by rw[DH];exact k);obtain⟨i,hi,rfl⟩:=Cg hd;exact hx i hi K' q
theorem jz{tg:fQ}{body:DS}{E:oP}(n:Nat)(I:Nat->cv->af->Prop)(hend:∀σ st,I n σ st->E.nx σ st)
 (hstep:∀(j:Nat) σ st (rest:List D),j<n->I j σ st->(∀σ' st',I (j+1) σ' st'->jC tg body (fun _=>True) E rest σ' st')->∃σ1,tg (.int (j:Int)) σ=some σ1/\body {E with nx:=jC tg body (fun _=>True) E rest,ct:=jC tg body (fun _=>True) E rest,bk:=E.nx} σ1 st)
 {σ:cv} {st:af} (h0:I 0 σ st):jC tg body (fun _=>True) E (eF 0 n) σ st:=by
 refine ma (fun rest σ st=>∃j:Nat,j<=n/\rest=(List.range (n-j)).map (fun i=>D.int (((j+i:Nat):Int)))/\I j σ st) ?_ ?_ _ _ _ ⟨0,Nat.zero_le _,by unfold eF;simp,h0⟩
 . rintro σ st ⟨j,hj,hr,hI⟩
   have:n-j=0:=by
    cases q:n-j with
    |zero=>rfl
    |succ m=>rw[q,List.range_succ_eq_map]at hr;cases hr
   have hjn:j=n:=by omega
   subst hjn;exact⟨trivial,hend σ st hI⟩
 . rintro d rest σ st ⟨j,hj,hr,hI⟩ next
   cases q:n-j with
   |zero=>rw[q]at hr;cases hr
   |succ m=>
    rw[q,List.range_succ_eq_map,List.map_cons,List.map_map]at hr;simp only[List.cons.injEq]at hr;obtain⟨rfl,hrest⟩:=hr;refine⟨trivial,hstep j σ st rest (by omega) hI fun σ' st' h'=>next σ' st' ⟨j+1,by omega,?_,h'⟩⟩;have:n-(j+1)=m:=by omega
    rw[this,hrest];refine List.map_congr_left fun i _=>?_;show D.int (((j+(i+1):Nat):Int))=D.int (((j+1+i:Nat):Int));congr 2;omega
section
variable {X:Cx}
end
section
variable {X:Cx}{pos:Pos}
end
section
variable {X:Cx}
end
section
variable {st:af}{K:DK}{d:D}{b:Bool}
end
section
variable {X:Cx}
end
end L3
namespace L3
open PySem L2
open PySem.Spec hiding items?
open PyProof.Rows hiding St
open AutoSeq1 (wpAny_loadPart')
theorem Hj{P:Program}{w:World}{A:Around}(hh:A.handled=none)(k:SK)(t a:Addr)(hne:a≠t)(us:Array Value):Draws P w A t [t,a] us.size (fun i v=>us[i]?=some v) (fun n g=>qQ k t a n g/\mY k g a us) where
 live:=fun i h z=>((nJ (P:=P) (w:=w) k t a hne us).lv i h z).1
 frame:=fun i h h' z kp=>(nJ (P:=P) (w:=w) k t a hne us).fr i h h' z fun b hb o e=>kp b (by rcases hb with rfl|rfl<;>simp) o e
 item:=fun i s Q E hi z q=>(nJ (P:=P) (w:=w) k t a hne us).nx i A s Q E us[i] z (by simp[hi]) fun g j sb=>q _ g s.toks (by simp[hi]) j sb
 done:=fun s Q E z q=>(nJ (P:=P) (w:=w) k t a hne us).en us.size A s Q E hh z (by simp) q
theorem qd(l:Addr)(items:Array Value)(n:Nat)(dct:Option Addr)(sl:Array (Option Value)):
 Meets (Builtin.«enumerate.__new__» ⟨[.type "enumerate",.ref l],[]⟩) (fun _ R s=>s.heap.get? l=some {cls:= .type "tuple",dict:=dct,data:= .seq items n,slots:=sl}/\
  R (.ok (.ret (.ref (s.heap.push {cls:= .type "tuple_iterator",data:= .fields #[.ref l,.int 0 0]}).objs.size)))
   {s with heap:=(s.heap.push {cls:= .type "tuple_iterator",data:= .fields #[.ref l,.int 0 0]}).push {cls:= .type "enumerate",data:= .fields #[.none,.bool false,.ref s.heap.objs.size,rawInt 0,.none,.none]}}):=
 .of_wp fun prog w A R s h=>by
  obtain⟨hp,g,d,tk,os⟩:=s;obtain⟨hl,h⟩:=h;have hsub:=sub_enumerate;have hL:Heap.IsTuple (Shared.heap ⟨hp,g,d,tk,os⟩) l items:=⟨_,hl,rfl,n,rfl⟩
  wp_walk using wpAny_loadPart' hl
  refine wpAny_stack_any fun st=>wpAny_pure ?_;split
  . rename_i c _ _ _ _ _;cases (c==Value.type "enumerate")
    . wp_walk using wpAny_loadPart' hl,wpAny_pyIter_tuple hL
      exact⟨_,rfl,h⟩
    . wp_walk using wpAny_loadPart' hl,wpAny_pyIter_tuple hL
      exact⟨_,rfl,h⟩
  . wp_walk using wpAny_loadPart' hl,wpAny_pyIter_tuple hL
    exact⟨_,rfl,h⟩
theorem CY{P:Program}{w:World}{A:Around}{s:Shared}{E:Value->Shared->Prop}{k:SK}{a:Addr}{us:Array Value}{Q:Value->Shared->Prop}(c:mY k s.heap a us)
 (q:∀g,IsEnum g (s.heap.objs.size+1) s.heap.objs.size 0 .none->qQ k s.heap.objs.size a 0 g->(∀b o,s.heap.get? b=some o->g.get? b=some o)->Q (.ref (s.heap.objs.size+1)) {s with heap:=g}):
 wpAny (model P w) A (call (.type "enumerate") [.ref a]) Q E s:=by
 cases k
 . exact call_enumerate_list c fun g h1 h2 _ h4=>q g h1 h2 h4
 . obtain⟨⟨c,dct,dt,sl⟩,hl,hc,n,hd⟩:=c;replace hc:c= .type "tuple":=hc;replace hd:dt= .seq us n:=hd;subst hc hd
   refine callType_new F.called_enumerate (by decide) (F.typeCall_enumerate_1 _) (F.newCall_enumerate_1 _) (fun obj=>F.args_object_init_2 obj _) F.entry_enumerate_new
    (qd a us n dct sl) ⟨hl,?_⟩
   have hz:(s.heap.push {cls:= .type "tuple_iterator",data:= .fields #[.ref a,.int 0 0]}).objs.size=s.heap.objs.size+1:=Heap.size_push ..;show _/\_;rw[hz]
   have he:IsEnum ((s.heap.push {cls:= .type "tuple_iterator",data:= .fields #[.ref a,.int 0 0]}).push
    {cls:= .type "enumerate",data:= .fields #[.none,.bool false,.ref s.heap.objs.size,rawInt 0,.none,.none]}) (s.heap.objs.size+1) s.heap.objs.size 0 .none:=by
    have:=Heap.get?_push_size (s.heap.push {cls:= .type "tuple_iterator",data:= .fields #[.ref a,.int 0 0]})
     (o:={cls:= .type "enumerate",data:= .fields #[.none,.bool false,.ref s.heap.objs.size,rawInt 0,.none,.none]}) rfl
    rw[hz]at this;exact this
   exact⟨⟨_,he,rfl⟩,q _ he ⟨_,Heap.get?_push_of_some _ (Heap.get?_push_size _ rfl),rfl,rfl⟩ fun b o x=>Heap.get?_push_of_some _ (Heap.get?_push_of_some _ x)⟩
def M4(K:PySem.W.Frag)(k:SK)(a:Addr):It:=
 ⟨fun i H=>∃xs x,pW k K H a xs/\xs[i]?=some x,
  fun i H v H'=>∃T x,H T=none/\v= .ref T/\H'=upd H T (.tup [.int (i:Int),x])/\∀xs,pW k K H a xs->xs[i]?=some x,
  fun i H=>∃xs,pW k K H a xs/\xs.length<=i⟩
def Nh(e t a:Addr)(k:SK)(i:Nat)(h:Heap):Prop:=(∃old,IsEnum h e t i old)/\qQ k t a i h
theorem Dl{P:Program}{w:World}{K:PySem.W.Frag}{elts:List Expr}{kx:Nat}{pos:Pos}{e t a:Addr}(k:SK)(n1:e≠t)(n2:a≠e)(n3:a≠t):
 Turn P w K (.Tuple elts kx pos) (M4 K k a) [e,t] e (Nh e t a k) where
 mem:=by simp
 obj:=fun i h st b hb=>by
  obtain⟨⟨old,he⟩,i1⟩:=st;simp only[List.mem_cons,List.not_mem_nil,or_false]at hb;rcases hb with rfl|rfl
  . exact⟨_,he,fun v z=>by cases z⟩
  . exact nM i1
 keep:=fun i h h' st kp=>by
  obtain⟨⟨old,he⟩,i1⟩:=st;exact⟨⟨old,kp e (by simp) _ he⟩,pC i1 (kp t (by simp))⟩
 item:=by
  intro X hP hw hK hc i pins s σ H E I hf st hg;subst hP hw hK;obtain⟨⟨old,he⟩,i1⟩:=st;obtain⟨xs,x,q1,ex⟩:=hg;obtain⟨us,r1,l1⟩:=ly I q1;obtain⟨u,eu,ru⟩:=r1.get ex
  have hlt:i<us.toArray.size:=by
   have:=(List.getElem?_eq_some_iff.mp eu).1;simpa using this
  refine wpAny_pyNext_enum_itemD (Hj (A:=X.A.in1) (show X.A.in1.handled=none from I.ok.hd hc) k t a n3 us.toArray) he ⟨i1,l1⟩ hlt n1 (by simp only[List.mem_cons,List.not_mem_nil,or_false,not_or];exact⟨n1,Ne.symm n2⟩) fun y h' tk py ho hs hT hsz kp=>⟨_,rfl,?_⟩
  have hy:y=u:=by
   have:us[i]?=some y:=by simpa using py
   rw[eu]at this;cases this;rfl
  subst hy;refine wpAny_letOwnedTupleGo_enum (s:={s with heap:=h',toks:=tk+1}) ho fun k' he' sb=>?_;have hTe:s.heap.objs.size≠e:=Nat.ne_of_gt (Heap.lt_size he)
  have kp3:∀b o,b∉[e,t]->s.heap.get? b=some o->k'.get? b=some o:=fun b o hb eb=>by
   simp only[List.mem_cons,not_or,List.not_mem_nil,not_false_eq_true,and_true]at hb;exact sb.extBut _ _ hb.1 (kp b o hb.1 hb.2 eb)
  refine⟨.ref s.heap.objs.size,upd H s.heap.objs.size (.tup [.int (i:Int),x]),Gf (s:=s) (tk:=tk+1) I hf kp3 (Nat.le_refl _) ?_,rfl,⟨s.heap.objs.size,x,I.aK.fresh (Nat.le_refl _),rfl,rfl,?_⟩,?_,?_⟩
  . refine⟨Nat.le_of_ble_eq_true rfl,[.int (i:Int) tk,y],.cons ⟨tk,rfl⟩ (.cons ru .nil),?_⟩;exact⟨_,sb.extBut _ _ hTe hT,rfl,_,rfl⟩
  . intro xs' q';rw[vW I q' q1];exact ex
  . refine⟨⟨_,by simpa using he'⟩,pC hs.1 fun o eo=>sb.extBut _ _ (Ne.symm n1) eo⟩
  . intro b hb
    have:b≠s.heap.objs.size:=by
     obtain⟨o,eb⟩:∃o,s.heap.get? b=some o:=by
      simp only[List.mem_cons,List.not_mem_nil,or_false]at hb;rcases hb with rfl|rfl
      . exact⟨_,he⟩
      . obtain⟨o,eo,_⟩:=nM i1;exact⟨o,eo⟩
     exact Nat.ne_of_lt (Heap.lt_size eb)
    rw[ax this];exact(hf b hb).1
 done:=by
  intro X hP hw hK hc i pins s σ H E I hf st hg;subst hP hw hK;obtain⟨⟨old,he⟩,i1⟩:=st;obtain⟨xs,q1,hle⟩:=hg;obtain⟨us,r1,l1⟩:=ly I q1;have e1:=r1.length;have tz:s.TypeIs (.ref e) "enumerate":=⟨_,he,rfl⟩
  unfold pyNext;refine wpAny_bind (wpAny_attempt (wpAny_callSpecial?_slot (name:=Str.ofString "__next__") tz F.slot_enumerate_next (wpAny_call_entry F.slot_enumerate_next tz F.entry_enumerate_next ?_ (F.args_enumerate_next_1 _))));show wpAny _ _ (field (.ref e) 2 >>= _) _ _ _;refine wpAny_bind (wpAny_field he rfl (x:= .ref t) rfl ?_);refine wpAny_bind ((nJ k t a n3 us.toArray).en i _ s _ _ (I.ok.hd hc) ⟨i1,l1⟩ (by simp;omega) fun g x sb hx=>?_);obtain⟨o,ho,hc2⟩:=hx;refine wpAny_bind (wpAny_isInstance (T:="StopIteration") (b:=true) ⟨o,ho,hc2⟩ isSubtype_stop ?_);refine wpAny_pure ⟨rfl,FO (s:=s) (tk:=s.toks) I hf fun b o hb eb=>?_⟩;simp only[List.mem_cons,not_or,List.not_mem_nil,not_false_eq_true,and_true]at hb;exact sb b o hb.2 eb
 self:=fun _ _ _ _ _ st h=>wpAny_pyIter_enum st.1.choose_spec h
def fG:Nat->List D->List D
 |_,[]=>[]
 |i,x::xs=> .tup [.int (i:Int),x]::fG (i+1) xs
theorem se:∀ {xs:List D} {i:Nat},(fG i xs).length=xs.length
 | [],_=>rfl
 |_::xs,i=>by unfold fG;rw[List.length_cons,List.length_cons,se]
theorem rE:∀ {xs:List D} {i n:Nat} {d:D},(fG i xs)[n]?=some d->∃x,xs[n]?=some x/\d= .tup [.int ((i+n:Nat):Int),x]
 | [],_,_,_,e=>by unfold fG at e;cases e
 |x::xs,i,0,d,e=>by
  unfold fG at e;rw[List.getElem?_cons_zero]at e;cases e;exact⟨x,rfl,rfl⟩
 |x::xs,i,n+1,d,e=>by
  unfold fG at e;rw[List.getElem?_cons_succ]at e;obtain⟨y,h1,h2⟩:=rE e;refine⟨y,by rw[List.getElem?_cons_succ];exact h1,?_⟩;rw[h2,show i+1+n=i+(n+1) by omega]
theorem G_{K:PySem.W.Frag}{k:SK}{a:Addr}{α:List (Option Addr)}{G:Hp}{ok:af->Prop}{xs:List D}
 (h:∀α' G' st',Step α G α' G'->aS α' st' G'->ok st'->∃vs,Du k G' a vs/\aF α' G' xs vs):vQ (M4 K k a) α G ok (fG 0 xs) where
 stop:=fun n α' G' F' H' st' s P S o hn=>by
  obtain⟨vs,h1,r1⟩:=h α' G' st' s S o;rw[se]at hn;refine⟨vs,ko P h1,?_⟩;have:=r1.length;omega
 go:=fun n d α' G' F' H' st' s P S o hn=>by
  obtain⟨vs,h1,r1⟩:=h α' G' st' s S o;obtain⟨x,ex,rfl⟩:=rE hn;obtain⟨v,ev,_⟩:=r1.get ex;exact⟨vs,v,ko P h1,ev⟩
 pP:=fun n d α' G' F' H' st' x H'' s P S o hn y=>by
  obtain⟨vs,h1,r1⟩:=h α' G' st' s S o;obtain⟨c,ec,rfl⟩:=rE hn;obtain⟨T,v,hT,rfl,rfl,y1⟩:=y;obtain⟨v',ev,rv⟩:=r1.get ec;rw[y1 vs (ko P h1)]at ev;cases ev;have hg:=(P.none hT).1;refine⟨upd G' T (.tup [.int (n:Int),v]),Step.laid hg,P.laid hT,S.laid hg,?_⟩;unfold Rep;refine⟨T,[.int (n:Int),v],rfl,S.lg hg,aU,?_⟩;unfold aF;refine⟨.int (n:Int),[v],rfl,?_,?_⟩
  . unfold Rep;rw[Nat.zero_add]
  unfold aF;exact⟨v,[],rfl,rv.step (Step.laid hg),by unfold aF;rfl⟩
def BD(ds:List D)(st1:af)(K:List D->(af->Prop)->af->Prop):Prop:=match ds with
 | [x]=>(match items? st1 x with
   |some xs=>K (fG 0 xs) (fun st'=>items? st' x=some xs) st1
   |_=>False)
 |_=>False
@[irreducible] def rR:List D->af->(List D->(af->Prop)->af->Prop)->Prop:=BD
def xH(t:DA):DI:=fun σ st K=>t σ st fun ds st1=>rR ds st1 K
theorem Dp:bootBuiltins "enumerate"=some (.type "enumerate"):=by decide+kernel
theorem Hf{X:Cx}{a:Expr}{elts:List Expr}{kx:Nat}{tpos p pos:Pos}{t:DA}(hg:Gl X "enumerate")(hm:X.mg "enumerate"=none)(ha:PA X [a] (LA t))(hs:starEach [a] X.env=[(false,eval a X.env)]):
 PI X (.Tuple elts kx tpos) (.Call (.Name "enumerate" p) [a] [] pos) (LI (xH t)):=by
 intro pins s σ H R I h;obtain⟨α,σd,st,K,G,F,P,RS,S,t,k⟩:=h;refine Call_ (mN I hg hm Dp (PyProof.Rows.callWith_type1 (bQ (ha pos pins s σ H (fun vs H1=>∃ds α1 G1 st1,Step α G α1 G1/\b_ G1 F H1/\aS α1 st1 G1/\aF α1 G1 ds vs/\rR ds st1 K) I ⟨α,σd,st,_,G,F,P,RS,S,t,fun ds st1 q α1 G1 H1 vs s1 P1 S1 r1=>⟨ds,α1,G1,st1,s1,P1,S1,r1,q⟩⟩) fun us s1 ⟨vs,H1,I1,rv,ds,α1,G1,st1,w1,P1,S1,r1,q⟩=>?_) (by rw[hs];rfl) (by rfl)));unfold rR BD at q;split at q
 . rename_i x;split at q
   . rename_i xs ex;obtain⟨v1,rfl,q1⟩:=iO r1 rfl;obtain⟨p1,vs1,rfl,g1,c1⟩:=nK S1 q1 ex;obtain⟨u1,rfl,ru1⟩:=vals1 rv;cases ru1;obtain⟨its1,_,l1⟩:=ly I1 (ko P1 c1);refine CY l1 fun g he i1 kp=>?_;obtain⟨o1,eo1⟩:=l1.some;have hp1:p1<s1.heap.objs.size:=Heap.lt_size eo1;refine wpAny_pyIter_enum (s:={s1 with heap:=g}) he ?_;refine⟨s1.heap.objs.size+1,[s1.heap.objs.size+1,s1.heap.objs.size],_,_,H1,rfl,I1.kept (t':=s1.toks) kp,Dl (Gm x) (Nat.ne_of_gt (Nat.lt_succ_self _)) (Nat.ne_of_lt (Nat.lt_succ_of_lt hp1)) (Nat.ne_of_lt hp1),⟨⟨_,he⟩,i1⟩,fun b hb=>?_,?_⟩
     . have hb':s1.heap.objs.size<=b:=by
        simp only[List.mem_cons,List.not_mem_nil,or_false]at hb;rcases hb with rfl|rfl
        . exact Nat.le_succ _
        . exact Nat.le_refl _
       exact I1.vS hb' (I1.aK.fresh hb')
     . refine k _ _ st1 q _ α1 G1 H1 w1 P1 S1 (G_ fun α' G' st' s' S' o=>?_);obtain⟨p1',ws1,e1,f1,d1⟩:=nK S' (q1.step s') o;cases e1;exact⟨ws1,d1,f1⟩
   . exact q.elim
 . exact q.elim
theorem zV{st:af}{x:D}{xs:List D}{K:List D->(af->Prop)->af->Prop}(ex:items? st x=some xs)(k:∀ok:af->Prop,(∀st',items? st' x=some xs->ok st')->K (fG 0 xs) ok st):rR [x] st K:=by
 unfold rR BD;simp only[ex];exact k _ fun st' h1=>h1
theorem Cm{X:Cx}{a:Expr}{elts:List Expr}{kx:Nat}{tpos p pos:Pos}{ar:DA}(hg:Gl X "enumerate")(hm:X.mg "enumerate"=none)(ha:JA X [a] ar)(hs:notStar a=true:=by rfl):JI X (.Tuple elts kx tpos) (.Call (.Name "enumerate" p) [a] [] pos) (xH ar):=by
 unfold JI;unfold JA at ha;exact Hf hg hm ha (cT hs)
end L3
namespace L3
open PySem L2
open PySem.Spec hiding items?
open PyProof.Rows hiding St
section
variable {prog:Program}{w:World}{A:Around}{E:Value->Shared->Prop}{s:Shared}
end
section
variable {X:Cx}{tg:Expr}
end
section
variable {X:Cx}
end
end L3
namespace L3
open PySem L2
open PySem.Spec hiding items?
open PyProof.Rows hiding St
open PySem PySem.Spec L2 PySem.SeqAt
section
variable {X:Cx}
end
end L3
namespace L3
open PySem L2
open PySem.Spec hiding items?
open PyProof.Rows hiding St
section
variable {X:Cx}
end
section
variable {P:Program}{w:World}
section
variable {z ti to t1 t2 t3 a1 a2 a3:Addr}
end
end
section
variable {X:Cx}
end
end L3
namespace L3
open PySem L2
open PySem.Spec hiding items?
open PyProof.Rows hiding St
open Sem (wp)
section
variable {prog:Program}{w:World}{A:Around}{s:Shared}{E:Value->Shared->Prop}
end
section
variable {prog:Program}{w:World}{A:Around}{R:Result->Shared->Prop}{I:Addr}{fp wr:List Addr}{G:Array GenState->Array GenState->Prop}{n:Nat}{P:Nat->Value->Prop}{Sx:Nat->Shared->Prop}
end
section
variable {prog:Program}{w:World}{A:Around}{E:Value->Shared->Prop}{s:Shared}
end
section
variable {X:Cx}{pins:List (Addr×Obj)}{σ:L2.St}{H:Hp}{s:Shared}{α:List (Option Addr)}
end
end L3
namespace L3
open PySem L2
open PySem.Spec hiding items?
open PyProof.Rows hiding St
section
variable {X:Cx}
def xM:fI:=fun ds st K=>match ds with| [.lst xs]=>(match gX xs with|some bs=>K (.bl (bs.any id)) st|none=>False)|_=>False
theorem range_any{α:Type}(l:List α)(f:α->Bool)(tr:Nat->Bool)(h:∀i x,l[i]?=some x->tr i=f x):(List.range l.length).any tr=l.any f:=by
 induction l generalizing tr with
 |nil=>rfl
 |cons a l ih=>
  rw[List.length_cons,List.range_succ_eq_map,List.any_cons,List.any_cons,List.any_map,h 0 a rfl];congr 1;exact ih (tr∘Nat.succ) fun i x e=>h (i+1) x (by simpa using e)
theorem Lf(hc:X.calm=true):bK X (.builtin "any") (gM xM):=fun pins s σ H xs us Q I rs ⟨α,ds,st,K,G,F',P,r,S,q,k⟩=>by
 unfold xM at q;split at q
 . rename_i ys;split at q
   . rename_i bs e;obtain⟨v,rfl,r1⟩:=iO r rfl;unfold Rep at r1;obtain⟨a,vs,rfl,na,h1,h2⟩:=r1;obtain⟨u,rfl,ru⟩:=vals1 rs;cases ru;have hv:=qz h2 e;subst hv;obtain⟨z,its,n,rv,hl,eo⟩:=Inv.uD I (hW P h1);have hits:=qH rv;subst hits;have isL:s.heap.IsList a (bs.map Value.bool).toArray:=⟨_,eo,rfl,n,rfl⟩
     refine call_any_walk (wpAny_pyIter_list isL ?_);have hne:a≠s.heap.objs.size:=Nat.ne_of_lt (Heap.lt_size eo);refine⟨s.heap.objs.size,_,_,_,_,_,fun i=>(bs[i]?).getD true,rfl,Walks.list (A:=X.A.in1) (I.ok.hd hc) _ a hne (bs.map Value.bool).toArray,⟨⟨_,Heap.get?_push_size _ rfl,rfl,rfl⟩,⟨_,Heap.get?_push_of_some _ eo,rfl,n,rfl⟩⟩,?_,?_⟩
     . intro i w s' Q' E' hP hQ;rw[List.getElem?_toArray,List.getElem?_map]at hP;cases zb:bs[i]? with
       |none=>rw[zb]at hP;cases hP
       |some b=>
        rw[zb]at hP;cases hP;simp only[zb]at hQ;exact wpAny_truthy_bool hQ
     . intro h' tk hk
       have kp:∀b o,s.heap.get? b=some o->h'.get? b=some o:=fun b o q=>hk b o (by
        intro hb;have:b=s.heap.objs.size:=by simpa using hb
        exact absurd (Heap.lt_size q) (by rw[this];exact Nat.lt_irrefl _)) (Heap.get?_push_of_some _ q)
       have ea:(List.range (bs.map Value.bool).toArray.size).any (fun i=>(bs[i]?).getD true)=bs.any id:=by
        rw[List.size_toArray,List.length_map];exact range_any bs id _ fun i x e=>by rw[e];rfl
       rw[ea];exact⟨.bl (bs.any id),H,I.kept (t':=tk) kp,rfl,k.here P q S (by unfold Rep;rfl)⟩
   . exact q.elim
 . exact q.elim
@[irreducible] def zp:fI:=xM
theorem LD(hc:X.calm=true):bK X (.builtin "any") (gM zp):=by unfold zp;exact Lf hc
end
theorem Kh{st:af}{K:DK}{xs:List D}{bs:List Bool}(h:gX xs=some bs)(k:K (.bl (bs.any id)) st):zp [.lst xs] st K:=by unfold zp xM;simp only[h];exact k
def putD(f:Str)(v:D):List (Str×D)->List (Str×D)
 | []=>[(f,v)]
 |(g,x)::r=>if g=f then(g,v)::r else(g,x)::putD f v r
theorem kF.look{α:List (Option Addr)}{H:Hp}{f:Str}{v:D}:∀ {fs:List (Str×D)} {vs:List (Str×V)},kF α H fs vs->fs.lookup f=some v->∃u,vs.lookup f=some u/\Rep α H v u
 | [],_,_,e=>by cases e
 |(g,x)::fs,_,.cons (b:=q) h t,e=>by
  obtain⟨g',y⟩:=q;obtain⟨h1,h2⟩:=h;simp only at h1 h2;subst h1;rw[List.lookup_cons]at e⊢;cases hb:f==g with
  |true=>rw[hb]at e;cases e;exact⟨y,rfl,h2⟩
  |false=>rw[hb]at e;exact kF.look t e
theorem kF.none{α:List (Option Addr)}{H:Hp}{f:Str}:∀ {fs:List (Str×D)} {vs:List (Str×V)},kF α H fs vs->fs.lookup f=Option.none->vs.lookup f=Option.none
 | [],_,.nil,_=>rfl
 |(g,x)::fs,_,.cons (b:=q) h t,e=>by
  obtain⟨g',y⟩:=q;obtain⟨h1,h2⟩:=h;simp only at h1 h2;subst h1;rw[List.lookup_cons]at e⊢;cases hb:f==g with
  |true=>rw[hb]at e;cases e
  |false=>rw[hb]at e;exact kF.none t e
theorem kF.put{α:List (Option Addr)}{H:Hp}{f:Str}{d:D}{v:V}(r:Rep α H d v):∀ {fs:List (Str×D)} {vs:List (Str×V)},kF α H fs vs->kF α H (putD f d fs) (iw f v vs)
 | [],_,.nil=> .cons ⟨rfl,r⟩ .nil
 |(g,x)::fs,_,.cons (b:=q) h t=>by
  obtain⟨g',y⟩:=q;obtain⟨h1,h2⟩:=h;simp only at h1 h2;subst h1;unfold putD iw;by_cases hb:g=f
  . rw[if_pos hb,if_pos hb];exact .cons ⟨rfl,r⟩ t
  . rw[if_neg hb,if_neg hb];exact .cons ⟨rfl,h2⟩ (kF.put r t)
def Er(C:Addr)(f:Str)(d:D)(st:af)(K:DK):Prop:=match d with
 | .ref n=>(match st[n]? with|some (.ins C' fs)=>C'=C/\∃v,fs.lookup f=some v/\K v st|_=>False)
 |_=>False
@[irreducible] def BW(C:Addr)(f:Str):D->af->DK->Prop:=Er C f
def bL(C:Addr)(f:Str)(te:DE):DE:=fun σ st K=>te σ st fun d st1=>BW C f d st1 K
theorem aV{C:Addr}{f:Str}{n:Nat}{st:af}{K:DK}{fs:List (Str×D)}{v:D}(e:st[n]?=some (.ins C fs))(h:fs.lookup f=some v)(k:K v st):BW C f (.ref n) st K:=by
 unfold BW Er;simp only[e];exact⟨trivial,v,h,k⟩
def BM(C:Addr)(f:Str)(x d:D)(st:af)(K:af->Prop):Prop:=match x with
 | .ref n=>(match st[n]? with|some (.ins C' fs)=>C'=C/\fs.length<1000/\K (st.set n (.ins C (putD f d fs)))|_=>False)
 |_=>False
@[irreducible] def vm(C:Addr)(f:Str):D->D->af->(af->Prop)->Prop:=BM C f
def fx(C:Addr)(f:Str)(to te:DE):DS:=fun D σ st=>te σ st fun d st1=>to σ st1 fun x st2=>vm C f x d st2 fun st3=>D.nx σ st3
theorem l7{C:Addr}{f:Str}{n:Nat}{d:D}{st:af}{K:af->Prop}{fs:List (Str×D)}(e:st[n]?=some (.ins C fs))(h:fs.length<1000)(k:K (st.set n (.ins C (putD f d fs)))):vm C f (.ref n) d st K:=by
 unfold vm BM;simp only[e];exact⟨trivial,h,k⟩
def xG(C:Addr)(m:Str)(x:D)(st:af)(k:Prop):Prop:=match x with
 | .ref n=>(match st[n]? with|some (.ins C' fs)=>C'=C/\fs.lookup m=none/\k|_=>False)
 |_=>False
@[irreducible] def uP(C:Addr)(m:Str):D->af->Prop->Prop:=xG C m
theorem dY{C:Addr}{m:Str}{n:Nat}{st:af}{k:Prop}{fs:List (Str×D)}(e:st[n]?=some (.ins C fs))(h:fs.lookup m=none)(q:k):uP C m (.ref n) st k:=by
 unfold uP xG;simp only[e];exact⟨trivial,h,q⟩
def d8(C:Addr)(m:Str)(S:cF)(to:DE)(t:DA):DE:=fun σ st K=>to σ st fun x st1=>uP C m x st1 (t σ st1 fun ds st2=>S (x::ds) st2 K)
def xJ(C:Addr)(S:cF)(t:DA):DE:=fun σ st K=>t σ st fun ds st1=>S (.ref st1.length::ds) (st1++[.ins C []]) fun r st2=>r= .aI/\K (.ref st1.length) st2
section
variable {X:Cx}{C f g:Addr}{fd:FuncData}{k:Nat}{x m fl:Str}{e o value:Expr}{es:List Expr}{p pos pos' apos:Pos}{te to:DE}{t:DA}{S:cF}{ps:List Str}
theorem KL(c:m8 X.K C)(na:d9 X.K C fl)(he:PE X e (LE te))(hb:attributeBase e fl X.env (eval e X.env)=eval e X.env):PE X (.Attribute e fl pos) (LE (bL C fl te)):=PE.imp (Jr he hb) fun σ H Q ⟨α,σd,st,K,G,F,P,R,S,t,k⟩=>by
 refine⟨α,σd,st,_,G,F,P,R,S,t,fun d st1 q α1 G1 H1 v s1 P1 S1 r1=>?_⟩;unfold BW Er at q;cases d<;>try exact q.elim
 simp only at q;split at q
 . rename_i C' fs e';obtain⟨rfl,w,hw,q⟩:=q;obtain⟨a,ea,dx,vs,h1,h2⟩:=S1.xS e';have r1':=f9 ea r1;subst r1';obtain⟨u,hu,ru⟩:=h2.look hw;exact⟨a,_,dx,vs,u,rfl,P1.get h1,c,na,hu,(k.at s1).here P1 q S1 ru⟩
 . exact q.elim
theorem Jt(c:m8 X.K C)(na:d9 X.K C fl)(ho:PE X o (LE to))(hv:PE X value (LE te))(hs:swapsWith value (some (.Attribute o fl pos')) pos.line X.env=pure false):PS X (.Assign [.Attribute o fl pos'] value pos) (LS (fx C fl to te)):=PS.imp (Jo ho hv hs) fun D σ H ⟨α,σd,st,DD,G,F,P,R,S,t,k⟩=>by
 refine⟨α,σd,st,_,G,F,P,R,S,t,fun d st1 q α1 G1 H1 v s1 P1 S1 r1=>?_⟩;refine⟨α1,σd,st1,_,G1,F,P1,R.step s1,S1,q,fun x st2 q2 α2 G2 H2 v2 s2 P2 S2 r2=>?_⟩;unfold vm BM at q2;cases x<;>try exact q2.elim
 simp only at q2;split at q2
 . rename_i C' fs e';obtain⟨rfl,hl,q2⟩:=q2;obtain⟨a,ea,dx,vs,h1,h2⟩:=S2.xS e';have r2':=f9 ea r2;subst r2';have hm:some a∈α2:=List.mem_of_getElem? ea;have lv:vs.length<1000:=by rw[<-h2.length];exact hl
   refine⟨a,_,dx,vs,rfl,P2.get h1,c,na,lv,?_⟩;refine((k.nx.at s1).at s2) σd _ q2 α2 (upd G2 a (.ins _ dx (iw fl v vs))) _ σ (Step.write hm) (P2.write h1) (((R.step s1).step s2).step (Step.write hm)) ?_;exact S2.write ea ⟨dx,iw fl v vs,aU,(h2.put (r1.step s2)).step (Step.write hm)⟩
 . exact q2.elim
theorem LE.KD{σ:L2.St}{H:Hp}{Q:VK}(h:LE (d8 C m S to t) σ H Q):BL C m (cL S) [] E0 (LE to) (LA t) σ H Q:=by
 obtain⟨α,σd,st,K,G,F,P,R,Sr,tt,k⟩:=h;refine⟨α,σd,st,_,G,F,P,R,Sr,tt,fun d st1 q α1 G1 H1 v s1 P1 S1 r1=>?_⟩;unfold uP xG at q;cases d<;>try exact q.elim
 simp only at q;split at q
 . rename_i n C' fs e';obtain⟨rfl,hl,q⟩:=q;obtain⟨a,ea,dx,vs,h1,h2⟩:=S1.xS e';have r1':=f9 ea r1;subst r1';refine⟨a,dx,vs,rfl,P1.get h1,h2.none hl,?_⟩;refine⟨α1,σd,st1,_,G1,F,P1,R.step s1,S1,q,fun ds st2 q2 α2 G2 H2 us s2 P2 S2 r2=>?_⟩;try dsimp only
   rw[List.append_nil];exact⟨α2,_,st2,K,G2,F,P2,by unfold aF;exact⟨_,_,rfl,r1.step s2,r2⟩,S2,q2,(k.at s1).at s2⟩
 . exact q.elim
theorem LE.make{σ:L2.St}{H:Hp}{Q:VK}(h:LE (xJ C S t) σ H Q):Gs C (cL S) [] E0 (LA t) σ H Q:=by
 obtain⟨α,σd,st,K,G,F,P,R,Sr,tt,k⟩:=h;refine⟨α,σd,st,_,G,F,P,R,Sr,tt,fun ds st1 q α1 G1 H1 us s1 P1 S1 r1=>?_⟩;intro x dx hx hdx hne;have hgd:=(P1.none hdx).1;have P2:=P1.laid (o:= .own x) hdx;have S2:=S1.laid (o:= .own x) hgd;have hx2:upd H1 dx (.own x) x=none:=by rw[ax (Ne.symm hne)];exact hx
 have hg2:=(P2.none hx2).1;have P3:=P2.laid (o:= .ins C dx []) hx2;have S3:=S2.cell (o:= .ins C dx []) (c:= .ins C []) hg2 ⟨dx,[],aU,.nil⟩;have s2:Step α1 G1 α1 (upd G1 dx (.own x)):=Step.laid hgd;have s3:Step α1 (upd G1 dx (.own x)) (α1++[some x]) (upd (upd G1 dx (.own x)) x (.ins C dx [])):=Step.cell hg2
 have rx:Rep (α1++[some x]) (upd (upd G1 dx (.own x)) x (.ins C dx [])) (.ref st1.length) (.ref x):=by
  unfold Rep;refine .inr ⟨x,?_,rfl⟩;rw[List.getElem?_append_right (by rw[S1.len];exact Nat.le_refl _),S1.len,Nat.sub_self];rfl
 rw[List.append_nil];refine⟨α1++[some x],.ref st1.length::ds,st1++[.ins C []],_,_,F,P3,by unfold aF;exact⟨_,_,rfl,rx,(r1.step s2).step s3⟩,S3,q,fun d st2 q2 α' G' H' v s' P' S' r'=>?_⟩;obtain⟨rfl,q2⟩:=q2;unfold Rep at r';exact⟨r',(((k.at s1).at s2).at s3) _ st2 q2 α' G' H' _ s' P' S' (rx.step s')⟩
end
section
variable {X:Cx}{tg:Expr}
end
section
variable {X:Cx}
end
section
variable {X:Cx}{e o i value:Expr}{es:List Expr}{te to ti:DE}{t:DA}{pos pos' tpos apos p:Pos}{C f:Addr}{fl m x:Str}{S:cF}{k:Nat}{fd:FuncData}{ps:List Str}
theorem D1{value o:Expr}{fl:Str}{pos':Pos}{n:Nat}{env:Env}:swapsWith value (some (.Attribute o fl pos')) n env=pure false:=by cases value<;>rfl
theorem bo(c:m8 X.K C)(na:d9 X.K C fl)(he:JE X e te)(hb:attributeBase e fl X.env (eval e X.env)=eval e X.env:=by rfl):JE X (.Attribute e fl pos) (bL C fl te):=by unfold JE at*;exact KL c na he hb
theorem dQ(c:m8 X.K C)(na:d9 X.K C fl)(ho:JE X o to)(hv:JE X value te):JS X (.Assign [.Attribute o fl pos'] value pos) (fx C fl to te):=by unfold JS;unfold JE at*;exact Jt c na ho hv D1
theorem iZ{pl:Sem Bool}(he:JE X o to)(c:m8 X.K C)(hm:Meth X.K C m f)(F:bF X.prog X.w X.K X.mg X.base cG k f fd ps (cL S))(hr:cP k X.A)(hb:Binds X.K fd ps [])(ha:JA X (e::es) t)
 (hs:notStar e=true:=by rfl) (hs2:ip es=true:=by rfl)
 (ht:eval (.Call (.Attribute o m apos) (e::es) [] pos) X.env=(do
   let ov <-eval o X.env
   standAt apos.atName
   let(f,first) <-holding [ov] (getMethod ov m pl)
   callWith pos f first (backTo pos (starEach (e::es) X.env)) (backToKw pos (keywordEach [] X.env))):=by rfl):
 JE X (.Call (.Attribute o m apos) (e::es) [] pos) (d8 C m S to t):=by
 unfold JE at*;unfold JA at ha;exact PE.imp (GN he c hm F hr hb .nil xq ha (cT hs) (lK hs2) ht) fun _ _ _ h=>LE.KD h
theorem nL{pl:Sem Bool}(he:JE X o to)(c:m8 X.K C)(hm:Meth X.K C m f)(F:bF X.prog X.w X.K X.mg X.base cG k f fd ps (cL S))(hr:cP k X.A)(hb:Binds X.K fd ps [])
 (ht:eval (.Call (.Attribute o m apos) [] [] pos) X.env=(do
   let ov <-eval o X.env
   standAt apos.atName
   let(f,first) <-holding [ov] (getMethod ov m pl)
   callWith pos f first (backTo pos (starEach [] X.env)) (backToKw pos (keywordEach [] X.env))):=by rfl):
 JE X (.Call (.Attribute o m apos) [] [] pos) (d8 C m S to ak):=by
 unfold JE at*;refine PE.imp (Ff he c hm F hr hb .nil xq ht) fun σ H Q h=>?_;obtain⟨α,σd,st,K,G,F,P,R,Sr,tt,k⟩:=h;refine⟨α,σd,st,_,G,F,P,R,Sr,tt,fun d st1 q α1 G1 H1 v s1 P1 S1 r1=>?_⟩;unfold uP xG at q;cases d<;>try exact q.elim
 simp only at q;split at q
 . rename_i n C' fs e';obtain⟨rfl,hl,q⟩:=q;obtain⟨a,ea,dx,vs,h1,h2⟩:=S1.xS e';have r1':=f9 ea r1;subst r1';exact⟨a,dx,vs,rfl,P1.get h1,h2.none hl,α1,_,st1,K,G1,F,P1,by unfold aF;exact⟨_,_,rfl,r1,by unfold aF;rfl⟩,S1,q,k.at s1⟩
 . exact q.elim
theorem Cv(M:Mk X.K C f)(F:bF X.prog X.w X.K X.mg X.base cG k f fd ps (cL S))(hr:cP (k+1) X.A)(hg:Gl X x)(hmg:X.mg x=some (.ref C))(hb:Binds X.K fd ps [])(ha:JA X (e::es) t)(hdb:(x==("__debug__":Str))=false)
 (hs:notStar e=true:=by rfl) (hs2:ip es=true:=by rfl):JE X (.Call (.Name x p) (e::es) [] pos) (xJ C S t):=by
 unfold JE;unfold JA at ha;exact PE.imp (GG M F hr hg hmg hb .nil xq ha hdb (cT hs) (lK hs2)) fun _ _ _ h=>LE.make h
end
end L3
namespace L3
open PySem PySem.Spec L2
open PyProof.Rows hiding St
def Jn(xs:Array Keyed)(i:Nat):Int:=match xs[i]? with
 |some p=>numOf p.2
 |none=>0
theorem oA{xs ys:Array Keyed}{i j:Nat}(h:xs[i]?=ys[j]?):Jn xs i=Jn ys j:=by unfold Jn;rw[h]
theorem mP{xs:Array Keyed}{i j:Nat}(hj:j<=xs.size)(k:Nat):
 K (mirror xs i j ((j-i)/2)) k=K xs (if i<=k/\k<j then i+j-1-k else k)/\Jn (mirror xs i j ((j-i)/2)) k=Jn xs (if i<=k/\k<j then i+j-1-k else k):=by
 have e:=getElem?_mirror_all (i:=i) hj k;split at e<;>rename_i h
 . rw[if_pos h];exact⟨K_congr e,oA e⟩
 . rw[if_neg h];exact⟨K_congr e,oA e⟩
theorem CH{xs:Array Keyed}{src d:Nat}(hs:src<xs.size)(hd:d<=src)(k:Nat):
 K (bubble xs src d) k=K xs (if k=src-d then src else if src-d<k/\k<=src then k-1 else k)/\Jn (bubble xs src d) k=Jn xs (if k=src-d then src else if src-d<k/\k<=src then k-1 else k):=by
 have e:=getElem?_bubble hs d hd k;split at e<;>rename_i h
 . rw[if_pos h];exact⟨K_congr e,oA e⟩
 . rw[if_neg h];split at e<;>rename_i h2
   . rw[if_pos h2];exact⟨K_congr e,oA e⟩
   . rw[if_neg h2];exact⟨K_congr e,oA e⟩
def mJ(xs:Array Keyed)(i j:Nat):Prop:=K xs i<K xs j\/(K xs i=K xs j/\Jn xs i<Jn xs j)
def kb(xs:Array Keyed)(k:Nat):Prop:=∀i j,i<j->j<k->mJ xs i j
def jv(n:Nat)(xs:Array Keyed)(k:Nat):Prop:=∀i j,i<j->k<=j->j<n->Jn xs i<Jn xs j
theorem kb.to{xs:Array Keyed}{k:Nat}(h:kb xs k):SortedTo xs k:=fun i j hij hj=>by
 rcases Nat.lt_or_eq_of_le hij with e|e
 . rcases h i j e hj with q|q<;>omega
 . subst e;exact Int.le_refl _
theorem kb.more{xs:Array Keyed}{n k m:Nat}(h:kb xs k)(t:jv n xs k)(s:SortedTo xs m)(hm:m<=n):kb xs m:=fun i j hij hj=>by
 by_cases hk:j<k
 . exact h i j hij hk
 . have a:=s i j (Nat.le_of_lt hij) hj;have b:=t i j hij (Nat.le_of_not_lt hk) (Nat.lt_of_lt_of_le hj hm);unfold mJ;omega
theorem jv.up{xs:Array Keyed}{n k m:Nat}(t:jv n xs k)(h:k<=m):jv n xs m:=fun i j a b c=>t i j a (Nat.le_trans h b) c
theorem jv.mix{xs ys:Array Keyed}{n k:Nat}(t:jv n xs k)(f:Nat->Nat)(hf:∀i,Jn ys i=Jn xs (f i))(h1:∀i,i<k->f i<k)(h2:∀i,k<=i->f i=i):jv n ys k:=fun i j a b c=>by
 rw[hf,hf,h2 j b];refine t _ _ ?_ b c;by_cases hi:i<k
 . exact Nat.lt_of_lt_of_le (h1 i hi) b
 . rw[h2 i (Nat.le_of_not_lt hi)];exact a
section
variable {prog:Program}{w:World}{A:Around}{E:Value->Shared->Prop}{s:Shared}{a₀:Array Keyed}
theorem CW{st:SortSt}{ok:Nat}{Q:Bool->SortSt->Prop}(h0:IntKeys a₀)(h1:1<=ok)(aK:ok<=a₀.size)(hB:SBase a₀ st)(hs:kb (arrOf st) ok)(ht:jv a₀.size (arrOf st) ok)
 (h:∀st',SBase a₀ st'->kb (arrOf st') a₀.size->Q true st'):wpS (model prog w) A E s (binarySort' 0 a₀.size ok) Q st:=by
 rw[binarySort'_eq];simp only[Nat.zero_add]
 refine wpS_bind (wpS_mono (wpS_forRange (I:=fun k c q=>c=(none,())/\SBase a₀ q/\k<=a₀.size/\kb (arrOf q) k/\jv a₀.size (arrOf q) k)
  (Q:=fun c q=>c=(none,())/\SBase a₀ q/\kb (arrOf q) a₀.size) ?st ?en ?be) ?po)
 case po=>rintro c q ⟨rfl,b1,b2⟩;exact wpS_pure (h q b1 b2)
 case be=>rw[show max ok 1=ok by omega];exact⟨rfl,hB,aK,hs,ht⟩
 case en=>
  rintro c q ⟨rfl,b1,b2,b3,_⟩;rw[show max (max ok 1) a₀.size=a₀.size by omega]at b3;exact⟨rfl,b1,b3⟩
 case st=>
  rintro k c q hk1 hk2 ⟨rfl,qB,_,qS,qT⟩
  refine wpS_bind (wpS_mono (wpS_forRange (I:=fun x c q'=>q'=q/\∃l r,c=(none,l,r)/\l<=r/\r<=k/\r-l<=k-x/\(∀i,i<l->K (arrOf q) i<=K (arrOf q) k)/\(∀i,r<=i->i<k->K (arrOf q) k<K (arrOf q) i))
   (Q:=fun c q'=>q'=q/\∃l,c=(none,l,l)/\l<=k/\(∀i,i<l->K (arrOf q) i<=K (arrOf q) k)/\(∀i,l<=i->i<k->K (arrOf q) k<K (arrOf q) i)) ?a ?b ?c) ?d)
  case c=>exact⟨rfl,0,k,rfl,by omega,by omega,by omega,fun i hi=>by omega,fun i x y=>by omega⟩
  case b=>
   rintro c q' ⟨rfl,l,r,rfl,e1,e2,e3,e4,e5⟩;have:r=l:=by omega
   subst this;exact⟨rfl,r,rfl,e2,e4,e5⟩
  case a=>
   rintro x c q' _ hx ⟨rfl,l,r,rfl,e1,e2,e3,e4,e5⟩;dsimp only;by_cases hlr:l>=r
   . rw[if_pos hlr];have:r=l:=by omega
     subst this;exact wpS_pure ⟨rfl,r,rfl,e2,e4,e5⟩
   . rw[if_neg hlr];refine wpS_bind (wpS_ltK qB h0 hk2 (by omega) ?_);have so:=qS.to;by_cases hl:K (arrOf q') k<K (arrOf q') ((l+r)/2)
     . simp only[hl,decide_true,if_true];exact wpS_pure ⟨rfl,l,(l+r)/2,rfl,by omega,by omega,by omega,e4,fun i x y=>Int.lt_of_lt_of_le hl (so _ _ x y)⟩
     . simp only[hl,decide_false,Bool.false_eq_true,if_false];refine wpS_pure ⟨rfl,(l+r)/2+1,r,rfl,by omega,by omega,by omega,fun i x=>?_,e5⟩;have:=so i ((l+r)/2) (by omega) (by omega);omega
  case d=>
   rintro c q' ⟨rfl,l,rfl,hlk,e4,e5⟩;show wpS _ _ _ _ (do moveDown' k l;pure (ForInStep.yield (none,()))) _ _;rw[moveDown'_eq];have hks:k<(arrOf q').size:=by rw[qB.size];exact hk2
   have bb:=CH (xs:=arrOf q') hks (show k-l<=k by omega);rw[show k-(k-l)=l by omega]at bb;refine wpS_bind (wpS_modify (wpS_pure ⟨rfl,qB.setArr (bubble_perm _ _ _),by omega,fun i j hij hj=>?_,jv.mix (qT.up (Nat.le_succ k)) _ (fun i=>(bb i).2) (fun i hi=>?_) (fun i hi=>?_)⟩))
   . show mJ (bubble (arrOf q') k (k-l)) i j;unfold mJ;rw[(bb i).1,(bb i).2,(bb j).1,(bb j).2];by_cases hil:i<l
     . rw[if_neg (show¬i=l by omega),if_neg (show¬(l<i/\i<=k) by omega)];by_cases hjl:j=l
       . rw[if_pos hjl];have x:=e4 i hil;have y:=qT i k (by omega) (Nat.le_refl _) hk2;omega
       . rw[if_neg hjl];by_cases hj2:l<j/\j<=k
         . rw[if_pos hj2];exact qS i (j-1) (by omega) (by omega)
         . rw[if_neg hj2];exact qS i j hij (by omega)
     . by_cases hie:i=l
       . rw[if_pos hie,if_neg (show¬j=l by omega),if_pos (show l<j/\j<=k by omega)];exact .inl (e5 _ (by omega) (by omega))
       . rw[if_neg hie,if_pos (show l<i/\i<=k by omega),if_neg (show¬j=l by omega),if_pos (show l<j/\j<=k by omega)];exact qS _ _ (by omega) (by omega)
   . show(if i=l then k else if l<i/\i<=k then i-1 else i)<k+1;split
     . omega
     . split<;>omega
   . show(if i=l then k else if l<i/\i<=k then i-1 else i)=i;rw[if_neg (by omega),if_neg (by omega)]
def wt(xs:Array Keyed)(m q:Nat):Prop:=q+1<=m/\∀i j,i<j->j<m->(m<=i+(q+1)->K xs i=K xs j/\Jn xs i<Jn xs j)/\(i+(q+1)<m->(m<=j+(q+1)->K xs j<K xs i)/\mJ xs j i)
theorem wt.all{xs:Array Keyed}{m q:Nat}(h:wt xs m q)(hm:m<=xs.size):(q=0\/0<q)/\∀i j,i<j->j<m->mJ (mirror xs (m-(q+1)) m ((m-(m-(q+1)))/2)) j i:=by
 refine⟨by omega,fun i j hij hj=>?_⟩;have b:=mP (i:=m-(q+1)) (j:=m) hm;unfold mJ;rw[(b i).1,(b i).2,(b j).1,(b j).2];by_cases hi:m-(q+1)<=i/\i<m
 . rw[if_pos hi,if_pos (show m-(q+1)<=j/\j<m by omega)];have:=(h.2 (m-(q+1)+m-1-j) (m-(q+1)+m-1-i) (by omega) (by omega)).1 (by omega);omega
 . rw[if_neg hi];by_cases hj2:m-(q+1)<=j/\j<m
   . rw[if_pos hj2];have:=((h.2 i (m-(q+1)+m-1-j) (by omega) (by omega)).2 (by omega)).1 (by omega);omega
   . rw[if_neg hj2];exact((h.2 i j hij hj).2 (by omega)).2
theorem wt.zero{xs:Array Keyed}{m:Nat}(h:wt xs m 0):∀i j,i<j->j<m->mJ xs j i:=fun i j hij hj=>((h.2 i j hij hj).2 (by omega)).2
theorem nG{n:Nat}{xs:Array Keyed}{i j k:Nat}(t:jv n xs k)(hj:j<=xs.size)(hk:j<=k):jv n (mirror xs i j ((j-i)/2)) k:=
 t.mix _ (fun a=>(mP hj a).2) (fun a ha=>by split<;>omega) fun a ha=>by rw[if_neg (by omega)]
theorem B9{st:SortSt}{n:Nat}{Q:DescSt->SortSt->Prop}(h0:IntKeys a₀)(hn:n<=a₀.size)(hB:SBase a₀ st)(hs:wt (arrOf st) n 0)(ht:jv a₀.size (arrOf st) n)
 (h:∀m q st',SBase a₀ st'->n<=m->m<=a₀.size->wt (arrOf st') m q->jv a₀.size (arrOf st') m->Q (none,m,q) st'):
 wpS (model prog w) A E s (descLoop n a₀.size) Q st:=by
 unfold descLoop;refine wpS_forRange (I:=fun x c st'=>∃q,c=(none,x,q)/\SBase a₀ st'/\wt (arrOf st') x q/\jv a₀.size (arrOf st') x) ?st ?en ⟨0,rfl,hB,hs,ht⟩
 case en=>
  rintro c st' ⟨q,rfl,b1,b2,b3⟩;rw[show max n a₀.size=a₀.size by omega]at b2 b3⊢;exact h _ q st' b1 hn (Nat.le_refl _) b2 b3
 case st=>
  rintro x c st' hx1 hx2 ⟨q,rfl,b1,b2,b3⟩;dsimp only;have hq:=b2.1;have hsz:x<=(arrOf st').size:=by rw[b1.size];omega
  refine wpS_bind (wpS_ltK b1 h0 hx2 (by omega) ?_);by_cases hl:K (arrOf st') x<K (arrOf st') (x-1)
  . simp only[hl,decide_true,if_true];by_cases hq0:q>0
    . rw[if_pos hq0];have al:=(b2.all hsz).2;have km:=mP (i:=x-(q+1)) (j:=x) hsz;refine wpS_bind (wpS_reverse (wpS_pure ⟨0,rfl,b1.setArr (mirror_perm _ _ _ _),⟨by omega,fun i j hij hj=>⟨fun hh=>by omega,fun hh=>⟨fun hj2=>?_,?_⟩⟩⟩,(nG b3 hsz (Nat.le_refl _)).up (Nat.le_succ x)⟩))
      . have hjx:j=x:=by omega
        subst hjx;show K (mirror (arrOf st') _ _ _) j<K (mirror (arrOf st') _ _ _) i;rw[(km i).1,(km j).1,if_neg (show¬(j-(q+1)<=j/\j<j) by omega)]
        have key:∀t,t<j->K (arrOf st') (j-1)<=K (arrOf st') t:=fun t ht=>by
         by_cases e:t=j-1
         . rw[e];exact Int.le_refl _
         . have z:=b2.2 t (j-1) (by omega) (by omega);by_cases g:j<=t+(q+1)
           . have:=(z.1 g).1;omega
           . have:=(z.2 (by omega)).2;unfold mJ at this;omega
        split
        . have:=key (j-(q+1)+j-1-i) (by omega);omega
        . have:=key i hij;omega
      . show mJ (mirror (arrOf st') _ _ _) j i;by_cases hjx:j<x
        . exact al i j hij hjx
        . have hjx:j=x:=by omega
          subst hjx;refine .inl ?_;rw[(km i).1,(km j).1,if_neg (show¬(j-(q+1)<=j/\j<j) by omega)]
          have key:∀t,t<j->K (arrOf st') (j-1)<=K (arrOf st') t:=fun t ht=>by
           by_cases e:t=j-1
           . rw[e];exact Int.le_refl _
           . have z:=b2.2 t (j-1) (by omega) (by omega);by_cases g:j<=t+(q+1)
             . have:=(z.1 g).1;omega
             . have:=(z.2 (by omega)).2;unfold mJ at this;omega
          split
          . have:=key (j-(q+1)+j-1-i) (by omega);omega
          . have:=key i hij;omega
    . rw[if_neg hq0];have hq0:q=0:=by omega
      subst hq0;have z0:=b2.zero
      have lx:∀i,i<x->K (arrOf st') x<K (arrOf st') i:=fun i hi=>by
       by_cases e:i=x-1
       . rw[e];exact hl
       . have:=z0 i (x-1) (by omega) (by omega);unfold mJ at this;omega
      refine wpS_pure ⟨0,rfl,b1,⟨by omega,fun i j hij hj=>⟨fun hh=>by omega,fun hh=>⟨fun hj2=>?_,?_⟩⟩⟩,b3.up (Nat.le_succ x)⟩
      . have hjx:j=x:=by omega
        subst hjx;exact lx i hij
      . by_cases hjx:j<x
        . exact z0 i j hij hjx
        . have hjx:j=x:=by omega
          subst hjx;exact .inl (lx i hij)
  . simp only[hl,decide_false,Bool.false_eq_true,if_false];refine wpS_bind (wpS_ltK b1 h0 (by omega) hx2 ?_);by_cases hg:K (arrOf st') (x-1)<K (arrOf st') x
    . simp only[hg,decide_true,if_true];exact wpS_pure (h x q st' b1 hx1 (by omega) b2 b3)
    . simp only[hg,decide_false,Bool.false_eq_true,if_false];have he:K (arrOf st') x=K (arrOf st') (x-1):=by omega
      refine wpS_pure ⟨q+1,rfl,b1,⟨by omega,fun i j hij hj=>⟨fun hh=>?_,fun hh=>⟨fun hj2=>?_,?_⟩⟩⟩,b3.up (Nat.le_succ x)⟩
      . by_cases hjx:j<x
        . exact(b2.2 i j hij hjx).1 (by omega)
        . have hjx:j=x:=by omega
          subst hjx;refine⟨?_,b3 i j hij (Nat.le_refl _) hx2⟩;rw[he];by_cases e:i=j-1
          . rw[e]
          . exact((b2.2 i (j-1) (by omega) (by omega)).1 (by omega)).1
      . by_cases hjx:j<x
        . exact((b2.2 i j hij hjx).2 (by omega)).1 (by omega)
        . have hjx:j=x:=by omega
          subst hjx;rw[he];exact((b2.2 i (j-1) (by omega) (by omega)).2 (by omega)).1 (by omega)
      . by_cases hjx:j<x
        . exact((b2.2 i j hij hjx).2 (by omega)).2
        . have hjx:j=x:=by omega
          subst hjx;refine .inl ?_;rw[he];exact((b2.2 i (j-1) (by omega) (by omega)).2 (by omega)).1 (by omega)
theorem wK{st:SortSt}{n:Nat}{Q:Option Nat->SortSt->Prop}(h0:IntKeys a₀)(h1:1<=n)(hn:n<=a₀.size)(hB:SBase a₀ st)(hs:∀i j,i<j->j<n->mJ (arrOf st) j i)(ht:jv a₀.size (arrOf st) n)
 (h:∀m st',SBase a₀ st'->1<=m->m<=a₀.size->kb (arrOf st') m->jv a₀.size (arrOf st') m->Q (some m) st'):wpS (model prog w) A E s (tail3 n a₀.size) Q st:=by
 unfold tail3;have hsz:n<=(arrOf st).size:=by rw[hB.size];exact hn
 refine wpS_bind (wpS_reverse ?_);have km:=mP (xs:=arrOf st) (i:=0) (j:=n) hsz
 have s1:kb (mirror (arrOf st) 0 n ((n-0)/2)) n:=fun i j hij hj=>by
  unfold mJ;rw[(km i).1,(km i).2,(km j).1,(km j).2,if_pos (by omega),if_pos (by omega)];exact hs _ _ (by omega) (by omega)
 have t1:=nG (i:=0) ht hsz (Nat.le_refl _);have hB':SBase a₀ (setArr st (mirror (arrOf st) 0 n ((n-0)/2))):=hB.setArr (mirror_perm _ _ _ _);refine wpS_bind (wpS_ascLoop h0 (Nat.le_refl _) h1 hn hB' s1.to fun m m1 m2 sm _=>wpS_pure (h m _ hB' (by omega) m2 (s1.more t1 sm m2) (t1.up m1)))
theorem wu{st:SortSt}{n:Nat}{Q:Option Nat->SortSt->Prop}(h0:IntKeys a₀)(hn:n+1<=a₀.size)(hB:SBase a₀ st)(hs:wt (arrOf st) (n+1) 0)(ht:jv a₀.size (arrOf st) (n+1))
 (h:∀m st',SBase a₀ st'->1<=m->m<=a₀.size->kb (arrOf st') m->jv a₀.size (arrOf st') m->Q (some m) st'):wpS (model prog w) A E s (descPart n a₀.size) Q st:=by
 unfold descPart;refine wpS_bind (wpS_lift (wpAny_rule ⟨rfl,?_⟩));refine wpS_bind (B9 h0 hn hB hs ht fun m q st' b1 b2 b3 b4 b5=>?_);dsimp only;have hsz:m<=(arrOf st').size:=by rw[b1.size];exact b3
 by_cases hq:q>0
 . rw[if_pos hq];exact wpS_bind (wpS_reverse (wK h0 (by omega) b3 (b1.setArr (mirror_perm _ _ _ _)) (b4.all hsz).2 (nG b5 hsz (Nat.le_refl _)) h))
 . rw[if_neg hq];have:q=0:=by omega
   subst this;exact wK h0 (by omega) b3 b1 b4.zero b5 h
theorem Cz{st:SortSt}{Q:Option Nat->SortSt->Prop}(h0:IntKeys a₀)(h1:1<=a₀.size)(hB:SBase a₀ st)(ht:jv a₀.size (arrOf st) 1)
 (h:∀m st',SBase a₀ st'->1<=m->m<=a₀.size->kb (arrOf st') m->jv a₀.size (arrOf st') m->Q (some m) st'):wpS (model prog w) A E s (countRun' 0 a₀.size) Q st:=by
 rw[countRun0_eq];have s1:kb (arrOf st) 1:=fun i j hij hj=>by omega
 refine wpS_bind (wpS_ascLoop h0 (Nat.le_refl _) (Nat.le_refl 1) h1 hB s1.to fun n n1 n2 sn hor=>?_);dsimp only;have s2:=s1.more ht sn n2;by_cases hn:n=a₀.size
 . rw[if_pos (by simpa using hn)];exact wpS_pure (h n st hB n1 n2 s2 (ht.up n1))
 . rw[if_neg (by simpa using hn)];have hl:=hor.resolve_left hn;by_cases hg:n>1
   . rw[if_pos hg];refine wpS_bind (wpS_ltK hB h0 (by omega) (by omega) ?_);by_cases hr:K (arrOf st) 0<K (arrOf st) (n-1)
     . simp only[hr,decide_true,if_true];exact wpS_pure (h n st hB n1 n2 s2 (ht.up n1))
     . simp only[hr,decide_false,Bool.false_eq_true,if_false];have hsz:n<=(arrOf st).size:=by rw[hB.size];exact n2
       have eqs:∀k,k<n->K (arrOf st) k=K (arrOf st) (n-1):=fun k hk=>by
        have x:=sn 0 k (by omega) hk;have y:=sn k (n-1) (by omega) (by omega);omega
       have km:=mP (xs:=arrOf st) (i:=0) (j:=n) hsz;refine wpS_bind (wpS_reverse (wu h0 (by omega) (hB.setArr (mirror_perm _ _ _ _)) ⟨by omega,fun i j hij hj=>⟨fun hh=>by omega,fun hh=>⟨fun hj2=>?_,?_⟩⟩⟩ (nG (ht.up (by omega)) hsz (by omega)) h))
       . have hjn:j=n:=by omega
         subst hjn;show K (mirror (arrOf st) _ _ _) j<K (mirror (arrOf st) _ _ _) i;rw[(km i).1,(km j).1,if_neg (show¬(0<=j/\j<j) by omega),if_pos (by omega),eqs (0+j-1-i) (by omega)];exact hl
       . show mJ (mirror (arrOf st) _ _ _) j i;unfold mJ;rw[(km i).1,(km i).2,(km j).1,(km j).2,if_pos (show 0<=i/\i<n by omega)];by_cases hjn:j<n
         . rw[if_pos (by omega)];refine .inr ⟨(eqs _ (by omega)).trans (eqs _ (by omega)).symm,ht _ _ (by omega) (by omega) (by omega)⟩
         . have hjn:j=n:=by omega
           subst hjn;rw[if_neg (by omega),eqs (0+j-1-i) (by omega)];exact .inl hl
   . rw[if_neg hg];have hn1:n=1:=by omega
     subst hn1;refine wu h0 (by omega) hB ⟨by omega,fun i j hij hj=>⟨fun hh=>by omega,fun hh=>?_⟩⟩ (ht.up (by omega)) h;have hi0:i=0:=by omega
     have hj1:j=1:=by omega
     subst hi0;subst hj1;exact⟨fun _=>hl,.inl hl⟩
theorem CF{st:SortSt}{Q:Unit->SortSt->Prop}(h0:IntKeys a₀)(hB:SBase a₀ st)(ht:jv a₀.size (arrOf st) 1)(h2:2<=a₀.size)(h64:a₀.size<64)
 (h:∀st',(arrOf st').Perm a₀->failedOf st'=none->kb (arrOf st') a₀.size->Q () st'):wpS (model prog w) A E s sortRuns' Q st:=by
 rw[sortRuns'_eq];refine wpS_bind (wpS_get ?_);dsimp only
 have hmr:minRun' a₀.size a₀.size 0=a₀.size:=by
  cases e:a₀.size with
  |zero=>rw[e]at h2;omega
  |succ f=>rw[minRun'_succ,if_pos (by omega)]
 simp only[hB.size,hmr]
 have dn:∀ {q:SortSt},SBase a₀ q->kb (arrOf q) a₀.size->∃p,p=setPending q ((pendingOf q).push (0,a₀.size,0))/\(arrOf p).Perm a₀/\failedOf p=none/\pendingOf p= #[(0,a₀.size,0)]/\kb (arrOf p) a₀.size:=fun{q} b s=>
  ⟨_,rfl,b.perm,b.failed,by show(pendingOf q).push _=_;rw[b.pend];rfl,s⟩
 refine wpS_bind (wpS_mono (wpS_forRange
  (I:=fun x c q=>(x=0/\c=(none,0)/\q=st)\/(1<=x/\c=(none,a₀.size)/\(arrOf q).Perm a₀/\failedOf q=none/\pendingOf q= #[(0,a₀.size,0)]/\kb (arrOf q) a₀.size))
  (Q:=fun c q=>c=(none,a₀.size)/\(arrOf q).Perm a₀/\failedOf q=none/\pendingOf q= #[(0,a₀.size,0)]/\kb (arrOf q) a₀.size) ?st ?en (.inl ⟨rfl,rfl,rfl⟩)) ?po)
 case en=>
  rintro c q (⟨hx,_,_⟩|⟨_,hc,hD⟩)
  . omega
  . exact⟨hc,hD⟩
 case st=>
  rintro x c q _ hx (⟨rfl,rfl,rfl⟩|⟨_,rfl,hD⟩)
  . dsimp only;rw[if_neg (by omega)];simp only[Nat.sub_zero,Nat.min_self,Nat.zero_add];refine wpS_bind (Cz h0 (by omega) hB ht fun m q2 b1 b2 b3 b4 b5=>?_);dsimp only;by_cases hm:m<a₀.size
    . rw[if_pos hm];refine wpS_bind (wpS_lift (wpAny_rule ⟨rfl,?_⟩));refine wpS_bind (CW h0 b2 b3 b1 b4 b5 fun q3 d1 d2=>?_);simp only[Bool.not_true,Bool.false_eq_true,if_false];refine wpS_bind (wpS_get ?_);have hb:(pendingOf q3).back?=none:=by rw[d1.pend];rfl
      rw[hb];dsimp only;obtain⟨p,rfl,z⟩:=dn d1 d2;exact wpS_bind (wpS_modify (wpS_pure (.inr ⟨by omega,rfl,z⟩)))
    . rw[if_neg hm];have hm:m=a₀.size:=by omega
      subst hm;refine wpS_bind (wpS_get ?_);have hb:(pendingOf q2).back?=none:=by rw[b1.pend];rfl
      rw[hb];dsimp only;obtain⟨p,rfl,z⟩:=dn b1 b4;exact wpS_bind (wpS_modify (wpS_pure (.inr ⟨by omega,rfl,z⟩)))
  . dsimp only;rw[if_pos (Nat.le_refl _)];exact wpS_pure ⟨rfl,hD⟩
 case po=>
  rintro c q ⟨rfl,d1,d2,d3,d4⟩;dsimp only;refine wpS_bind (wpS_mono (wpS_forRange (I:=fun _ c q'=>q'=q/\c=(none,())) (Q:=fun c q'=>q'=q/\c=(none,())) ?_ (fun _ _ z=>z) ⟨rfl,rfl⟩) ?_)
  . rintro x c q' _ _ ⟨rfl,rfl⟩;refine wpS_bind (wpS_get ?_);rw[if_pos (by rw[d3];exact Nat.le_refl 1)];exact wpS_pure ⟨rfl,rfl⟩
  . rintro c q' ⟨rfl,rfl⟩;exact wpS_pure (h _ d1 d2 d4)
end
end L3
namespace L2
open PySem PySem.Spec PyProof.Rows
structure Entry(K:PySem.W.Frag)(ts:List (Addr×Addr))(a:Addr)(ns:List Int)(H:Hp):Prop where
 lst:mM K H a (ns.map V.int)
 tab:∀q∈ts,H q.2=some (.kJ #[])/\q.2≠a
theorem wG:∀ {vs:List Value} {ns:List Int},IntsAre vs ns->Vals (ns.map V.int) vs
 |_,_,.nil=> .nil
 |_,_,.cons n t h=> .cons ⟨t,rfl⟩ (wG h)
structure JZ(K:PySem.W.Frag)(ts:List (Addr×Addr))(h:Heap):Prop where
 hd:∀q∈ts,PySem.W.codeHdIn K q.1 q.2=true
 no:∀q∈ts,K.lookup q.2=none
 at':∀q∈ts,h.get? q.2=some (PySem.W.tabObj #[])
theorem CB{P:Program}{w:World}{K:PySem.W.Frag}{mg mb:Str->Option Value}{k:Nat}{fa a:Addr}{fd:FuncData}{x:Str}{sp:Sp}{s₁:Shared}{vs:List Value}{ns:List Int}{ts:List (Addr×Addr)}
 (KX:K.In s₁.heap) (hns:s₁.heap.Ns mainGlobals mg) (hb:s₁.heap.Ns builtinsNs mb) (hbb:∀x:Str,x≠"__name__"->mb x=bootBuiltins x) (hlim:s₁.heap.NoLimit) (hse:s₁.heap.NoSeer) (hgt:P.given.tree=none)
 (hbm:∃bm ob,mg "__builtins__"=some (.ref bm)/\bm≠builtinsNs/\s₁.heap.get? bm=some ob/\ob.cls= .type "module"/\ob.dict=some builtinsNs/\ob.data= .plain) (hT:JZ K ts s₁.heap) (hg:s₁.gens= #[])
 (ha:s₁.heap.get? a=some {cls:= .type "list",data:= .seq vs.toArray}) (hi:IntsAre vs ns) (hl:ns.length<=sizeLine) (hr:cP k callerA)
 (F:∀base:Heap,K.In base->base.Ns mainGlobals mg->bF P w K mg base (fun _ _ _ _ _ _=>False) k fa fd [x] sp) (hbind:∀(s:Shared) (u:Value),BindsTo s fd ⟨[u],[]⟩ [(x,u)])
 (hsp:∀H:Hp,Entry K ts a ns H->sp [.ref a] H (fun v _=>v= .bl true) fun _ _ _=>False):
 codeAny (model P w) callerA (.call (.ref fa) ⟨[.ref a],[]⟩) (fun r s'=>r= .ok (.ret (.bool true))/\OldK s₁.heap s'.heap/\s'.os=s₁.os/\AllBare s'.gens) s₁:=by
 have rv:=wG hi;have lenV:=hi.length
 have nta:∀q∈ts,q.2≠a:=fun q hq z=>by
  have:=hT.at' q hq;rw[z,ha]at this;cases this
 let sc:Option HO:=match K.lookup a with
  |some _=>none
  |none=>some (.g9 {cls:= .type "list",data:= .seq vs.toArray} (.lst (ns.map V.int)))
 let H:Hp:=fun b=>if b=a then sc else if b∈ts.map (·.2)then some (.kJ #[])else none
 have Ha:H a=sc:=if_pos rfl
 have Ht:∀q∈ts,H q.2=some (.kJ #[]):=fun q hq=>by
  show(if q.2=a then sc else if q.2∈ts.map (·.2)then some (HO.kJ #[])else none)=_;rw[if_neg (nta q hq),if_pos (List.mem_map_of_mem hq)]
 have Hs:∀b u,H b=some u->(b=a/\K.lookup a=none/\u= .g9 {cls:= .type "list",data:= .seq vs.toArray} (.lst (ns.map V.int)))\/(∃q∈ts,q.2=b/\u= .kJ #[]):=fun b u e=>by
  have e':(if b=a then sc else if b∈ts.map (·.2)then some (HO.kJ #[])else none)=some u:=e;by_cases hba:b=a
  . rw[if_pos hba]at e'
    have e2:(match K.lookup a with
     |some _=>none
     |none=>some (HO.g9 {cls:= .type "list",data:= .seq vs.toArray} (.lst (ns.map V.int))))=some u:=e'
    cases q:K.lookup a with
    |some o=>rw[q]at e2;cases e2
    |none=>rw[q]at e2;cases e2;exact .inl ⟨hba,rfl,rfl⟩
  . rw[if_neg hba]at e';by_cases hbt:b∈ts.map (·.2)
    . rw[if_pos hbt]at e';cases e';obtain⟨q,hq,e⟩:=List.mem_map.mp hbt;exact .inr ⟨q,hq,e,rfl⟩
    . rw[if_neg hbt]at e';cases e'
 have aK:iW P w H s₁.heap:=fun b u e=>by
  rcases Hs b u e with⟨rfl,_,rfl⟩|⟨q,hq,rfl,rfl⟩
  . exact⟨ha,by rw[List.length_map];exact hl,vs,_,rv,ha⟩
  . exact hT.at' q hq
 have hE:Entry K ts a ns H:=by
  refine⟨?_,fun q hq=>⟨Ht q hq,nta q hq⟩⟩;cases q:K.lookup a with
  |some o=>
   have e:=KX a o q;rw[ha]at e;cases e;exact .inr ⟨_,vs.toArray,_,q,rfl,rfl,rfl,by rw[List.size_toArray,lenV];exact hl,by simpa using rv⟩
  |none=>
   refine .inl (.inr ⟨{cls:= .type "list",data:= .seq vs.toArray},?_⟩);rw[Ha]
   show(match K.lookup a with
    |some _=>none
    |none=>some (HO.g9 {cls:= .type "list",data:= .seq vs.toArray} (.lst (ns.map V.int))))=_
   rw[q]
 have dictNo:∀ {b:Addr} {o:Obj},s₁.heap.get? b=some o->(∀es ep,o.data≠ .seq es ep)->o.cls≠ .none->H b=none:=fun{b o} e d1 d2=>by
  cases q:H b with
  |none=>rfl
  |some u=>
   rcases Hs b u q with⟨rfl,_,_⟩|⟨t,ht,rfl,_⟩
   . rw[ha]at e;cases e;exact absurd rfl (d1 _ _)
   . rw[hT.at' t ht]at e;cases e;exact absurd rfl d2
 have nsK:∀ {b:Addr} {m:Str->Option Value},s₁.heap.Ns b m->(o7 s₁.heap H).Ns b m:=fun{b m} ⟨o,es,ep,e,d,r⟩=>by
  refine⟨o,es,ep,qr e ?_,d,r⟩;cases q:H b with
  |none=>rfl
  |some u=>
   rcases Hs b u q with⟨rfl,_,_⟩|⟨t,ht,rfl,_⟩
   . rw[ha]at e;cases e;cases d
   . rw[hT.at' t ht]at e;cases e;cases d
 have hKb:K.In (o7 s₁.heap H):=fun b o e=>qr (KX b o e) (by
  cases q:H b with
  |none=>rfl
  |some u=>
   rcases Hs b u q with⟨rfl,z,_⟩|⟨t,ht,rfl,_⟩
   . rw[z]at e;cases e
   . rw[hT.no t ht]at e;cases e)
 obtain⟨bm,ob,b1,b2,b3,b4,b5,b6⟩:=hbm;have hbmK:(o7 s₁.heap H).get? bm=some ob:=qr b3 (dictNo b3 (fun es ep z=>by rw[b6]at z;cases z) (fun z=>by rw[b4]at z;cases z))
 have seK:(o7 s₁.heap H).NoSeer:=by
  obtain⟨⟨m1,a1,a2⟩,⟨m2,c1,c2⟩,⟨m3,d1,d2⟩,⟨mg',bm',ob',e1,e2,e3,e4,e5⟩⟩:=hse;refine⟨⟨m1,nsK a1,a2⟩,⟨m2,nsK c1,c2⟩,⟨m3,nsK d1,d2⟩,⟨mg',bm',ob',nsK e1,e2,qr e3 ?_,e4,e5⟩⟩;cases q:H bm' with
  |none=>rfl
  |some u=>
   rcases Hs bm' u q with⟨rfl,_,_⟩|⟨t,ht,rfl,_⟩
   . rw[ha]at e3;cases e3;exact absurd (show Value.type "list"=Value.type "module" from e4) (by intro z;injection z with z;exact absurd z (by decide))
   . rw[hT.at' t ht]at e3;cases e3;cases e4
 have hM:Mod K mg (o7 s₁.heap H):=⟨hKb,nsK hns,⟨mb,nsK hb,hbb⟩,let⟨mc,h1,h2⟩:=hlim;⟨mc,nsK h1,h2⟩,seK,⟨bm,ob,b1,b2,hbmK,b4,b5,b6⟩⟩
 have e0:ud P w K mg (o7 s₁.heap H) callerA [] s₁ H:=⟨rfl,hM,fun b o e=>Hm e,Nat.le_of_eq (Cp _ _),trivial,fun b hb=>absurd (show b∈([]:List Addr)from hb) (by simp),aK,.of_eq hg,hgt⟩
 refine codeAny_mono ((F _ hKb (nsK hns)).run callerA [] s₁ H ⟨[.ref a],[]⟩ [.ref a] [.ref a] _ _ hr e0 (hbind s₁ (.ref a)) (.cons rfl .nil) (hsp H hE)) fun r s' h=>?_;cases r with
 |error e=>exact False.elim h
 |ok fl=>
  cases fl with
  |next=>exact False.elim h
  |brk=>exact False.elim h
  |cont=>exact False.elim h
  |ret u=>
   obtain⟨v,H',os,bare,un,hok',r',q⟩:=h;have q':v= .bl true:=q;subst q';obtain rfl:u=Value.bool true:=r';have noF:∀b:Addr,b∉pN ([]:List Env):=fun b z=>absurd (show b∈([]:List Addr)from z) (by simp);refine⟨rfl,⟨fun b o e=>?_,fun b o e=>un.there b o e (by simp)⟩,os,bare⟩;cases q:H b with
   |none=>exact .inl (un.keep b o e q (noF b) (by simp))
   |some u=>
    rcases Hs b u q with⟨rfl,_,rfl⟩|⟨t,ht,rfl,rfl⟩
    . obtain⟨e2,_⟩:=hok' b _ (un.nW b _ _ q);rw[ha]at e;cases e;exact .inl e2
    . obtain⟨more,e1⟩:=un.oq _ _ q;have e2:s'.heap.get? t.2=some {cls:= .none,data:= .fields (#[]++more)}:=hok' _ _ e1;have e3:=hT.at' t ht;rw[e3]at e;cases e;have C:PySem.W.CodeHd s₁.heap t.1 t.2:=PySem.W.codeHd_of_K KX (hT.hd t ht);exact .inr (.inl ⟨(C.tab e3).isCodeTable,rfl,#[],more,rfl,e2⟩)
theorem Md{l:PySem.W.OpenLaw}{n k:Nat}{q:Program}{loose:List Str}{XP:(Str->Option Value)->Heap->Prop}{YP:World->Heap->Prop}{d:DefRec}{K:Params->PySem.W.Frag}{sp:World->Sp}{x:Str}{ts:List (Addr×Addr)}
 (hn:l.most=some n) (hn2:n<=sizeLine) (hdf:d.params.defaults=[]) (hr:cP k callerA) (hq:importsNone q=true) (hgt:l.prog.given.tree=none)
 (hY:∀(w:World) (h:Heap),YP w h->(K w.params).In h/\JZ (K w.params) ts h)
 (F:∀(w:World) (mg:Str->Option Value) (fa:Addr) (h:Heap),(K w.params).In h->h.Ns mainGlobals mg->mg d.name=some (.ref fa)->
   ∃fd:FuncData,(∀(s:Shared) (u:Value),BindsTo s fd ⟨[u],[]⟩ [(x,u)])/\
    ∀base:Heap,(K w.params).In base->base.Ns mainGlobals mg->bF l.prog w (K w.params) mg base (fun _ _ _ _ _ _=>False) k fa fd [x] (sp w))
 (hsp:∀(w:World) (H:Hp) (a:Addr) (ns:List Int),ns.length<=n->Entry (K w.params) ts a ns H->sp w [.ref a] H (fun v _=>v= .bl true) fun _ _ _=>False):
 PySem.W.WalkO q loose XP YP l.row.toRowW d [] (fun f vs=>PySem.call f vs):=by
 refine Att.zI hn hdf fun w s₀ s₁ mg mb fa o pm cd doc a vs ns G Y ho hd hcd hmg hobj hints hlen hg=>?_;obtain⟨KX,hT⟩:=hY w _ Y;obtain⟨fd,hb,hF⟩:=F w mg fa _ KX G.T.g hmg;exact CB KX G.T.g G.T.b G.T.builtins G.T.nolimit (G.T.seer hq) hgt G.T.bmain hT hg hobj hints (Nat.le_trans hlen hn2) hr hF hb fun H hE=>hsp w H a ns hlen hE
end L2
namespace L3
open PySem PySem.Spec L2
open PyProof.Rows hiding St
section
variable {X:Cx}{pins:List (Addr×Obj)}{σ:L2.St}{H:Hp}{s:Shared}{p:Addr}{o o':Obj}{h':Heap}
theorem mf{t':Nat}(I:Inv X pins σ H s)(hd:∀v,o.data≠ .cell v)(hfr:o.isFreed=false:=by rfl):Inv X (pins++[(s.heap.objs.size,o)]) σ H {s with heap:=s.heap.push o,toks:=t'}:=by
 have I':=I.kept (h':=s.heap.push o) (t':=t') (fun b u e=>Heap.get?_push_of_some _ e);refine I'.sD fun q hq=>?_;rcases List.mem_append.mp hq with hq|hq
 . exact I'.pin q (List.mem_append_right _ hq)
 . have e:q=(s.heap.objs.size,o):=by simpa using hq
   subst e;exact⟨Heap.get?_push_size _ hfr,I.aK.fresh (Nat.le_refl _),Nat.ne_of_gt I.lt,I.IX (Nat.le_refl _),hd⟩
theorem f_(I:Inv X (pins++[(p,o)]) σ H s):s.heap.get? p=some o/\H p=none/\p≠X.env.locals/\p∉X.fs/\∀v,o.data≠ .cell v:=
 I.pin (p,o) (List.mem_append_right _ (List.mem_append_right _ (List.mem_singleton.mpr rfl)))
theorem zd(I:Inv X (pins++[(p,o)]) σ H s):∀x c,X.env.cells.lookup x=some c->c≠p:=fun x c e z=>by
 obtain⟨v,u,hu,hd⟩:=I.cell x c e;obtain⟨h1,_,_,_,h5⟩:=f_ I;rw[z,h1]at hu;cases hu;exact h5 v hd
theorem oo{t':Nat}(I:Inv X (pins++[(p,o)]) σ H s)(hs:Heap.SameBut p s.heap h')(hn:h'.get? p=some o')(hd:∀v,o'.data≠ .cell v)(h0:X.s₀.heap.objs.size<=p)(hp:∀q∈X.pn++pins,q.1≠p):
 Inv X (pins++[(p,o')]) σ H {s with heap:=h',toks:=t'}:=by
 obtain⟨_,n,neL,nfs,_⟩:=f_ I;have I0:Inv X pins σ H s:=I.iP;have I1:=I0.turned (t':=t') (h':=h') (it:=p) (fun b u hb e=>(hs.2 b hb).trans e) n neL (.inr h0) (zd I) hp;refine I1.sD fun q hq=>?_;rcases List.mem_append.mp hq with hq|hq
 . exact I1.pin q (List.mem_append_right _ hq)
 . have e:q=(p,o'):=by simpa using hq
   subst e;exact⟨hn,n,neL,nfs,hd⟩
theorem DX{u:HO}(I:Inv X (pins++[(p,o)]) σ H s)(h0:X.s₀.heap.objs.size<=p)(hp:∀q∈X.pn++pins,q.1≠p)(new:dP X.prog X.w (upd H p u) s.heap p u):Inv X pins σ (upd H p u) s:=by
 obtain⟨e0,n,neL,nfs,_⟩:=f_ I;have ne:∀ {b:Addr} {w:HO},H b=some w->b≠p:=fun e=>dH e n;have ne0:∀ {b:Addr} {w:Obj},X.s₀.heap.get? b=some w->b≠p:=fun e=>Nat.ne_of_lt (Nat.lt_of_lt_of_le (Heap.lt_size e) h0);refine⟨I.ok,I.os,I.bare,⟨I.base.keep,I.base.slot,fun b w e q hx=>?_,I.base.there,fun b xs e=>?_,fun b w y e=>?_,fun b ps e=>?_⟩,I.loc,I.cell,?_,fun x c e=>?_,fun q hq=>?_,fun b w e=>?_,I.len⟩
 . rw[ax (ne0 e)];exact I.base.free b w e q hx
 . have:=I.base.o5 b xs e;rw[ax (ne this)];exact this
 . have:=I.base.nW b w y e;rw[ax (ne this)];exact this
 . obtain⟨m,q⟩:=I.base.oq b ps e;exact⟨m,by rw[ax (ne q)];exact q⟩
 . rw[ax (Ne.symm neL)];exact I.free
 . rw[ax (zd I x c e)];exact I.je x c e
 . have hq':q∈X.pn++(pins++[(p,o)]):=by
    rcases List.mem_append.mp hq with z|z
    . exact List.mem_append_left _ z
    . exact List.mem_append_right _ (List.mem_append_left _ z)
   obtain⟨a1,a2,a3⟩:=I.pin q hq';exact⟨a1,by rw[ax (hp q hq)];exact a2,a3⟩
 . by_cases hb:b=p
   . subst hb;rw[aU]at e;cases e;exact new
   . rw[ax hb]at e;exact(I.aK b w e).pq (fun _ _ _ q=>q) (fun c q=>by rw[ax (ne q)];exact q) fun c xs q=>by rw[ax (ne q)];exact q
end
def nk(X:Cx)(pins:List (Addr×Obj))(σ:L2.St)(R:Hp->Prop)(own:List (Addr×Obj))(s:Shared):Prop:=∃H,Inv X (pins++own) σ H s/\R H
section
variable {X:Cx}{pins:List (Addr×Obj)}{σ:L2.St}{R:Hp->Prop}{s:Shared}{A:Around}{E:Value->Shared->Prop}{a kS:Addr}{e1 e:Nat}{keys:Array Value}{P:PySem.Fin->Shared->Prop}
structure Own(X:Cx)(pins:List (Addr×Obj))(p:Addr):Prop where
 ge:X.s₀.heap.objs.size<=p
 ne:∀q∈X.pn++pins,q.1≠p
theorem sE{H:Hp}(I:Inv X pins σ H s):Own X pins s.heap.objs.size:=⟨I.sz,fun q hq=>Nat.ne_of_lt (Heap.lt_size (I.pin q hq).1)⟩
theorem za{p:Addr}{q:Addr×Obj}(h:Own X pins p)(hq:q.1≠p):Own X (pins++[q]) p:=⟨h.ge,fun r hr=>by
 rcases List.mem_append.mp hr with z|z
 . exact h.ne r (List.mem_append_left _ z)
 . rcases List.mem_append.mp z with z|z
   . exact h.ne r (List.mem_append_right _ z)
   . have e:r=q:=by simpa using z
     rw[e];exact hq⟩
theorem y8{x y:Addr×Obj}(J:nk X pins σ R [x,y] s):∃H,Inv X ((pins++[x])++[y]) σ H s/\R H:=by
 obtain⟨H,I,r⟩:=J;exact⟨H,by rw[List.append_assoc];exact I,r⟩
theorem D6{x y:Addr×Obj}{H:Hp}(I:Inv X ((pins++[x])++[y]) σ H s)(r:R H):nk X pins σ R [x,y] s:=⟨H,by rw[List.append_assoc]at I;exact I,r⟩
theorem zy{st:SortSt}(J:nk X pins σ R [(a,seqObj "list" #[] e1),(kS,seqObj "list" keys e)] s)(ha:Own X pins a)(hk:Own X pins kS)(hka:kS≠a)(hz1:keys.size<=sizeLine)(hz2:(arrOf st).size<=sizeLine)(hf:failedOf st=none)
 (h:∀s' c,nk X pins σ R [(a,seqObj "list" ((arrOf st).map (·.2)) c)] s'->P (.done (.ret .none)) s'):
 wpAny (model X.prog X.w) A (PyProof.Rows.ksk_tail a false e1 (.ref kS) st) P E s:=by
 obtain⟨H,I,r⟩:=y8 J;have k1:=(f_ I).1;have s1:=Heap.SameBut.update s.heap kS (Obj.mapSeq fun _=>(#[]:Array Value));have I1:=oo (t':=s.toks) I s1 (get?_update_seq k1 fun _=> #[]) (fun v z=>by cases z) hk.ge (za hk hka.symm).ne;have I2:Inv X (pins++[(a,seqObj "list" #[] e1)]) σ H {s with heap:=s.heap.update kS (Obj.mapSeq fun _=>(#[]:Array Value)),toks:=s.toks}:=I1.iP;have a1:=(f_ I2).1;have s2:=Heap.SameBut.update (s.heap.update kS (Obj.mapSeq fun _=>(#[]:Array Value))) a (Obj.mapSeq fun _=>(arrOf st).map (·.2));have I3:=oo (t':=s.toks) I2 s2 (get?_update_seq a1 fun _=>(arrOf st).map (·.2)) (fun v z=>by cases z) ha.ge ha.ne;unfold ksk_tail;simp only[Bool.false_eq_true,if_false];refine wpAny_bind (listUpdate_at k1 rfl ?_ hz1 (Nat.zero_le _));refine wpAny_bind (wpAny_letGo ?_);refine wpAny_bind (seqEpoch_at a1 rfl ?_);refine wpAny_bind (listUpdate_at a1 rfl ?_ (Nat.zero_le _) (Nat.le_succ_of_le (by rw[Array.size_map];exact hz2)));rw[hf];simp only[bne_self_eq_false,Bool.false_eq_true,if_false];exact wpAny_pure (h _ _ ⟨H,I3,r⟩)
def BB(kz:List Int)(vs out:List Value):Prop:=
 ∃ps:List (Int×Value),ps.Perm (kz.zip vs)/\out=ps.map Prod.snd/\ps.Pairwise fun p q=>p.1<q.1\/(p.1=q.1/\numOf p.2<numOf q.2)
theorem Ab{kz:List Int}{vs:List Value}(hk:IntsAre keys.toList kz){xs:Array Keyed}(hp:xs.Perm (keys.zip vs.toArray))(hs:kb xs xs.size):BB kz vs (xs.map (·.2)).toList:=by
 have hl:xs.toList.Perm (keys.toList.zip vs):=by rw[<-ksk_zip];exact Array.perm_iff_toList_perm.mp hp
 refine⟨xs.toList.map fun p=>(numOf p.1,p.2),?_,?_,?_⟩
 . have e2:(keys.toList.zip vs).map (fun p:Keyed=>(numOf p.1,p.2))=kz.zip vs:=by
    rw[<-hk.nums,List.zip_map_left];exact List.map_congr_left fun⟨x,y⟩ _=>rfl
   rw[<-e2];exact hl.map _
 . rw[Array.toList_map,List.map_map];rfl
 . rw[List.pairwise_iff_getElem];intro i j hi hj hij;have hi':i<xs.size:=by simpa using hi
   have hj':j<xs.size:=by simpa using hj
   have q:=hs i j hij hj';unfold mJ Jn at q;rw[K_eq hi',K_eq hj',getElem?_pos xs i hi',getElem?_pos xs j hj']at q;simpa using q
theorem HH{kz:List Int}{vs:List Value}(J:nk X pins σ R [(a,seqObj "list" #[] e1),(kS,seqObj "list" keys e)] s)(ha:Own X pins a)(hk:Own X pins kS)(hka:kS≠a)(hi:IntsAre keys.toList kz)(hl:kz.length=vs.length)(h64:vs.length<64)
 (hup:vs.Pairwise fun x y=>numOf x<numOf y)
 (h:∀s' out c,nk X pins σ R [(a,seqObj "list" out c)] s'->BB kz vs out.toList->P (.done (.ret .none)) s'):
 wpAny (model X.prog X.w) A (ksk_end a false vs.toArray e1 (.ref kS) keys) P E s:=by
 have hsz:keys.size=vs.length:=by have:=hi.length;rw[Array.length_toList]at this;omega
 have hzs:(keys.zip vs.toArray).size=vs.length:=by rw[Array.size_zip,hsz,List.size_toArray,Nat.min_self]
 have hbig:vs.length<=sizeLine:=Nat.le_trans (Nat.le_of_lt h64) (by decide)
 have hta:jv (keys.zip vs.toArray).size (keys.zip vs.toArray) 1:=fun i j hij _ hj=>by
  rw[hzs]at hj
  have e1:(keys.zip vs.toArray)[i]?=some (keys.toList[i]'(by rw[Array.length_toList];omega),vs[i]'(by omega)):=by
   rw[<-Array.getElem?_toList,ksk_zip,List.getElem?_eq_getElem (by rw[List.length_zip,Array.length_toList];omega),List.getElem_zip]
  have e2:(keys.zip vs.toArray)[j]?=some (keys.toList[j]'(by rw[Array.length_toList];omega),vs[j]'(by omega)):=by
   rw[<-Array.getElem?_toList,ksk_zip,List.getElem?_eq_getElem (by rw[List.length_zip,Array.length_toList];omega),List.getElem_zip]
  unfold Jn;rw[e1,e2];exact List.pairwise_iff_getElem.mp hup i j (by omega) (by omega) hij
 unfold ksk_end;simp only[Bool.false_eq_true,if_false];by_cases h2:vs.toArray.size<2
 . rw[if_pos h2,if_pos h2];refine wpAny_bind (wpAny_pure ?_);rw[StateT.run_pure];refine wpAny_bind (wpAny_pure ?_);refine zy (st:=SortSt.mk' general' (keys.zip vs.toArray) #[] 7 none) J ha hk hka (by omega) (by show(keys.zip vs.toArray).size<=_;omega) rfl fun s' c J'=>h s' _ c J' ?_;refine Ab hi (Array.Perm.refl _) fun i j hij hj=>?_;have hj':j<(keys.zip vs.toArray).size:=hj;rw[List.size_toArray]at h2;omega
 . rw[if_neg h2,if_neg h2];rw[List.size_toArray]at h2;rw[ksk_kind hi (by omega)];refine wpAny_bind (wpAny_pure ?_)
   refine wpAny_bind (wpAny_mono (CF (a₀:=keys.zip vs.toArray) (st:=SortSt.mk' oneType' (keys.zip vs.toArray) #[] 7 none)
    (Q:=fun _ st'=>(arrOf st').Perm (keys.zip vs.toArray)/\failedOf st'=none/\kb (arrOf st') (keys.zip vs.toArray).size)
    (ksk_intKeys hi) ⟨Array.Perm.refl _,rfl,rfl,rfl⟩ hta (by omega) (by omega) fun st' b1 b2 b3=>⟨b1,b2,b3⟩) ?_ fun _ _ z=>z)
   rintro⟨⟨⟩,st'⟩ s' ⟨rfl,hp,hf,hs⟩;have hz2:=hp.size_eq;refine zy (st:=st') J ha hk hka (by omega) (by rw[hz2];omega) hf fun s' c J'=>h s' _ c J' (Ab hi hp (by rw[hz2];exact hs))
theorem E_{f:Value}{kz:List Int}{vs:List Value}(J:nk X pins σ R [(a,seqObj "list" #[] e1),(kS,seqObj "list" #[] 0)] s)(ha:Own X pins a)(hk:Own X pins kS)(hka:kS≠a)(hl:kz.length=vs.length)(h64:vs.length<64)
 (hup:vs.Pairwise fun x y=>numOf x<numOf y)
 (turn:∀(i:Nat) (v:Value) (k:Int),vs[i]?=some v->kz[i]?=some k->∀(own:List (Addr×Obj)) (s:Shared),nk X pins σ R own s->wpAny (model X.prog X.w) A (call f [v]) (fun u s'=>(∃t,u= .int k t)/\nk X pins σ R own s') (fun _ _=>False) s)
 (h:∀s' out c,nk X pins σ R [(a,seqObj "list" out c)] s'->BB kz vs out.toList->P (.done (.ret .none)) s'):
 wpAny (model X.prog X.w) A (ksk_rest a f false vs.toArray e1 (.ref kS)) P E s:=by
 have hbig:vs.length<=sizeLine:=Nat.le_trans (Nat.le_of_lt h64) (by decide);unfold ksk_rest;refine wpAny_bind (wpAny_rule ?_)
 first
  |rw[List.forIn_toArray]
  |(rw[<-Array.forIn_toList];simp only[List.toList_toArray])
  |rw[<-Array.forIn_toList]
 refine wpAny_bind (ksk_fold (fun i s'=>∃kA e,nk X pins σ R [(a,seqObj "list" #[] e1),(kS,seqObj "list" kA e)] s'/\IntsAre kA.toList (kz.take i)) vs 0 s ⟨#[],0,J,by simpa using IntsAre.nil⟩ ?st ?en)
 case st=>
  rintro j x s' hx ⟨kA,e,J',hk'⟩;simp only[Nat.zero_add]at hk'⊢;have hj:j<vs.length:=(List.getElem?_eq_some_iff.mp hx).1;have hkj:kz[j]?=some (kz[j]'(by omega)):=List.getElem?_eq_getElem _
  have hz:kA.size<=vs.length:=by
   have:=hk'.length;rw[Array.length_toList,List.length_take]at this;omega
  refine wpAny_bind (wpAny_attempt (wpAny_mono (turn j x _ hx hkj _ s' J') (fun v s2 he=>?_) fun _ _ z=>z.elim));obtain⟨⟨t,rfl⟩,J2⟩:=he;obtain⟨H,I,r⟩:=y8 J2;have k1:=(f_ I).1;have s1:=Heap.SameBut.update s2.heap kS (Obj.mapSeq (·.push (.int (kz[j]'(by omega)) t)));have I1:=oo (t':=s2.toks) I s1 (get?_update_seq k1 (·.push (.int (kz[j]'(by omega)) t))) (fun v z=>by cases z) hk.ge (za hk hka.symm).ne;refine wpAny_bind (listUpdate_at k1 rfl ?_ (by omega) (Nat.le_trans (Nat.le_of_eq (Array.size_push ..)) (by omega)));refine wpAny_pure ⟨rfl,_,_,D6 I1 r,?_⟩;have ek:kz.take (j+1)=kz.take j++[kz[j]'(by omega)]:=by rw[List.take_add_one,hkj];simp
  rw[ek,Array.toList_push];exact ksk_snoc hk'
 case en=>
  rintro s' ⟨kA,e,J',hk'⟩;rw[show kz.take (0+vs.length)=kz from List.take_of_length_le (by omega)]at hk';obtain⟨H,I,r⟩:=y8 J';refine wpAny_bind (listItems_at (f_ I).1 rfl ?_);exact HH J' ha hk hka hk' hl h64 hup h
theorem AO{f:Addr}{l:Addr}{kz:List Int}{vs:List Value}{H:Hp}{Q:Value->Shared->Prop}(I:Inv X pins σ H s)(r:R H)(hli:s.heap.IsList l vs.toArray)(hl:kz.length=vs.length)(h64:vs.length<64)
 (hup:vs.Pairwise fun x y=>numOf x<numOf y)
 (turn:∀(i:Nat) (v:Value) (k:Int),vs[i]?=some v->kz[i]?=some k->∀(own:List (Addr×Obj)) (s:Shared),nk X pins σ R own s->wpAny (model X.prog X.w) A.in1.in1 (call (.ref f) [v]) (fun u s'=>(∃t,u= .int k t)/\nk X pins σ R own s') (fun _ _=>False) s)
 (h:∀D s' out c,Own X pins D->nk X pins σ R [(D,seqObj "list" out c)] s'->BB kz vs out.toList->Q (.ref D) s'):
 wpAny (model X.prog X.w) A (call (.builtin "sorted") [.ref l] [(Str.ofString "key",.ref f)]) Q E s:=by
 have hbig:vs.length<=sizeLine:=Nat.le_trans (Nat.le_of_lt h64) (by decide);refine call_function_entry_kw kind_sorted plain_sorted entry_sorted (ksk_s1 _ _) ?_;unfold Builtin.«sorted»;refine wpAny_bind (m:=checkCount "sorted" 1 1 _) (wpAny_pure ?_);refine wpAny_bind (collect_list hli ?_ hbig);have I1:=mf (o:=seqObj "list" #[] 0) (t':=s.toks) I (fun v z=>by cases z);have s1:=Heap.SameBut.update (s.heap.push (seqObj "list" #[] 0)) s.heap.objs.size (Obj.mapSeq (· ++vs.toArray));have I2:=oo (t':=s.toks) I1 s1 (get?_update_seq (f_ I1).1 (· ++vs.toArray)) (fun v z=>by cases z) (sE I).ge (sE I).ne;have I3:Inv X pins σ H {s with heap:=(s.heap.push (seqObj "list" #[] 0)).update s.heap.objs.size (Obj.mapSeq (· ++vs.toArray)),toks:=s.toks}:=I2.iP;refine wpAny_bind (wpAny_newList ?_ hbig);generalize hs3:({s with heap:=(s.heap.push (seqObj "list" #[] 0)).update s.heap.objs.size (Obj.mapSeq (· ++vs.toArray))}:Shared)=s3;have I3':Inv X pins σ H s3:=by rw[<-hs3];exact I3
 have oD:=sE I3';have I4:=mf (o:=seqObj "list" vs.toArray 0) (t':=s3.toks) I3' (fun v z=>by cases z);have hD:=(f_ I4).1;refine wpAny_bind (wpAny_holding (wpAny_call_entry_kw slot_list_sort ⟨_,hD,rfl⟩ entry_list_sort ?body (ksk_l1 _ _)))
 case body=>
  show wpAny (model X.prog X.w) A.in1.in1 (Builtin.«list.sort» ⟨[.ref s3.heap.objs.size],[(Str.ofString "key",.ref f)]⟩) _ _ _;rw[ksk_t1];unfold ksk_tree;refine wpAny_bind (listItems_at hD rfl ?_);have s5:=Heap.SameBut.update (s3.heap.push (seqObj "list" vs.toArray 0)) s3.heap.objs.size (Obj.mapSeq fun _=>(#[]:Array Value));have I5:=oo (t':=s3.toks) I4 s5 (get?_update_seq hD fun _=> #[]) (fun v z=>by cases z) oD.ge oD.ne;have hD5:=(f_ I5).1;refine wpAny_bind (listUpdate_at hD rfl ?_ (by rw[List.size_toArray];exact hbig) (Nat.zero_le _));refine wpAny_bind (seqEpoch_at hD5 rfl ?_);refine wpAny_bind (wpAny_newTuple ?_ (by show vs.length<=_;exact hbig));have I6:=(mf (o:=seqObj "tuple" vs.toArray 0) (t':=s3.toks) I5 (fun v z=>by cases z)).iP;refine wpAny_bind (wpAny_newList ?_ (Nat.zero_le _));have ok:=sE I6;have I7:=mf (o:=seqObj "list" #[] 0) (t':=s3.toks) I6 (fun v z=>by cases z);refine wpAny_holding ?_
  have okp:Own X pins _:=⟨ok.ge,fun q hq=>ok.ne q (by
   rcases List.mem_append.mp hq with z|z
   . exact List.mem_append_left _ z
   . exact List.mem_append_right _ (List.mem_append_left _ z))⟩
  refine E_ (D6 I7 r) oD okp (fun z=>ok.ne (s3.heap.objs.size,_) (List.mem_append_right _ (List.mem_append_right _ (List.mem_singleton.mpr rfl))) z.symm) hl h64 hup turn fun s' out c J' so=>⟨_,rfl,?_⟩
  exact wpAny_pure ⟨_,rfl,h _ s' out c oD J' so⟩
end
structure nI(X:Cx)(scope:Scope)(Nc:List Str)(fr:List (Option Nat))(p:Str):Prop where
 sc:bh X scope Nc fr
 B8:∀x∈scope.names,x.2≠ .cell
 co:scope.isCoroutine=false
 gen:scope.isGenerator=false
 p0:Nc[0]?=some p
 f0:fr[0]?=some none
 loc:scope.names.lookup p=some .local
abbrev Bp(X:Cx)(scope:Scope)(qual:Str)(f c:Addr)(s:Shared):Env:=PySem.W.envX qual scope s.heap.objs.size f (.ref c) (dz X.env.cells scope.names [])
def DF(X:Cx)(scope:Scope)(Nc:List Str)(qual:Str)(f c:Addr)(s:Shared)(H:Hp):Cx:=
 {X with A:=X.A.in1.in1.deeper (Bp X scope qual f c s),N:=Nc,s₀:=s,H₀:=H,env:=Bp X scope qual f c s,outer:=X.stack,stack:=Bp X scope qual f c s::X.stack,ex:=[],fn:=fun _=>false,calm:=true,pn:=[],xe:=fun _ _=>False}
section
variable {X:Cx}{scope:Scope}{Nc:List Str}{fr:List (Option Nat)}{p qual:Str}{f c:Addr}{pins:List (Addr×Obj)}{σ:L2.St}{H:Hp}{s:Shared}
theorem Ju(S:nI X scope Nc fr p)(I:Inv X pins σ H s)(hc:X.calm=true):(DF X scope Nc qual f c s H).Ok where
 mod:=I.ok.mod
 kind:=S.sc.kind
 glob:=rfl
 blt:=rfl
 above:=Nat.le_refl _
 inj:=fun x y a h1 h2=>I.ok.inj x y a (cW _ [] (fun _ _ e=>by cases e) x a h1) (cW _ [] (fun _ _ e=>by cases e) y a h2)
 has:=fun x hx=>by
  have hx':scope.names.lookup x=some .cell\/scope.names.lookup x=some .free:=hx;rcases hx' with hx|hx
  . exact absurd rfl (S.B8 _ (PySem.mem_of_lookup hx))
  . exact jy scope.names [] (I.ok.has x (S.sc.free _ (PySem.mem_of_lookup hx) rfl)) (.inl (PySem.mem_of_lookup hx))
 zx:=fun x a hf _=>by cases hf
 hd:=fun _=>I.ok.hd hc
 frames:=Around.frames_deeper (by show X.A.frames=_;exact I.ok.frames)
 Ae:= .inr ⟨rfl,rfl⟩
 Dm:=fun b hb=>by cases hb
 bs:=I.bs
 rm:=Nat.le_trans I.ok.rm I.sz
 tW:=fun b o e hb=>by cases hb
 uw:=fun b hb=>by cases hb
 lI:=I.stack
 uS:=I.vE
 gt:=I.ok.gt
theorem Gy{h':Heap}{t':Nat}{v:V}{u:Value}(S:nI X scope Nc fr p)(I:Inv X pins σ H s)(hc:X.calm=true)(r:RelV v u)(hn:h'.Ns s.heap.objs.size (fun x=>[(p,u)].reverse.lookup x))
 (k:∀b o,s.heap.get? b=some o->h'.get? b=some o):Inv (DF X scope Nc qual f c s H) [] ((σC fr σ).set 0 (some v)) H {s with heap:=h',toks:=t'} where
 ok:=Ju S I hc
 os:=rfl
 bare:=I.bare
 base:=Un.kept k
 loc:=⟨_,hn,fun i x w h1 h2 h3=>by
  by_cases hi:i=0
  . subst hi;have hp:=S.p0;have e:p=x:=Option.some.inj (hp.symm.trans h1);subst e
    have hl:0<(σC fr σ).length:=by
     have:=(List.getElem?_eq_some_iff.mp h2).1;rw[List.length_set]at this;exact this
    rw[List.getElem?_set_self hl]at h2;cases h2;exact⟨u,r,.inl ⟨S.loc,by simp⟩⟩
  . rw[List.getElem?_set_ne (Ne.symm hi)]at h2;obtain⟨j,q1,q2⟩:=Aj h2;obtain⟨n1,n2,n3⟩:=S.sc.map i j x h1 q1;obtain⟨m,hm,hl⟩:=I.loc;obtain⟨u',r',lk⟩:=hl j x w n1 q2 (n3.elim (fun z=> .inr (.inl z)) fun z=> .inr (.inr z));refine⟨u',r',?_⟩;rcases lk with⟨z,_⟩|⟨_,a,e,ic⟩
    . rcases n3 with y|y<;>(rw[y]at z;cases z)
    . obtain⟨a',e'⟩:=jy scope.names [] ⟨a,e⟩ (.inl (PySem.mem_of_lookup n2));have e2:=cW _ [] (fun _ _ e=>by cases e) x a' e';rw[e]at e2;cases e2;exact .inr ⟨.inr n2,a,e',ic.keeps k⟩⟩
 cell:=fun x a h=>by
  obtain⟨v,q⟩:=I.cell x a (cW _ [] (fun _ _ e=>by cases e) x a h);exact⟨v,q.keeps k⟩
 free:=I.aK.fresh (Nat.le_refl _)
 je:=fun x a h=>I.je x a (cW _ [] (fun _ _ e=>by cases e) x a h)
 pin:=fun q hq=>by cases hq
 aK:=I.aK.kept k
 len:=by rw[List.length_set];unfold σC;rw[List.length_map];exact S.sc.len
theorem Ek{R:Hp->Prop}{params:Arguments}{body:Expr}{tb:TE}{own:List (Addr×Obj)}{k:Int}{v:V}{u pm ctv:Value}(S:nI X scope Nc fr p)(hc:X.calm=true)(hr:X.A.depth<recursionLimit)
 (hb:∀(s:Shared) (H:Hp),PE (DF X scope Nc qual f c s H) body tb)
 (hbind:∀(cl:List (Str×Addr)) (pm cd ct v:Value),bindArgs (PySem.W.kla_fn "<lambda>" qual params body scope cl pm cd ct) ⟨[v],[]⟩=pure [(p,v)])
 (r:RelV v u) (hf:(f,PySem.W.kla_obj "<lambda>" qual params body scope (dz X.env.cells scope.names []) pm c ctv)∈pins)
 (hcr:∀(H:Hp) (s:Shared),Inv X (pins++own) σ H s->R H->s.heap.CodeRec (.ref c) qual)
 (hq:∀H,R H->tb ((σC fr σ).set 0 (some v)) H fun x H'=>x= .int k/\R H') (J:nk X pins σ R own s):
 wpAny (model X.prog X.w) X.A.in1.in1 (call (.ref f) [u]) (fun u' s'=>(∃t,u'= .int k t)/\nk X pins σ R own s') (fun _ _=>False) s:=by
 obtain⟨H,I,rH⟩:=J;have ho:=(I.pin _ (List.mem_append_right _ (List.mem_append_left _ hf))).1;refine wpAny_call (PySem.W.kla_callFunE (fd:=PySem.W.kla_fn "<lambda>" qual params body scope (dz X.env.cells scope.names []) pm (.ref c) ctv) (by show X.A.depth<_;exact hr) ho rfl S.co S.gen rfl (hcr H s I rH) ?_);rw[hbind]
 refine wpAny_pure (wpAny_newFunctionEnv S.B8 (fun y hy=>by
  have e:y=(p,u):=by simpa using hy
  rw[e];exact S.loc) (fun h₁ hns hsb=>?_) S.sc.kind)
 have hk:∀b o,s.heap.get? b=some o->h₁.get? b=some o:=fun b o e=>hsb.extBut b o (Nat.ne_of_lt (Heap.lt_size e)) (Heap.get?_push_of_some _ e);refine⟨I.nolimit.keeps hk,?_⟩;show codeAny _ X.A.in1.in1 (.expr body (Bp X scope qual f c s)) _ _;refine PySem.W.kla_codeExpr (wpAny_mono (hb s H [] _ _ H _ (Gy S I hc r hns hk) (hq H rH)) (fun w s' he=>?_) fun e s' z=>False.elim z);obtain⟨x,H',I',rx,rfl,rH'⟩:=he;exact⟨rx,H',I.AR (s':=s') (ch:=[]) I'.os I'.base I'.aK I'.bare (fun b z=>absurd z (by simp)),rH'⟩
theorem set_same{α:Type}:∀ {l:List α} {n:Nat} {x:α},l[n]?=some x->l.set n x=l
 | [],n,x,h=>by simp at h
 |a::l,0,x,h=>by simp at h;subst h;rfl
 |a::l,n+1,x,h=>by
  rw[List.set_cons_succ,set_same (n:=n) (by simpa using h)]
theorem D_{params:Arguments}{body:Expr}{lpos:Pos}{c0 T:Addr}{α:List (Option Addr)}{G F:Hp}{st:af}{n0:Nat}{b:Bool}{E:Value->Shared->Prop}{Q:Value->Shared->Prop}(S:nI X scope Nc fr p)(hcode:X.env.code= .ref c0)(hC:PySem.W.codeHdIn X.K c0 T=true)
 (hdef:defaultsOf params X.env=([],[])) (hql:X.env.qual++"<lambda>"=qual) (I:Inv X pins σ H s) (Sp:b_ G F H) (SR:aS α st G) (hn0:st[n0]?=some (.tab T lpos qual b))
 (h:∀(f c:Addr) (ctv pm:Value) (G2 H2:Hp) (s2:Shared),Inv X (pins++[(f,PySem.W.kla_obj "<lambda>" qual params body scope (dz X.env.cells scope.names []) pm c ctv)]) σ H2 s2->Step α G α G2->b_ G2 F H2->aS α (st.set n0 (.tab T lpos qual true)) G2->
   (some c∉α/\∃o vs t,G2 c=some (.g9 o (.own c))/\o.data= .fields vs/\vs[1]?=some (.str qual t))->Q (.ref f) s2):
 wpAny (model X.prog X.w) X.A (eval (.Lambda params body scope lpos) X.env) Q E s:=by
 refine PySem.W.kla_eval hdef ?_;rw[hql];rcases SR.at' n0 _ hn0 with⟨z,_⟩|⟨a,ha,rfl,ps,gP,tr,cs⟩
 . cases z
 have hP:=I.aK a _ (Sp.get gP);have hP:s.heap.get? a=some (PySem.W.tabObj ps):=hP;have hg:s.heap.Ns mainGlobals X.mg:=I.mod.glob.keeps I.bk;obtain⟨bm,ob,b1,b2,b3,b4,b5,b6⟩:=I.mod.bmain;have b3':=I.bk _ _ b3
 have hgP:mainGlobals≠a:=fun q=>by
  obtain⟨o,es,ep,e,hd,_⟩:=hg;rw[q,hP]at e;cases e;cases hd
 have n1:bm≠mainGlobals:=fun q=>by
  obtain⟨o,es,ep,e,hd,_⟩:=hg;rw[q,e]at b3';cases b3';rw[hd]at b6;cases b6
 have n2:bm≠a:=fun q=>by rw[q,hP]at b3';cases b3';cases b4
 have hB:s.heap.BuiltinsAt X.mg a:=⟨bm,ob,b1,b2,n1,n2,b3',b4,b5,b6⟩
 have hcl:closureFor scope X.env=pure (dz X.env.cells scope.names []):=m9 fun x hx hk=>I.ok.has x.1 (S.sc.free x hx hk);have C:PySem.W.CodeHd s.heap c0 a:=PySem.W.codeHd_of_K I.ib hC;rcases cs with⟨rfl,hnf⟩|⟨rfl,c,o,vs,t,q1,q2,q3,q4,q5⟩
 . refine PySem.W.kla_makeFunction hcl I.ok.glob hg hcode C hP tr hnf hgP hB fun c' ctv h' tk hx hge hlt hrec htb=>?_;obtain⟨c2,oc,vs,t,e2,hoc,hd,hv⟩:=hrec;cases e2;have hHc:H c'=none:=I.aK.fresh hge;have hGc:G c'=none:=(Sp.none hHc).1;have hHa:H a=some (.kJ ps):=Sp.get gP;have hac:a≠c':=dH hHa hHc
   let ps':=ps++ #[rawInt lpos.line,rawInt lpos.col,.ref c']
   have nb:∀ {b:Addr},H b=none->b≠a:=fun e z=>by rw[z,hHa]at e;cases e
   have I1:Inv X pins σ (upd (upd H c' (.g9 oc (.own c'))) a (.kJ ps')) {s with heap:=h',gens:=s.gens,drawn:=s.drawn,toks:=tk}:=by
    have old:∀ {b:Addr} {u:HO},H b=some u->b≠a->upd (upd H c' (.g9 oc (.own c'))) a (.kJ ps') b=some u:=fun e n=>by rw[ax n,ax (dH e hHc)];exact e
    refine I.step (ch:=[]) (fun _ z=>nomatch z) (fun b o _ _ _ e n=>hx b o (nb n) e) (fun b o _ _ _ e n=>⟨o.slots,hx b o (nb n) e⟩) (fun b o _ e n=>?_) (fun b o _ e=>?_) (fun b xs e=>?_) (fun b o u e=>?_) (fun b qs e=>?_) (fun m hm=>?_) (fun b u e=>?_) I.bare
    . rw[ax (nb n),ax (Nat.ne_of_lt (Nat.lt_of_lt_of_le (Heap.lt_size e) hge))];exact n
    . by_cases hb:b=a
      . exact⟨_,by rw[hb];exact htb⟩
      . exact⟨o,hx b o hb e⟩
    . exact old e fun z=>by rw[z,hHa]at e;cases e
    . exact old e fun z=>by rw[z,hHa]at e;cases e
    . by_cases hb:b=a
      . subst hb;rw[hHa]at e;cases e;exact⟨_,aU⟩
      . exact⟨#[],by rw[old e hb];simp⟩
    . obtain⟨o,es,ep,ho,r⟩:=hm;exact⟨o,es,ep,hx _ o (nb I.free) ho,r⟩
    . by_cases hb:b=a
      . subst hb;rw[aU]at e;cases e;exact htb
      . rw[ax hb]at e;by_cases hbc:b=c'
        . subst hbc;rw[aU]at e;cases e;exact⟨hoc,_,hoc⟩
        . rw[ax hbc]at e;refine(I.aK b u e).pq (fun d w hd q=>hx d w ?_ q) (fun d q=>old q fun z=>by rw[z,hHa]at q;cases q) fun d xs q=>old q fun z=>by rw[z,hHa]at q;cases q
          rcases hd with rfl|hd
          . exact hb
          . intro z;rw[z,hHa]at hd;cases hd
   have I2:=mf (o:=PySem.W.kla_obj "<lambda>" qual params body scope (dz X.env.cells scope.names []) ((X.mg "__name__").getD .none) c' ctv) (t':=tk) I1 (fun v z=>by cases z);have gP':upd G c' (.g9 oc (.own c')) a=some (.kJ ps):=by rw[ax hac];exact gP
   refine h _ c' ctv _ (upd (upd G c' (.g9 oc (.own c'))) a (.kJ ps')) _ _ I2 ((Step.laid hGc).trans (Step.write (List.mem_of_getElem? ha))) ((Sp.laid hHc).write gP') ((SR.laid hGc).write ha ⟨rfl,ps',aU,?_,.inr ⟨rfl,c',oc,vs,t,?_,SR.lg hGc,?_,hd,hv⟩⟩) ⟨SR.lg hGc,oc,vs,t,?_,hd,hv⟩
   . show TriplesOk (ps++ #[rawInt lpos.line,rawInt lpos.col,.ref c']).toList;rw[Array.toList_append];exact TriplesOk_snoc _ _ _ _ tr
   . show codeAmong lpos (ps++ #[rawInt lpos.line,rawInt lpos.col,.ref c']).toList=_;rw[Array.toList_append];exact codeAmong_snoc _ tr hnf
   . rw[ax hac.symm,aU]
   . rw[ax hac.symm,aU]
 . refine PySem.W.kla_makeFunctionHit hcl I.ok.glob hg hcode C hP tr q1 hB fun ctv h' tk hk hsz=>?_;have I1:=I.kept (t':=tk) hk;have I2:=mf (o:=PySem.W.kla_obj "<lambda>" qual params body scope (dz X.env.cells scope.names []) ((X.mg "__name__").getD .none) c ctv) (t':=tk) I1 (fun v z=>by cases z);refine h _ c ctv _ G H _ I2 Step.refl Sp (by rw[set_same hn0];exact SR) ⟨q2,o,vs,t,q3,q4,q5⟩
end
def slt(p q:Int×Int):Prop:=p.1<q.1\/(p.1=q.1/\p.2<q.2)
def yM(n0:Nat)(T:Addr)(lpos:Pos)(qual:Str)(fr:List (Option Nat))(tb te:DE):DE:=fun σ st K=>te σ st fun d st1=>∃(ns ks:List Int) (b:Bool),d= .lst (ns.map .int)/\ns.length<64/\ns.Pairwise (· < ·)/\ks.length=ns.length/\
 st1[n0]?=some (.tab T lpos qual b)/\(∀(i:Nat) (n k:Int),ns[i]?=some n->ks[i]?=some k->tb ((iu fr σ).set 0 (some (.int n))) (st1.set n0 (.tab T lpos qual true)) fun v st2=>v= .int k/\st2=st1.set n0 (.tab T lpos qual true))/\
 ∀os:List (Int×Int),os.Perm (ks.zip ns)->os.Pairwise slt->K (.lst (os.map fun p=> .int p.2)) (st1.set n0 (.tab T lpos qual true))
theorem yn{α:List (Option Addr)}{H:Hp}:∀ {ns:List Int} {vs:List V},aF α H (ns.map D.int) vs->vs=ns.map V.int
 | [],vs,h=>by unfold aF at h;exact h
 |n::ns,vs,h=>by
  unfold aF at h;obtain⟨v,r,rfl,h1,h2⟩:=h;unfold Rep at h1;rw[h1,yn h2];rfl
theorem zz{α:List (Option Addr)}{H:Hp}:∀(ns:List Int),aF α H (ns.map D.int) (ns.map V.int)
 | []=>by unfold aF;rfl
 |n::ns=>by unfold aF;exact⟨_,_,rfl,by unfold Rep;rfl,zz ns⟩
theorem ym:∀ {ns:List Int} {us:List Value},Vals (ns.map V.int) us->IntsAre us ns
 | [],_,.nil=> .nil
 |n::ns,_,.cons ⟨t,rfl⟩ h=> .cons n t (ym h)
section
variable {X:Cx}{scope:Scope}{Nc:List Str}{fr:List (Option Nat)}{p x qual:Str}{params:Arguments}{e body:Expr}{te tb:DE}{lpos kpos pos ppos:Pos}{c0 T:Addr}{n0:Nat}
theorem HD(S:nI X scope Nc fr p)(hc:X.calm=true)(hr:cP 2 X.A)(hcode:X.env.code= .ref c0)(hC:PySem.W.codeHdIn X.K c0 T=true)(hdef:defaultsOf params X.env=([],[]))(hql:X.env.qual++"<lambda>"=qual)
 (hbind:∀(cl:List (Str×Addr)) (pm cd ct v:Value),bindArgs (PySem.W.kla_fn "<lambda>" qual params body scope cl pm cd ct) ⟨[v],[]⟩=pure [(p,v)])
 (hb:∀(f c:Addr) (s:Shared) (H:Hp),PE (DF X scope Nc qual f c s H) body (LE tb)) (ha:PA X [e] (LA (ae te ak)))
 (hg:Gl X "sorted") (hm:X.mg "sorted"=none) (hv:bootBuiltins "sorted"=some (.builtin "sorted"))
 (he:backTo pos (starEach [e] X.env)=(false,eval e X.env)::backTo pos (starEach [] X.env):=by rfl) (hpl:(backTo pos (starEach [e] X.env)).any (·.1)=false:=by rfl):
 PE X (.Call (.Name "sorted" ppos) [e] [⟨some "key",.Lambda params body scope lpos,kpos⟩] pos) (LE (yM n0 T lpos qual fr tb te)):=by
 intro pins s σ H Q I h;obtain⟨α,σd,st,K,G,F,Sp,RS,SR,t,k⟩:=h;refine wpAny_Call_Name_kw (mN I hg hm hv ?_);refine callWith_kw ?_ he hpl
 let K1:DK:=fun d st1=>∃(ns ks:List Int) (b:Bool),d= .lst (ns.map .int)/\ns.length<64/\ns.Pairwise (· < ·)/\ks.length=ns.length/\
  st1[n0]?=some (.tab T lpos qual b)/\(∀(i:Nat) (n k:Int),ns[i]?=some n->ks[i]?=some k->tb ((iu fr σd).set 0 (some (.int n))) (st1.set n0 (.tab T lpos qual true)) fun v st2=>v= .int k/\st2=st1.set n0 (.tab T lpos qual true))/\
  ∀os:List (Int×Int),os.Perm (ks.zip ns)->os.Pairwise slt->K (.lst (os.map fun p=> .int p.2)) (st1.set n0 (.tab T lpos qual true))
 refine bQ (ha pos pins s σ H (fun vs H1=>∃d v st1 α1 G1,vs=[v]/\K1 d st1/\Step α G α1 G1/\b_ G1 F H1/\aS α1 st1 G1/\Rep α1 G1 d v) I
  ⟨α,σd,st,fun ds st1=>match ds with| [d]=>K1 d st1|_=>False,G,F,Sp,RS,SR,t,fun ds st1 q α1 G1 H1 vs s1 P1 S1 r1=>?_⟩) fun us s1 ⟨vs,H1,I1,rv,d,v,st1,α1,G1,hvs,kd,s1',P1,S1,r1⟩=>?_
 . match ds,q,r1 with
   | [d],q,r1=>
     unfold aF at r1;obtain⟨v,r,rfl,h1,h2⟩:=r1;unfold aF at h2;subst h2;exact⟨d,v,st1,α1,G1,rfl,q,s1,P1,S1,h1⟩
 subst hvs;obtain⟨ns,ks,b,rfl,h64,hup,hlen,hn0,hkey,hK⟩:=kd;show wpAny _ _ (evalAll ((do let v <-eval (.Lambda params body scope lpos) X.env;standAt pos;pure v)::[])) _ _ s1;refine wpAny_evalAll_cons (wpAny_bind (D_ S hcode hC hdef hql I1 P1 S1 hn0 fun f c ctv pm G2 H2 s2 I2 st2 P2 S2 ⟨hc1,o,vs,tq,hc2,hc3,hc4⟩=>wpAny_bind (wpAny_standAt (wpAny_pure (wpAny_evalAll_nil ?_)))));have r2:=r1.step st2;unfold Rep at r2;obtain⟨l,xs,rfl,hl1,hl2,hl3⟩:=r2;have exs:=yn hl3;subst exs;cases rv with
 |cons ru rn=>
  cases rn;cases ru
  have hrd:Rd H2 l (.lst (ns.map V.int)):=by
   rcases hl2 with z|⟨w,z⟩
   . exact .inl (P2.get z)
   . exact .inr ⟨w,P2.get z⟩
  obtain⟨_,its,nn,vv,hobj⟩:=hrd.ok I2.aK;have hints:=ym vv;have hlen2:=hints.length;have key:∀(H':Hp),(∃α' G',Step α1 G2 α' G'/\b_ G' F H'/\aS α' (st1.set n0 (.tab T lpos qual true)) G')->H' c=some (.g9 o (.own c)):=fun H' ⟨α',G',q1,q2,q3⟩=>q2.get (q1.ext c _ hc1 hc2);show wpAny _ _ (call (.builtin "sorted") [.ref l] [(Str.ofString "key",.ref f)]) _ _ _
  refine AO (X:=X) (pins:=pins++[(f,PySem.W.kla_obj "<lambda>" qual params body scope (dz X.env.cells scope.names []) pm c ctv)]) (R:=fun H'=>∃α' G',Step α1 G2 α' G'/\b_ G' F H'/\aS α' (st1.set n0 (.tab T lpos qual true)) G') (kz:=ks) (vs:=its)
   I2 ⟨α1,G2,Step.refl,P2,S2⟩ ⟨_,hobj,rfl,nn,rfl⟩ (by omega) (by omega) ?_ (fun i u kk hu hk own s' J=>?_) fun D s' out cc oD J so=>?_
  . rw[<-List.pairwise_map,hints.nums];exact hup
  . have hi:i<ns.length:=by
     have:=(List.getElem?_eq_some_iff.mp hu).1;omega
    obtain⟨tt,ht⟩:=hints.get i ns[i] (List.getElem?_eq_getElem hi);have ht:some u=some (Value.int ns[i] tt):=by rw[<-hu];exact ht
    cases ht;refine Ek (v:= .int ns[i]) (u:= .int ns[i] tt) S hc (by have:=hr.dp;omega) (hb f c) hbind ⟨tt,rfl⟩ (List.mem_append_right _ (List.mem_singleton.mpr rfl)) (fun H' s'' J' r'=>?_) (fun H' r'=>?_) J
    . have q:=J'.aK c _ (key H' r');exact⟨c,o,vs,tq,rfl,q.1,hc3,hc4⟩
    . obtain⟨α',G',q1,q2,q3⟩:=r';refine⟨α',(iu fr σd).set 0 (some (.int ns[i])),_,_,G',F,q2,?_,q3,hkey i ns[i] kk (List.getElem?_eq_getElem hi) hk,fun d' st' hd α'' G'' H'' v' s'' P'' S'' r''=>?_⟩
      . exact((RS.step ((s1'.trans st2).trans q1)).comp).set 0 (by unfold Rep;rfl)
      . obtain⟨rfl,rfl⟩:=hd;unfold Rep at r'';exact⟨r'',α'',G'',q1.trans s'',P'',S''⟩
  . obtain⟨H',I',α',G',q1,q2,q3⟩:=J;obtain⟨ps,hp,ho,hs⟩:=so
    have hps:∀q∈ps,∃t,q.2= .int (numOf q.2) t:=fun q hq=>by
     have h1:=hp.mem_iff.mp hq;have h2:q.2∈its:=(List.of_mem_zip (show(q.1,q.2)∈ks.zip its from h1)).2;obtain⟨n,t,e⟩:=hints.all _ h2;exact⟨t,by rw[e];rfl⟩
    have hos:(ps.map fun q=>(q.1,numOf q.2)).Perm (ks.zip ns):=by
     have h1:=hp.map fun q:Int×Value=>(q.1,numOf q.2)
     have e:(ks.zip its).map (fun q:Int×Value=>(q.1,numOf q.2))=ks.zip ns:=by
      rw[<-hints.nums,List.zip_map_right];exact List.map_congr_left fun⟨a,b⟩ _=>rfl
     rw[e]at h1;exact h1
    have hpw:(ps.map fun q=>(q.1,numOf q.2)).Pairwise slt:=by rw[List.pairwise_map];exact hs
    have kk:=hK _ hos hpw;rw[List.map_map]at kk;have hD0:=f_ I'
    have vout:Vals ((ps.map fun q=>numOf q.2).map V.int) out.toList:=by
     rw[ho];clear hos hpw kk hs hp ho;induction ps with
     |nil=>exact .nil
     |cons q r ih=>
      obtain⟨t,e⟩:=hps q (List.mem_cons_self ..);exact .cons ⟨t,e⟩ (ih fun z hz=>hps z (List.mem_cons_of_mem _ hz))
    have hlo:(ps.map fun q=>numOf q.2).length<=sizeLine:=by
     rw[List.length_map,hp.length_eq,List.length_zip];exact Nat.le_trans (Nat.min_le_left _ _) (Nat.le_trans (show ks.length<=64 by omega) (by decide))
    have I3:=DX (u:= .lst ((ps.map fun q=>numOf q.2).map V.int)) I' oD.ge oD.ne ⟨by rw[List.length_map];exact hlo,out.toList,cc,vout,hD0.1⟩;have hG:=(q2.none hD0.2.1).1;refine⟨.ref D,_,I3.iP,rfl,k _ _ kk α' _ _ _ ((s1'.trans st2).trans (q1.trans (Step.laid hG))) (q2.laid hD0.2.1) (q3.laid hG) ?_⟩;unfold Rep;refine⟨D,_,rfl,q3.lg hG,.inl aU,?_⟩;have e:List.map ((fun p:Int×Int=>L3.D.int p.snd)∘fun q:Int×Value=>(q.fst,numOf q.snd)) ps=(ps.map fun q=>numOf q.2).map L3.D.int:=by rw[List.map_map];rfl
    rw[e];exact zz _
end
end L3
namespace L3
open PySem L2
open PySem.Spec hiding items?
open PyProof.Rows hiding St
def EB(sc:Scope)(N gl:List Str):Bool:=
 N.all (fun x=>(sc.names.lookup x==some .local||sc.names.lookup x==some .cell)&&x != "__debug__"&&x != "__classdict__")&&gl.all (fun x=>sc.names.lookup x==some .globalImplicit&&x != "__debug__")
structure VS(sc:Scope)(N gl:List Str):Prop where
 ok:EB sc N gl=true
theorem VS.at_{sc:Scope}{N gl:List Str}(V:VS sc N gl){i:Nat}{x:Str}(h:N[i]?=some x):Loc sc x/\(x==("__debug__":Str))=false/\(x==("__classdict__":Str))=false:=by
 have o:=V.ok;unfold EB at o;have:=List.all_eq_true.mp (Bool.and_eq_true_iff.mp o).1 x (List.mem_of_getElem? h);simp only[Bool.and_eq_true,Bool.or_eq_true,beq_iff_eq,bne_iff_ne,ne_eq]at this;exact⟨this.1.1,beq_false_of_ne this.1.2,beq_false_of_ne this.2⟩
theorem VS.MK{sc:Scope}{N gl:List Str}(V:VS sc N gl){i:Nat}{x:Str}(h:gl[i]?=some x):sc.names.lookup x=some .globalImplicit/\(x==("__debug__":Str))=false:=by
 have o:=V.ok;unfold EB at o;have:=List.all_eq_true.mp (Bool.and_eq_true_iff.mp o).2 x (List.mem_of_getElem? h);simp only[Bool.and_eq_true,beq_iff_eq,bne_iff_ne,ne_eq]at this;exact⟨this.1,beq_false_of_ne this.2⟩
section
variable {X:Cx}{sc:Scope}{N gl:List Str}{x:Str}{pos:Pos}
theorem VS.nm(V:VS X.env.scope X.N gl)(i:Nat)(h:X.N[i]?=some x:=by rfl):JE X (.Name x pos) (ab i):=
 let q:=V.at_ h
 DL q.2.1 q.2.2 (q.1.elim .inl fun z=> .inr (.inl z)) h
theorem VS.l(V:VS sc N gl)(i:Nat)(h:N[i]?=some x:=by rfl):Loc sc x:=(V.at_ h).1
theorem VS.g(V:VS sc N gl)(i:Nat)(h:gl[i]?=some x:=by rfl):sc.names.lookup x=some .globalImplicit:=(V.MK h).1
theorem VS.d(V:VS sc N gl)(i:Nat)(h:gl[i]?=some x:=by rfl):(x==("__debug__":Str))=false:=(V.MK h).2
theorem cx{n:Nat}(hN:X.N[n]?=some x:=by rfl)(hd:((x==("__debug__":Str))||(x==("__classdict__":Str)))=false:=by decide+kernel)
 (hv:ze X.env.scope x:=by first|exact Or.inl rfl|exact Or.inr (Or.inl rfl)|exact Or.inr (Or.inr rfl)):JE X (.Name x pos) (ab n):=
 DL (Bool.or_eq_false_iff.mp hd).1 (Bool.or_eq_false_iff.mp hd).2 hv hN
@[irreducible] def pK:eN:=vg (fun _ j=>j≠0) fun i j=> .int (i.fdiv j)
theorem z_{k:Nat}(hr:cP k X.A)(hs:X.stack=X.env::X.outer)(hgen:X.env.scope.isGenerator=false)(hco:X.env.scope.isCoroutine=false):cz X (binaryOp .FloorDiv) (LR pK):=by
 unfold pK;refine mO (g':=fun i j=> .int (i.fdiv j)) (fun _ _ _ _=>by unfold Rep;rfl) ?_;intro pins s σ H x y v u Q I rx ry h;obtain⟨i,j,rfl,rfl,hc,q⟩:=h;obtain⟨t,rfl⟩:=rx;obtain⟨t',rfl⟩:=ry;refine floordiv_int hc ⟨.int (i.fdiv j),H,I.tok _,⟨_,rfl⟩,q⟩ (.inr (PySem.PylongRoom.of I.nolimit ?_ ?_))
 . have:=hr.dp;show X.A.depth+100<_;omega
 . exact PySem.SeerAt.of (env:=X.env) (l:=X.outer) (I.mod.seer.keeps I.bk) I.ok.gt (by rw[I.ok.frames,hs]) hgen hco I.ok.blt I.ok.glob
theorem yd{st:af}{K:DK}{i j:Int}(h0:j≠0)(k:K (.int (i.fdiv j)) st):pK (.int i) (.int j) st K:=by unfold pK;exact⟨h0,k⟩
theorem nI.look{scope:Scope}{Nc:List Str}{fr:List (Option Nat)}{p:Str}(S:bh X scope Nc fr)(h:(scope.names.all (fun x=>x.2 != .cell)&&(!scope.isCoroutine&& !scope.isGenerator)&&(scope.names.lookup p==some .local))=true:=by decide+kernel)
 (p0:Nc[0]?=some p:=by rfl) (f0:fr[0]?=some none:=by rfl):nI X scope Nc fr p:=by
 simp only[Bool.and_eq_true,Bool.not_eq_true',beq_iff_eq]at h;exact⟨S,fun x hx=>by simpa using List.all_eq_true.mp h.1.1 x hx,h.1.2.1,h.1.2.2,p0,f0,h.2⟩
theorem G8{scope:Scope}{Nc:List Str}{fr:List (Option Nat)}{p qual:Str}{params:Arguments}{e body:Expr}{te tb:DE}{lpos kpos pos ppos:Pos}{c0 T:Addr}{n0 k:Nat}(S:nI X scope Nc fr p)(hc:X.calm=true)(hr:cP k X.A)(hcode:X.env.code= .ref c0)(hC:PySem.W.codeHdIn X.K c0 T=true)
 (hb:∀(f c:Addr) (s:Shared) (H:Hp),JE (DF X scope Nc qual f c s H) body tb) (he:JE X e te) (hg:X.env.kindOf "sorted"=some .globalImplicit) (hm:X.mg "sorted"=none)
 (hdef:defaultsOf params X.env=([],[]):=by rfl) (hql:X.env.qual++"<lambda>"=qual:=by rfl)
 (hbind:∀(cl:List (Str×Addr)) (pm cd ct v:Value),bindArgs (PySem.W.kla_fn "<lambda>" qual params body scope cl pm cd ct) ⟨[v],[]⟩=pure [(p,v)]:=by(intros;rfl)) (hk:2<=k:=by decide)
 (he1:starEach [e] X.env=(false,eval e X.env)::starEach [] X.env:=by rfl):
 JE X (.Call (.Name "sorted" ppos) [e] [⟨some "key",.Lambda params body scope lpos,kpos⟩] pos) (yM n0 T lpos qual fr tb te):=by
 unfold JE at he hb⊢;refine HD S hc (hr.mono hk) hcode hC hdef hql hbind hb (vZ he yl he1) hg hm rfl ?_ ?_
 . rw[he1];rfl
 . rw[he1];rfl
end
structure H_(K:PySem.W.Frag)(x qual:Str)(st:Stmt)(f:Addr)(fd:FuncData)(c:Addr):Prop where
 ex:∃(oc:Value) (od:Option Addr) (kV doc pm:Value) (an:Option Addr) (ct:Value) (osl:Array (Option Value)),
  fd=PySem.W.fnOf x qual (kQ st) (iq st) (ai st) .none kV doc pm an (.ref c) ct/\K.lookup f=some ⟨oc,od,.func fd,osl⟩/\PySem.W.codeIn K (.ref c) qual=true
theorem Ki{P:Program}{w:World}{K:PySem.W.Frag}{mg:Str->Option Value}{base:Heap}{x qual:Str}{st:Stmt}{f c:Addr}{fd:FuncData}{N ps:List Str}{k:Nat}{sp:cF}{t:DS}(F:H_ K x qual st f fd c)(S:aR N ps (ai st))
 (hbody:∀(A:Around) (outer:List Env) (s:Shared) (H:Hp) (E:XK),cP k (A.deeper (envOfC qual (ai st) s.heap.objs.size f (.ref c)))->JB (qj cG P w K mg base N qual (ai st) f (.ref c) A outer s H E).vo (iq st) t)
 (hsp:∀ds st K,sp ds st K->ds.length=ps.length/\t {nx:=fun _ st'=>K .aI st',rt:=K} (a7 N ds) st):bF P w K mg base cG (k+1) f fd ps (cL sp):=by
 obtain⟨oc,od,kV,doc,pm,an,ct,osl,rfl,lk,hcd⟩:=F.ex;unfold JB at hbody;refine F2 lk hcd S (fun vs H Q E h=>?_) fun A outer s H vs Q E hr h=>?_
 . obtain⟨α,ds,st,K,G,F,P,R,S,q,k⟩:=h;rw[<-R.length];exact(hsp ds st K q).1
 . obtain⟨α,ds,st,K,G,F',P,R,SR,q,k⟩:=h;refine⟨_,(hbody A outer s H E hr).vo,α,a7 N ds,st,_,G,F',P,eL.start R,SR,(hsp ds st K q).2,?_,k,?_,?_⟩
   . intro σd' st' kk α' G' H' σ' s' P' R' S';exact k .aI st' kk α' G' H' .aI s' P' S' (by unfold Rep;rfl)
   . intro σd' st' kk;exact kk.elim
   . intro σd' st' kk;exact kk.elim
def CU(tl:List (Addr×Pos×Str)):cF:=fun ds st K=>∃ns:List Int,ds=[.lst (ns.map .int)]/\ns.length<=63/\st=tl.map (fun q=> .tab q.1 q.2.1 q.2.2 false)/\∀st',K (.bl true) st'
def Ds(K:PySem.W.Frag)(ts:List (Addr×Addr)):Sp:=fun vs H Q _=>∃(a:Addr) (ns:List Int),vs=[.ref a]/\Entry K ts a ns H/\ns.length<=63/\∀H',Q (.bl true) H'
theorem Dz{K:PySem.W.Frag}{ts:List (Addr×Addr)}{tl:List (Addr×Pos×Str)}(nl:DP K=true)(hts:ts.map (·.2)=tl.map (·.1))(nd:(tl.map (·.1)).Nodup){vs:List V}{H:Hp}{Q:VK}{E:XK}(h:Ds K ts vs H Q E):cL (CU tl) vs H Q E:=by
 obtain⟨a,ns,rfl,hE,hl,q⟩:=h
 have tabs:∀q∈tl,H q.1=some (.kJ #[])/\q.1≠a:=fun q hq=>by
  have h1:q.1∈ts.map (·.2):=by rw[hts];exact List.mem_map_of_mem hq
  obtain⟨t,ht,e⟩:=List.mem_map.mp h1;rw[<-e];exact hE.tab t ht
 have at_:∀(i:Nat) (x:Addr),(tl.map fun q=>some q.1)[i]?=some (some x)->∃q,tl[i]?=some q/\q.1=x:=fun i x e=>by
  rw[List.getElem?_map]at e;cases z:tl[i]? with
  |none=>rw[z]at e;cases e
  |some w=>rw[z]at e;simp at e;exact⟨w,rfl,e⟩
 have nota:some a∉tl.map fun q=>some q.1:=fun z=>by
  obtain⟨w,hw,e⟩:=List.mem_map.mp z;exact(tabs w hw).2 (Option.some.inj e)
 rcases hE.lst with hS|⟨o,its,n,e,hc,_⟩
 . refine⟨tl.map fun q=>some q.1,[.lst (ns.map .int)],tl.map (fun q=> .tab q.1 q.2.1 q.2.2 false),fun d _=>d= .bl true,H,fun _=>none,⟨fun b=>by cases H b<;>rfl,fun _ _ _=>rfl⟩,?_,⟨by simp,fun i j x e1 e2=>?_,fun n c e=>?_⟩,⟨ns,rfl,hl,rfl,fun _=>rfl⟩,?_⟩
   . unfold aF;refine⟨.ref a,[],rfl,?_,by unfold aF;rfl⟩;unfold Rep;exact⟨a,ns.map V.int,rfl,nota,hS,wH ns⟩
   . obtain⟨p,hp,e3⟩:=at_ i x e1;obtain⟨r,hr,e4⟩:=at_ j x e2;have k1:(tl.map (·.1))[i]?=some x:=by rw[List.getElem?_map,hp,<-e3];rfl
     have k2:(tl.map (·.1))[j]?=some x:=by rw[List.getElem?_map,hr,<-e4];rfl
     have hi:=(List.getElem?_eq_some_iff.mp k1).1;exact(List.getElem?_inj hi nd).mp (k1.trans k2.symm)
   . rw[List.getElem?_map]at e;cases z:tl[n]? with
     |none=>rw[z]at e;cases e
     |some w=>
      rw[z]at e;have e':Cell.tab w.1 w.2.1 w.2.2 false=c:=Option.some.inj e;subst e';refine .inr ⟨w.1,by rw[List.getElem?_map,z];rfl,rfl,#[],(tabs w (List.mem_of_getElem? z)).1,trivial,.inl ⟨rfl,rfl⟩⟩
   . rintro d st' rfl α' G' H' v _ _ _ r;unfold Rep at r;subst r;exact q H'
 . exact absurd hc (wZ nl e)
section
variable {K:PySem.W.Frag}{x qual p1 p2 p3 p4 p5:Str}{st:Stmt}{f:Addr}{fd:FuncData}
abbrev qK(x qual:Str)(st:Stmt)(kV doc pm:Value)(an:Option Addr)(cdv ct:Value):FuncData:=PySem.W.fnOf x qual (kQ st) (iq st) (ai st) .none kV doc pm an cdv ct
theorem g8{α:Type}{n:Nat}{us:List α}(h:us.length=n+1):∃a r,us=a::r/\r.length=n:=by
 cases us with
 |nil=>cases h
 |cons a r=>exact⟨a,r,rfl,Nat.succ.inj h⟩
theorem sG{α:Type}{us:List α}(h:us.length=0):us=[]:=List.length_eq_zero_iff.mp h
theorem MF(F:ow K x qual st f fd)(h:∀kV doc pm an cdv ct a,bindArgs (qK x qual st kV doc pm an cdv ct) ⟨[a],[]⟩=pure [(p1,a)]):Binds K fd [p1] []:=
 F.binds fun kV doc pm an cdv ct us hl=>by
  obtain⟨a,r1,rfl,h1⟩:=g8 hl;cases sG h1;exact h kV doc pm an cdv ct a
theorem MG(F:ow K x qual st f fd)(h:∀kV doc pm an cdv ct a b,bindArgs (qK x qual st kV doc pm an cdv ct) ⟨[a,b],[]⟩=pure [(p1,a),(p2,b)]):Binds K fd [p1,p2] []:=
 F.binds fun kV doc pm an cdv ct us hl=>by
  obtain⟨a,r1,rfl,h1⟩:=g8 hl;obtain⟨b,r2,rfl,h2⟩:=g8 h1;cases sG h2;exact h kV doc pm an cdv ct a b
theorem MS(F:ow K x qual st f fd)(h:∀kV doc pm an cdv ct a b c,bindArgs (qK x qual st kV doc pm an cdv ct) ⟨[a,b,c],[]⟩=pure [(p1,a),(p2,b),(p3,c)]):Binds K fd [p1,p2,p3] []:=
 F.binds fun kV doc pm an cdv ct us hl=>by
  obtain⟨a,r1,rfl,h1⟩:=g8 hl;obtain⟨b,r2,rfl,h2⟩:=g8 h1;obtain⟨c,r3,rfl,h3⟩:=g8 h2;cases sG h3;exact h kV doc pm an cdv ct a b c
theorem MQ(F:ow K x qual st f fd)(h:∀kV doc pm an cdv ct a b c d,bindArgs (qK x qual st kV doc pm an cdv ct) ⟨[a,b,c,d],[]⟩=pure [(p1,a),(p2,b),(p3,c),(p4,d)]):Binds K fd [p1,p2,p3,p4] []:=
 F.binds fun kV doc pm an cdv ct us hl=>by
  obtain⟨a,r1,rfl,h1⟩:=g8 hl;obtain⟨b,r2,rfl,h2⟩:=g8 h1;obtain⟨c,r3,rfl,h3⟩:=g8 h2;obtain⟨d,r4,rfl,h4⟩:=g8 h3;cases sG h4;exact h kV doc pm an cdv ct a b c d
end
section
variable {X:Cx}
def vo(X:Cx):Cx:={X with xe:=fun _ _=>False}
end
variable {st:af}{K:D->af->Prop}{i j:Int}
section
variable {X:Cx}{pos:Pos}
end
end L3
namespace L3
open PySem L2
structure ClsAt(K:PySem.W.Frag)(mg:Str->Option Value)(x:Str)(C:Addr):Prop where
 cl:m8 K C
 mg:mg x=some (.ref C)
 MR:PySem.W.makesIn K C=true
 kp:PySem.W.keepIn K (.ref C)=true
structure MethAt(K:PySem.W.Frag)(C:Addr)(m qual:Str)(st:Stmt)(ps:List Str)(f:Addr)(fd:FuncData):Prop where
 fn:ow K m qual st f fd
 me:Meth K C m f
 bd:Binds K fd ps []
end L3
namespace Hd
open PySem PySem.W L2 L3
open PySem.Spec hiding items?
open PyProof.Rows hiding St
section
variable {K:Frag}{mg:Str->Option Value}{h:Heap}{x q:Str}{st:Stmt}{f c C:Addr}{pm:Value}{p1 p2 p3 p4 p5 p6:Str}
abbrev Ed(K:Frag)(x:Str)(st:Stmt)(f:Addr)(pm:Value)(c:Addr):Prop:=(nsIn K mainGlobals x,K.lookup f,codeIn K (.ref c) x,keepIn K (.ref f))=(some (some (.ref f)),some (fq st x x pm c),true,true)
abbrev Em(K:Frag)(C:Addr)(x q:Str)(st:Stmt)(f:Addr)(pm:Value)(c:Addr):Prop:=(findIn K (.ref C) x,isFn K (.ref f),K.lookup f,codeIn K (.ref c) q,keepIn K (.ref f))=(some (some (.ref f)),true,some (fq st x q pm c),true,true)
theorem Ed.fn(e:Ed K x st f pm c):ow K x x st f (fd st x x pm c)/\nsIn K mainGlobals x=some (some (.ref f)):=by
 obtain⟨e1,e2,e3,e4⟩:_/\_/\_/\_:=by simpa only[Prod.mk.injEq]using e
 exact⟨Dq (st:=st) e2 e3 e4,e1⟩
theorem Em.fn(e:Em K C x q st f pm c):ow K x q st f (fd st x q pm c)/\Meth K C x f:=by
 obtain⟨e1,e2,e3,e4,e5⟩:_/\_/\_/\_/\_:=by simpa only[Prod.mk.injEq]using e
 exact⟨Dq (st:=st) e3 e4 e5,e1,e2,e5⟩
theorem qP(X:K.In h)(G:h.Ns mainGlobals mg)(e:Ed K x st f pm c)(b:∀kV doc pm an cdv ct a,bindArgs (qK x x st kV doc pm an cdv ct) ⟨[a],[]⟩=pure [(p1,a)]):cD K mg x x st [p1] f (fd st x x pm c):=⟨e.fn.1,mg_of X G e.fn.2,MF e.fn.1 b⟩
theorem vj(X:K.In h)(G:h.Ns mainGlobals mg)(e:Ed K x st f pm c)(b:∀kV doc pm an cdv ct a1 a2,bindArgs (qK x x st kV doc pm an cdv ct) ⟨[a1,a2],[]⟩=pure [(p1,a1),(p2,a2)]):cD K mg x x st [p1,p2] f (fd st x x pm c):=⟨e.fn.1,mg_of X G e.fn.2,MG e.fn.1 b⟩
theorem Ah(X:K.In h)(G:h.Ns mainGlobals mg)(e:Ed K x st f pm c)(b:∀kV doc pm an cdv ct a1 a2 a3,bindArgs (qK x x st kV doc pm an cdv ct) ⟨[a1,a2,a3],[]⟩=pure [(p1,a1),(p2,a2),(p3,a3)]):cD K mg x x st [p1,p2,p3] f (fd st x x pm c):=⟨e.fn.1,mg_of X G e.fn.2,MS e.fn.1 b⟩
theorem N0(X:K.In h)(G:h.Ns mainGlobals mg)(e:Ed K x st f pm c)(b:∀kV doc pm an cdv ct a1 a2 a3 a4,bindArgs (qK x x st kV doc pm an cdv ct) ⟨[a1,a2,a3,a4],[]⟩=pure [(p1,a1),(p2,a2),(p3,a3),(p4,a4)]):cD K mg x x st [p1,p2,p3,p4] f (fd st x x pm c):=⟨e.fn.1,mg_of X G e.fn.2,MQ e.fn.1 b⟩
theorem IL(e:Em K C x q st f pm c)(b:∀kV doc pm an cdv ct a,bindArgs (qK x q st kV doc pm an cdv ct) ⟨[a],[]⟩=pure [(p1,a)]):MethAt K C x q st [p1] f (fd st x q pm c):=⟨e.fn.1,e.fn.2,MF e.fn.1 b⟩
theorem IK(e:Em K C x q st f pm c)(b:∀kV doc pm an cdv ct a1 a2,bindArgs (qK x q st kV doc pm an cdv ct) ⟨[a1,a2],[]⟩=pure [(p1,a1),(p2,a2)]):MethAt K C x q st [p1,p2] f (fd st x q pm c):=⟨e.fn.1,e.fn.2,MG e.fn.1 b⟩
theorem y6(e:Em K C x q st f pm c)(b:∀kV doc pm an cdv ct a1 a2 a3,bindArgs (qK x q st kV doc pm an cdv ct) ⟨[a1,a2,a3],[]⟩=pure [(p1,a1),(p2,a2),(p3,a3)]):MethAt K C x q st [p1,p2,p3] f (fd st x q pm c):=⟨e.fn.1,e.fn.2,MS e.fn.1 b⟩
theorem N6(e:Em K C x q st f pm c)(b:∀kV doc pm an cdv ct a1 a2 a3 a4,bindArgs (qK x q st kV doc pm an cdv ct) ⟨[a1,a2,a3,a4],[]⟩=pure [(p1,a1),(p2,a2),(p3,a3),(p4,a4)]):MethAt K C x q st [p1,p2,p3,p4] f (fd st x q pm c):=⟨e.fn.1,e.fn.2,MQ e.fn.1 b⟩
theorem fc(e:(K.lookup f,codeIn K (.ref c) q)=(some (fq st x q pm c),true)):H_ K x q st f (fd st x q pm c) c:=by
 obtain⟨e1,e2⟩:_/\_:=by simpa only[Prod.mk.injEq]using e
 exact⟨_,_,_,_,_,_,_,_,rfl,e1,e2⟩
theorem na{a:Str}(e:findIn K (.ref C) a=some none):d9 K C a:=e
end
end Hd
namespace L3
open PySem L2
open PySem.Spec hiding items?
open PyProof.Rows hiding St
section
variable {X:Cx}{pos:Pos}
end
end L3
namespace L3
open PySem L2
open PySem.Spec hiding items?
end L3
namespace L3
open PySem PySem.Spec L2
open PyProof.Rows hiding St
section
variable {X:Cx}{pos:Pos}
end
end L3
namespace L3
open PySem L2
open PySem.Spec hiding items?
open PyProof.Rows hiding St
section
variable {X:Cx}
end
section
variable {X:Cx}{pos:Pos}
theorem KO{α:List (Option Addr)}{H:Hp}{ds:List D}{xs:List V}{d e f g h:D}(r:aF α H ds xs)(q:ds=[d,e,f,g,h]):∃v1 v2 v3 v4 v5,xs=[v1,v2,v3,v4,v5]/\Rep α H d v1/\Rep α H e v2/\Rep α H f v3/\Rep α H g v4/\Rep α H h v5:=by
 subst q;unfold aF at r;obtain⟨v,q,rfl,h1,r⟩:=r;unfold aF at r;obtain⟨u,q,rfl,h2,r⟩:=r;obtain⟨a,b,c,rfl,h3,h4,h5⟩:=Mz r rfl;exact⟨v,u,a,b,c,rfl,h1,h2,h3,h4,h5⟩
def va(i j k l m:Nat):fQ:=fun d σ=>match d with| .tup [x,y,z,u,v]=>some (((((σ.set i (some x)).set j (some y)).set k (some z)).set l (some u)).set m (some v))|_=>none
theorem Hr{tg:Expr}{i j k l m:Nat}(h:PG X tg (Fl X.K 5 (oF (iF i) (oF (iF j) (oF (iF k) (oF (iF l) (oF (iF m) Eo))))))):PG X tg (LG (va i j k l m)):=PG.imp h fun v σ H Q ⟨α,σd,st,d,K,G,F,P,R,S,r,⟨σ',e,q⟩,kk⟩=>by
 unfold va at e;split at e
 . cases e;unfold Rep at r;obtain⟨a,vs,rfl,na,h1,h2⟩:=r;obtain⟨v1,v2,v3,v4,v5,rfl,r1,r2,r3,r4,r5⟩:=KO h2 rfl;exact⟨a,_,rfl,.of (P.get h1),rfl,v1,_,rfl,v2,_,rfl,v3,_,rfl,v4,_,rfl,v5,_,rfl,rfl,kk.here P q (((((R.set i r1).set j r2).set k r3).set l r4).set m r5) S⟩
 . cases e
theorem KJ{i j k l m n:Nat}{x y z u v:Str}{px py pz pu pv:Pos}(hc:X.calm=true)(hN:X.N.Nodup)(hx:Loc X.env.scope x)(hf:X.fn x=true\/X.env.scope.names.lookup x=some .local)(hy:Loc X.env.scope y)(hg:X.fn y=true\/X.env.scope.names.lookup y=some .local)(hz:Loc X.env.scope z)(hh:X.fn z=true\/X.env.scope.names.lookup z=some .local)(hu:Loc X.env.scope u)(hp:X.fn u=true\/X.env.scope.names.lookup u=some .local)(hv:Loc X.env.scope v)(hq:X.fn v=true\/X.env.scope.names.lookup v=some .local)
 (hi:X.N[i]?=some x:=by rfl) (hj:X.N[j]?=some y:=by rfl) (hk:X.N[k]?=some z:=by rfl) (hl:X.N[l]?=some u:=by rfl) (hm:X.N[m]?=some v:=by rfl):JG X (.Tuple [.Name x px,.Name y py,.Name z pz,.Name u pu,.Name v pv] n pos) (va i j k l m):=by
 unfold JG;exact Hr (D0 hc (kD (kL hN hi hx hf) (kD (kL hN hj hy hg) (kD (kL hN hk hz hh) (kD (kL hN hl hu hp) (kD (kL hN hm hv hq) Ar))))))
end
end L3
namespace Mx
def S:Nat->(Nat->Int)->Int
 |0,_=>0
 |n+1,f=>S n f+f n
theorem aE{n:Nat}{f g:Nat->Int}(h:∀i,i<n->f i=g i):S n f=S n g:=by
 induction n with
 |zero=>rfl
 |succ n ih=>unfold S;rw[ih fun i hi=>h i (by omega),h n (by omega)]
theorem ix{n:Nat}{f:Nat->Int}(h:∀i,i<n->f i=0):S n f=0:=by
 induction n with
 |zero=>rfl
 |succ n ih=>unfold S;rw[ih fun i hi=>h i (by omega),h n (by omega)];rfl
theorem gN(n:Nat)(f g:Nat->Int):S n (fun i=>f i+g i)=S n f+S n g:=by
 induction n with
 |zero=>rfl
 |succ n ih=>unfold S;rw[ih];dsimp only;omega
theorem eX(n:Nat)(c:Int)(f:Nat->Int):S n (fun i=>c*f i)=c*S n f:=by
 induction n with
 |zero=>unfold S;rw[Int.mul_zero]
 |succ n ih=>unfold S;rw[ih,Int.mul_add]
theorem rB(n:Nat)(c:Int)(f:Nat->Int):S n (fun i=>f i*c)=S n f*c:=by
 induction n with
 |zero=>unfold S;rw[Int.zero_mul]
 |succ n ih=>unfold S;rw[ih,Int.add_mul]
theorem uR(n:Nat)(f:Nat->Int):S n (fun i=> -f i)= -S n f:=by
 induction n with
 |zero=>rfl
 |succ n ih=>unfold S;rw[ih];dsimp only;omega
theorem pY(m n:Nat)(f:Nat->Nat->Int):S m (fun i=>S n fun j=>f i j)=S n fun j=>S m fun i=>f i j:=by
 induction m with
 |zero=>exact(ix (n:=n) (fun i _=>rfl)).symm
 |succ m ih=>
  have:S n (fun j=>S (m+1) fun i=>f i j)=S n fun j=>(S m fun i=>f i j)+f m j:=aE fun j _=>rfl;rw[this,gN,<-ih];rfl
theorem jJ{n:Nat}{k:Nat}(hk:k<n){f:Nat->Int}(h:∀i,i<n->i≠k->f i=0):S n f=f k:=by
 induction n with
 |zero=>omega
 |succ n ih=>
  unfold S;by_cases e:k=n
  . subst e;rw[ix fun i hi=>h i (by omega) (by omega),Int.zero_add]
  . rw[ih (by omega) fun i hi hn=>h i (by omega) hn,h n (by omega) (by omega),Int.add_zero]
theorem yP(n:Nat)(f:Nat->Int):S (n+1) f=f 0+S n fun i=>f (i+1):=by
 induction n with
 |zero=>unfold S S;omega
 |succ n ih=>
  have:S (n+1+1) f=S (n+1) f+f (n+1):=rfl;rw[this,ih];have:S (n+1) (fun i=>f (i+1))=S n (fun i=>f (i+1))+f (n+1):=rfl;rw[this];omega
def dl(i j:Nat):Int:=if i=j then 1 else 0
theorem bD(i:Nat):dl i i=1:=if_pos rfl
theorem bx{i j:Nat}(h:i≠j):dl i j=0:=if_neg h
theorem mZ{n k:Nat}(hk:k<n)(f:Nat->Int):S n (fun i=>dl k i*f i)=f k:=by
 rw[jJ hk (fun i _ h=>by rw[bx (Ne.symm h),Int.zero_mul]),bD,Int.one_mul]
theorem ka{n k:Nat}(hk:k<n)(f:Nat->Int):S n (fun i=>f i*dl i k)=f k:=by
 rw[jJ hk (fun i _ h=>by rw[bx h,Int.mul_zero]),bD,Int.mul_one]
abbrev Row:=List Int
abbrev Rows:=List (List Int)
def g(A:Rows)(i j:Nat):Int:=(A.getD i []).getD j 0
structure aT(m n:Nat)(A:Rows):Prop where
 len:A.length=m
 kO:∀r∈A,r.length=n
theorem a8{α:Type}{l:List α}{i:Nat}{d:α}(h:i<l.length):l.getD i d=l[i]:=by
 rw[List.getD_eq_getElem?_getD,List.getElem?_eq_getElem h];rfl
theorem md{α:Type}{l:List α}{i:Nat}{d:α}(h:l.length<=i):l.getD i d=d:=by
 rw[List.getD_eq_getElem?_getD,List.getElem?_eq_none h];rfl
theorem zS{a b:Row}{n:Nat}(ha:a.length=n)(hb:b.length=n)(h:∀j,j<n->a.getD j 0=b.getD j 0):a=b:=by
 refine List.ext_getElem (by omega) fun i h1 h2=>?_;have:=h i (by omega);rwa [a8 h1,a8 h2]at this
theorem aT.row{m n:Nat}{A:Rows}(h:aT m n A){i:Nat}(hi:i<m):(A.getD i []).length=n:=by
 have hl:=h.len;rw[a8 (by omega)];exact h.kO _ (List.getElem_mem _)
theorem aT.ext{m n:Nat}{A B:Rows}(ha:aT m n A)(hb:aT m n B)(h:∀i j,i<m->j<n->g A i j=g B i j):A=B:=by
 have h1:=ha.len;have h2:=hb.len;refine List.ext_getElem (by omega) fun i hi hj=>?_;have e1:=ha.row (i:=i) (by omega);have e2:=hb.row (i:=i) (by omega);have:=zS e1 e2 fun j hj=>h i j (by omega) hj;rwa [a8 hi,a8 hj]at this
def iN(r:Row)(t:Int)(s:Row):Row:=List.zipWith (fun a b=>a+t*b) r s
theorem qF{r s:Row}{t:Int}(h:r.length=s.length):(iN r t s).length=r.length:=by unfold iN;simp[h]
theorem Am{r s:Row}{t:Int}(h:r.length=s.length)(j:Nat):(iN r t s).getD j 0=r.getD j 0+t*s.getD j 0:=by
 unfold iN;by_cases hj:j<r.length
 . rw[a8 (by simp;omega),a8 hj,a8 (by omega)];simp
 . rw[md (by simp;omega),md (by omega),md (by omega)];simp
def gI:Row->Rows->Row->Row
 |w::ws,r::rs,acc=>gI ws rs (iN acc w r)
 |_,_,acc=>acc
theorem wR{n:Nat}:∀ {ws:Row} {rs:Rows} {acc:Row},acc.length=n->(∀r∈rs,r.length=n)->(gI ws rs acc).length=n
 | [],_,acc,h,_=>by unfold gI;exact h
 |_::_,[],acc,h,_=>by unfold gI;exact h
 |w::ws,r::rs,acc,h,hr=>by
  unfold gI;refine wR ?_ fun r hr'=>hr r (List.mem_cons_of_mem _ hr');rw[qF (by rw[h,hr r List.mem_cons_self]),h]
theorem yQ{n:Nat}:∀ {ws:Row} {rs:Rows} {acc:Row} (j:Nat),acc.length=n->(∀r∈rs,r.length=n)->ws.length=rs.length->(gI ws rs acc).getD j 0=acc.getD j 0+S rs.length fun k=>ws.getD k 0*g rs k j
 | [],[],acc,j,h,_,_=>by unfold gI;show _=_+(0:Int);rw[Int.add_zero]
 | [],_::_,acc,j,h,_,hl=>by cases hl
 |_::_,[],acc,j,h,_,hl=>by cases hl
 |w::ws,r::rs,acc,j,h,hr,hl=>by
  have e1:acc.length=r.length:=by rw[h,hr r List.mem_cons_self]
  unfold gI;rw[yQ j (by rw[qF e1,h]) (fun r hr'=>hr r (List.mem_cons_of_mem _ hr')) (by simpa using hl),Am e1,List.length_cons,yP]
  have:(fun k=>(w::ws).getD (k+1) 0*g (r::rs) (k+1) j)=fun k=>ws.getD k 0*g rs k j:=by
   funext k;unfold g;simp
  rw[this];unfold g;simp;omega
def mulM(A B:Rows)(n:Nat):Rows:=A.map fun w=>gI w B (List.replicate n 0)
theorem f9(n j:Nat):(List.replicate n (0:Int)).getD j 0=0:=by
 by_cases h:j<n
 . rw[a8 (by simpa using h)];simp
 . rw[md (by simp;omega)]
theorem bM{m p n:Nat}{A B:Rows}(ha:aT m p A)(hb:aT p n B):aT m n (mulM A B n):=by
 refine⟨by unfold mulM;rw[List.length_map];exact ha.len,fun r hr=>?_⟩;unfold mulM at hr;obtain⟨w,_,rfl⟩:=List.mem_map.mp hr;exact wR (by simp) hb.kO
theorem map_getD{α:Type}{f:Row->List α}{A:Rows}{i:Nat}(h:i<A.length):(A.map f).getD i []=f (A.getD i []):=by
 rw[a8 (by simpa using h),a8 h];simp
theorem e_{m p n:Nat}{A B:Rows}(ha:aT m p A)(hb:aT p n B){i:Nat}(hi:i<m)(j:Nat):g (mulM A B n) i j=S p fun k=>g A i k*g B k j:=by
 have hl:=ha.len;show((mulM A B n).getD i []).getD j 0=_;unfold mulM;rw[map_getD (by omega),yQ (n:=n) j (by simp) hb.kO (by rw[ha.row hi,hb.len]),f9,Int.zero_add,hb.len];rfl
theorem eS{m p q n:Nat}{A B C:Rows}(ha:aT m p A)(hb:aT p q B)(hc:aT q n C):mulM (mulM A B q) C n=mulM A (mulM B C n) n:=by
 refine(bM (bM ha hb) hc).ext (bM ha (bM hb hc)) fun i j hi hj=>?_;rw[e_ (bM ha hb) hc hi,e_ ha (bM hb hc) hi];have e1:S q (fun k=>g (mulM A B q) i k*g C k j)=S q fun k=>S p fun l=>g A i l*g B l k*g C k j:=aE fun k _=>by rw[e_ ha hb hi,rB]
 have e2:S p (fun l=>g A i l*g (mulM B C n) l j)=S p fun l=>S q fun k=>g A i l*g B l k*g C k j:=aE fun l hl=>by
  rw[e_ hb hc hl,<-eX];exact aE fun k _=>by rw[Int.mul_assoc]
 rw[e1,e2,pY]
def jT(n i:Nat):Row:=(List.range n).map fun k=>dl k i
def units(n:Nat):Rows:=(List.range n).map fun i=>jT n i
theorem range_getD{α:Type}{f:Nat->α}{n i:Nat}{d:α}(h:i<n):((List.range n).map f).getD i d=f i:=by
 rw[a8 (by simpa using h)];simp
theorem cj(n:Nat):aT n n (units n):=⟨by simp[units],fun r hr=>by unfold units at hr;obtain⟨i,_,rfl⟩:=List.mem_map.mp hr;simp[jT]⟩
theorem cV{n i j:Nat}(hi:i<n)(hj:j<n):g (units n) i j=dl i j:=by
 unfold g units jT;rw[range_getD hi,range_getD hj];unfold dl;by_cases h:i=j
 . subst h;rfl
 . rw[if_neg (Ne.symm h),if_neg h]
theorem fw{m n:Nat}{A:Rows}(ha:aT m n A):mulM (units m) A n=A:=
 (bM (cj m) ha).ext ha fun i j hi hj=>by
   rw[e_ (cj m) ha hi];have:S m (fun k=>g (units m) i k*g A k j)=S m fun k=>dl i k*g A k j:=aE fun k hk=>by rw[cV hi hk]
   rw[this,mZ hi]
theorem zJ{m n:Nat}{A:Rows}(ha:aT m n A):mulM A (units n) n=A:=
 (bM ha (cj n)).ext ha fun i j hi hj=>by
   rw[e_ ha (cj n) hi];have:S n (fun k=>g A i k*g (units n) k j)=S n fun k=>g A i k*dl k j:=aE fun k hk=>by rw[cV hk hj]
   rw[this,ka hj]
def qp(A:Rows)(j:Nat):Row:=A.map fun r=>r.getD j 0
def bH(A:Rows)(n:Nat):Rows:=(List.range n).map fun j=>qp A j
theorem dj{m n:Nat}{A:Rows}(ha:aT m n A):aT n m (bH A n):=⟨by simp[bH],fun r hr=>by
 unfold bH at hr;obtain⟨j,_,rfl⟩:=List.mem_map.mp hr;unfold qp;rw[List.length_map,ha.len]⟩
theorem HJ{A:Rows}{i:Nat}(j:Nat)(h:i<A.length):(qp A j).getD i 0=g A i j:=by
 unfold qp g;rw[a8 (by simpa using h),a8 h];simp
theorem cK{m n:Nat}{A:Rows}(ha:aT m n A){i j:Nat}(hi:i<m)(hj:j<n):g (bH A n) j i=g A i j:=by
 show((bH A n).getD j []).getD i 0=_;unfold bH;rw[range_getD hj,HJ j (by rw[ha.len];exact hi)]
theorem Gw{m p n:Nat}{A B:Rows}(ha:aT m p A)(hb:aT p n B):bH (mulM A B n) n=mulM (bH B n) (bH A p) m:=
 (dj (bM ha hb)).ext (bM (dj hb) (dj ha)) fun i j hi hj=>by
   rw[cK (bM ha hb) hj hi,e_ ha hb hj,e_ (dj hb) (dj ha) hi];exact aE fun k hk=>by rw[cK hb hk hi,cK ha hj hk,Int.mul_comm]
def Iw:Row->Row->Int
 |a::as,b::bs=>a*b+Iw as bs
 |_,_=>0
theorem pw(i j:Nat):dl i j=dl j i:=by
 unfold dl;by_cases h:i=j
 . rw[if_pos h,if_pos h.symm]
 . rw[if_neg h,if_neg (Ne.symm h)]
def sw(i j k:Nat):Nat:=if k=i then j else if k=j then i else k
theorem M8{n i j:Nat}(hi:i<n)(hj:j<n)(hij:i≠j)(f:Nat->Int):S n (fun k=>f (sw i j k))=S n f:=by
 have:S n (fun k=>f (sw i j k))=S n fun k=>f k+(f j-f i)*dl k i+(f i-f j)*dl k j:=aE fun k _=>by
  unfold sw;by_cases h1:k=i
  . subst h1;rw[if_pos rfl,bD,bx hij];omega
  . rw[if_neg h1,bx h1];by_cases h2:k=j
    . subst h2;rw[if_pos rfl,bD];omega
    . rw[if_neg h2,bx h2];omega
 rw[this,gN,gN,ka (f:=fun _=>f j-f i) hi,ka (f:=fun _=>f i-f j) hj];omega
abbrev Fn:=Nat->Nat->Int
def sk(j c:Nat):Nat:=if c<j then c else c+1
def sg(j:Nat):Int:=if j%2=0 then 1 else-1
theorem vN(j:Nat):sg (j+1)= -sg j:=by unfold sg;split<;>split<;>omega
theorem AF:sg 0=1:=rfl
theorem lz{j c n:Nat}(h:c<n):sk j c<n+1:=by unfold sk;split<;>omega
theorem K8{j k c:Nat}(h:k<j):sk j (sk k c)=sk k (sk (j-1) c):=by unfold sk;grind
def D:Nat->Fn->Int
 |0,_=>1
 |n+1,M=>S (n+1) fun j=>sg j*M 0 j*D n fun r c=>M (r+1) (sk j c)
theorem JV(M:Fn):D 0 M=1:=rfl
theorem eA(n:Nat)(M:Fn):D (n+1) M=S (n+1) fun j=>sg j*M 0 j*D n fun r c=>M (r+1) (sk j c):=rfl
theorem dw:∀ {n:Nat} {M M':Fn},(∀r c,r<n->c<n->M r c=M' r c)->D n M=D n M'
 |0,_,_,_=>rfl
 |n+1,M,M',h=>by
  rw[eA,eA];refine aE fun j hj=>?_;have e:D n (fun r c=>M (r+1) (sk j c))=D n (fun r c=>M' (r+1) (sk j c)):=dw fun r c hr hc=>h (r+1) (sk j c) (by omega) (lz hc);rw[h 0 j (by omega) hj,e]
theorem Fz:∀ {n:Nat} {M P Q:Fn} {a b:Int} {i:Nat},i<n->(∀c,c<n->M i c=a*P i c+b*Q i c)->(∀r c,r<n->c<n->r≠i->M r c=P r c/\M r c=Q r c)->D n M=a*D n P+b*D n Q
 |0,_,_,_,_,_,_,h,_,_=>by omega
 |n+1,M,P,Q,a,b,0,_,h0,h=>by
  rw[eA,eA,eA,<-eX,<-eX,<-gN];refine aE fun j hj=>?_;have e1:D n (fun r c=>M (r+1) (sk j c))=D n (fun r c=>P (r+1) (sk j c)):=dw fun r c hr hc=>(h (r+1) (sk j c) (by omega) (lz hc) (by omega)).1;have e2:D n (fun r c=>M (r+1) (sk j c))=D n (fun r c=>Q (r+1) (sk j c)):=dw fun r c hr hc=>(h (r+1) (sk j c) (by omega) (lz hc) (by omega)).2;rw[h0 j hj,<-e1,<-e2];grind
 |n+1,M,P,Q,a,b,i+1,hi,h0,h=>by
  rw[eA,eA,eA,<-eX,<-eX,<-gN];refine aE fun j hj=>?_;have e:=Fz (n:=n) (M:=fun r c=>M (r+1) (sk j c)) (P:=fun r c=>P (r+1) (sk j c)) (Q:=fun r c=>Q (r+1) (sk j c)) (a:=a) (b:=b) (i:=i) (by omega) (fun c hc=>h0 (sk j c) (lz hc)) fun r c hr hc hne=>h (r+1) (sk j c) (by omega) (lz hc) (by omega);have p:=h 0 j (by omega) hj (by omega);rw[e,<-p.1,<-p.2];grind
theorem NO{n:Nat}{M:Fn}(h:∀c,c<n+2->M 0 c=M 1 c):D (n+2) M=0:=by
 let T:Nat->Nat->Int:=fun j k=>sg j*M 0 j*(sg k*M 1 (sk j k)*D n fun r c=>M (r+2) (sk j (sk k c)))
 have e1:∀j,j<n+2->sg j*M 0 j*D (n+1) (fun r c=>M (r+1) (sk j c))=S (n+1) fun k=>T j k:=fun j hj=>by
  rw[eA,<-eX]
 rw[eA,aE e1]
 have e2:∀j,j<n+2->S (n+1) (fun k=>T j k)=S (n+1) (fun k=>if k<j then T j k else 0)+S (n+1) (fun k=>if k<j then 0 else T j k):=fun j _=>by
  rw[<-gN];refine aE fun k _=>?_;split<;>omega
 rw[aE e2,gN]
 have e3:∀j k,j<n+2->k<n+1->¬k<j->T j k= -T (k+1) j:=fun j k hj hk hjk=>by
  have s1:sk (k+1) j=j:=by unfold sk;rw[if_pos (by omega)]
  have s2:sk j k=k+1:=by unfold sk;rw[if_neg hjk]
  have s3:(fun r c=>M (r+2) (sk (k+1) (sk j c)))=fun r c=>M (r+2) (sk j (sk k c)):=by
   funext r c;rw[K8 (show j<k+1 by omega)];rfl
  show sg j*M 0 j*(sg k*M 1 (sk j k)*D n fun r c=>M (r+2) (sk j (sk k c)))= -(sg (k+1)*M 0 (k+1)*(sg j*M 1 (sk (k+1) j)*D n fun r c=>M (r+2) (sk (k+1) (sk j c))));rw[s1,s2,s3,vN,<-h j hj,<-h (k+1) (by omega)];grind
 have e4:S (n+2) (fun j=>S (n+1) fun k=>if k<j then 0 else T j k)= -S (n+2) (fun j=>S (n+1) fun k=>if k<j then T j k else 0):=by
  rw[pY,yP (n+1) (fun j=>S (n+1) fun k=>if k<j then T j k else 0)];have z:S (n+1) (fun k=>if k<0 then T 0 k else 0)=0:=ix fun k _=>if_neg (by omega);rw[z,Int.zero_add,<-uR];refine aE fun k hk=>?_;have:S (n+2) (fun j=>if k<j then 0 else T j k)=S (n+1) (fun j=>if k<j then 0 else T j k)+(if k<n+1 then 0 else T (n+1) k):=rfl;rw[this,if_pos hk,Int.add_zero,<-uR];refine aE fun j hj=>?_;by_cases hkj:k<j
  . rw[if_pos hkj,if_neg (by omega)];rfl
  . rw[if_neg hkj,if_pos (by omega)];exact e3 j k (by omega) hk hkj
 rw[e4];omega
theorem F8:∀ {n:Nat} {M:Fn} {i:Nat},i+1<n->(∀c,c<n->M i c=M (i+1) c)->D n M=0
 |0,_,_,h,_=>by omega
 |1,_,_,h,_=>by omega
 |n+2,M,0,_,h=>NO h
 |n+2,M,i+1,hi,h=>by
  rw[eA];refine ix fun j hj=>?_;rw[F8 (n:=n+1) (M:=fun r c=>M (r+1) (sk j c)) (i:=i) (by omega) fun c hc=>h (sk j c) (lz hc),Int.mul_zero]
structure Alt(n:Nat)(φ:Fn->Int):Prop where
 cg:∀M M':Fn,(∀r c,r<n->c<n->M r c=M' r c)->φ M=φ M'
 kY:∀(i:Nat) (M P Q:Fn) (a b:Int),i<n->(∀c,c<n->M i c=a*P i c+b*Q i c)->(∀r c,r<n->c<n->r≠i->M r c=P r c/\M r c=Q r c)->φ M=a*φ P+b*φ Q
 alt:∀(i j:Nat) (M:Fn),i<n->j<n->i≠j->(∀c,c<n->M i c=M j c)->φ M=0
def upd(M:Fn)(i:Nat)(x:Nat->Int):Fn:=fun r c=>if r=i then x c else M r c
theorem cC(M:Fn)(i:Nat)(x:Nat->Int)(c:Nat):upd M i x i c=x c:=if_pos rfl
theorem ax{M:Fn}{i r:Nat}{x:Nat->Int}(h:r≠i)(c:Nat):upd M i x r c=M r c:=if_neg h
theorem MI{n i j:Nat}{φ:Fn->Int}(cg:∀M M':Fn,(∀r c,r<n->c<n->M r c=M' r c)->φ M=φ M')
 (kY:∀(i:Nat) (M P Q:Fn) (a b:Int),i<n->(∀c,c<n->M i c=a*P i c+b*Q i c)->(∀r c,r<n->c<n->r≠i->M r c=P r c/\M r c=Q r c)->φ M=a*φ P+b*φ Q)
 (hi:i<n) (hj:j<n) (hij:i≠j) (alt:∀N:Fn,(∀c,c<n->N i c=N j c)->φ N=0) (M:Fn):φ (fun r=>M (sw i j r))= -φ M:=by
 have l1:φ (upd (upd M i fun c=>M i c+M j c) j fun c=>M i c+M j c)=1*φ (upd (upd M i (M i)) j fun c=>M i c+M j c)+1*φ (upd (upd M i (M j)) j fun c=>M i c+M j c):=
  kY i _ _ _ 1 1 hi (fun c _=>by rw[ax hij,ax hij,ax hij,cC,cC,cC];omega) fun r c _ _ hr=>by
   unfold upd;grind
 have l2:∀x:Nat->Int,φ (upd (upd M i x) j fun c=>M i c+M j c)=1*φ (upd (upd M i x) j (M i))+1*φ (upd (upd M i x) j (M j)):=fun x=>
  kY j _ _ _ 1 1 hj (fun c _=>by rw[cC,cC,cC];omega) fun r c _ _ hr=>by
   rw[ax hr,ax hr,ax hr];exact⟨rfl,rfl⟩
 have z0:φ (upd (upd M i fun c=>M i c+M j c) j fun c=>M i c+M j c)=0:=alt _ fun c _=>by rw[ax hij,cC,cC]
 have z1:φ (upd (upd M i (M i)) j (M i))=0:=alt _ fun c _=>by rw[ax hij,cC,cC]
 have z2:φ (upd (upd M i (M j)) j (M j))=0:=alt _ fun c _=>by rw[ax hij,cC,cC]
 have s1:φ (upd (upd M i (M i)) j (M j))=φ M:=cg _ _ fun r c _ _=>by
  unfold upd;split
  . rename_i e;rw[e]
  . split
    . rename_i e;rw[e]
    . rfl
 have s2:φ (upd (upd M i (M j)) j (M i))=φ (fun r=>M (sw i j r)):=cg _ _ fun r c _ _=>by
  unfold upd sw;by_cases h1:r=j
  . rw[if_pos h1];by_cases h2:r=i
    . omega
    . rw[if_neg h2,if_pos h1]
  . rw[if_neg h1];by_cases h2:r=i
    . rw[if_pos h2,if_pos h2]
    . rw[if_neg h2,if_neg h2,if_neg h1]
 have a1:=l2 (M i);have a2:=l2 (M j);rw[z1,s1]at a1;rw[z2,s2]at a2;rw[z0,a1,a2]at l1;omega
theorem Alt.swap{n i j:Nat}{φ:Fn->Int}(A:Alt n φ)(hi:i<n)(hj:j<n)(hij:i≠j)(M:Fn):φ (fun r=>M (sw i j r))= -φ M:=
 MI A.cg A.kY hi hj hij (fun N h=>A.alt i j N hi hj hij h) M
theorem u9{n:Nat}{φ:Fn->Int}(cg:∀M M':Fn,(∀r c,r<n->c<n->M r c=M' r c)->φ M=φ M')
 (kY:∀(i:Nat) (M P Q:Fn) (a b:Int),i<n->(∀c,c<n->M i c=a*P i c+b*Q i c)->(∀r c,r<n->c<n->r≠i->M r c=P r c/\M r c=Q r c)->φ M=a*φ P+b*φ Q)
 (adj:∀(i:Nat) (M:Fn),i+1<n->(∀c,c<n->M i c=M (i+1) c)->φ M=0):Alt n φ:=by
 have far:∀(d i:Nat) (M:Fn),i+d+1<n->(∀c,c<n->M i c=M (i+d+1) c)->φ M=0:=by
  intro d;induction d with
  |zero=>exact fun i M h1 h2=>adj i M h1 h2
  |succ d ih=>
   intro i M h1 h2;have hs:=MI cg kY (i:=i+d+1) (j:=i+d+1+1) (by omega) (by omega) (by omega) (fun N h=>adj (i+d+1) N (by omega) h) M
   have:φ (fun r=>M (sw (i+d+1) (i+d+1+1) r))=0:=ih i _ (by omega) fun c hc=>by
    have e1:sw (i+d+1) (i+d+1+1) i=i:=by unfold sw;rw[if_neg (by omega),if_neg (by omega)]
    have e2:sw (i+d+1) (i+d+1+1) (i+d+1)=i+d+1+1:=by unfold sw;rw[if_pos rfl]
    rw[e1,e2];exact h2 c hc
   omega
 refine⟨cg,kY,fun i j M hi hj hij h=>?_⟩;by_cases hlt:i<j
 . obtain⟨d,rfl⟩:∃d,j=i+d+1:=⟨j-i-1,by omega⟩
   exact far d i M hj h
 . obtain⟨d,rfl⟩:∃d,i=j+d+1:=⟨i-j-1,by omega⟩
   exact far d j M hi fun c hc=>(h c hc).symm
theorem uQ(n:Nat):Alt n (D n):=u9 (fun _ _ h=>dw h) (fun _ _ _ _ _ _ hi h0 h=>Fz hi h0 h) fun _ _ h1 h2=>F8 h1 h2
theorem Alt.NG{n i:Nat}{φ:Fn->Int}(A:Alt n φ)(hi:i<n){M:Fn}(h:∀c,c<n->M i c=0):φ M=0:=by
 have:=A.kY i M M M 0 0 hi (fun c hc=>by rw[h c hc];rfl) fun _ _ _ _ _=>⟨rfl,rfl⟩
 omega
theorem Alt.CN{n i:Nat}{φ:Fn->Int}(A:Alt n φ)(hi:i<n)(M:Fn)(t:Int)(x:Nat->Int):φ (upd M i fun c=>t*x c)=t*φ (upd M i x):=by
 have:=A.kY i (upd M i fun c=>t*x c) (upd M i x) (upd M i x) t 0 hi (fun c hc=>by rw[cC,cC];omega) fun r c _ _ hr=>by rw[ax hr,ax hr];exact⟨rfl,rfl⟩
 omega
theorem Alt.CZ{n i:Nat}{φ:Fn->Int}(A:Alt n φ)(hi:i<n)(M:Fn)(x y:Nat->Int):φ (upd M i fun c=>x c+y c)=φ (upd M i x)+φ (upd M i y):=by
 have:=A.kY i (upd M i fun c=>x c+y c) (upd M i x) (upd M i y) 1 1 hi (fun c hc=>by rw[cC,cC,cC];omega) fun r c _ _ hr=>by rw[ax hr,ax hr,ax hr];exact⟨rfl,rfl⟩
 omega
theorem Alt.vk{n i:Nat}{φ:Fn->Int}(A:Alt n φ)(hi:i<n)(M:Fn)(a:Nat->Int)(x:Nat->Nat->Int):∀m,φ (upd M i fun c=>S m fun j=>a j*x j c)=S m fun j=>a j*φ (upd M i (x j))
 |0=>A.NG hi fun c _=>by rw[cC];rfl
 |m+1=>by
  have:(fun c=>S (m+1) fun j=>a j*x j c)=fun c=>(S m fun j=>a j*x j c)+a m*x m c:=rfl;rw[this,A.CZ hi,A.vk hi M a x m,A.CN hi];rfl
def un(j c:Nat):Nat:=if c<j then c else c-1
def grow(j:Nat)(B:Fn):Fn:=fun r c=>if r=0 then dl j c else if c=j then 0 else B (r-1) (un j c)
theorem vc{n j c:Nat}(hj:j<n+1)(hc:c<n+1)(h:c≠j):un j c<n:=by unfold un;split<;>omega
theorem AS{j c:Nat}(h:c≠j):sk j (un j c)=c:=by unfold sk un;grind
theorem Alt.grow{n j:Nat}{φ:Fn->Int}(A:Alt (n+1) φ)(hj:j<n+1):Alt n fun B=>φ (Mx.grow j B) where
 cg:=fun M M' h=>A.cg _ _ fun r c hr hc=>by
  have:=h (r-1) (un j c);have:=vc (c:=c) hj hc;unfold Mx.grow;grind
 kY:=fun i M P Q a b hi h0 h=>A.kY (i+1) _ _ _ a b (by omega) (fun c hc=>by
  have:=h0 (un j c);have:=vc (c:=c) hj hc;have e:i+1-1=i:=by omega
  unfold Mx.grow;rw[e];grind) fun r c hr hc hne=>by
  have:=h (r-1) (un j c);have:=vc (c:=c) hj hc;unfold Mx.grow;grind
 alt:=fun i k M hi hk hik h=>A.alt (i+1) (k+1) _ (by omega) (by omega) (by omega) fun c hc=>by
  have:=h (un j c);have:=vc (c:=c) hj hc;have e:i+1-1=i:=by omega
  have e2:k+1-1=k:=by omega
  unfold Mx.grow;rw[e,e2];grind
theorem Alt.units{n:Nat}{φ:Fn->Int}(A:Alt (n+1) φ):∀j,j<n+1->φ (Mx.grow j dl)=sg j*φ dl
 |0,_=>by
  rw[AF,Int.one_mul];refine A.cg _ _ fun r c hr hc=>?_;unfold Mx.grow un dl;grind
 |j+1,hj=>by
  have ih:=A.units j (by omega);have s:=A.swap (i:=0) (j:=j+1) (by omega) hj (by omega) (Mx.grow j dl);rw[vN,Int.neg_mul,<-ih,<-s];refine A.cg _ _ fun r c hr hc=>?_;unfold Mx.grow un dl sw;grind
theorem Alt.NC{n i k:Nat}{φ:Fn->Int}(A:Alt n φ)(hi:i<n)(hk:k<n)(hik:i≠k)(M:Fn)(x:Nat->Int)(t:Int):φ (upd M i fun c=>x c+t*M k c)=φ (upd M i x):=by
 rw[A.CZ hi,A.CN hi M t (M k),A.alt i k (upd M i (M k)) hi hk hik fun c _=>by rw[cC,ax (Ne.symm hik)],Int.mul_zero,Int.add_zero]
def zr(j m:Nat)(M:Fn):Fn:=fun r c=>if r=0 then dl j c else if r<=m/\c=j then 0 else M r c
theorem Alt.zr{n j:Nat}{φ:Fn->Int}(A:Alt (n+1) φ)(M:Fn):∀m,m<=n->φ (Mx.zr j m M)=φ (upd M 0 (dl j))
 |0,_=>A.cg _ _ fun r c hr hc=>by unfold Mx.zr upd;grind
 |m+1,hm=>by
  rw[<-A.zr M m (by omega)];have e:=A.NC (i:=m+1) (k:=0) (by omega) (by omega) (by omega) (Mx.zr j m M) (M (m+1)) (-M (m+1) j)
  have e1:φ (Mx.zr j (m+1) M)=φ (upd (Mx.zr j m M) (m+1) fun c=>M (m+1) c+ -M (m+1) j*Mx.zr j m M 0 c):=A.cg _ _ fun r c hr hc=>by
   unfold upd Mx.zr dl;by_cases h0:r=m+1
   . subst h0;by_cases h1:c=j
     . subst h1;simp;omega
     . have:¬j=c:=fun z=>h1 z.symm;simp[h1,this]
   . rw[if_neg h0];grind
  have e2:φ (upd (Mx.zr j m M) (m+1) (M (m+1)))=φ (Mx.zr j m M):=A.cg _ _ fun r c hr hc=>by
   unfold upd Mx.zr;grind
  rw[e1,e,e2]
theorem Bi:∀ {n:Nat} {φ:Fn->Int},Alt n φ->∀M,φ M=φ dl*D n M
 |0,φ,A,M=>by rw[JV,Int.mul_one];exact A.cg _ _ fun r c hr=>by omega
 |n+1,φ,A,M=>by
  have h1:φ M=S (n+1) fun j=>M 0 j*φ (upd M 0 (dl j)):=by
   rw[<-A.vk (by omega) M (M 0) dl (n+1)];refine A.cg _ _ fun r c hr hc=>?_;by_cases h0:r=0
   . subst h0;rw[cC,ka hc]
   . rw[ax h0]
  have h2:∀j,j<n+1->φ (upd M 0 (dl j))=φ (Mx.grow j fun r c=>M (r+1) (sk j c)):=fun j hj=>by
   rw[<-A.zr M n (Nat.le_refl _)];refine A.cg _ _ fun r c hr hc=>?_;unfold Mx.grow Mx.zr;by_cases h0:r=0
   . rw[if_pos h0,if_pos h0]
   . rw[if_neg h0,if_neg h0];by_cases h3:c=j
     . rw[if_pos ⟨by omega,h3⟩,if_pos h3]
     . rw[if_neg (by omega),if_neg h3];dsimp only;rw[AS h3,show r-1+1=r by omega]
  rw[h1,eA,<-eX];refine aE fun j hj=>?_;have h3:=Bi (A.grow hj) fun r c=>M (r+1) (sk j c);have h4:=A.units j hj;have h5:φ (Mx.grow j fun r c=>M (r+1) (sk j c))=φ (Mx.grow j dl)*D n fun r c=>M (r+1) (sk j c):=h3;rw[h2 j hj,h5,h4];grind
theorem v8:∀n,D n dl=1
 |0=>rfl
 |n+1=>by
  rw[eA,jJ (k:=0) (by omega) fun j hj h0=>by rw[bx (Ne.symm h0),Int.mul_zero,Int.zero_mul]]
  have:D n (fun r c=>dl (r+1) (sk 0 c))=D n dl:=dw fun r c _ _=>by
   unfold dl sk;grind
  rw[this,v8 n,bD];rfl
theorem A9(n:Nat)(A B:Fn):D n (fun r c=>S n fun k=>A r k*B k c)=D n A*D n B:=by
 have al:Alt n fun A=>D n (fun r c=>S n fun k=>A r k*B k c):=by
  refine⟨fun M M' h=>dw fun r c hr hc=>aE fun k hk=>by rw[h r k hr hk],fun i M P Q a b hi h0 h=>(uQ n).kY i _ _ _ a b hi (fun c hc=>?_) fun r c hr hc hne=>⟨aE fun k hk=>by rw[(h r k hr hk hne).1],aE fun k hk=>by rw[(h r k hr hk hne).2]⟩,fun i j M hi hj hij h=>(uQ n).alt i j _ hi hj hij fun c hc=>aE fun k hk=>by rw[h k hk]⟩;show(S n fun k=>M i k*B k c)=a*(S n fun k=>P i k*B k c)+b*S n fun k=>Q i k*B k c;rw[<-eX,<-eX,<-gN];refine aE fun k hk=>?_;rw[h0 k hk];grind
 have h:=Bi al A;have e:D n (fun r c=>S n fun k=>dl r k*B k c)=D n B:=dw fun r c hr hc=>mZ hr fun k=>B k c;rw[h,e,Int.mul_comm]
theorem Dd:∀ {n:Nat} {M P Q:Fn} {a b:Int} {i:Nat},i<n->(∀r,r<n->M r i=a*P r i+b*Q r i)->(∀r c,r<n->c<n->c≠i->M r c=P r c/\M r c=Q r c)->D n M=a*D n P+b*D n Q
 |0,_,_,_,_,_,_,h,_,_=>by omega
 |n+1,M,P,Q,a,b,i,hi,h0,h=>by
  rw[eA,eA,eA,<-eX,<-eX,<-gN];refine aE fun j hj=>?_;by_cases hij:j=i
  . subst hij;have hs:∀c,sk j c≠j:=fun c=>by unfold sk;split<;>omega
    have e1:D n (fun r c=>M (r+1) (sk j c))=D n (fun r c=>P (r+1) (sk j c)):=dw fun r c hr hc=>(h (r+1) (sk j c) (by omega) (lz hc) (hs c)).1;have e2:D n (fun r c=>M (r+1) (sk j c))=D n (fun r c=>Q (r+1) (sk j c)):=dw fun r c hr hc=>(h (r+1) (sk j c) (by omega) (lz hc) (hs c)).2;rw[h0 0 (by omega),<-e1,<-e2];grind
  . have p:=h 0 j (by omega) hj hij;have hu:sk j (un j i)=i:=AS (Ne.symm hij);have hs:∀c,c≠un j i->sk j c≠i:=fun c hc=>by unfold sk;unfold un at hc;grind
    have hlt:un j i<n:=vc hj hi (Ne.symm hij)
    have e:=Dd (n:=n) (M:=fun r c=>M (r+1) (sk j c)) (P:=fun r c=>P (r+1) (sk j c)) (Q:=fun r c=>Q (r+1) (sk j c)) (a:=a) (b:=b) (i:=un j i) hlt (fun r hr=>by
     rw[hu];exact h0 (r+1) (by omega)) fun r c hr hc hne=>h (r+1) (sk j c) (by omega) (lz hc) (hs c hne)
    rw[e,<-p.1,<-p.2];grind
theorem Cd:∀ {n:Nat} {M:Fn} {i:Nat},i+1<n->(∀r,r<n->M r i=M r (i+1))->D n M=0
 |0,_,_,h,_=>by omega
 |n+1,M,i,hi,h=>by
  rw[eA]
  have key:∀j,j<n+1->j≠i->j≠i+1->D n (fun r c=>M (r+1) (sk j c))=0:=fun j hj h1 h2=>by
   refine Cd (i:=un j i) (by unfold un;split<;>omega) fun r hr=>?_;have e1:sk j (un j i)=i:=AS (Ne.symm h1);have e2:sk j (un j i+1)=i+1:=by unfold sk un;grind
   rw[e1,e2];exact h (r+1) (by omega)
  have e:D n (fun r c=>M (r+1) (sk i c))=D n (fun r c=>M (r+1) (sk (i+1) c)):=dw fun r c hr hc=>by
   by_cases hc2:c=i
   . subst hc2;have a1:sk c c=c+1:=by unfold sk;rw[if_neg (by omega)]
     have a2:sk (c+1) c=c:=by unfold sk;rw[if_pos (by omega)]
     rw[a1,a2];exact(h (r+1) (by omega)).symm
   . have a1:sk i c=sk (i+1) c:=by unfold sk;grind
     rw[a1]
  have two:∀(m:Nat) (f:Nat->Int),i+1<m->(∀j,j<m->j≠i->j≠i+1->f j=0)->S m f=f i+f (i+1):=fun m=>by
   induction m with
   |zero=>intro f h;omega
   |succ m ih=>
    intro f hm hf;show S m f+f m=_;by_cases hmi:m=i+1
    . subst hmi;rw[jJ (k:=i) (by omega) fun j hj hne=>hf j (by omega) hne (by omega)]
    . rw[ih f (by omega) fun j hj h1 h2=>hf j (by omega) h1 h2,hf m (by omega) (by omega) hmi,Int.add_zero]
  rw[two (n+1) _ hi fun j hj h1 h2=>by rw[key j hj h1 h2,Int.mul_zero],e,vN,h 0 (by omega)];grind
def tr(M:Fn):Fn:=fun r c=>M c r
theorem Kq(n:Nat)(M:Fn):D n (tr M)=D n M:=by
 have al:Alt n fun A=>D n (tr A):=u9 (fun M M' h=>dw fun r c hr hc=>h c r hc hr)
  (fun i M P Q a b hi h0 h=>Dd hi (fun r hr=>h0 r hr) fun r c hr hc hne=>h c r hc hr hne)
  fun i M hi h=>Cd hi fun r hr=>h r hr
 have h:=Bi al M;have e:D n (tr dl)=D n dl:=dw fun r c _ _=>pw c r;have h2:D n (tr M)=D n (tr dl)*D n M:=h;rw[h2,e,v8,Int.one_mul]
def Pr:Nat->(Nat->Int)->Int
 |0,_=>1
 |n+1,f=>Pr n f*f n
theorem zT:∀(n:Nat) (f:Nat->Int),Pr (n+1) f=f 0*Pr n fun i=>f (i+1)
 |0,f=>by show 1*f 0=f 0*1;omega
 |n+1,f=>by
  have:Pr (n+1+1) f=Pr (n+1) f*f (n+1):=rfl;rw[this,zT n f];have:Pr (n+1) (fun i=>f (i+1))=Pr n (fun i=>f (i+1))*f (n+1):=rfl;rw[this,Int.mul_assoc]
theorem BF:∀ {n:Nat} {M:Fn},(∀r c,r<n->c<n->r<c->M r c=0)->D n M=Pr n fun i=>M i i
 |0,_,_=>rfl
 |n+1,M,h=>by
  rw[eA,jJ (k:=0) (by omega) fun j hj h0=>by rw[h 0 j (by omega) hj (by omega),Int.mul_zero,Int.zero_mul],zT,AF,Int.one_mul];have s:∀c,sk 0 c=c+1:=fun c=>by unfold sk;rw[if_neg (by omega)]
  have e:D n (fun r c=>M (r+1) (sk 0 c))=Pr n fun i=>M (i+1) (i+1):=by
   rw[BF fun r c hr hc hrc=>by rw[s];exact h (r+1) (c+1) (by omega) (by omega) (by omega)];simp only[s]
  rw[e]
theorem E1{n:Nat}{M:Fn}(h:∀r c,r<n->c<n->c<r->M r c=0):D n M=Pr n fun i=>M i i:=by
 rw[<-Kq n M,BF (M:=tr M) fun r c hr hc hrc=>h c r hc hr hrc];rfl
def gx(R:Fn)(p:Nat)(x:Nat->Int)(j:Nat):Int:=D (p+1) fun r c=>if r<p then R r (if c<p then c else j)else x (if c<p then c else j)
def bt(R:Fn)(p:Nat)(x:Nat->Int)(k:Nat):Int:=D (p+1) (upd (fun c r=>if r<p then R r c else x c) p (dl k))
def cl(p j1 j2 c:Nat):Nat:=if c<p then c else if c=p then j1 else j2
theorem xr{n:Nat}{f:Nat->Int}{m:Nat}(h:∀i,i<n->(f i).natAbs<=m):(S n f).natAbs<=n*m:=by
 induction n with
 |zero=>simp[S]
 |succ n ih=>
  have h1:=ih fun i hi=>h i (by omega);have h2:=h n (by omega);show(S n f+f n).natAbs<=_;rw[Nat.succ_mul];omega
theorem FG{m:Nat}:∀ {n:Nat} {M:Fn},n<=8->(∀r c,r<n->c<n->(M r c).natAbs<=m)->(D n M).natAbs<=(8*m)^n
 |0,_,_,_=>by simp[D]
 |n+1,M,hn,h=>by
  rw[eA]
  have key:∀j,j<n+1->(sg j*M 0 j*D n fun r c=>M (r+1) (sk j c)).natAbs<=m*(8*m)^n:=fun j hj=>by
   have a:=FG (n:=n) (M:=fun r c=>M (r+1) (sk j c)) (by omega) fun r c hr hc=>h (r+1) (sk j c) (by omega) (lz hc);have b:=h 0 j (by omega) hj;have s:(sg j).natAbs=1:=by unfold sg;split<;>rfl
   rw[Int.natAbs_mul,Int.natAbs_mul,s,Nat.one_mul];exact Nat.mul_le_mul b a
  have e:=xr key;refine Nat.le_trans e ?_;rw[Nat.pow_succ,Nat.mul_comm ((8*m)^n),Nat.mul_assoc];have:(n+1)*(m*(8*m)^n)<=8*(m*(8*m)^n):=Nat.mul_le_mul_right _ hn;exact this
def lam(G:Fn)(i j:Nat):Int:=gx G j (G i) j
def Nm(A:Rows):Fn:=fun i j=>Iw (A.getD i []) (A.getD j [])
def KW(G:Fn)(i:Nat):Row:=(List.range (i+1)).map fun j=>lam G i j
def JX(G:Fn)(n:Nat):Rows:=(List.range n).map (KW G)
def RA(A:Rows)(N:Nat):Fn:=fun i j=>if j<N then Nm A i j else(A.getD i []).getD (j-N) 0
def ev(A:Rows)(N i k c:Nat):Int:=gx (RA A N) k (RA A N i) (N+c)
theorem A_(n:Nat)(a b:Int)(f g:Nat->Int):S n (fun c=>a*f c-b*g c)=a*S n f-b*S n g:=by
 induction n with
 |zero=>show(0:Int)=a*0-b*0;omega
 |succ n ih=>
  show S n (fun c=>a*f c-b*g c)+(a*f n-b*g n)=a*(S n f+f n)-b*(S n g+g n);rw[ih,Int.mul_add,Int.mul_add];omega
section
variable {A:Rows}{N w:Nat}
end
def N1(M:Fn)(k j:Nat)(q:Int):Fn:=fun a b=>if a=k then M a b-q*M j b else M a b
def Od(M:Fn)(k j:Nat)(q:Int):Fn:=fun a b=>if b=k then M a b-q*M a j else M a b
def tk(G:Fn)(k j:Nat)(q:Int):Fn:=Od (N1 G k j q) k j q
section
variable {G:Fn}{t:Nat}(sym:∀i j,G i j=G j i)
include sym
end
section
variable {A:Rows}{N w:Nat}
theorem cU(hA:aT N w A){i:Nat}(hi:i<N):(A.getD i []).length=w:=hA.kO _ (by have:=hA.len;rw[a8 (by omega)];exact List.getElem_mem _)
end
def aP(A:Rows)(k:Nat)(q:Int)(j:Nat):Rows:=A.set k (iN (A.getD k []) (-q) (A.getD j []))
def bq(A:Rows)(k o:Nat):Rows:=(A.set k (A.getD o [])).set o (A.getD k [])
theorem l6{A:Rows}{k i:Nat}{r:Row}(hk:k<A.length):(A.set k r).getD i []=if i=k then r else A.getD i []:=by
 rw[List.getD_eq_getElem?_getD,List.getElem?_set];by_cases h:k=i
 . rw[if_pos h,if_pos (by omega),if_pos h.symm];rfl
 . rw[if_neg h,if_neg (Ne.symm h),List.getD_eq_getElem?_getD]
theorem C0{A:Rows}{k j:Nat}{q:Int}:(aP A k q j).length=A.length:=by unfold aP;rw[List.length_set]
theorem lY{A:Rows}{N w k j:Nat}{q:Int}(hA:aT N w A)(hk:k<N)(hj:j<N):aT N w (aP A k q j):=by
 refine⟨C0.trans hA.len,fun r hr=>?_⟩;unfold aP at hr;rcases List.mem_or_eq_of_mem_set hr with h|rfl
 . exact hA.kO r h
 . rw[qF (by rw[cU hA hk,cU hA hj]),cU hA hk]
structure Tn(A0 A U C:Rows)(N w:Nat):Prop where
 isA:aT N w A
 fT:aT N N U
 gq:aT N N C
 ua:∀i c,i<N->c<w->g A i c=S N fun k=>g U i k*g A0 k c
 ub:∀i j,i<N->j<N->S N (fun k=>g U i k*g C j k)=dl i j
 bu:∀i j,i<N->j<N->S N (fun k=>g C k i*g U k j)=dl i j
theorem dD{A:Rows}{N w k j:Nat}{q:Int}(hA:aT N w A)(hk:k<N)(hj:j<N)(i c:Nat):g (aP A k q j) i c=if i=k then g A k c-q*g A j c else g A i c:=by
 unfold g aP;have hl:=hA.len;rw[l6 (by omega)];by_cases h:i=k
 . rw[if_pos h,if_pos h,Am (by rw[cU hA hk,cU hA hj]),Int.neg_mul];omega
 . rw[if_neg h,if_neg h]
theorem uG(n:Nat)(a b:Int)(f h:Nat->Int):S n (fun c=>a*f c+b*h c)=a*S n f+b*S n h:=by
 rw[gN,eX,eX]
theorem Tn.take{A0 A U C:Rows}{N w k j:Nat}{q:Int}(T:Tn A0 A U C N w)(hk:k<N)(hj:j<N)(hkj:j≠k):Tn A0 (aP A k q j) (aP U k q j) (aP C j (-q) k) N w where
 isA:=lY T.isA hk hj
 fT:=lY T.fT hk hj
 gq:=lY T.gq hj hk
 ua:=fun i c hi hc=>by
  rw[dD T.isA hk hj];have e:S N (fun m=>g (aP U k q j) i m*g A0 m c)=S N fun m=>(if i=k then g U k m-q*g U j m else g U i m)*g A0 m c:=aE fun m _=>by rw[dD T.fT hk hj]
  rw[e];by_cases h:i=k
  . simp only[if_pos h];rw[T.ua k c hk hc,T.ua j c hj hc];have e2:S N (fun m=>(g U k m-q*g U j m)*g A0 m c)=S N fun m=>1*(g U k m*g A0 m c)-q*(g U j m*g A0 m c):=aE fun m _=>by grind
    rw[e2,A_];omega
  . simp only[if_neg h];exact T.ua i c hi hc
 ub:=fun i l hi hl=>by
  have e:S N (fun m=>g (aP U k q j) i m*g (aP C j (-q) k) l m)=S N fun m=>(if i=k then g U k m-q*g U j m else g U i m)*(if l=j then g C j m- -q*g C k m else g C l m):=aE fun m _=>by rw[dD T.fT hk hj,dD T.gq hj hk]
  rw[e];have djk:dl j k=0:=bx hkj;by_cases h:i=k
  . by_cases h2:l=j
    . simp only[if_pos h,if_pos h2];have e2:S N (fun m=>(g U k m-q*g U j m)*(g C j m- -q*g C k m))=S N fun m=>1*(1*(g U k m*g C j m)+q*(g U k m*g C k m))-q*(1*(g U j m*g C j m)+q*(g U j m*g C k m)):=aE fun m _=>by grind
      rw[e2,A_,uG,uG,T.ub k j hk hj,T.ub k k hk hk,T.ub j j hj hj,T.ub j k hj hk,h,h2,bD,bD,djk,pw k j,djk];omega
    . simp only[if_pos h,if_neg h2];have e2:S N (fun m=>(g U k m-q*g U j m)*g C l m)=S N fun m=>1*(g U k m*g C l m)-q*(g U j m*g C l m):=aE fun m _=>by grind
      rw[e2,A_,T.ub k l hk hl,T.ub j l hj hl,h,bx (Ne.symm h2)];omega
  . by_cases h2:l=j
    . simp only[if_neg h,if_pos h2];have e2:S N (fun m=>g U i m*(g C j m- -q*g C k m))=S N fun m=>1*(g U i m*g C j m)+q*(g U i m*g C k m):=aE fun m _=>by grind
      rw[e2,uG,T.ub i j hi hj,T.ub i k hi hk,h2,bx h];omega
    . simp only[if_neg h,if_neg h2];exact T.ub i l hi hl
 bu:=fun i l hi hl=>by
  have e:S N (fun m=>g (aP C j (-q) k) m i*g (aP U k q j) m l)=S N fun m=>g C m i*g U m l+((q*(g C k i*g U j l))*dl m j+(-(q*(g C k i*g U j l)))*dl m k):=aE fun m _=>by
   rw[dD T.fT hk hj,dD T.gq hj hk];by_cases h1:m=j
   . have h2:m≠k:=by omega
     rw[if_pos h1,if_neg h2,h1,bD,bx hkj];grind
   . rw[if_neg h1,bx h1];by_cases h2:m=k
     . rw[if_pos h2,h2,bD];grind
     . rw[if_neg h2,bx h2];grind
  rw[e,gN,uG,T.bu i l hi hl]
  have e1:S N (fun c=>dl c j)=1:=by
   rw[jJ hj fun i _ h=>bx h,bD]
  have e2:S N (fun c=>dl c k)=1:=by
   rw[jJ hk fun i _ h=>bx h,bD]
  rw[e1,e2];omega
theorem zg{A:Rows}{k o i:Nat}(hk:k<A.length)(ho:o<A.length):(bq A k o).getD i []=A.getD (sw k o i) []:=by
 unfold bq;rw[l6 (by rw[List.length_set];exact ho),l6 hk];unfold sw;by_cases h1:i=k
 . rw[if_pos h1,if_pos h1];by_cases h2:i=o
   . rw[if_pos h2,<-h1,<-h2]
   . rw[if_neg h2]
 . rw[if_neg h1,if_neg h1];by_cases h2:i=o
   . rw[if_pos h2,if_pos h2]
   . rw[if_neg h2,if_neg h2]
theorem mi{A:Rows}{N w k o:Nat}(hA:aT N w A)(hk:k<N)(ho:o<N):aT N w (bq A k o):=by
 refine⟨by unfold bq;rw[List.length_set,List.length_set];exact hA.len,fun r hr=>?_⟩;unfold bq at hr;rcases List.mem_or_eq_of_mem_set hr with h|rfl
 . rcases List.mem_or_eq_of_mem_set h with h|rfl
   . exact hA.kO r h
   . exact cU hA ho
 . exact cU hA hk
theorem i8{A:Rows}{N w k o:Nat}(hA:aT N w A)(hk:k<N)(ho:o<N)(i c:Nat):g (bq A k o) i c=g A (sw k o i) c:=by
 unfold g;rw[zg (by have:=hA.len;omega) (by have:=hA.len;omega)]
theorem nV{k o N i:Nat}(hk:k<N)(ho:o<N)(hi:i<N):sw k o i<N:=by unfold sw;split<;>(try split)<;>assumption
theorem DJ(k o x:Nat):sw k o (sw k o x)=x:=by
 unfold sw;by_cases h1:x=k
 . subst h1;rw[if_pos rfl];by_cases h2:o=x
   . rw[if_pos h2];exact h2
   . rw[if_neg h2,if_pos rfl]
 . rw[if_neg h1];by_cases h2:x=o
   . subst h2;rw[if_pos rfl,if_pos rfl]
   . rw[if_neg h2,if_neg h1,if_neg h2]
theorem LQ{k o a b:Nat}:dl (sw k o a) (sw k o b)=dl a b:=by
 by_cases h:a=b
 . rw[h,bD,bD]
 . rw[bx h,bx fun z=>h (by rw[<-DJ k o a,<-DJ k o b,z])]
theorem HB(k x:Nat):sw k k x=x:=by
 unfold sw;by_cases h:x=k
 . rw[if_pos h,h]
 . rw[if_neg h,if_neg h]
theorem K7{n i j:Nat}(hi:i<n)(hj:j<n)(f:Nat->Int):S n (fun k=>f (sw i j k))=S n f:=by
 by_cases h:i=j
 . subst h;exact aE fun k _=>by rw[HB]
 . exact M8 hi hj h f
theorem Tn.FR{A0 A U C:Rows}{N w k o:Nat}(T:Tn A0 A U C N w)(hk:k<N)(ho:o<N):Tn A0 (bq A k o) (bq U k o) (bq C k o) N w where
 isA:=mi T.isA hk ho
 fT:=mi T.fT hk ho
 gq:=mi T.gq hk ho
 ua:=fun i c hi hc=>by
  rw[i8 T.isA hk ho,T.ua _ c (nV hk ho hi) hc];exact aE fun m _=>by rw[i8 T.fT hk ho]
 ub:=fun i j hi hj=>by
  rw[<-LQ (k:=k) (o:=o),<-T.ub _ _ (nV hk ho hi) (nV hk ho hj)];exact aE fun m _=>by rw[i8 T.fT hk ho,i8 T.gq hk ho]
 bu:=fun i j hi hj=>by
  rw[<-T.bu i j hi hj,<-K7 hk ho fun m=>g C m i*g U m j];exact aE fun m _=>by rw[i8 T.fT hk ho,i8 T.gq hk ho]
def fV(A:Rows)(k:Nat):Rows:=A.set k ((A.getD k []).map fun x=> -x)
theorem pU{A:Rows}{N w k:Nat}(hA:aT N w A)(hk:k<N):aT N w (fV A k):=by
 refine⟨by unfold fV;rw[List.length_set];exact hA.len,fun r hr=>?_⟩;unfold fV at hr;rcases List.mem_or_eq_of_mem_set hr with h|rfl
 . exact hA.kO r h
 . rw[List.length_map];exact cU hA hk
theorem EK(r:Row)(c:Nat):(r.map fun x=> -x).getD c 0= -r.getD c 0:=by
 rw[List.getD_eq_getElem?_getD,List.getD_eq_getElem?_getD,List.getElem?_map];cases r[c]?<;>rfl
theorem jK{A:Rows}{N w k:Nat}(hA:aT N w A)(hk:k<N)(i c:Nat):g (fV A k) i c=if i=k then-g A k c else g A i c:=by
 unfold g fV;rw[l6 (by have:=hA.len;omega)];by_cases h:i=k
 . rw[if_pos h,if_pos h,EK]
 . rw[if_neg h,if_neg h]
theorem Tn.neg{A0 A U C:Rows}{N w k:Nat}(T:Tn A0 A U C N w)(hk:k<N):Tn A0 (fV A k) (fV U k) (fV C k) N w where
 isA:=pU T.isA hk
 fT:=pU T.fT hk
 gq:=pU T.gq hk
 ua:=fun i c hi hc=>by
  rw[jK T.isA hk];by_cases h:i=k
  . rw[if_pos h,T.ua k c hk hc,<-uR];exact aE fun m _=>by rw[jK T.fT hk,if_pos h,Int.neg_mul]
  . rw[if_neg h,T.ua i c hi hc];exact aE fun m _=>by rw[jK T.fT hk,if_neg h]
 ub:=fun i j hi hj=>by
  have e:S N (fun m=>g (fV U k) i m*g (fV C k) j m)=S N fun m=>(if i=k then-1 else 1)*(if j=k then-1 else 1)*(g U i m*g C j m):=aE fun m _=>by
   rw[jK T.fT hk,jK T.gq hk];by_cases h1:i=k<;>by_cases h2:j=k<;>simp only[h1,h2,if_true,if_false]<;>grind
  rw[e,eX,T.ub i j hi hj];by_cases h1:i=k
  . by_cases h2:j=k
    . simp[h1,h2]
    . rw[bx (by omega)];simp
  . by_cases h2:j=k
    . rw[bx (by omega)];simp
    . simp[h1,h2]
 bu:=fun i j hi hj=>by
  rw[<-T.bu i j hi hj]
  exact aE fun m _=>by
   rw[jK T.fT hk,jK T.gq hk];by_cases h:m=k
   . subst h;rw[if_pos rfl,if_pos rfl];grind
   . rw[if_neg h,if_neg h]
structure j4(A:Rows)(N top p:Nat)(L:List Nat):Prop where
 mem:∀k,k∈L↔top<=k/\k<N/\g A k p≠0
 ord:L.Pairwise fun i j=>(g A i p).natAbs<(g A j p).natAbs\/((g A i p).natAbs=(g A j p).natAbs/\i<j)
structure B3 where
 A:Rows
 U:Rows
 C:Rows
def qn(x y:Int):Int:=(2*x+y).fdiv (2*y)
def qm(b:B3)(p k j:Nat):B3:=⟨aP b.A k (qn (g b.A k p) (g b.A j p)) j,aP b.U k (qn (g b.A k p) (g b.A j p)) j,aP b.C j (-(qn (g b.A k p) (g b.A j p))) k⟩
def FP(N top p:Nat)(b c:B3):Prop:=∃(L:List Nat) (k j:Nat),j4 b.A N top p (L++[j,k])/\c=qm b p k j
inductive fC(N top p:Nat):B3->B3->Prop
 |refl (b:B3):fC N top p b b
 |head {b c d:B3} (h:FP N top p b c) (t:fC N top p c d):fC N top p b d
theorem fC.tail{N top p:Nat}{b c d:B3}(h:fC N top p b c)(t:FP N top p c d):fC N top p b d:=by
 induction h with
 |refl b=>exact .head t (.refl _)
 |head x _ ih=>exact .head x (ih t)
def gW(X:Rows)(N top m:Nat):Prop:=∀i c,top<=i->i<N->(g X i c).natAbs<=m
theorem p9{x y:Int}(hy:y≠0):2*(x-qn x y*y).natAbs<=y.natAbs:=by
 unfold qn;have h1:=Int.mul_fdiv_add_fmod (2*x+y) (2*y);have h2:(2*x+y).fmod (2*y)=2*x+y-2*y*(2*x+y).fdiv (2*y):=by omega
 generalize(2*x+y).fdiv (2*y)=q at*;have e:2*(x-q*y)=(2*x+y).fmod (2*y)-y:=by rw[h2];grind
 rcases Int.lt_or_gt_of_ne hy with h|h
 . have a0:=Int.neg_fmod_neg (2*x+y) (2*y);have a1:=Int.fmod_nonneg_of_pos (-(2*x+y)) (show 0< -(2*y) by omega);have a2:=Int.fmod_lt_of_pos (-(2*x+y)) (show 0< -(2*y) by omega);omega
 . have a1:=Int.fmod_nonneg_of_pos (2*x+y) (show 0<2*y by omega);have a2:=Int.fmod_lt_of_pos (2*x+y) (show 0<2*y by omega);omega
theorem kK{X:Rows}{k j i:Nat}{q:Int}(hk:k<X.length)(h:i≠k):(aP X k q j).getD i []=X.getD i []:=by
 unfold aP;rw[l6 hk,if_neg h]
structure qJ(A0:Rows)(N w:Nat)(b:B3)(top p:Nat)(ld:Nat->Nat)(e u:Nat):Prop where
 tn:Tn A0 b.A b.U b.C N w
 le:top<=N
 lo:gW b.A N top (2^e)/\gW b.U N top (2^e)/\gW b.C N top (2^e)
 hi:∀i c,i<top->(g b.A i c).natAbs<=2^u/\(g b.U i c).natAbs<=2^u/\(g b.C i c).natAbs<=2^u
 zs:∀i c,top<=i->i<N->c<p->g b.A i c=0
 lead:∀i,i<top->ld i<p/\0<g b.A i (ld i)/\∀c,c<ld i->g b.A i c=0
 mono:∀i j,i<j->j<top->ld i<ld j
 red:∀i j,i<j->j<top->0<=g b.A i (ld j)/\g b.A i (ld j)<g b.A j (ld j)
def setB(b:B3)(p top r:Nat):B3:=
 if g (bq b.A top r) top p<0 then⟨fV (bq b.A top r) top,fV (bq b.U top r) top,fV (bq b.C top r) top⟩else⟨bq b.A top r,bq b.U top r,bq b.C top r⟩
theorem uk{X:Rows}{N w top r m:Nat}(hX:aT N w X)(ht:top<N)(hr:r<N)(hrt:top<=r)(h:gW X N top m):gW (bq X top r) N top m:=fun i c hi hN=>by
 rw[i8 hX ht hr];refine h _ c ?_ (nV ht hr hN);unfold sw;split
 . exact hrt
 . split
   . exact Nat.le_refl _
   . exact hi
theorem yZ{X:Rows}{N w top m:Nat}(hX:aT N w X)(ht:top<N)(h:gW X N top m):gW (fV X top) N top m:=fun i c hi hN=>by
 rw[jK hX ht];split
 . rw[Int.natAbs_neg];exact h top c (Nat.le_refl _) ht
 . exact h i c hi hN
theorem t_{X:Rows}{N w top r i:Nat}(hX:aT N w X)(ht:top<N)(hr:r<N)(hrt:top<=r)(hi:i<top):(bq X top r).getD i []=X.getD i []:=by
 rw[zg (by have:=hX.len;omega) (by have:=hX.len;omega)];unfold sw;rw[if_neg (by omega),if_neg (by omega)]
theorem yb{X:Rows}{N w top i:Nat}(hX:aT N w X)(ht:top<N)(hi:i<top):(fV X top).getD i []=X.getD i []:=by
 unfold fV;rw[l6 (by have:=hX.len;omega),if_neg (by omega)]
structure uc(A0:Rows)(N w top p m:Nat)(b0 b:B3):Prop where
 tn:Tn A0 b.A b.U b.C N w
 up:∀i,i<top->b.A.getD i []=b0.A.getD i []/\b.U.getD i []=b0.U.getD i []/\b.C.getD i []=b0.C.getD i []
 lo:gW b.A N top m/\gW b.U N top m/\gW b.C N top m
 zs:∀i c,top<=i->i<N->c<p->g b.A i c=0
 tp:0<g b.A top p
 z1:∀i,top<i->i<N->g b.A i p=0
def ja(p top:Nat):Nat->B3->B3
 |0,b=>b
 |k+1,b=>
  let c:=ja p top k b
  ⟨aP c.A k ((g c.A k p).fdiv (g c.A top p)) top,aP c.U k ((g c.A k p).fdiv (g c.A top p)) top,aP c.C top (-((g c.A k p).fdiv (g c.A top p))) k⟩
theorem yz(a:Int){b:Int}(hb:0<b):(a.fdiv b).natAbs<=a.natAbs:=by
 have h1:=Int.mul_fdiv_add_fmod a b;have h2:=Int.fmod_nonneg_of_pos a hb;have h3:=Int.fmod_lt_of_pos a hb;generalize a.fdiv b=q at*;rcases Int.lt_trichotomy q 0 with h|h|h
 . have h4:0<=(b-1)*(-q-1):=Int.mul_nonneg (by omega) (by omega);have e:(b-1)*(-q-1)= -(b*q)-b+q+1:=by grind
   omega
 . subst h;simp
 . have:q<=b*q:=by
    have:0<=(b-1)*q:=Int.mul_nonneg (by omega) (by omega);grind
   omega
theorem zD{a b c:Nat}(h1:a<=2^c)(h2:b<=2^c):a+b<=2^(c+1):=by rw[Nat.pow_succ];omega
theorem Tn.start{A:Rows}{N w:Nat}(hA:aT N w A):Tn A A (units N) (units N) N w where
 isA:=hA
 fT:=cj N
 gq:=cj N
 ua:=fun i c hi hc=>by
  rw[<-mZ hi fun k=>g A k c];exact aE fun m hm=>by rw[cV hi hm]
 ub:=fun i j hi hj=>by
  rw[pw i j,<-mZ hi fun k=>dl j k]
  . exact aE fun m hm=>by rw[cV hi hm,cV hj hm]
 bu:=fun i j hi hj=>by
  rw[<-ka hi fun k=>dl k j];exact aE fun m hm=>by rw[cV hm hi,cV hm hj,Int.mul_comm]
theorem qJ.start{A:Rows}{N w e:Nat}(hA:aT N w A)(h:gW A N 0 (2^e)):qJ A N w ⟨A,units N,units N⟩ 0 0 (fun _=>0) e 0:=by
 have hu:gW (units N) N 0 (2^e):=fun i c _ hi=>by
  by_cases hc:c<N
  . rw[cV hi hc];unfold dl;split
    . exact Nat.one_le_two_pow
    . exact Nat.zero_le _
  . unfold g;rw[md (l:=(units N).getD i []) (by rw[cU (cj N) hi];omega)];exact Nat.zero_le _
 exact⟨Tn.start hA,Nat.zero_le _,⟨h,hu,hu⟩,fun _ _ h=>absurd h (Nat.not_lt_zero _),fun _ _ _ _ h=>absurd h (Nat.not_lt_zero _),fun _ h=>absurd h (Nat.not_lt_zero _),fun _ _ _ h=>absurd h (Nat.not_lt_zero _),fun _ _ _ h=>absurd h (Nat.not_lt_zero _)⟩
def SU(f:Nat->Nat):Nat->Nat
 |0=>0
 |n+1=>SU f n+f n
theorem xD{f f':Nat->Nat}:∀ {n:Nat},(∀i,i<n->f' i<=f i)->SU f' n<=SU f n
 |0,_=>Nat.le_refl _
 |n+1,h=>Nat.add_le_add (xD fun i hi=>h i (Nat.lt_succ_of_lt hi)) (h n (Nat.lt_succ_self n))
theorem FC{f f':Nat->Nat}{k:Nat}(hlt:f' k<f k):∀ {n:Nat},k<n->(∀i,i<n->f' i<=f i)->SU f' n<SU f n
 |0,hk,_=>absurd hk (Nat.not_lt_zero _)
 |n+1,hk,h=>by
  by_cases e:k=n
  . subst e;exact Nat.add_lt_add_of_le_of_lt (xD fun i hi=>h i (Nat.lt_succ_of_lt hi)) hlt
  . exact Nat.add_lt_add_of_lt_of_le (FC hlt (by omega) fun i hi=>h i (Nat.lt_succ_of_lt hi)) (h n (Nat.lt_succ_self n))
def mu(A:Rows)(N p:Nat):Nat:=SU (fun i=>(g A i p).natAbs) N
inductive Je(N p:Nat):Nat->B3->Nat->B3->Prop
 |none {top:Nat} {b:B3} (h:j4 b.A N top p []):Je N p top b top b
 |one {top r:Nat} {b c:B3} (h:fC N top p b c) (l:j4 c.A N top p [r]):Je N p top b (top+1) (ja p top top (setB c p top r))
inductive eM(A:Rows)(N:Nat):Nat->Nat->B3->Prop
 |start:eM A N 0 0 ⟨A,units N,units N⟩
 |next {p t t':Nat} {b b':B3} (h:eM A N p t b) (c:Je N p t b t' b'):eM A N (p+1) t' b'
def bE(X:Rows)(n w:Nat)(v:Nat->Int):Prop:=∃z:Nat->Int,∀c,c<w->v c=S n fun k=>z k*g X k c
theorem bE.row{X:Rows}{n w k:Nat}(hk:k<n):bE X n w (g X k):=⟨fun i=>dl k i,fun c _=>(mZ hk fun i=>g X i c).symm⟩
theorem bE.sub{X:Rows}{n w:Nat}{u v:Nat->Int}(hu:bE X n w u)(hv:bE X n w v):bE X n w fun c=>u c-v c:=by
 obtain⟨y,hy⟩:=hu;obtain⟨z,hz⟩:=hv;refine⟨fun k=>y k-z k,fun c hc=>?_⟩;show u c-v c=S n fun k=>(y k-z k)*g X k c;rw[hy c hc,hz c hc,Int.sub_eq_add_neg,<-uR,<-gN];exact aE fun k _=>by rw[Int.sub_mul,Int.sub_eq_add_neg]
theorem bE.trans{X Y:Rows}{m n w:Nat}{v:Nat->Int}(h:∀k,k<m->bE Y n w (g X k))(hv:bE X m w v):bE Y n w v:=by
 obtain⟨z,hz⟩:=hv
 have h':∀k,∃y:Nat->Int,k<m->∀c,c<w->g X k c=S n fun i=>y i*g Y i c:=fun k=>by
  by_cases hk:k<m
  . obtain⟨y,hy⟩:=h k hk;exact⟨y,fun _=>hy⟩
  . exact⟨fun _=>0,fun h=>absurd h hk⟩
 refine⟨fun i=>S m fun k=>z k*Classical.choose (h' k) i,fun c hc=>?_⟩;rw[hz c hc]
 have e1:S m (fun k=>z k*g X k c)=S m fun k=>S n fun i=>z k*Classical.choose (h' k) i*g Y i c:=aE fun k hk=>by
  rw[Classical.choose_spec (h' k) hk c hc,<-eX];exact aE fun i _=>(Int.mul_assoc _ _ _).symm
 rw[e1,pY];exact aE fun i _=>rB _ _ _
structure ft(X:Rows)(n w:Nat)(ld:Nat->Nat):Prop where
 lead:∀i,i<n->ld i<w/\0<g X i (ld i)/\∀c,c<ld i->g X i c=0
 mono:∀i j,i<j->j<n->ld i<ld j
theorem ft.inj{X:Rows}{n w:Nat}{ld:Nat->Nat}(s:ft X n w ld){i j:Nat}(hi:i<n)(hj:j<n)(h:ld i=ld j):i=j:=by
 rcases Nat.lt_trichotomy i j with q|q|q
 . exact absurd h (Nat.ne_of_lt (s.mono i j q hj))
 . exact q
 . exact absurd h.symm (Nat.ne_of_lt (s.mono j i q hi))
theorem ft.gone{X:Rows}{n w q:Nat}{ld:Nat->Nat}{v z:Nat->Int}(s:ft X n w ld)(hz:∀c,c<w->v c=S n fun k=>z k*g X k c)(h0:∀c,c<q->v c=0)(k:Nat):k<n->ld k<q->z k=0:=by
 induction k using Nat.strongRecOn with
 |ind k ih=>
  intro hk hq;obtain⟨h1,h2,h3⟩:=s.lead k hk;have e:=hz (ld k) h1;rw[h0 _ hq,jJ hk fun i hi ne=>?_]at e
  . exact(Int.mul_eq_zero.mp e.symm).resolve_right (Int.ne_of_gt h2)
  . rcases Nat.lt_or_gt_of_ne ne with l|l
    . rw[ih i l hi (Nat.lt_trans (s.mono i k l hk) hq),Int.zero_mul]
    . rw[(s.lead i hi).2.2 _ (s.mono k i l hi),Int.mul_zero]
theorem ft.at{X:Rows}{n w q:Nat}{ld:Nat->Nat}{v:Nat->Int}(s:ft X n w ld)(hv:bE X n w v)(hq:q<w)(h0:∀c,c<q->v c=0):(∃i,i<n/\ld i=q/\g X i q∣v q)\/v q=0:=by
 obtain⟨z,hz⟩:=hv
 have go:∀k,k<n->ld k≠q->z k*g X k q=0:=fun k hk ne=>by
  rcases Nat.lt_or_gt_of_ne ne with l|l
  . rw[s.gone hz h0 k hk l,Int.zero_mul]
  . rw[(s.lead k hk).2.2 _ l,Int.mul_zero]
 by_cases h:∃i,i<n/\ld i=q
 . obtain⟨i,hi,e⟩:=h;refine .inl ⟨i,hi,e,z i,?_⟩;rw[hz q hq,jJ hi fun k hk ne=>go k hk fun z=>ne (s.inj hk hi (z.trans e.symm)),Int.mul_comm]
 . refine .inr ?_;rw[hz q hq];exact ix fun k hk=>go k hk fun e=>h ⟨k,hk,e⟩
def Fd(X:Rows)(n:Nat)(ld:Nat->Nat):Prop:=∀i j,i<j->j<n->0<=g X i (ld j)/\g X i (ld j)<g X j (ld j)
theorem uc.Gg{A0:Rows}{N w top p m:Nat}{b0 b:B3}(s:uc A0 N w top p m b0 b){i:Nat}(hi:i<top)(q:Nat):g b.A i q=g b0.A i q/\g b.U i q=g b0.U i q/\g b.C i q=g b0.C i q:=by
 obtain⟨a1,a2,a3⟩:=s.up i hi;unfold g;rw[a1,a2,a3];exact⟨rfl,rfl,rfl⟩
def Sm(b:B3)(N m:Nat):Prop:=∀i c,i<N->(g b.A i c).natAbs<=m/\(g b.U i c).natAbs<=m/\(g b.C i c).natAbs<=m
structure Ba(N p t z:Nat)(b:B3):Prop where
 ga:∀c,fC N t p b c->Sm c N (2^z)
 lo:∀c r k,fC N t p b c->j4 c.A N t p [r]->k<=t->Sm (ja p t k (setB c p t r)) N (2^z)
theorem L_{x y:Int}(hy:y≠0):(qn x y).natAbs<=x.natAbs+y.natAbs:=by
 have h:=p9 (x:=x) hy;have h2:(qn x y*y).natAbs=(qn x y).natAbs*y.natAbs:=Int.natAbs_mul _ _;have h3:(qn x y).natAbs<=(qn x y).natAbs*y.natAbs:=Nat.le_mul_of_pos_right _ (Int.natAbs_pos.mpr hy);generalize qn x y*y=t at h h2;omega
def nl(A:Rows)(N t p:Nat):Nat:=SU (fun i=>if t<=i/\g A i p≠0 then 1 else 0) N
theorem Bz{n:Nat}{f:Nat->Int}:∀ {N:Nat},n<=N->(∀i,n<=i->i<N->f i=0)->S N f=S n f
 |0,h,_=>by rw[Nat.le_zero.mp h]
 |N+1,h,z=>by
  by_cases e:n=N+1
  . rw[e]
  . have hn:n<=N:=by omega
    show S N f+f N=_;rw[z N hn (Nat.lt_succ_self N),Int.add_zero];exact Bz hn fun i h1 h2=>z i h1 (Nat.lt_succ_of_lt h2)
theorem qJ.in{A:Rows}{N w top e u:Nat}{c:B3}{ld:Nat->Nat}(s:qJ A N w c top w ld e u)(k:Nat)(hk:k<top):bE A N w (g c.A k):=
 ⟨g c.U k,fun q hq=>s.tn.ua k q (Nat.lt_of_lt_of_le hk s.le) hq⟩
theorem qJ.out{A:Rows}{N w top e u:Nat}{c:B3}{ld:Nat->Nat}(s:qJ A N w c top w ld e u)(k:Nat)(hk:k<N):bE c.A top w (g A k):=by
 refine⟨fun i=>g c.C i k,fun q hq=>?_⟩
 have e1:S N (fun i=>g c.C i k*g c.A i q)=g A k q:=by
  have:S N (fun i=>g c.C i k*g c.A i q)=S N fun i=>S N fun j=>g c.C i k*g c.U i j*g A j q:=aE fun i hi=>by
   rw[s.tn.ua i q hi hq,<-eX];exact aE fun j _=>(Int.mul_assoc _ _ _).symm
  rw[this,pY]
  have e2:S N (fun j=>S N fun i=>g c.C i k*g c.U i j*g A j q)=S N fun j=>dl k j*g A j q:=aE fun j hj=>by
   rw[rB,s.tn.bu k j hk hj]
  rw[e2,mZ hk fun j=>g A j q]
 rw[<-e1];exact Bz s.le fun i h1 h2=>by rw[s.zs i q h1 h2 hq,Int.mul_zero]
theorem bE.NP{X:Rows}{n w:Nat}{u v:Nat->Int}(x:Int)(hu:bE X n w u)(hv:bE X n w v):bE X n w fun c=>u c+x*v c:=by
 obtain⟨y,hy⟩:=hu;obtain⟨z,hz⟩:=hv;refine⟨fun k=>y k+x*z k,fun c hc=>?_⟩;show u c+x*v c=S n fun k=>(y k+x*z k)*g X k c;rw[hy c hc,hz c hc,<-eX,<-gN];exact aE fun k _=>by rw[Int.add_mul,Int.mul_assoc]
theorem bE.eq{X:Rows}{n w:Nat}{u v:Nat->Int}(hu:bE X n w u)(h:∀c,c<w->v c=u c):bE X n w v:=by
 obtain⟨y,hy⟩:=hu;exact⟨y,fun c hc=>(h c hc).trans (hy c hc)⟩
structure vi(X:Rows)(n:Nat)(Y:Rows)(m w:Nat):Prop where
 to:∀k,k<n->bE Y m w (g X k)
 of:∀k,k<m->bE X n w (g Y k)
theorem bE.zero{X:Rows}{n w:Nat}{v:Nat->Int}(h:∀c,c<w->v c=0):bE X n w v:=
 ⟨fun _=>0,fun c hc=>by rw[h c hc,ix fun k _=>Int.zero_mul _]⟩
theorem qJ.AW{A:Rows}{N w top e u:Nat}{c:B3}{ld:Nat->Nat}(s:qJ A N w c top w ld e u):vi A N c.A top w:=⟨s.out,s.in⟩
theorem Di{K m:Nat}:∀ {n:Nat} {M:Fn},n<=K->(∀r c,r<n->c<n->(M r c).natAbs<=m)->(D n M).natAbs<=(K*m)^n
 |0,_,_,_=>by simp[D]
 |n+1,M,hn,h=>by
  rw[eA]
  have key:∀j,j<n+1->(sg j*M 0 j*D n fun r c=>M (r+1) (sk j c)).natAbs<=m*(K*m)^n:=fun j hj=>by
   have a:=Di (K:=K) (m:=m) (n:=n) (M:=fun r c=>M (r+1) (sk j c)) (by omega) fun r c hr hc=>h (r+1) (sk j c) (by omega) (lz hc);have b:=h 0 j (by omega) hj;have s:(sg j).natAbs=1:=by unfold sg;split<;>rfl
   rw[Int.natAbs_mul,Int.natAbs_mul,s,Nat.one_mul];exact Nat.mul_le_mul b a
  refine Nat.le_trans (xr key) ?_;rw[Nat.pow_succ,Nat.mul_comm ((K*m)^n),Nat.mul_assoc];exact Nat.mul_le_mul_right _ hn
theorem pick{t N:Nat}{U B:Fn}(h:∀k l,k<t->l<t->S N (fun i=>U k i*B i l)=dl k l):∃I:Nat->Nat,(∀k,k<t->I k<N)/\D t (fun k l=>B (I k) l)≠0:=by
 apply Classical.byContradiction;intro no
 have go:∀s,s<=t->∀I:Nat->Nat,(∀k,k<t->s<=k->I k<N)->D t (fun k l=>if k<s then dl k l else B (I k) l)=0:=by
  intro s;induction s with
  |zero=>
   intro _ I hI;exact Classical.byContradiction fun z=>no ⟨I,fun k hk=>hI k hk (Nat.zero_le _),z⟩
  |succ s ih=>
   intro hs I hI
   have e:D t (fun k l=>if k<s+1 then dl k l else B (I k) l)=D t (upd (fun k l=>if k<s then dl k l else B (I k) l) s fun l=>S N fun j=>U s j*B j l):=dw fun k l hk hl=>by
    unfold upd;by_cases h1:k=s
    . subst h1;rw[if_pos rfl,if_pos (Nat.lt_succ_self _)];exact(h k l hk hl).symm
    . rw[if_neg h1];show _=if k<s then dl k l else B (I k) l
      by_cases h2:k<s
      . rw[if_pos (by omega),if_pos h2]
      . rw[if_neg (by omega),if_neg h2]
   rw[e,(uQ t).vk (by omega)];refine ix fun j hj=>?_
   have e2:=ih (by omega) (fun k=>if k=s then j else I k) fun k hk hsk=>by
    by_cases h1:k=s
    . rw[if_pos h1];exact hj
    . rw[if_neg h1];exact hI k hk (by omega)
   have e3:D t (upd (fun k l=>if k<s then dl k l else B (I k) l) s (B j))=D t (fun k l=>if k<s then dl k l else B (if k=s then j else I k) l):=dw fun k l hk hl=>by
    unfold upd;by_cases h1:k=s
    . subst h1;rw[if_pos rfl,if_neg (Nat.lt_irrefl _),if_pos rfl]
    . rw[if_neg h1,if_neg h1]
   rw[e3,e2,Int.mul_zero]
 have z:=go t (Nat.le_refl _) (fun _=>0) fun k h1 h2=>absurd h1 (Nat.not_lt.mpr h2);rw[dw (M':=dl) fun r c hr hc=>if_pos hr,v8]at z;exact absurd z (by decide)
theorem mQ:∀ {n:Nat} {f:Nat->Int},(∀i,i<n->0<f i)->0<Pr n f
 |0,_,_=>show(0:Int)<1 by decide
 |n+1,f,h=>Int.mul_pos (mQ fun i hi=>h i (Nat.lt_succ_of_lt hi)) (h n (Nat.lt_succ_self n))
theorem xB:∀ {n:Nat} {f:Nat->Int},(∀i,i<n->0<f i)->∀k,k<n->f k<=Pr n f
 |n+1,f,h,k,hk=>by
  have p:=mQ fun i hi=>h i (Nat.lt_succ_of_lt hi);have q:=h n (Nat.lt_succ_self n);show f k<=Pr n f*f n;by_cases e:k=n
  . subst e;have:=Int.mul_le_mul_of_nonneg_right (show(1:Int)<=Pr k f from p) (Int.le_of_lt q);omega
  . have a:=xB (fun i hi=>h i (Nat.lt_succ_of_lt hi)) k (by omega);have:=Int.mul_le_mul_of_nonneg_left (show(1:Int)<=f n from q) (Int.le_of_lt p);omega
theorem BQ{w x:Int}{m:Nat}(hw:w≠0)(h:(w*x).natAbs<=m):x.natAbs<=m:=by
 rw[Int.natAbs_mul]at h;exact Nat.le_trans (Nat.le_mul_of_pos_left _ (by omega)) h
theorem qJ.back{A0:Rows}{N w top e u:Nat}{c:B3}{ld:Nat->Nat}(H:qJ A0 N w c top w ld e u){i q:Nat}(hi:i<N)(hq:q<w):g A0 i q=S top fun k=>g c.C k i*g c.A k q:=by
 have T:=H.tn
 have e1:S N (fun k=>g c.C k i*g c.A k q)=g A0 i q:=by
  have:S N (fun k=>g c.C k i*g c.A k q)=S N fun k=>S N fun m=>g c.C k i*g c.U k m*g A0 m q:=aE fun k hk=>by
   rw[T.ua k q hk hq,<-eX];exact aE fun m _=>(Int.mul_assoc _ _ _).symm
  rw[this,pY];have:(S N fun m=>S N fun k=>g c.C k i*g c.U k m*g A0 m q)=S N fun m=>dl i m*g A0 m q:=aE fun m hm=>by rw[rB,T.bu i m hi hm]
  rw[this,mZ hi]
 have cut:∀n,top<=n->n<=N->S n (fun k=>g c.C k i*g c.A k q)=S top fun k=>g c.C k i*g c.A k q:=fun n=>by
  induction n with
  |zero=>intro h _;rw[Nat.le_zero.mp h]
  |succ n ih=>
   intro h h2;by_cases e:top=n+1
   . rw[e]
   . show S n _+g c.C n i*g c.A n q=_;rw[ih (by omega) (by omega),H.zs n q (by omega) (by omega) hq,Int.mul_zero,Int.add_zero]
 rw[<-e1,cut N H.le (Nat.le_refl _)]
structure ff(A0:Rows)(N w:Nat)(b:B3)(top p:Nat)(ld:Nat->Nat)(e u v:Nat):Prop where
 tn:Tn A0 b.A b.U b.C N w
 le:top<=N
 lo:gW b.A N top (2^e)/\gW b.U N top (2^e)/\gW b.C N top (2^e)
 hi:∀i c,i<top->(g b.A i c).natAbs<=2^u/\(g b.U i c).natAbs<=2^u/\(g b.C i c).natAbs<=2^v
 zs:∀i c,top<=i->i<N->c<p->g b.A i c=0
 lead:∀i,i<top->ld i<p/\0<g b.A i (ld i)/\∀c,c<ld i->g b.A i c=0
 mono:∀i j,i<j->j<top->ld i<ld j
 red:∀i j,i<j->j<top->0<=g b.A i (ld j)/\g b.A i (ld j)<g b.A j (ld j)
theorem ff.skip{A0:Rows}{N w top p e u v:Nat}{b:B3}{ld:Nat->Nat}(S:ff A0 N w b top p ld e u v)(h:j4 b.A N top p []):ff A0 N w b top (p+1) ld e u v:=
 ⟨S.tn,S.le,S.lo,S.hi,fun i c h1 h2 h3=>by
  by_cases hc:c=p
  . subst hc;exact Classical.byContradiction fun z=>absurd ((h.mem i).mpr ⟨h1,h2,z⟩) (by simp)
  . exact S.zs i c h1 h2 (by omega),fun i hi=>⟨Nat.lt_succ_of_lt (S.lead i hi).1,(S.lead i hi).2⟩,S.mono,S.red⟩
structure mD(A0:Rows)(N w top p e u v:Nat)(b:B3)(k:Nat)(c:B3):Prop where
 tn:Tn A0 c.A c.U c.C N w
 rA:∀i,k<=i->c.A.getD i []=b.A.getD i []/\c.U.getD i []=b.U.getD i []
 rC:∀i,i≠top->c.C.getD i []=b.C.getD i []
 ah:∀i q,i<k->q<p->g c.A i q=g b.A i q
 rd:∀i,i<k->0<=g c.A i p/\g c.A i p<g c.A top p
 sz:∀i q,i<k->(g c.A i q).natAbs<=2^(u+e+1)/\(g c.U i q).natAbs<=2^(u+e+1)
 sC:∀q,(g c.C top q).natAbs<=2^e+k*2^(u+v)
theorem mD.step{A0:Rows}{N w top p e u v k:Nat}{b c:B3}(I:mD A0 N w top p e u v b k c)(hk:k<top)(ht:top<N)(hp:p<w)(htp:0<g b.A top p)(hz:∀q,q<p->g b.A top q=0)
 (hlo:∀q,(g b.A top q).natAbs<=2^e/\(g b.U top q).natAbs<=2^e) (hhi:∀i q,i<top->(g b.A i q).natAbs<=2^u/\(g b.U i q).natAbs<=2^u/\(g b.C i q).natAbs<=2^v):
 mD A0 N w top p e u v b (k+1) ⟨aP c.A k ((g c.A k p).fdiv (g c.A top p)) top,aP c.U k ((g c.A k p).fdiv (g c.A top p)) top,aP c.C top (-((g c.A k p).fdiv (g c.A top p))) k⟩:=by
 have hkN:k<N:=by omega
 have gA:∀i q,k<=i->g c.A i q=g b.A i q:=fun i q hi=>by unfold g;rw[(I.rA i hi).1]
 have gU:∀i q,k<=i->g c.U i q=g b.U i q:=fun i q hi=>by unfold g;rw[(I.rA i hi).2]
 have gC:∀i q,i≠top->g c.C i q=g b.C i q:=fun i q hi=>by unfold g;rw[I.rC i hi]
 have qe:((g c.A k p).fdiv (g c.A top p)).natAbs<=2^u:=by
  rw[gA k p (Nat.le_refl _),gA top p (by omega)];exact Nat.le_trans (yz _ htp) (hhi k p hk).1
 have hq:∀x:Int,x.natAbs<=2^e->((g c.A k p).fdiv (g c.A top p)*x).natAbs<=2^(u+e):=fun x hx=>by
  rw[Int.natAbs_mul,Nat.pow_add];exact Nat.mul_le_mul qe hx
 have le1:2^u<=2^(u+e):=Nat.pow_le_pow_right (by decide) (by omega);refine⟨I.tn.take hkN ht (by omega),fun i hi=>?_,fun i hi=>?_,fun i q hi hqp=>?_,fun i hi=>?_,fun i q hi=>?_,fun q=>?_⟩
 . exact⟨(kK (by rw[I.tn.isA.len];exact hkN) (by omega)).trans (I.rA i (by omega)).1,(kK (by rw[I.tn.fT.len];exact hkN) (by omega)).trans (I.rA i (by omega)).2⟩
 . exact(kK (by rw[I.tn.gq.len];exact ht) hi).trans (I.rC i hi)
 . show g (aP c.A k _ top) i q=_;rw[dD I.tn.isA hkN ht];split
   . rename_i h;rw[gA top q (by omega),hz q hqp,Int.mul_zero,gA k q (Nat.le_refl _),h];omega
   . exact I.ah i q (by omega) hqp
 . show 0<=g (aP c.A k _ top) i p/\g (aP c.A k _ top) i p<g (aP c.A k _ top) top p;rw[dD I.tn.isA hkN ht,dD I.tn.isA hkN ht,if_neg (show¬top=k by omega)];split
   . have h1:=Int.mul_fdiv_add_fmod (g c.A k p) (g c.A top p);have htp':0<g c.A top p:=by rw[gA top p (by omega)];exact htp
     have h2:=Int.fmod_nonneg_of_pos (g c.A k p) htp';have h3:=Int.fmod_lt_of_pos (g c.A k p) htp';rw[Int.mul_comm]at h1;omega
   . exact I.rd i (by omega)
 . show(g (aP c.A k _ top) i q).natAbs<=_/\(g (aP c.U k _ top) i q).natAbs<=_;rw[dD I.tn.isA hkN ht,dD I.tn.fT hkN ht];split
   . have a1:=hq (g c.A top q) (by rw[gA top q (by omega)];exact(hlo q).1);have a2:=hq (g c.U top q) (by rw[gU top q (by omega)];exact(hlo q).2);rw[gA k q (Nat.le_refl _),gU k q (Nat.le_refl _)];have b1:=(hhi k q hk).1;have b2:=(hhi k q hk).2.1;rw[Nat.pow_succ];omega
   . exact I.sz i q (by omega)
 . show(g (aP c.C top _ k) top q).natAbs<=_;rw[dD I.tn.gq ht hkN,if_pos rfl,gC k q (by omega),Int.neg_mul];have a1:=I.sC q
   have a2:((g c.A k p).fdiv (g c.A top p)*g b.C k q).natAbs<=2^(u+v):=by
    rw[Int.natAbs_mul,Nat.pow_add];exact Nat.mul_le_mul qe (hhi k q hk).2.2
   rw[Nat.add_mul,Nat.one_mul];omega
theorem mD.start{A0:Rows}{N w top p e u v:Nat}{b:B3}(T:Tn A0 b.A b.U b.C N w)(h:∀q,(g b.C top q).natAbs<=2^e):mD A0 N w top p e u v b 0 b:=
 ⟨T,fun _ _=>⟨rfl,rfl⟩,fun _ _=>rfl,fun _ _ h=>absurd h (Nat.not_lt_zero _),fun _ h=>absurd h (Nat.not_lt_zero _),fun _ _ h=>absurd h (Nat.not_lt_zero _),fun q=>by rw[Nat.zero_mul];exact h q⟩
theorem ff.start{A:Rows}{N w e:Nat}(hA:aT N w A)(h:gW A N 0 (2^e)):ff A N w ⟨A,units N,units N⟩ 0 0 (fun _=>0) e 0 0:=by
 have S:=qJ.start hA h;exact⟨S.tn,S.le,S.lo,S.hi,S.zs,S.lead,S.mono,S.red⟩
theorem ff.Dn{A0:Rows}{N w top p e u v:Nat}{b:B3}{ld:Nat->Nat}(S:ff A0 N w b top p ld e u v):qJ A0 N w b top p ld e (u+v):=
 ⟨S.tn,S.le,S.lo,fun i c hi=>⟨Nat.le_trans (S.hi i c hi).1 (Nat.pow_le_pow_right (by decide) (by omega)),Nat.le_trans (S.hi i c hi).2.1 (Nat.pow_le_pow_right (by decide) (by omega)),Nat.le_trans (S.hi i c hi).2.2 (Nat.pow_le_pow_right (by decide) (by omega))⟩,S.zs,S.lead,S.mono,S.red⟩
theorem pE{X:Rows}{r:Row}{k:Nat}(hk:k<=X.length)(i:Nat):(X.take k++r::X.drop k).getD i []=if i<k then X.getD i []else if i=k then r else X.getD (i-1) []:=by
 have lt:(X.take k).length=k:=by rw[List.length_take];omega
 rw[List.getD_eq_getElem?_getD,List.getD_eq_getElem?_getD,List.getD_eq_getElem?_getD];by_cases h:i<k
 . rw[if_pos h,List.getElem?_append_left (by rw[lt];exact h),List.getElem?_take_of_lt h]
 . rw[if_neg h,List.getElem?_append_right (by rw[lt];omega),lt];by_cases h2:i=k
   . rw[if_pos h2,h2,Nat.sub_self];rfl
   . rw[if_neg h2];have:i-k=(i-1-k)+1:=by omega
     rw[this,List.getElem?_cons_succ,List.getElem?_drop];congr 2;omega
theorem bE.smul{X:Rows}{n w:Nat}{v:Nat->Int}(x:Int)(h:bE X n w v):bE X n w fun c=>x*v c:=
 ((bE.zero (v:=fun _=>0) fun _ _=>rfl).NP x h).eq fun c _=>(Int.zero_add _).symm
structure qR(F:Rows)(w:Nat)(ld:Nat->Nat)(row:Nat->Int)(i:Nat)(o:Int)(L:Nat->Int):Prop where
 pos:0<o
 sum:bE F i w fun c=>o*row c-L c
 off:∀k,k<i->L (ld k)=0
 least:∀(m:Int) (v:Nat->Int),bE F i w v->(∀k,k<i->m*row (ld k)=v (ld k))->o∣m
theorem ft.LW{F:Rows}{n w:Nat}{ld:Nat->Nat}{v:Nat->Int}(s:ft F n w ld)(hv:bE F n w v)(h:∀k,k<n->0<=v (ld k)/\v (ld k)<g F k (ld k))(c:Nat):c<w->v c=0:=by
 induction c using Nat.strongRecOn with
 |ind c ih=>
  intro hc;rcases s.at hv hc fun d hd=>ih d hd (Nat.lt_trans hd hc)with⟨k,hk,rfl,d⟩|q
  . have:=h k hk;exact Int.eq_zero_of_dvd_of_natAbs_lt_natAbs d (by omega)
  . exact q
def Fu(F:Rows)(i:Nat):Nat:=(F.getD i []).findIdx (fun x=>x != 0)
section
variable {F:Rows}{r:Row}{m w:Nat}(isF:aT m w F)(lr:r.length=w)
include isF lr
end
theorem vG(a:Nat)(f:Nat->Int):∀b,S (a+b) f=S a f+S b fun i=>f (a+i)
 |0=>(Int.add_zero _).symm
 |b+1=>by
  show S (a+b) f+f (a+b)=S a f+(S b (fun i=>f (a+i))+f (a+b));rw[vG a f b,Int.add_assoc]
theorem ft.C3{X:Rows}{n w:Nat}{ld:Nat->Nat}{v z:Nat->Int}(s:ft X n w ld)(hz:∀c,c<w->v c=S n fun k=>z k*g X k c){j:Nat}(hj:j<=n)(h0:∀l,l<j->v (ld l)=0)(l:Nat):l<j->z l=0:=by
 induction l using Nat.strongRecOn with
 |_ l ih=>
  intro hl;obtain⟨h1,h2,_⟩:=s.lead l (by omega);have e:=hz _ h1
  rw[h0 l hl,jJ (k:=l) (by omega) fun k hk hne=>by
   rcases Nat.lt_or_gt_of_ne hne with q|q
   . rw[ih k q (by omega),Int.zero_mul]
   . rw[(s.lead k hk).2.2 _ (s.mono l k q hk),Int.mul_zero]]at e
  rcases Int.mul_eq_zero.mp e.symm with q|q
  . exact q
  . omega
theorem ft.NW{X:Rows}{n w:Nat}{ld:Nat->Nat}{v z:Nat->Int}(s:ft X n w ld)(hz:∀c,c<w->v c=S n fun k=>z k*g X k c){j:Nat}(hj:j<n)(h0:∀l,l<j->v (ld l)=0):v (ld j)=z j*g X j (ld j):=by
 obtain⟨h1,h2,_⟩:=s.lead j hj;rw[hz _ h1]
 exact jJ hj fun k hk hne=>by
  rcases Nat.lt_or_gt_of_ne hne with q|q
  . rw[s.C3 hz (Nat.le_of_lt hj) h0 k q,Int.zero_mul]
  . rw[(s.lead k hk).2.2 _ (s.mono j k q hk),Int.mul_zero]
theorem ft.nil{X:Rows}{n w:Nat}{ld:Nat->Nat}{v:Nat->Int}(s:ft X n w ld)(hv:bE X n w v)(h0:∀l,l<n->v (ld l)=0)(c:Nat)(hc:c<w):v c=0:=by
 obtain⟨z,hz⟩:=hv;rw[hz c hc];exact ix fun k hk=>by rw[s.C3 hz (Nat.le_refl n) h0 k hk,Int.zero_mul]
theorem bE.kY{X:Rows}{n w:Nat}{u v:Nat->Int}(a:Int)(hu:bE X n w u)(hv:bE X n w v):bE X n w fun c=>u c+a*v c:=by
 obtain⟨y,hy⟩:=hu;obtain⟨z,hz⟩:=hv;refine⟨fun k=>y k+a*z k,fun c hc=>?_⟩;show u c+a*v c=S n fun k=>(y k+a*z k)*g X k c;rw[hy c hc,hz c hc,<-eX,<-gN];exact aE fun k _=>by rw[Int.add_mul,Int.mul_assoc]
theorem bE.comb{X:Rows}{n w:Nat}{a:Nat->Int}{v:Nat->Nat->Int}:∀ {m:Nat},(∀l,l<m->bE X n w (v l))->bE X n w fun c=>S m fun l=>a l*v l c
 |0,_=>⟨fun _=>0,fun c _=>(ix fun k _=>Int.zero_mul _).symm⟩
 |m+1,h=>bE.kY (a m) (bE.comb (m:=m) fun l hl=>h l (by omega)) (h m (Nat.lt_succ_self m))
theorem NV{X:Rows}{n w M:Nat}{ld:Nat->Nat}{d:Int}{v:Nat->Nat->Int}(s:ft X n w ld)(r:Fd X n ld)(hd:d≠0)(hv:∀l,l<n->bE X n w (v l))(hl:∀l j,l<n->j<n->v l (ld j)=d*dl l j)(hb:∀l c,l<n->c<w->(v l c).natAbs<=M):∀i c,i<n->c<w->(g X i c).natAbs<=n*M:=fun i c hi hc=>by
 have le:∀j,j<n->(g X j (ld j)).natAbs<=d.natAbs:=fun j hj=>by
  obtain⟨z,hz⟩:=hv j hj;have e:=s.NW hz hj fun l h=>by rw[hl j l hj (by omega),bx (by omega),Int.mul_zero]
  rw[hl j j hj hj,bD,Int.mul_one]at e;rw[e,Int.natAbs_mul];refine Nat.le_mul_of_pos_left _ (Int.natAbs_pos.mpr fun q=>hd ?_);rw[e,q,Int.zero_mul]
 have bd:∀l,l<n->(g X i (ld l)).natAbs<=d.natAbs:=fun l h=>by
  have h1:=le l h;rcases Nat.lt_trichotomy i l with q|q|q
  . have:=r i l q h;omega
  . rw[q];exact h1
  . rw[(s.lead i hi).2.2 _ (s.mono l i q hi)];exact Nat.zero_le _
 have e:d*g X i c=S n fun l=>g X i (ld l)*v l c:=by
  have y:bE X n w fun c=>(0*g X i c+d*g X i c)-S n fun l=>g X i (ld l)*v l c:=bE.sub (bE.kY d (bE.eq (u:=fun c=>S 0 fun _=>0) (bE.comb (m:=0) (a:=fun _=>0) (v:=fun _ _=>0) fun l h=>absurd h (Nat.not_lt_zero _)) fun c _=>Int.zero_mul _) (bE.row hi)) (bE.comb hv)
  have:=s.nil y (fun l h=>by
   obtain⟨h1,_⟩:=s.lead l h
   have e:(S n fun k=>g X i (ld k)*v k (ld l))=d*g X i (ld l):=by
    rw[jJ h fun k hk hne=>by rw[hl k l hk h,bx hne,Int.mul_zero,Int.mul_zero],hl l l h h,bD,Int.mul_one,Int.mul_comm]
   show(0*g X i (ld l)+d*g X i (ld l))-(S n fun k=>g X i (ld k)*v k (ld l))=0;rw[e];omega) c hc
  simp only[Int.zero_mul,Int.zero_add]at this;omega
 have b2:(d*g X i c).natAbs<=n*(d.natAbs*M):=by
  rw[e];exact xr fun l h=>by rw[Int.natAbs_mul];exact Nat.mul_le_mul (bd l h) (hb l c h hc)
 rw[Int.natAbs_mul,Nat.mul_left_comm]at b2;exact Nat.le_of_mul_le_mul_left b2 (Int.natAbs_pos.mpr hd)
theorem Lz{t l j:Nat}{M:Fn}(hl:l<t)(hj:j<t):D t (upd M l (M j))=D t M*dl l j:=by
 by_cases h:l=j
 . subst h;rw[bD,Int.mul_one]
   exact dw fun r c _ _=>by
    by_cases q:r=l
    . subst q;exact cC ..
    . exact ax q c
 . rw[bx h,Int.mul_zero];exact(uQ t).alt l j _ hl hj h fun c _=>by rw[cC,ax (Ne.symm h)]
theorem NM{t l:Nat}{M:Fn}{x y:Nat->Int}(h:∀c,c<t->x c=y c):D t (upd M l x)=D t (upd M l y):=dw fun r c _ hc=>by
 unfold upd;split
 . exact h c hc
 . rfl
theorem M9{A B:Fn}{G:Rows}{t w b:Nat}{ld:Nat->Nat}(s:ft G t w ld)(r:Fd G t ld)(t8:t<=9)(hA:∀i c,i<t->c<w->(A i c).natAbs<=b)(hAB:∀i c,i<t->c<w->A i c=S t fun k=>B i k*g G k c)(hB:D t B≠0):∀k c,k<t->c<w->(g G k c).natAbs<=t*(9*b)^t:=by
 have hd:D t (fun r i=>A i (ld r))≠0:=by
  have e1:D t (fun r i=>A i (ld r))=D t (fun i r=>A i (ld r)):=Kq t fun i r=>A i (ld r)
  have e2:D t (fun i r=>A i (ld r))=D t B*D t fun k r=>g G k (ld r):=by
   rw[<-A9];exact dw fun i r hi hr=>hAB i _ hi (s.lead r hr).1
  rw[e1,e2,E1 fun r c hr hc h=>(s.lead r hr).2.2 _ (s.mono c r h hr)];exact Int.mul_ne_zero hB (Int.ne_of_gt (mQ fun i hi=>(s.lead i hi).2.1))
 refine NV (v:=fun l c=>D t (upd (fun r i=>A i (ld r)) l fun i=>A i c)) s r hd (fun l hl=>?_) (fun l j hl hj=>Lz (M:=fun r i=>A i (ld r)) hl hj) fun l c hl hc=>Di (K:=9) t8 fun r i hr hi=>?_
 . refine⟨fun k=>D t (upd (fun r i=>A i (ld r)) l fun i=>B i k),fun c hc=>?_⟩;have e:=(uQ t).vk hl (fun r i=>A i (ld r)) (fun k=>g G k c) (fun k i=>B i k) t;show D t (upd (fun r i=>A i (ld r)) l fun i=>A i c)=_;rw[NM fun i hi=>(hAB i c hi hc).trans (aE fun k _=>Int.mul_comm _ _),e];exact aE fun k _=>Int.mul_comm _ _
 . unfold upd;split
   . exact hA i c hi hc
   . exact hA i _ hi (s.lead r hr).1
theorem vi.picked{A F:Rows}{N m w:Nat}{ld:Nat->Nat}(st:ft F m w ld)(same:vi A N F m w):∃(I:Nat->Nat) (B:Fn),(∀k,k<m->I k<N)/\(∀i c,i<m->c<w->g A (I i) c=S m fun k=>B i k*g F k c)/\D m B≠0:=by
 have hB:∀i,∃z:Nat->Int,i<N->∀c,c<w->g A i c=S m fun k=>z k*g F k c:=fun i=>by
  by_cases h:i<N
  . obtain⟨z,hz⟩:=same.to i h;exact⟨z,fun _=>hz⟩
  . exact⟨fun _=>0,fun z=>absurd z h⟩
 have hU:∀k,∃z:Nat->Int,k<m->∀c,c<w->g F k c=S N fun i=>z i*g A i c:=fun k=>by
  by_cases h:k<m
  . obtain⟨z,hz⟩:=same.of k h;exact⟨z,fun _=>hz⟩
  . exact⟨fun _=>0,fun z=>absurd z h⟩
 let B:Fn:=fun i=>Classical.choose (hB i)
 let U:Fn:=fun k=>Classical.choose (hU k)
 have eB:∀i,i<N->∀c,c<w->g A i c=S m fun k=>B i k*g F k c:=fun i=>Classical.choose_spec (hB i);have eU:∀k,k<m->∀c,c<w->g F k c=S N fun i=>U k i*g A i c:=fun k=>Classical.choose_spec (hU k)
 obtain⟨I,h1,h2⟩:=pick (t:=m) (N:=N) (U:=U) (B:=B) fun k l hk hl=>by
  have e1:∀c,c<w->S m (fun l=>(S N fun i=>U k i*B i l)*g F l c)=g F k c:=fun c hc=>by
   rw[eU k hk c hc]
   have:(S N fun i=>U k i*g A i c)=S N fun i=>S m fun l=>U k i*B i l*g F l c:=aE fun i hi=>by
    rw[eB i hi c hc,<-eX];exact aE fun l _=>(Int.mul_assoc _ _ _).symm
   rw[this,pY];exact aE fun l _=>(rB _ _ _).symm
  have e2:∀c,c<w->(0:Int)=S m fun l=>((S N fun i=>U k i*B i l)-dl k l)*g F l c:=fun c hc=>by
   have h1:(S m fun l=>((S N fun i=>U k i*B i l)-dl k l)*g F l c)=S m (fun l=>(S N fun i=>U k i*B i l)*g F l c)-S m fun l=>dl k l*g F l c:=by
    rw[Int.sub_eq_add_neg,<-uR,<-gN];exact aE fun l _=>by rw[Int.sub_mul,Int.sub_eq_add_neg]
   rw[h1,e1 c hc,mZ hk,Int.sub_self]
  have e3:(S N fun i=>U k i*B i l)-dl k l=0:=st.gone (v:=fun _=>0) (z:=fun l=>(S N fun i=>U k i*B i l)-dl k l) (q:=w) e2 (fun _ _=>rfl) l hl (st.lead l hl).1;omega
 exact⟨I,fun i=>B (I i),h1,fun i c hi hc=>eB _ (h1 i hi) c hc,h2⟩
def Ln(A:Rows)(N:Nat):Rows:=(List.range N).map fun n=>A.getD n []++jT N n
structure Og(A F:Rows)(N w m h:Nat):Prop where
 hA:aT N w A
 is:aT m (w+N) F
 st:ft F m (w+N) (Fu F)
 red:Fd F m (Fu F)
 same:vi (Ln A N) N F m (w+N)
 le:h<=m
 lo:∀i,i<h->Fu F i<w
 hi:∀i,h<=i->i<m->w<=Fu F i
section
variable {A F:Rows}{N w m h:Nat}(L:Og A F N w m h)
include L
end
theorem Ea{a b a' q s t s' C:Nat}(hb:0<b)(hba:b<=a)(hq:2*(q*b)<=2*a+b)(ha':2*a'<=b)(hs:s*(a*(a*a))<=C)(ht:t*(a*(b*b))<=C)(h:s'<=s+q*t):s'*(b*(a'*a'))<=C/\2*s'<=5*C:=by
 have ha:0<a:=Nat.lt_of_lt_of_le hb hba;have e1:2*(q*b)*t<=3*a*t:=Nat.mul_le_mul_right t (by omega)
 have e2:2*(q*b)*t*(b*b)<=3*C:=by
  refine Nat.le_trans (Nat.mul_le_mul_right (b*b) e1) ?_
  have:3*a*t*(b*b)=3*(t*(a*(b*b))):=by
   rw[Nat.mul_assoc 3 a t,Nat.mul_comm a t,Nat.mul_assoc 3,Nat.mul_assoc t a]
  rw[this];exact Nat.mul_le_mul_left 3 ht
 have e3:s*(b*(b*b))<=C:=Nat.le_trans (Nat.mul_le_mul_left s (Nat.mul_le_mul hba (Nat.mul_le_mul hba hba))) hs;constructor
 . have f1:4*(a'*a')<=b*b:=by
    have:=Nat.mul_le_mul ha' ha'
    have e:2*a'*(2*a')=4*(a'*a'):=by
     rw[Nat.mul_assoc,<-Nat.mul_assoc a' 2 a',Nat.mul_comm a' 2,Nat.mul_assoc 2 a' a',<-Nat.mul_assoc]
    rwa [e]at this
   have f2:s'*(b*(b*b))<=s*(b*(b*b))+q*t*(b*(b*b)):=by
    rw[<-Nat.add_mul];exact Nat.mul_le_mul_right _ h
   have f3:2*(q*t*(b*(b*b)))=2*(q*b)*t*(b*b):=by
    rw[<-Nat.mul_assoc (q*t) b (b*b),<-Nat.mul_assoc 2,Nat.mul_right_comm q t b,<-Nat.mul_assoc 2]
   have f4:4*(s'*(b*(a'*a')))<=s'*(b*(b*b)):=by
    have e:4*(s'*(b*(a'*a')))=s'*(b*(4*(a'*a'))):=by
     rw[Nat.mul_left_comm 4 s',Nat.mul_left_comm 4 b]
    rw[e];exact Nat.mul_le_mul_left _ (Nat.mul_le_mul_left _ f1)
   omega
 . have g1:s<=C:=Nat.le_trans (Nat.le_mul_of_pos_right s (Nat.mul_pos ha (Nat.mul_pos ha ha))) hs
   have g2:q*t<=q*b*t*(b*b):=by
    have h1:q*t<=q*b*t:=by
     rw[Nat.mul_right_comm];exact Nat.le_mul_of_pos_right _ hb
    exact Nat.le_trans h1 (Nat.le_mul_of_pos_right _ (Nat.mul_pos hb hb))
   have g3:2*(q*b*t*(b*b))=2*(q*b)*t*(b*b):=by
    rw[<-Nat.mul_assoc 2,<-Nat.mul_assoc 2]
   omega
theorem Ef{a b a' q cg cs:Nat}(hb:0<b)(hba:b<=a)(ha':2*a'<=b)(hq:a=q*b+a'\/q*b=a+a'):b*b*(cg*a'+(cs+q*cg)*b)<=a*a*(cg*a+cs*b):=by
 have bb:b*b<=a*a:=Nat.mul_le_mul hba hba
 have e0:cg*a'+(cs+q*cg)*b=cg*(a'+q*b)+cs*b:=by
  rw[Nat.add_mul,Nat.mul_add,Nat.mul_right_comm q cg b,Nat.mul_comm (q*b) cg];omega
 rw[e0];by_cases z:a'=0
 . subst z;have:a=q*b:=by omega
   rw[Nat.zero_add,<-this];exact Nat.mul_le_mul_right _ bb
 rcases hq with h|h
 . rw[show a'+q*b=a by omega];exact Nat.mul_le_mul_right _ bb
 have q2:2<=q:=by
  rcases Nat.lt_or_ge q 2 with y|y
  . have:q=0\/q=1:=by omega
    rcases this with rfl|rfl
    . omega
    . omega
  . exact y
 have qb:2*b<=q*b:=Nat.mul_le_mul_right b q2;have a3:3*b<=2*a:=by omega
 have sq:9*(b*b)<=4*(a*a):=by
  have:=Nat.mul_le_mul a3 a3;have e1:3*b*(3*b)=9*(b*b):=by rw[Nat.mul_assoc,Nat.mul_left_comm b 3 b,<-Nat.mul_assoc]
  have e2:2*a*(2*a)=4*(a*a):=by rw[Nat.mul_assoc,Nat.mul_left_comm a 2 a,<-Nat.mul_assoc]
  rwa [e1,e2]at this
 have key:b*b*(a'+q*b)<=a*a*a:=by
  have h1:a'+q*b<=a+b:=by omega
  have h2:b*b*(a'+q*b)<=b*b*(a+b):=Nat.mul_le_mul_left _ h1;have h3:9*(b*b)*a<=4*(a*a)*a:=Nat.mul_le_mul_right a sq;have h4:b*b*b<=b*b*a:=Nat.mul_le_mul_left _ hba;rw[Nat.mul_add (b*b) a b]at h2;rw[Nat.mul_assoc 9,Nat.mul_assoc 4]at h3;omega
 rw[Nat.mul_add (b*b),Nat.mul_add (a*a)];refine Nat.add_le_add ?_ (Nat.mul_le_mul_right _ bb);rw[Nat.mul_left_comm (b*b) cg,Nat.mul_left_comm (a*a) cg];exact Nat.mul_le_mul_left cg key
theorem wa{x y:Int}(hy:y≠0)(hxy:y.natAbs<=x.natAbs):x.natAbs=(qn x y).natAbs*y.natAbs+(x-qn x y*y).natAbs\/(qn x y).natAbs*y.natAbs=x.natAbs+(x-qn x y*y).natAbs:=by
 have h:=p9 (x:=x) hy;rw[<-Int.natAbs_mul];generalize qn x y*y=z at h;omega
def Gz(X A:Rows)(N top p gm K:Nat):Prop:=∀i c,top<=i->i<N->(g X i c).natAbs*(gm*((g A i p).natAbs*(g A i p).natAbs))<=K/\2*(g X i c).natAbs<=5*K
theorem Gz.step{X A:Rows}{N w wA top p gm K k j:Nat}(hX:aT N w X)(hA:aT N wA A)(hk:k<N)(hj:j<N)(hkt:top<=k)(hjt:top<=j)(hj0:g A j p≠0)(hle:(g A j p).natAbs<=(g A k p).natAbs)(hgm:(g A k p).natAbs<=gm)(h:Gz X A N top p gm K):Gz (aP X k (qn (g A k p) (g A j p)) j) (aP A k (qn (g A k p) (g A j p)) j) N top p (g A j p).natAbs K:=fun i c hi hN=>by
 by_cases hik:i=k
 . rw[hik,dD hX hk hj,if_pos rfl,dD hA hk hj,if_pos rfl];have r:=p9 (x:=g A k p) hj0
   have q2:2*((qn (g A k p) (g A j p)).natAbs*(g A j p).natAbs)<=2*(g A k p).natAbs+(g A j p).natAbs:=by
    rcases wa hj0 hle with z|z<;>omega
   refine Ea (by omega) hle q2 r (Nat.le_trans (Nat.mul_le_mul_left _ (Nat.mul_le_mul_right _ hgm)) (h k c hkt hk).1) (Nat.le_trans (Nat.mul_le_mul_left _ (Nat.mul_le_mul_right _ hgm)) (h j c hjt hj).1) ?_;have h1:=Int.natAbs_sub_le (g X k c) (qn (g A k p) (g A j p)*g X j c);rw[Int.natAbs_mul]at h1;exact h1
 . rw[dD hX hk hj,if_neg hik,dD hA hk hj,if_neg hik];exact⟨Nat.le_trans (Nat.mul_le_mul_left _ (Nat.mul_le_mul_right _ (Nat.le_trans hle hgm))) (h i c hi hN).1,(h i c hi hN).2⟩
theorem yG{f f':Nat->Nat}{k:Nat}(h:∀i,i≠k->f' i=f i):∀ {n:Nat},k<n->SU f' n+f k=SU f n+f' k
 |0,hk=>absurd hk (Nat.not_lt_zero _)
 |n+1,hk=>by
  show SU f' n+f' n+f k=SU f n+f n+f' k;by_cases e:k=n
  . subst e;have:SU f' k=SU f k:=Nat.le_antisymm (xD fun i hi=>by rw[h i (by omega)];exact Nat.le_refl _) (xD fun i hi=>by rw[h i (by omega)];exact Nat.le_refl _);omega
  . have:=yG h (n:=n) (by omega);have:=h n (by omega);omega
theorem DC{f f':Nat->Nat}{j k n:Nat}(hj:j<n)(hk:k<n)(hjk:j≠k)(h:∀i,i≠j->i≠k->f' i=f i):SU f' n+(f j+f k)=SU f n+(f' j+f' k):=by
 have h1:=yG (f:=f) (f':=fun i=>if i=j then f' j else f i) (k:=j) (fun i hi=>if_neg hi) hj
 have h2:=yG (f:=fun i=>if i=j then f' j else f i) (f':=f') (k:=k) (fun i hi=>by
  by_cases z:i=j
  . rw[if_pos z,z]
  . rw[if_neg z];exact h i z hi) hk
 rw[if_pos rfl]at h1;rw[if_neg (Ne.symm hjk)]at h2;omega
theorem FX{f:Nat->Nat}{k:Nat}:∀ {n:Nat},k<n->f k<=SU f n
 |0,hk=>absurd hk (Nat.not_lt_zero _)
 |n+1,hk=>by
  show f k<=SU f n+f n;by_cases e:k=n
  . subst e;omega
  . have:=FX (f:=f) (k:=k) (n:=n) (by omega);omega
def Fc(C A:Rows)(top p c i:Nat):Nat:=if top<=i then(g C i c).natAbs*(g A i p).natAbs else 0
structure Sc(C A:Rows)(N top p gm K:Nat):Prop where
 sum:∀c,gm*gm*SU (Fc C A top p c) N<=K
 all:∀i c,top<=i->i<N->(g C i c).natAbs<=K
theorem Sc.step{C A:Rows}{N w wA top p gm K k j:Nat}(hC:aT N w C)(hA:aT N wA A)(hk:k<N)(hj:j<N)(hkt:top<=k)(hjt:top<=j)(hjk:j≠k)(hj0:g A j p≠0)(hle:(g A j p).natAbs<=(g A k p).natAbs)(hgm:(g A k p).natAbs<=gm)(h:Sc C A N top p gm K):Sc (aP C j (-(qn (g A k p) (g A j p))) k) (aP A k (qn (g A k p) (g A j p)) j) N top p (g A j p).natAbs K:=by
 have r:=p9 (x:=g A k p) hj0;have side:=wa hj0 hle;have b0:0<(g A j p).natAbs:=by omega
 have gC:∀i c,g (aP C j (-(qn (g A k p) (g A j p))) k) i c=if i=j then g C j c- -(qn (g A k p) (g A j p))*g C k c else g C i c:=fun i c=>dD hC hj hk i c
 have gA:∀i c,g (aP A k (qn (g A k p) (g A j p)) j) i c=if i=k then g A k c-qn (g A k p) (g A j p)*g A j c else g A i c:=fun i c=>dD hA hk hj i c
 have sum:∀c,(g A j p).natAbs*(g A j p).natAbs*SU (Fc (aP C j (-(qn (g A k p) (g A j p))) k) (aP A k (qn (g A k p) (g A j p)) j) top p c) N<=K:=fun c=>by
  have k1:Fc (aP C j (-(qn (g A k p) (g A j p))) k) (aP A k (qn (g A k p) (g A j p)) j) top p c k=(g C k c).natAbs*(g A k p-qn (g A k p) (g A j p)*g A j p).natAbs:=by
   unfold Fc;rw[if_pos hkt,gC,if_neg (Ne.symm hjk),gA,if_pos rfl]
  have j1:Fc (aP C j (-(qn (g A k p) (g A j p))) k) (aP A k (qn (g A k p) (g A j p)) j) top p c j<=((g C j c).natAbs+(qn (g A k p) (g A j p)).natAbs*(g C k c).natAbs)*(g A j p).natAbs:=by
   unfold Fc;rw[if_pos hjt,gC,if_pos rfl,gA,if_neg hjk];refine Nat.mul_le_mul_right _ ?_;have h1:=Int.natAbs_sub_le (g C j c) (-(qn (g A k p) (g A j p))*g C k c);rw[Int.natAbs_mul,Int.natAbs_neg]at h1;exact h1
  have k0:Fc C A top p c k=(g C k c).natAbs*(g A k p).natAbs:=by unfold Fc;rw[if_pos hkt]
  have j0:Fc C A top p c j=(g C j c).natAbs*(g A j p).natAbs:=by unfold Fc;rw[if_pos hjt]
  have same:∀i,i≠j->i≠k->Fc (aP C j (-(qn (g A k p) (g A j p))) k) (aP A k (qn (g A k p) (g A j p)) j) top p c i=Fc C A top p c i:=fun i h1 h2=>by
   unfold Fc;rw[gC,if_neg h1,gA,if_neg h2]
  have main:=Ef (cg:=(g C k c).natAbs) (cs:=(g C j c).natAbs) b0 hle r side;have H:=h.sum c;generalize Fc (aP C j (-(qn (g A k p) (g A j p))) k) (aP A k (qn (g A k p) (g A j p)) j) top p c=f' at k1 j1 same;generalize Fc C A top p c=f at k0 j0 same H;have t1:=DC (f:=fun i=>if i=j\/i=k then 0 else f i) (f':=f) hj hk hjk fun i h1 h2=>(if_neg (by omega)).symm;have t2:=DC (f:=fun i=>if i=j\/i=k then 0 else f i) (f':=f') hj hk hjk fun i h1 h2=>(same i h1 h2).trans (if_neg (by omega)).symm;rw[if_pos (.inl rfl),if_pos (.inr rfl)]at t1 t2;generalize SU (fun i=>if i=j\/i=k then 0 else f i) N=R at t1 t2;have e1:SU f' N=R+(f' k+f' j):=by omega
  have e2:SU f N=R+(f k+f j):=by omega
  rw[e2,k0,j0]at H;rw[e1];refine Nat.le_trans ?_ H;have bg:(g A j p).natAbs*(g A j p).natAbs<=gm*gm:=Nat.mul_le_mul (Nat.le_trans hle hgm) (Nat.le_trans hle hgm);have ag:(g A k p).natAbs*(g A k p).natAbs<=gm*gm:=Nat.mul_le_mul hgm hgm;rw[Nat.mul_add _ R,Nat.mul_add (gm*gm) R];refine Nat.add_le_add (Nat.mul_le_mul_right _ bg) ?_;refine Nat.le_trans (Nat.mul_le_mul_left _ (Nat.add_le_add (Nat.le_of_eq k1) j1)) (Nat.le_trans main (Nat.mul_le_mul_right _ ag))
 refine⟨sum,fun i c hi hN=>?_⟩;by_cases hij:i=j
 . rw[hij];refine Nat.le_trans ?_ (sum c)
   have h1:Fc (aP C j (-(qn (g A k p) (g A j p))) k) (aP A k (qn (g A k p) (g A j p)) j) top p c j=(g (aP C j (-(qn (g A k p) (g A j p))) k) j c).natAbs*(g A j p).natAbs:=by
    unfold Fc;rw[if_pos hjt,gA,if_neg hjk]
   have h2:=FX (f:=Fc (aP C j (-(qn (g A k p) (g A j p))) k) (aP A k (qn (g A k p) (g A j p)) j) top p c) hj;rw[h1]at h2;refine Nat.le_trans (Nat.le_trans (Nat.le_mul_of_pos_right _ b0) h2) (Nat.le_mul_of_pos_left _ (Nat.mul_pos b0 b0))
 . rw[gC,if_neg hij];exact h.all i c hi hN
structure Gb(A0:Rows)(N w top p K KC gm:Nat)(b0 b:B3):Prop where
 tn:Tn A0 b.A b.U b.C N w
 up:∀i,i<top->b.A.getD i []=b0.A.getD i []/\b.U.getD i []=b0.U.getD i []/\b.C.getD i []=b0.C.getD i []
 mx:∀i,top<=i->i<N->(g b.A i p).natAbs<=gm
 sA:Gz b.A b.A N top p gm K
 sU:Gz b.U b.A N top p gm K
 sC:Sc b.C b.A N top p gm KC
 zs:∀i c,top<=i->i<N->c<p->g b.A i c=0
 KP:b=b0\/∃j,top<=j/\j<N/\g b.A j p≠0
theorem Gb.step{A0:Rows}{N w top p K KC gm:Nat}{b0 b:B3}{L:List Nat}{k j:Nat}(G:Gb A0 N w top p K KC gm b0 b)(hL:j4 b.A N top p (L++[j,k])):
 Gb A0 N w top p K KC (g b.A j p).natAbs b0 (qm b p k j)/\(g (qm b p k j).A k p).natAbs<(g b.A k p).natAbs/\(∀i,i≠k->g (qm b p k j).A i p=g b.A i p)/\top<=k/\k<N/\top<=j/\j<N/\j≠k/\g b.A j p≠0/\(qn (g b.A k p) (g b.A j p)).natAbs<=2*(g b.A k p).natAbs:=by
 obtain⟨hk1,hk2,hk3⟩:=(hL.mem k).mp (by simp);obtain⟨hj1,hj2,hj3⟩:=(hL.mem j).mp (by simp);have hord:=hL.ord;rw[List.pairwise_append]at hord;have o2:=(List.pairwise_cons.mp hord.2.1).1 k (by simp);have hjk:j≠k:=by intro z;subst z;omega
 have hle:(g b.A j p).natAbs<=(g b.A k p).natAbs:=by omega
 have hgm:=G.mx k hk1 hk2
 have gk:g (qm b p k j).A k p=g b.A k p-qn (g b.A k p) (g b.A j p)*g b.A j p:=by
  show g (aP b.A k _ j) k p=_;rw[dD G.tn.isA hk2 hj2,if_pos rfl]
 have gi:∀i,i≠k->g (qm b p k j).A i p=g b.A i p:=fun i hi=>by
  show g (aP b.A k _ j) i p=_;rw[dD G.tn.isA hk2 hj2,if_neg hi]
 have hrest:=p9 (x:=g b.A k p) hj3;refine⟨⟨G.tn.take hk2 hj2 hjk,fun i hi=>?_,fun i h1 h2=>?_,G.sA.step G.tn.isA G.tn.isA hk2 hj2 hk1 hj1 hj3 hle hgm,G.sU.step G.tn.fT G.tn.isA hk2 hj2 hk1 hj1 hj3 hle hgm,G.sC.step G.tn.gq G.tn.isA hk2 hj2 hk1 hj1 hjk hj3 hle hgm,fun i c hi hN hc=>?_,.inr ⟨j,hj1,hj2,by rw[gi j hjk];exact hj3⟩⟩,?_,gi,hk1,hk2,hj1,hj2,hjk,hj3,?_⟩
 . obtain⟨a1,a2,a3⟩:=G.up i hi;refine⟨(kK (by rw[G.tn.isA.len];exact hk2) (by omega)).trans a1,(kK (by rw[G.tn.fT.len];exact hk2) (by omega)).trans a2,(kK (by rw[G.tn.gq.len];exact hj2) (by omega)).trans a3⟩
 . by_cases h:i=k
   . rw[h,gk];omega
   . rw[gi i h];by_cases z:g b.A i p=0
     . rw[z];exact Nat.zero_le _
     . have m:=(hL.mem i).mpr ⟨h1,h2,z⟩;rcases List.mem_append.mp m with y|y
       . have:=hord.2.2 i y j (by simp);omega
       . rcases List.mem_cons.mp y with y|y
         . rw[y];exact Nat.le_refl _
         . exact absurd (List.mem_singleton.mp y) h
 . show g (aP b.A k _ j) i c=0;rw[dD G.tn.isA hk2 hj2];by_cases h:i=k
   . rw[if_pos h,G.zs k c hk1 hk2 hc,G.zs j c hj1 hj2 hc,Int.mul_zero];rfl
   . rw[if_neg h];exact G.zs i c hi hN hc
 . rw[gk];omega
 . have b1:1<=(g b.A j p).natAbs:=by omega
   have:=Nat.mul_le_mul_left (qn (g b.A k p) (g b.A j p)).natAbs b1;rcases wa hj3 hle with z|z<;>omega
theorem Gp{f:Nat->Nat}{M:Nat}:∀ {n:Nat},(∀i,i<n->f i<=M)->SU f n<=n*M
 |0,_=>Nat.zero_le _
 |n+1,h=>by
  have h1:=Gp (n:=n) fun i hi=>h i (Nat.lt_succ_of_lt hi);have h2:=h n (Nat.lt_succ_self n);rw[Nat.succ_mul];exact Nat.add_le_add h1 h2
theorem Gb.start{A0:Rows}{N w top p e u v:Nat}{b:B3}{ld:Nat->Nat}(S:ff A0 N w b top p ld e u v):Gb A0 N w top p (2^(4*e)) (N*2^(4*e)) (2^e) b b:=by
 obtain⟨lA,lU,lC⟩:=S.lo
 have e4:2^e*(2^e*(2^e*2^e))=2^(4*e):=by
  rw[<-Nat.pow_add,<-Nat.pow_add,<-Nat.pow_add];congr 1;omega
 have e1:2^e<=2^(4*e):=Nat.pow_le_pow_right (by decide) (by omega)
 have gz:∀X:Rows,gW X N top (2^e)->Gz X b.A N top p (2^e) (2^(4*e)):=fun X h i c hi hN=>by
  have h1:=h i c hi hN;have h2:=lA i p hi hN;refine⟨?_,by omega⟩;rw[<-e4];exact Nat.mul_le_mul h1 (Nat.mul_le_mul_left _ (Nat.mul_le_mul h2 h2))
 refine⟨S.tn,fun _ _=>⟨rfl,rfl,rfl⟩,fun i hi hN=>lA i p hi hN,gz _ lA,gz _ lU,⟨fun c=>?_,fun i c hi hN=>?_⟩,S.zs,.inl rfl⟩
 . have h1:SU (Fc b.C b.A top p c) N<=N*(2^e*2^e):=Gp fun i hi=>by
    unfold Fc;by_cases h:top<=i
    . rw[if_pos h];exact Nat.mul_le_mul (lC i c h hi) (lA i p h hi)
    . rw[if_neg h];exact Nat.zero_le _
   refine Nat.le_trans (Nat.mul_le_mul_left _ h1) ?_;rw[Nat.mul_left_comm,Nat.mul_assoc,e4];exact Nat.le_refl _
 . refine Nat.le_trans (lC i c hi hN) (Nat.le_trans e1 ?_);exact Nat.le_mul_of_pos_left _ (by omega)
theorem Gb.low{A0:Rows}{N w top p e gm:Nat}{b0 b:B3}(G:Gb A0 N w top p (2^(4*e)) (N*2^(4*e)) gm b0 b)(hN:N<=16):gW b.A N top (2^(4*e+4))/\gW b.U N top (2^(4*e+4))/\gW b.C N top (2^(4*e+4)):=by
 have e4:2^(4*e+4)=16*2^(4*e):=by rw[Nat.pow_add,Nat.mul_comm]
 rw[e4];refine⟨fun i c hi h=>?_,fun i c hi h=>?_,fun i c hi h=>?_⟩
 . have:=(G.sA i c hi h).2;omega
 . have:=(G.sU i c hi h).2;omega
 . exact Nat.le_trans (G.sC.all i c hi h) (Nat.mul_le_mul_right _ hN)
theorem Gb.set{A0:Rows}{N w top p K KC gm m r:Nat}{b0 b:B3}(G:Gb A0 N w top p K KC gm b0 b)(lw:gW b.A N top m/\gW b.U N top m/\gW b.C N top m)(hL:j4 b.A N top p [r]):uc A0 N w top p m b0 (setB b p top r)/\top<=r/\r<N:=by
 obtain⟨hr1,hr2,hr3⟩:=(hL.mem r).mp (by simp);have ht:top<N:=by omega
 have z:∀i,top<=i->i<N->i≠r->g b.A i p=0:=fun i h1 h2 h3=>Classical.byContradiction fun y=>h3 (by simpa using(hL.mem i).mpr ⟨h1,h2,y⟩);have swg:∀i c,g (bq b.A top r) i c=g b.A (sw top r i) c:=fun i c=>i8 G.tn.isA ht hr2 i c;have gt:g (bq b.A top r) top p=g b.A r p:=by rw[swg];unfold sw;rw[if_pos rfl]
 have T1:=G.tn.FR ht hr2
 have z1:∀i,top<i->i<N->g (bq b.A top r) i p=0:=fun i h1 h2=>by
  rw[swg];unfold sw;rw[if_neg (by omega)];by_cases h:i=r
  . rw[if_pos h];exact z top (Nat.le_refl _) ht (by omega)
  . rw[if_neg h];exact z i (by omega) h2 h
 have zs:∀i c,top<=i->i<N->c<p->g (bq b.A top r) i c=0:=fun i c h1 h2 h3=>by
  rw[swg];refine G.zs _ c ?_ (nV ht hr2 h2) h3;unfold sw;split
  . exact hr1
  . split
    . exact Nat.le_refl _
    . exact h1
 have up:∀i,i<top->(bq b.A top r).getD i []=b0.A.getD i []/\(bq b.U top r).getD i []=b0.U.getD i []/\(bq b.C top r).getD i []=b0.C.getD i []:=fun i hi=>by
  obtain⟨a1,a2,a3⟩:=G.up i hi;exact⟨(t_ G.tn.isA ht hr2 hr1 hi).trans a1,(t_ G.tn.fT ht hr2 hr1 hi).trans a2,(t_ G.tn.gq ht hr2 hr1 hi).trans a3⟩
 have lo:=And.intro (uk G.tn.isA ht hr2 hr1 lw.1) (And.intro (uk G.tn.fT ht hr2 hr1 lw.2.1) (uk G.tn.gq ht hr2 hr1 lw.2.2));refine⟨?_,hr1,hr2⟩;unfold setB;by_cases hs:g (bq b.A top r) top p<0
 . rw[if_pos hs];refine⟨T1.neg ht,fun i hi=>?_,⟨yZ T1.isA ht lo.1,yZ T1.fT ht lo.2.1,yZ T1.gq ht lo.2.2⟩,fun i c h1 h2 h3=>?_,?_,fun i h1 h2=>?_⟩
   . obtain⟨a1,a2,a3⟩:=up i hi;exact⟨(yb T1.isA ht hi).trans a1,(yb T1.fT ht hi).trans a2,(yb T1.gq ht hi).trans a3⟩
   . show g (fV (bq b.A top r) top) i c=0;rw[jK T1.isA ht];split
     . rw[zs top c (Nat.le_refl _) ht h3];rfl
     . exact zs i c h1 h2 h3
   . show 0<g (fV (bq b.A top r) top) top p;rw[jK T1.isA ht,if_pos rfl];omega
   . show g (fV (bq b.A top r) top) i p=0;rw[jK T1.isA ht,if_neg (by omega)];exact z1 i h1 h2
 . rw[if_neg hs];exact⟨T1,up,lo,zs,by show 0<g (bq b.A top r) top p;rw[gt]at hs⊢;omega,z1⟩
def Ey(e0:Nat):Nat->Nat
 |0=>e0
 |t+1=>4*Ey e0 t+4
def Uy(e0:Nat):Nat->Nat
 |0=>0
 |t+1=>Uy e0 t+Ey e0 (t+1)+1
def Cy(e0:Nat):Nat->Nat
 |0=>0
 |t+1=>Uy e0 t+Cy e0 t+Ey e0 (t+1)+4
def Ry(N w e0:Nat):Prop:=∀t,t<N->t<w->Ey e0 (t+1)<60000000/\Uy e0 t+Ey e0 (t+1)<=120000000/\Uy e0 t+Cy e0 t<=120000000
instance (N w e0:Nat):Decidable (Ry N w e0):=by
 unfold Ry;exact decidable_of_iff (∀t,t<N->t<w->(Ey e0 (t+1)<60000000/\Uy e0 t+Ey e0 (t+1)<=120000000/\Uy e0 t+Cy e0 t<=120000000)) Iff.rfl
theorem uc.KN{A0:Rows}{N w top p e u v e' u' v':Nat}{b0 b c:B3}{ld:Nat->Nat}(S:ff A0 N w b0 top p ld e u v)(s:uc A0 N w top p (2^e') b0 b)(ht:top<N)(I:mD A0 N w top p e' u v b top c)(hN:top<=16)
 (h1:u+e'+1<=u') (h2:u+v+5<=v') (h9:e'+1<=v'):ff A0 N w c (top+1) (p+1) (fun i=>if i=top then p else ld i) e' u' v':=by
 have hup:∀i q,i<top->g b.A i q=g b0.A i q:=fun i q hi=>by unfold g;rw[(s.up i hi).1]
 have hA:∀i q,top<=i->g c.A i q=g b.A i q:=fun i q hi=>by unfold g;rw[(I.rA i hi).1]
 have hU:∀i q,top<=i->g c.U i q=g b.U i q:=fun i q hi=>by unfold g;rw[(I.rA i hi).2]
 have hC:∀i q,i≠top->g c.C i q=g b.C i q:=fun i q hi=>by unfold g;rw[I.rC i hi]
 have le:∀ {a x:Nat},a<=2^x->x<=u'->a<=2^u':=fun h hx=>Nat.le_trans h (Nat.pow_le_pow_right (by decide) hx);refine⟨I.tn,ht,⟨fun i q hi hN=>?_,fun i q hi hN=>?_,fun i q hi hN=>?_⟩,fun i q hi=>?_,fun i q hi hN hq=>?_,fun i hi=>?_,fun i j hij hj=>?_,fun i j hij hj=>?_⟩
 . rw[hA i q (by omega)];exact s.lo.1 i q (by omega) hN
 . rw[hU i q (by omega)];exact s.lo.2.1 i q (by omega) hN
 . rw[hC i q (by omega)];exact s.lo.2.2 i q (by omega) hN
 . by_cases h:i=top
   . subst h;refine⟨?_,?_,?_⟩
     . rw[hA i q (Nat.le_refl _)];exact le (s.lo.1 i q (Nat.le_refl _) ht) (by omega)
     . rw[hU i q (Nat.le_refl _)];exact le (s.lo.2.1 i q (Nat.le_refl _) ht) (by omega)
     . have h3:=I.sC q;have h4:i*2^(u+v)<=2^(u+v+4):=by rw[Nat.pow_add _ _ 4,Nat.mul_comm];exact Nat.mul_le_mul_left _ (by omega)
       have h5:2^(u+v+4)*2<=2^v':=by rw[<-Nat.pow_succ];exact Nat.pow_le_pow_right (by decide) h2
       have h6:2^e'*2<=2^v':=by rw[<-Nat.pow_succ];exact Nat.pow_le_pow_right (by decide) h9
       omega
   . have hi':i<top:=by omega
     refine⟨le (I.sz i q hi').1 h1,le (I.sz i q hi').2 h1,?_⟩;rw[hC i q h];have:g b.C i q=g b0.C i q:=by unfold g;rw[(s.up i hi').2.2]
     rw[this];exact Nat.le_trans (S.hi i q hi').2.2 (Nat.pow_le_pow_right (by decide) (by omega))
 . rw[hA i q (by omega)];by_cases h:q=p
   . rw[h];exact s.z1 i (by omega) hN
   . exact s.zs i q (by omega) hN (by omega)
 . by_cases h:i=top
   . subst h;rw[if_pos rfl];refine⟨Nat.lt_succ_self p,?_,fun q hq=>?_⟩
     . rw[hA i p (Nat.le_refl _)];exact s.tp
     . rw[hA i q (Nat.le_refl _)];exact s.zs i q (Nat.le_refl _) ht hq
   . have hi':i<top:=by omega
     rw[if_neg h];obtain⟨a1,a2,a3⟩:=S.lead i hi';refine⟨Nat.lt_succ_of_lt a1,?_,fun q hq=>?_⟩
     . rw[I.ah i _ hi' a1,hup i _ hi'];exact a2
     . rw[I.ah i _ hi' (Nat.lt_trans hq a1),hup i _ hi'];exact a3 q hq
 . by_cases h:j=top
   . rw[if_pos h,if_neg (by omega)];exact(S.lead i (by omega)).1
   . rw[if_neg h,if_neg (by omega)];exact S.mono i j hij (by omega)
 . by_cases h:j=top
   . subst h;rw[if_pos rfl];exact I.rd i hij
   . have hj':j<top:=by omega
     rw[if_neg h];have:=S.red i j hij hj';have hl:=(S.lead j hj').1;rw[I.ah i _ (by omega) hl,I.ah j _ hj' hl,hup i _ (by omega),hup j _ hj'];exact this
def Cx(e0:Nat):Nat->Nat
 |0=>0
 |t+1=>Uy e0 t+Cx e0 t+Ey e0 (t+1)+5
theorem fC.gb{A0:Rows}{N w top p K KC:Nat}{b0 b c:B3}(h:fC N top p b c):∀ {gm:Nat},Gb A0 N w top p K KC gm b0 b->∃gm',Gb A0 N w top p K KC gm' b0 c:=by
 induction h with
 |refl b=>exact fun G=>⟨_,G⟩
 |head s _ ih=>
  intro gm G;obtain⟨L,k,j,hL,rfl⟩:=s;exact ih (G.step hL).1
theorem ff.En{A0:Rows}{N w t p e u v r:Nat}{b c:B3}{ld:Nat->Nat}(S:ff A0 N w b t p ld e u v)(hN:N<=16)(hp:p<w)(h:fC N t p b c)(l:j4 c.A N t p [r]):
 uc A0 N w t p (2^(4*e+4)) b (setB c p t r)/\t<N/\∀k,k<=t->mD A0 N w t p (4*e+4) u v (setB c p t r) k (ja p t k (setB c p t r)):=by
 obtain⟨gm,G⟩:=h.gb (Gb.start S);obtain⟨s1,h1,h2⟩:=G.set (G.low hN) l;have ht:t<N:=Nat.lt_of_le_of_lt h1 h2;refine⟨s1,ht,fun k=>?_⟩;induction k with
 |zero=>exact fun _=>mD.start s1.tn fun q=>s1.lo.2.2 t q (Nat.le_refl _) ht
 |succ k ih=>
  intro hk;refine(ih (Nat.le_of_lt hk)).step hk ht hp s1.tp (fun q hq=>s1.zs t q (Nat.le_refl _) ht hq) (fun q=>⟨s1.lo.1 t q (Nat.le_refl _) ht,s1.lo.2.1 t q (Nat.le_refl _) ht⟩) fun i q hi=>?_;obtain⟨a1,a2,a3⟩:=s1.Gg hi q;rw[a1,a2,a3];exact S.hi i q hi
theorem eM.str{A:Rows}{N w e0:Nat}(hA:aT N w A)(hlo:gW A N 0 (2^e0))(hN:N<=16){p t:Nat}{b:B3}(h:eM A N p t b):p<=w->∃ld,ff A N w b t p ld (Ey e0 t) (Uy e0 t) (Cx e0 t):=by
 induction h with
 |start=>exact fun _=>⟨_,ff.start hA hlo⟩
 |next _ c ih=>
  intro hp;obtain⟨ld,S⟩:=ih (Nat.le_of_lt hp);cases c with
  |none l=>exact⟨ld,S.skip l⟩
  |one g l=>
   obtain⟨s1,ht,I⟩:=S.En hN hp g l;exact⟨_,uc.KN (e':=Ey e0 (_+1)) (u':=Uy e0 (_+1)) (v':=Cx e0 (_+1)) S s1 ht (I _ (Nat.le_refl _)) (by omega) (Nat.le_refl _) (by show _<=Uy e0 _+Cx e0 _+Ey e0 (_+1)+5;omega) (by show _<=Uy e0 _+Cx e0 _+Ey e0 (_+1)+5;omega)⟩
theorem ff.K9{A0:Rows}{N w t p e u v z:Nat}{b:B3}{ld:Nat->Nat}(S:ff A0 N w b t p ld e u v)(hp:p<w)(hN:N<=16)(hu:u<=z)(hv:v<=z)(hz:t<N->u+v+(4*e+4)+6<=z):Ba N p t z b:=by
 have up:∀ {a x:Nat},a<=2^x->x<=z->a<=2^z:=fun h hx=>Nat.le_trans h (Nat.pow_le_pow_right (by decide) hx);refine⟨fun c h i q hi=>?_,fun c r k h l hk i q hi=>?_⟩
 . obtain⟨gm,G⟩:=h.gb (Gb.start S);by_cases ht:i<t
   . obtain⟨a1,a2,a3⟩:=G.up i ht;have:=S.hi i q ht;unfold g at this⊢;rw[a1,a2,a3];exact⟨up this.1 hu,up this.2.1 hu,up this.2.2 hv⟩
   . have ht':=Nat.le_of_not_lt ht;have hz:=hz (by omega);have w1:=G.low hN;exact⟨up (w1.1 i q ht' hi) (by omega),up (w1.2.1 i q ht' hi) (by omega),up (w1.2.2 i q ht' hi) (by omega)⟩
 . obtain⟨s,ht,I'⟩:=S.En hN hp h l;have hz9:=hz ht;have I:=I' k hk
   have aA:(g (ja p t k (setB c p t r)).A i q).natAbs<=2^z/\(g (ja p t k (setB c p t r)).U i q).natAbs<=2^z:=by
    by_cases hik:i<k
    . exact⟨up (I.sz i q hik).1 (by omega),up (I.sz i q hik).2 (by omega)⟩
    . obtain⟨b1,b2⟩:=I.rA i (Nat.le_of_not_lt hik);unfold g;rw[b1,b2];by_cases hit:i<t
      . obtain⟨a1,a2,a3⟩:=s.Gg hit q;have:=S.hi i q hit;rw[<-a1,<-a2]at this;exact⟨up this.1 hu,up this.2.1 hu⟩
      . have hit':=Nat.le_of_not_lt hit;exact⟨up (s.lo.1 i q hit' hi) (by omega),up (s.lo.2.1 i q hit' hi) (by omega)⟩
   refine⟨aA.1,aA.2,?_⟩;by_cases hit:i=t
   . subst hit;refine Nat.le_trans (I.sC q) ?_;have f1:2^(4*e+4)<=2^(u+v+(4*e+4)):=Nat.pow_le_pow_right (by decide) (by omega);have f2:k*2^(u+v)<=16*2^(u+v+(4*e+4)):=Nat.mul_le_mul (by omega) (Nat.pow_le_pow_right (by decide) (by omega));have f3:2^(u+v+(4*e+4)+6)<=2^z:=Nat.pow_le_pow_right (by decide) hz9;rw[Nat.pow_add _ _ 6]at f3;omega
   . have:=I.rC i hit;unfold g;rw[this];by_cases hlt:i<t
     . have a:=(s.Gg hlt q).2.2;have:=(S.hi i q hlt).2.2;rw[<-a]at this;exact up this hv
     . exact up (s.lo.2.2 i q (Nat.le_of_not_lt hlt) hi) (by omega)
theorem Mo:∀t,t<9->Uy 200 t<=60000000/\Cx 200 t<=60000000/\(t<8->Uy 200 t+Cx 200 t+(4*Ey 200 t+4)+6<=60000000):=by decide+kernel
theorem eM.C_{A:Rows}{N w:Nat}(hA:aT N w A)(hlo:gW A N 0 (2^200))(hN:N<=8){p t:Nat}{b:B3}(hp:p<w)(h:eM A N p t b):Ba N p t 60000000 b:=by
 obtain⟨ld,S⟩:=h.str hA hlo (by omega) (Nat.le_of_lt hp);have le:=S.le;obtain⟨h1,h2,h3⟩:=Mo t (by omega);exact S.K9 hp (by omega) h1 h2 fun h=>h3 (by omega)
def oC(n w:Nat)(f:Nat->Nat->Int):Rows:=(List.range n).map fun i=>(List.range w).map (f i)
theorem uY{n w:Nat}{f:Nat->Nat->Int}:aT n w (oC n w f):=⟨by simp[oC],fun r hr=>by
 obtain⟨i,_,rfl⟩:=List.mem_map.mp hr;simp⟩
theorem sJ{n w i c:Nat}{f:Nat->Nat->Int}(hi:i<n)(hc:c<w):g (oC n w f) i c=f i c:=by
 have h1:(oC n w f).getD i []=(List.range w).map (f i):=by
  unfold oC;rw[a8 (by simpa using hi),List.getElem_map,List.getElem_range]
 unfold g;rw[h1,a8 (by simpa using hc),List.getElem_map,List.getElem_range]
section
variable (F:Rows)(m w t s:Nat)
def NZ(i c:Nat):Int:=
 if i<m then(if c<w then g F i c else if i<s then 0 else g F i (c-w))
 else if c<w then(if i-m<t then 0 else g F (i-m) c)
 else if i-m<s then g F (i-m) (c-w)else if i-m<t then-g F (i-m) (c-w)else 0
def NY(i c:Nat):Int:=
 if i<m then(if i<s then dl (m+i) c else dl i c)
 else if i-m<s then dl (i-m) c-dl i c else if i-m<t then dl i c-dl (i-m) c else dl i c
def Of(i c:Nat):Int:=
 if i<m then(if i<t then dl i c+dl (m+i) c else dl i c)
 else if i-m<s then dl (i-m) c else dl i c
def tw:B3:=⟨oC (m+m) (w+w) (NZ F m w t s),oC (m+m) (m+m) (NY m t s),oC (m+m) (m+m) (Of m t s)⟩
end
section
variable {F:Rows}{m w t s:Nat}{ld:Nat->Nat}
def tv(F:Rows)(m w s:Nat):B3:=⟨fV (tw F m w m s).A (m+s),fV (tw F m w m s).U (m+s),fV (tw F m w m s).C (m+s)⟩
end
def tl(H:Rows)(a w:Nat):Rows:=(H.drop a).map (List.drop w)
section
variable {X Y:Rows}{N w r top:Nat}{ld f:Nat->Nat}
theorem Av(rw_:r<=w)(hf:∀q,q<r->f q<N)(out:∀i c,i<N->c<w->r<=c->g X i c=0)(j8:∀q c,q<r->c<r->q<c->g X (f q) c=0)(nz:∀q,q<r->g X (f q) q≠0):∀q,q<=r->∃P:Int,P≠0/\∀j,j<q->bE X N w fun c=>P*dl j c
 |0,_=>⟨1,by decide,fun j hj=>absurd hj (Nat.not_lt_zero _)⟩
 |q+1,hq=>by
  obtain⟨P,hP,h⟩:=Av rw_ hf out j8 nz q (by omega);refine⟨P*g X (f q) q,Int.mul_ne_zero hP (nz q hq),fun j hj=>?_⟩;by_cases hjq:j<q
  . refine(bE.smul (g X (f q) q) (h j hjq)).eq fun c _=>?_;show P*g X (f q) q*dl j c=g X (f q) q*(P*dl j c);rw[Int.mul_comm P,Int.mul_assoc]
  . have e:j=q:=by omega
    subst e;have h1:=bE.kY (-1) (bE.smul P (bE.row (X:=X) (w:=w) (hf j hq))) (bE.comb (X:=X) (n:=N) (w:=w) (a:=fun l=>g X (f j) l) (v:=fun l c=>P*dl l c) fun l hl=>h l hl);refine h1.eq fun c hc=>?_;show P*g X (f j) j*dl j c=P*g X (f j) c+ -1*S j fun l=>g X (f j) l*(P*dl l c)
    have e1:(S j fun l=>g X (f j) l*(P*dl l c))=if c<j then g X (f j) c*P else 0:=by
     by_cases h2:c<j
     . rw[if_pos h2,<-ka h2 fun l=>g X (f j) l*P];exact aE fun l _=>by rw[Int.mul_assoc]
     . rw[if_neg h2];exact ix fun l hl=>by rw[bx (show l≠c by omega),Int.mul_zero,Int.mul_zero]
    rw[e1];by_cases h2:c<j
    . rw[if_pos h2,bx (show j≠c by omega),Int.mul_comm (g X (f j) c)];omega
    . rw[if_neg h2];by_cases h3:c=j
      . subst h3;rw[bD];omega
      . rw[bx (show j≠c by omega)]
        have:g X (f j) c=0:=by
         by_cases h4:c<r
         . exact j8 j c hq h4 (by omega)
         . exact out _ c (hf j hq) hc (by omega)
        rw[this];omega
theorem LU(st:ft Y top w ld)(same:vi X N Y top w)(rw_:r<=w)(hf:∀q,q<r->f q<N)(out:∀i c,i<N->c<w->r<=c->g X i c=0)(j8:∀q c,q<r->c<r->q<c->g X (f q) c=0)(nz:∀q,q<r->g X (f q) q≠0):top=r/\(∀q,q<r->ld q=q)/\∀i c,i<top->c<w->r<=c->g Y i c=0:=by
 obtain⟨P,hP,hu⟩:=Av rw_ hf out j8 nz r (Nat.le_refl _)
 have ge:∀i,i<top->i<=ld i:=fun i=>by
  induction i with
  |zero=>exact fun _=>Nat.zero_le _
  |succ i ih=>exact fun hi=>Nat.lt_of_le_of_lt (ih (by omega)) (st.mono i (i+1) (Nat.lt_succ_self i) hi)
 have yo:∀i c,i<top->c<w->r<=c->g Y i c=0:=fun i c hi hc hr=>by
  obtain⟨z,hz⟩:=same.of i hi;rw[hz c hc];exact ix fun k hk=>by rw[out k c hk hc hr,Int.mul_zero]
 have lt:∀i,i<top->ld i<r:=fun i hi=>Nat.lt_of_not_le fun z=>by
  obtain⟨h1,h2,_⟩:=st.lead i hi;rw[yo i _ hi h1 z]at h2;exact absurd h2 (by decide)
 have key:∀q,q<r->q<top/\ld q=q:=fun q=>by
  induction q using Nat.strongRecOn with
  |ind q ih=>
   intro hq;have hv:=bE.trans same.to (hu q hq);rcases st.at (q:=q) hv (by omega) (fun c hc=>by show P*dl q c=0;rw[bx (by omega),Int.mul_zero])with⟨i,h1,h2,_⟩|h0
   . have h3:=ge i h1;by_cases e:i=q
     . subst e;exact⟨h1,h2⟩
     . have:=(ih i (by omega) (by omega)).2;omega
   . exact absurd h0 (by show P*dl q q≠0;rw[bD,Int.mul_one];exact hP)
 refine⟨Nat.le_antisymm (Nat.le_of_not_lt fun z=>?_) (Nat.le_of_not_lt fun z=>?_),fun q hq=>(key q hq).2,yo⟩
 . have h1:=lt r z;have h2:=ge r z;omega
 . have h1:=(key top z).1;omega
end
structure Fr(X Y:Rows)(N w r:Nat):Prop where
 is:aT N w Y
 rN:r<=N
 rW:r<=w
 zs:∀i c,r<=i->i<N->c<w->g Y i c=0
 out:∀i c,i<N->c<w->r<=c->g Y i c=0
 up:∀i c,i<r->c<i->g Y i c=0
 pos:∀i,i<r->0<g Y i i
 red:∀i j,i<j->j<r->0<=g Y i j/\g Y i j<g Y j j
 wV:∀v:Nat->Int,bE X N w v↔bE Y r w v
theorem Fr.BS{X Y:Rows}{N w r:Nat}(h:Fr X Y N w r):ft Y r w fun i=>i:=⟨fun i hi=>⟨Nat.lt_of_lt_of_le hi h.rW,h.pos i hi,fun c hc=>h.up i c hi hc⟩,fun i j hij _=>hij⟩
theorem Gn{X:Rows}{N w r top e u v:Nat}{c:B3}{ld f:Nat->Nat}(H:ff X N w c top w ld e u v)(rw_:r<=w)(hf:∀q,q<r->f q<N)(out:∀i c,i<N->c<w->r<=c->g X i c=0)(j8:∀q c,q<r->c<r->q<c->g X (f q) c=0)(nz:∀q,q<r->g X (f q) q≠0):top=r/\Fr X c.A N w r:=by
 have S1:=H.Dn;have same:=S1.AW;obtain⟨e,el,yo⟩:=LU ⟨S1.lead,S1.mono⟩ same rw_ hf out j8 nz;subst e;have zs:∀i c',top<=i->i<N->c'<w->g c.A i c'=0:=fun i c' h1 h2 h3=>S1.zs i c' h1 h2 h3;refine⟨rfl,S1.tn.isA,S1.le,rw_,zs,fun i c' h1 h2 h3=>?_,fun i c' h1 h2=>?_,fun i hi=>?_,fun i j hij hj=>?_,fun v=>⟨bE.trans same.to,bE.trans same.of⟩⟩
 . by_cases h:i<top
   . exact yo i c' h h2 h3
   . exact zs i c' (by omega) h1 h2
 . exact(S1.lead i h1).2.2 c' (by rw[el i h1];exact h2)
 . have:=(S1.lead i hi).2.1;rwa [el i hi]at this
 . have:=S1.red i j hij hj;rwa [el j hj]at this
theorem Fr.prod{X Y:Rows}{N w r:Nat}{f:Nat->Nat}(h:Fr X Y N w r)(hf:∀q,q<r->f q<N)(j8:∀q c,q<r->c<r->q<c->g X (f q) c=0):(Pr r fun q=>g Y q q)∣Pr r fun q=>g X (f q) q:=by
 have hz:∀q,∃z:Nat->Int,q<r->∀c,c<w->g X (f q) c=S r fun k=>z k*g Y k c:=fun q=>by
  by_cases hq:q<r
  . obtain⟨z,hz⟩:=(h.wV _).mp (bE.row (X:=X) (w:=w) (hf q hq));exact⟨z,fun _=>hz⟩
  . exact⟨fun _=>0,fun z=>absurd z hq⟩
 let B:Fn:=fun q=>Classical.choose (hz q)
 have eB:∀q,q<r->∀c,c<w->g X (f q) c=S r fun k=>B q k*g Y k c:=fun q=>Classical.choose_spec (hz q)
 have e1:D r (fun q c=>g X (f q) c)=D r B*D r (g Y):=by
  rw[<-A9];exact dw fun q c hq hc=>eB q hq c (by have:=h.rW;omega)
 rw[BF (fun q c hq hc hqc=>j8 q c hq hc hqc),E1 (fun q c hq hc hqc=>h.up q c hq hqc)]at e1;exact⟨D r B,by rw[e1,Int.mul_comm]⟩
theorem Fr.fix{X Y:Rows}{N w r q:Nat}{a:Int}(h:Fr X Y N w r)(hq:q<r)(ha:0<a)(h1:∀i,i<N->a∣g X i q)(h2:bE X N w fun c=>a*dl q c):g Y q q=a/\(∀i,i<r->i≠q->g Y i q=0)/\∀c,c<w->c≠q->g Y q c=0:=by
 have rW:=h.rW
 have dv:∀v:Nat->Int,bE X N w v->a∣v q:=fun v ⟨z,hz⟩=>by
  rw[hz q (by omega)]
  have:∀n,n<=N->a∣S n fun k=>z k*g X k q:=fun n=>by
   induction n with
   |zero=>exact fun _=>⟨0,by rw[Int.mul_zero];rfl⟩
   |succ n ih=>exact fun hn=>Int.dvd_add (ih (by omega)) (Int.dvd_trans (h1 n (by omega)) (Int.dvd_mul_left _ _))
  exact this N (Nat.le_refl _)
 have row:∀i,i<r->bE X N w (g Y i):=fun i hi=>(h.wV _).mpr (bE.row hi)
 have e1:g Y q q=a:=by
  have d1:=dv _ (row q hq)
  have d2:g Y q q∣a:=by
   rcases h.BS.at (q:=q) ((h.wV _).mp h2) (by omega) (fun c hc=>by show a*dl q c=0;rw[bx (by omega),Int.mul_zero])with⟨i,_,e,hd⟩|h0
   . have e:i=q:=e;subst e;have:g Y i i∣a*dl i i:=hd;rwa [bD,Int.mul_one]at this
   . have h0:a*dl q q=0:=h0;rw[bD]at h0;omega
  exact Int.dvd_antisymm (Int.le_of_lt (h.pos q hq)) (Int.le_of_lt ha) d2 d1
 have e2:∀i,i<r->i≠q->g Y i q=0:=fun i hi hne=>by
  by_cases hlt:q<i
  . exact h.up i q hi hlt
  . obtain⟨r1,r2⟩:=h.red i q (by omega) hq;have d:=dv _ (row i hi);rw[e1]at r2;exact Int.eq_zero_of_dvd_of_natAbs_lt_natAbs d (by omega)
 refine⟨e1,e2,fun c hc hne=>?_⟩;have hv:bE Y r w fun c=>g Y q c-a*dl q c:=(h.wV _).mp (bE.sub (row q hq) h2)
 have:=h.BS.LW hv (fun k hk=>by
  show 0<=g Y q k-a*dl q k/\g Y q k-a*dl q k<g Y k k;have hp:=h.pos k hk;by_cases e:q=k
  . subst e;rw[bD,e1];omega
  . rw[bx e,Int.mul_zero,Int.sub_zero];by_cases hlt:q<k
    . exact h.red q k hlt hk
    . rw[h.up q k hq (by omega)];omega) c hc
 have:g Y q c-a*dl q c=0:=this;rw[bx (Ne.symm hne)]at this;omega
theorem Fr.dvd{X Y:Rows}{N w r q:Nat}{v:Nat->Int}(h:Fr X Y N w r)(hq:q<r)(hv:bE X N w v)(h0:∀c,c<q->v c=0):g Y q q∣v q:=by
 rcases h.BS.at (q:=q) ((h.wV _).mp hv) (by have:=h.rW;omega) h0 with⟨i,_,e,hd⟩|h0
 . have e:i=q:=e;subst e;exact hd
 . rw[h0];exact⟨0,by rw[Int.mul_zero]⟩
structure Lo(X:Rows)(N w r:Nat):Prop where
 is:aT N w X
 rN:r<=N
 rW:r<=w
 out:∀i c,i<N->c<w->r<=i\/r<=c->g X i c=0
 j8:∀i c,i<r->c<r->i<c->g X i c=0
 pos:∀i,i<r->0<g X i i
 le:∀i c,c<i->i<r->0<=g X i c/\g X i c<=g X i i
theorem Fr.lo{X Y:Rows}{N w r:Nat}(h:Fr X Y N w r):Lo (bH Y w) w N r:=by
 have rN:=h.rN;have rW:=h.rW;have at_:∀i c,i<N->c<w->g (bH Y w) c i=g Y i c:=fun i c hi hc=>cK h.is hi hc;refine⟨dj h.is,rW,rN,fun i c hi hc ho=>?_,fun i c hi hc hic=>?_,fun i hi=>?_,fun i c hci hi=>?_⟩
 . rw[at_ c i hc hi];rcases ho with z|z
   . exact h.out c i hc hi z
   . exact h.zs c i z hc hi
 . rw[at_ c i (by omega) (by omega)];exact h.up c i hc hic
 . rw[at_ i i (by omega) (by omega)];exact h.pos i hi
 . rw[at_ c i (by omega) (by omega),at_ i i (by omega) (by omega)];obtain⟨a,b⟩:=h.red c i hci hi;exact⟨a,Int.le_of_lt b⟩
theorem Lo.fr{X:Rows}{N w r top e u v:Nat}{c:B3}{ld:Nat->Nat}(L:Lo X N w r)(H:ff X N w c top w ld e u v):top=r/\Fr X c.A N w r/\(Pr r fun q=>g c.A q q)∣Pr r fun q=>g X q q:=by
 have rN:=L.rN;have h:=Gn (f:=fun q=>q) H L.rW (fun q hq=>by omega) (fun i c hi hc hr=>L.out i c hi hc (.inr hr)) (fun q c hq hc=>L.j8 q c hq hc) fun q hq=>Int.ne_of_gt (L.pos q hq);exact⟨h.1,h.2,h.2.prod (f:=fun q=>q) (fun q hq=>by omega) fun q c hq hc=>L.j8 q c hq hc⟩
theorem Lo.abs{X:Rows}{N w r M:Nat}(L:Lo X N w r)(hM:(Pr r fun q=>g X q q)<=(M:Int))(i c:Nat)(hi:i<N)(hc:c<w):(g X i c).natAbs<=M:=by
 by_cases hir:i<r
 . by_cases hcr:c<r
   . have h1:=xB (fun q hq=>L.pos q hq) i hir;by_cases h2:i<c
     . rw[L.j8 i c hir hcr h2];exact Nat.zero_le _
     . by_cases h3:c=i
       . subst h3;have:=L.pos c hir;omega
       . have:=L.le i c (by omega) hir;omega
   . rw[L.out i c hi hc (.inr (by omega))];exact Nat.zero_le _
 . rw[L.out i c hi hc (.inl (by omega))];exact Nat.zero_le _
theorem J9{r M:Nat}{X:Fn}{t y:Nat->Int}(j8:∀i c,i<r->c<r->i<c->X i c=0)(pos:∀i,i<r->0<X i i)(le:∀i c,c<i->i<r->0<=X i c/\X i c<=X i i)(hy:∀c,c<r->(y c).natAbs<=M)(e:∀c,c<r->y c=S r fun j=>t j*X j c):∀d c,c<r->r-1-c=d->(t c*X c c).natAbs<=2^d*M:=fun d=>by
 induction d using Nat.strongRecOn with
 |ind d ih=>
  intro c hc hd;have h1:=e c hc
  have sp:(S r fun j=>t j*X j c)=t c*X c c+S (r-1-c) fun k=>t (c+1+k)*X (c+1+k) c:=by
   have er:r=(c+1)+(r-1-c):=by omega
   conv=>lhs;rw[er]
   rw[vG];congr 1;show S c (fun j=>t j*X j c)+t c*X c c=_;rw[ix fun j hj=>by rw[j8 j c (by omega) hc hj,Int.mul_zero],Int.zero_add]
  have bd:∀n,n<=r-1-c->(S n fun k=>t (c+1+k)*X (c+1+k) c).natAbs<=(2^d-2^(d-n))*M:=fun n=>by
   induction n with
   |zero=>intro _;exact Nat.zero_le _
   |succ n ih2=>
    intro hn;have h3:=ih2 (by omega);have h4:=ih (d-1-n) (by omega) (c+1+n) (by omega) (by omega)
    have h5:(t (c+1+n)*X (c+1+n) c).natAbs<=2^(d-1-n)*M:=by
     refine Nat.le_trans ?_ h4;rw[Int.natAbs_mul,Int.natAbs_mul];refine Nat.mul_le_mul_left _ ?_;have:=le (c+1+n) c (by omega) (by omega);omega
    have h6:(S (n+1) fun k=>t (c+1+k)*X (c+1+k) c).natAbs<=(S n fun k=>t (c+1+k)*X (c+1+k) c).natAbs+(t (c+1+n)*X (c+1+n) c).natAbs:=Int.natAbs_add_le _ _;refine Nat.le_trans h6 (Nat.le_trans (Nat.add_le_add h3 h5) ?_);rw[<-Nat.add_mul];refine Nat.mul_le_mul_right _ ?_;have p1:2^(d-n)=2*2^(d-1-n):=by rw[show d-n=(d-1-n)+1 by omega,Nat.pow_succ,Nat.mul_comm]
    have p2:2^(d-n)<=2^d:=Nat.pow_le_pow_right (by decide) (by omega);rw[show d-(n+1)=d-1-n by omega];omega
  have h2:=bd (r-1-c) (Nat.le_refl _);rw[hd,Nat.sub_self]at h2;have h3:=hy c hc;rw[h1,sp]at h3;have h4:(t c*X c c).natAbs<=M+(2^d-2^0)*M:=by rw[hd]at h3;omega
  refine Nat.le_trans h4 ?_
  have:(2^d-2^0)*M+M=2^d*M:=by
   have p:1<=2^d:=Nat.one_le_two_pow;rw[show(2^d-2^0)*M+M=((2^d-1)+1)*M by rw[Nat.add_mul,Nat.one_mul],Nat.sub_add_cancel p]
  omega
theorem Jc{r M:Nat}{Y:Fn}{t x:Nat->Int}(up:∀i c,i<r->c<i->Y i c=0)(pos:∀i,i<r->0<Y i i)(red:∀i j,i<j->j<r->0<=Y i j/\Y i j<Y j j)(hx:∀c,c<r->(x c).natAbs<=M)(e:∀c,c<r->x c=S r fun k=>t k*Y k c):∀c,c<r->(t c).natAbs<=2^c*M:=fun c=>by
 induction c using Nat.strongRecOn with
 |ind c ih=>
  intro hc;have h1:=e c hc
  have sp:(S r fun k=>t k*Y k c)=S c (fun k=>t k*Y k c)+t c*Y c c:=by
   have er:r=(c+1)+(r-1-c):=by omega
   conv=>lhs;rw[er]
   rw[vG,ix (n:=r-1-c) fun k hk=>by rw[up (c+1+k) c (by omega) (by omega),Int.mul_zero],Int.add_zero];rfl
  have bd:∀n,n<=c->(S n fun k=>t k*Y k c).natAbs<=(2^n-1)*M*(Y c c).natAbs:=fun n=>by
   induction n with
   |zero=>intro _;exact Nat.zero_le _
   |succ n ih2=>
    intro hn;have h3:=ih2 (by omega);have h4:=ih n (by omega) (by omega)
    have h5:(t n*Y n c).natAbs<=2^n*M*(Y c c).natAbs:=by
     rw[Int.natAbs_mul];refine Nat.mul_le_mul h4 ?_;have:=red n c (by omega) hc;omega
    have h6:(S (n+1) fun k=>t k*Y k c).natAbs<=(S n fun k=>t k*Y k c).natAbs+(t n*Y n c).natAbs:=Int.natAbs_add_le _ _;refine Nat.le_trans h6 (Nat.le_trans (Nat.add_le_add h3 h5) ?_);rw[<-Nat.add_mul,<-Nat.add_mul];refine Nat.mul_le_mul_right _ (Nat.mul_le_mul_right _ ?_);have p:1<=2^n:=Nat.one_le_two_pow;rw[Nat.pow_succ];omega
  have h2:=bd c (Nat.le_refl _);have h3:=hx c hc;have hp:=pos c hc;rw[h1,sp]at h3;have h4:(t c*Y c c).natAbs<=M+(2^c-1)*M*(Y c c).natAbs:=by omega
  have h5:(t c).natAbs*(Y c c).natAbs<=2^c*M*(Y c c).natAbs:=by
   rw[<-Int.natAbs_mul];refine Nat.le_trans h4 ?_;have p:1<=2^c:=Nat.one_le_two_pow
   have e1:2^c*M*(Y c c).natAbs=(2^c-1)*M*(Y c c).natAbs+M*(Y c c).natAbs:=by
    rw[<-Nat.add_mul];congr 1;rw[show(2^c-1)*M+M=((2^c-1)+1)*M by rw[Nat.add_mul,Nat.one_mul],Nat.sub_add_cancel p]
   rw[e1];have:M<=M*(Y c c).natAbs:=Nat.le_mul_of_pos_right _ (by omega);omega
  exact Nat.le_of_mul_le_mul_right h5 (by omega)
theorem og{X B:Rows}{n w w' a b:Nat}(hX:aT n w X)(hB:aT w w' B)(w8:w<=8)(bX:∀i c,i<n->c<w->(g X i c).natAbs<=2^a)(bB:∀i c,i<w->c<w'->(g B i c).natAbs<=2^b):∀i c,i<n->c<w'->(g (mulM X B w') i c).natAbs<=2^(a+b+3):=fun i c hi hc=>by
 rw[e_ hX hB hi]
 have:=xr (n:=w) (f:=fun k=>g X i k*g B k c) (m:=2^a*2^b) fun k hk=>by
  rw[Int.natAbs_mul];exact Nat.mul_le_mul (bX i k hi hk) (bB k c hk hc)
 refine Nat.le_trans this ?_;rw[show a+b+3=3+(a+b) by omega,Nat.pow_add _ 3,Nat.pow_add];exact Nat.mul_le_mul_right _ w8
structure Zr(N w r:Nat)(b:B3):Prop where
 iA:aT N w b.A
 iU:aT N N b.U
 iC:aT N N b.C
 a:∀i c,r<=i->i<N->g b.A i c=0
 u:∀i c,i<N->c<N->r<=i\/r<=c->g b.U i c=dl i c
 c:∀i c,i<N->c<N->r<=i\/r<=c->g b.C i c=dl i c
section
variable {N w r p top:Nat}{b:B3}
theorem z8{Y:Rows}{k j:Nat}{q:Int}(iY:aT N N Y)(hk:k<N)(hj:j<N)(kr:k<r)(jr:j<r)(h:∀i c,i<N->c<N->r<=i\/r<=c->g Y i c=dl i c)(i c:Nat)(hi:i<N)(hc:c<N)(ho:r<=i\/r<=c):g (aP Y k q j) i c=dl i c:=by
 rw[dD iY hk hj];by_cases e:i=k
 . subst e;rw[if_pos rfl,h i c hi hc ho,h j c hj hc (.inr (by omega)),bx (show j≠c by omega),Int.mul_zero,Int.sub_zero]
 . rw[if_neg e];exact h i c hi hc ho
theorem Zr.take(z:Zr N w r b){k j:Nat}{q q':Int}(hk:k<N)(hj:j<N)(kr:k<r)(jr:j<r):Zr N w r ⟨aP b.A k q j,aP b.U k q j,aP b.C j q' k⟩:=by
 refine⟨lY z.iA hk hj,lY z.iU hk hj,lY z.iC hj hk,fun i c h1 h2=>?_,z8 z.iU hk hj kr jr z.u,z8 z.iC hj hk jr kr z.c⟩;show g (aP b.A k q j) i c=0;rw[dD z.iA hk hj,if_neg (by omega)];exact z.a i c h1 h2
theorem Zr.lt(z:Zr N w r b){L:List Nat}(hL:j4 b.A N top p L){k:Nat}(hk:k∈L):top<=k/\k<N/\k<r:=by
 obtain⟨h1,h2,h3⟩:=(hL.mem k).mp hk;exact⟨h1,h2,Nat.lt_of_not_le fun y=>h3 (z.a k p y h2)⟩
theorem Zr.reach{c:B3}(h:fC N top p b c):Zr N w r b->Zr N w r c:=by
 induction h with
 |refl b=>exact fun z=>z
 |head s _ ih=>
  intro z;obtain⟨L,k,j,hL,rfl⟩:=s;obtain⟨_,k2,k3⟩:=z.lt hL (k:=k) (by simp);obtain⟨_,j2,j3⟩:=z.lt hL (k:=j) (by simp);exact ih (z.take k2 j2 k3 j3)
theorem FA{Y:Rows}{k o:Nat}(iY:aT N N Y)(hk:k<N)(ho:o<N)(kr:k<r)(or_:o<r)(h:∀i c,i<N->c<N->r<=i\/r<=c->g Y i c=dl i c)(i c:Nat)(hi:i<N)(hc:c<N)(hh:r<=i\/r<=c):g (bq Y k o) i c=dl i c:=by
 rw[i8 iY hk ho];by_cases hr:r<=i
 . have e:sw k o i=i:=by unfold sw;rw[if_neg (by omega),if_neg (by omega)]
   rw[e];exact h i c hi hc hh
 . have hs:sw k o i<r:=nV kr or_ (by omega);rw[h _ c (nV hk ho hi) hc (.inr (by omega)),bx (by omega),bx (by omega)]
theorem FF{Y:Rows}{k:Nat}(iY:aT N N Y)(hk:k<N)(kr:k<r)(h:∀i c,i<N->c<N->r<=i\/r<=c->g Y i c=dl i c)(i c:Nat)(hi:i<N)(hc:c<N)(hh:r<=i\/r<=c):g (fV Y k) i c=dl i c:=by
 rw[jK iY hk];by_cases e:i=k
 . subst e;rw[if_pos rfl,h i c hi hc hh,bx (show i≠c by omega)];rfl
 . rw[if_neg e];exact h i c hi hc hh
theorem Zr.set{c:B3}{s:Nat}(z:Zr N w r c)(hL:j4 c.A N top p [s]):Zr N w r (setB c p top s)/\top<r/\top<N:=by
 obtain⟨s1,s2,s3⟩:=z.lt hL (k:=s) (by simp);have tr:top<r:=by omega
 have tN:top<N:=by omega
 have z1:Zr N w r ⟨bq c.A top s,bq c.U top s,bq c.C top s⟩:=by
  refine⟨mi z.iA tN s2,mi z.iU tN s2,mi z.iC tN s2,fun i q h1 h2=>?_,FA z.iU tN s2 tr s3 z.u,FA z.iC tN s2 tr s3 z.c⟩;show g (bq c.A top s) i q=0;rw[i8 z.iA tN s2,show sw top s i=i by unfold sw;rw[if_neg (by omega),if_neg (by omega)]];exact z.a i q h1 h2
 refine⟨?_,tr,tN⟩;unfold setB;split
 . refine⟨pU z1.iA tN,pU z1.iU tN,pU z1.iC tN,fun i q h1 h2=>?_,FF z1.iU tN tr z1.u,FF z1.iC tN tr z1.c⟩;show g (fV (bq c.A top s) top) i q=0;rw[jK z1.iA tN,if_neg (by omega)];exact z1.a i q h1 h2
 . exact z1
theorem Zr.low(z:Zr N w r b)(tr:top<r)(tN:top<N):∀k,k<=top->Zr N w r (ja p top k b)
 |0,_=>z
 |k+1,hk=>by
  have ih:=Zr.low z tr tN k (by omega);unfold ja;exact ih.take (by omega) tN (by omega) tr
theorem eM.zr{X:Rows}(iX:aT N w X)(h0:∀i c,r<=i->i<N->c<w->g X i c=0){p t:Nat}{c:B3}(h:eM X N p t c):Zr N w r c:=by
 induction h with
 |start=>
  refine⟨iX,cj N,cj N,fun i c h1 h2=>?_,fun i c hi hc _=>cV hi hc,fun i c hi hc _=>cV hi hc⟩;by_cases hc:c<w
  . exact h0 i c h1 h2 hc
  . unfold g;rw[md (by rw[iX.row h2];omega)]
 |next _ cl ih=>
  cases cl with
  |none l=>exact ih
  |one gr l=>
   obtain⟨z,tr,tN⟩:=(Zr.reach gr ih).set l;exact z.low tr tN _ (Nat.le_refl _)
end
theorem qu{f h:Nat->Int}:∀ {n:Nat},(∀i,i<n->f i=h i)->Pr n f=Pr n h
 |0,_=>rfl
 |n+1,e=>by
  show Pr n f*f n=Pr n h*h n;rw[qu fun i hi=>e i (Nat.lt_succ_of_lt hi),e n (Nat.lt_succ_self n)]
theorem Lo.turn{X:Rows}{N w r top e u v b:Nat}{c:B3}{ld:Nat->Nat}(L:Lo X N w r)(r8:r<=8)(hC:eM X N w top c)(H:ff X N w c top w ld e u v)(hM:(Pr r fun q=>g X q q)<=((2^b:Nat):Int)):∀i j,i<N->j<N->(g c.U i j).natAbs<=2^(b+8)/\(g c.C i j).natAbs<=2^(b+8):=by
 have rN:=L.rN;have rW:=L.rW;have z:=hC.zr L.is (r:=r) fun i c h1 h2 h3=>L.out i c h2 h3 (.inl h1);obtain⟨et,F,dv⟩:=L.fr H;subst et;have pX:0<Pr top fun q=>g X q q:=mQ fun q hq=>L.pos q hq;have hY:(Pr top fun q=>g c.A q q)<=((2^b:Nat):Int):=Int.le_trans (Int.le_of_dvd pX dv) hM;have bX:=L.abs hM
 have bY:∀i j,i<N->j<w->(g c.A i j).natAbs<=2^b:=fun i j hi hj=>by
  have hT:(Pr top fun q=>g (bH c.A w) q q)<=((2^b:Nat):Int):=by
   have e1:(Pr top fun q=>g (bH c.A w) q q)=Pr top fun q=>g c.A q q:=qu fun q hq=>cK F.is (by omega) (by omega);rw[e1];exact hY
  have:=F.lo.abs hT j i hj hi;rwa [cK F.is hi hj]at this
 have one:1<=2^(b+8):=Nat.one_le_two_pow;have d1:∀a b',(dl a b').natAbs<=2^(b+8):=fun a b'=>by unfold dl;split<;>(try exact one);exact Nat.zero_le _
 have up:∀ {d:Nat},d<=8->2^d*2^b<=2^(b+8):=fun{d} h=>by rw[<-Nat.pow_add];exact Nat.pow_le_pow_right (by decide) (by omega)
 refine fun i j hi hj=>⟨?_,?_⟩
 . by_cases ho:top<=i\/top<=j
   . rw[z.u i j hi hj ho];exact d1 _ _
   . have hi':i<top:=by omega
     have hj':j<top:=by omega
     have s:=J9 (r:=top) (M:=2^b) (X:=g X) (t:=g c.U i) (y:=g c.A i) L.j8 L.pos L.le (fun c' hc'=>bY i c' hi (by omega)) (fun c' hc'=>by
      rw[H.tn.ua i c' hi (by omega)];exact Bz rN fun k h1 h2=>by rw[L.out k c' h2 (by omega) (.inl h1),Int.mul_zero]) (top-1-j) j hj' rfl
     have hp:=L.pos j hj'
     have:(g c.U i j).natAbs<=(g c.U i j*g X j j).natAbs:=by
      rw[Int.natAbs_mul];exact Nat.le_mul_of_pos_right _ (by omega)
     exact Nat.le_trans this (Nat.le_trans s (up (by omega)))
 . by_cases ho:top<=i\/top<=j
   . rw[z.c i j hi hj ho];exact d1 _ _
   . have hi':i<top:=by omega
     have hj':j<top:=by omega
     have s:=Jc (r:=top) (M:=2^b) (Y:=g c.A) (t:=fun k=>g c.C k j) (x:=g X j) F.up F.pos F.red (fun c' hc'=>bX j c' (by omega) (by omega)) (fun c' hc'=>H.Dn.back hj (by omega)) i hi';exact Nat.le_trans s (up (by omega))
structure Sd(A B L Lb R Rb:Rows)(N w x:Nat):Prop where
 iA:aT N w A
 iB:aT N w B
 iL:aT N N L
 tS:aT N N Lb
 iR:aT w w R
 pF:aT w w Rb
 eq:mulM (mulM L A w) R w=B
 l1:mulM L Lb N=units N
 l2:mulM Lb L N=units N
 r1:mulM R Rb w=units w
 r2:mulM Rb R w=units w
 sL:∀i j,i<N->j<N->(g L i j).natAbs<=2^x
 CL:∀i j,i<N->j<N->(g Lb i j).natAbs<=2^x
 sR:∀i j,i<w->j<w->(g R i j).natAbs<=2^x
 Dw:∀i j,i<w->j<w->(g Rb i j).natAbs<=2^x
theorem Sd.start{A:Rows}{N w:Nat}(hA:aT N w A):Sd A A (units N) (units N) (units w) (units w) N w 0:=by
 have d1:∀n i j,i<n->j<n->(g (units n) i j).natAbs<=2^0:=fun n i j hi hj=>by
  rw[cV hi hj];unfold dl;split<;>decide
 exact⟨hA,hA,cj _,cj _,cj _,cj _,by rw[fw hA,zJ hA],fw (cj _),fw (cj _),fw (cj _),fw (cj _),d1 N,d1 N,d1 w,d1 w⟩
theorem Sd.mono{A B L Lb R Rb:Rows}{N w x x':Nat}(h:Sd A B L Lb R Rb N w x)(l:x<=x'):Sd A B L Lb R Rb N w x':=by
 have up:∀ {a:Nat},a<=2^x->a<=2^x':=fun h=>Nat.le_trans h (Nat.pow_le_pow_right (by decide) l);exact⟨h.iA,h.iB,h.iL,h.tS,h.iR,h.pF,h.eq,h.l1,h.l2,h.r1,h.r2,fun i j hi hj=>up (h.sL i j hi hj),fun i j hi hj=>up (h.CL i j hi hj),fun i j hi hj=>up (h.sR i j hi hj),fun i j hi hj=>up (h.Dw i j hi hj)⟩
theorem Sd.left{A B L Lb R Rb T Tb:Rows}{N w x y:Nat}(h:Sd A B L Lb R Rb N w x)(n8:N<=8)(iT:aT N N T)(iTb:aT N N Tb)(t1:mulM T Tb N=units N)(t2:mulM Tb T N=units N)(sT:∀i j,i<N->j<N->(g T i j).natAbs<=2^y)(sTb:∀i j,i<N->j<N->(g Tb i j).natAbs<=2^y):Sd A (mulM T B w) (mulM T L N) (mulM Lb Tb N) R Rb N w (x+y+3):=by
 have h':=h.mono (show x<=x+y+3 by omega);refine⟨h.iA,bM iT h.iB,bM iT h.iL,bM h.tS iTb,h.iR,h.pF,?_,?_,?_,h.r1,h.r2,?_,?_,h'.sR,h'.Dw⟩
 . rw[eS iT h.iL h.iA,eS iT (bM h.iL h.iA) h.iR,h.eq]
 . rw[eS iT h.iL (bM h.tS iTb),<-eS h.iL h.tS iTb,h.l1,fw iTb,t1]
 . rw[eS h.tS iTb (bM iT h.iL),<-eS iTb iT h.iL,t2,fw h.iL,h.l2]
 . intro i j hi hj;have:=og iT h.iL n8 sT h.sL i j hi hj;rwa [show y+x+3=x+y+3 by omega]at this
 . exact fun i j hi hj=>og h.tS iTb n8 h.CL sTb i j hi hj
theorem Sd.right{A B L Lb R Rb T Tb:Rows}{N w x y:Nat}(h:Sd A B L Lb R Rb N w x)(w8:w<=8)(iT:aT w w T)(iTb:aT w w Tb)(t1:mulM T Tb w=units w)(t2:mulM Tb T w=units w)(sT:∀i j,i<w->j<w->(g T i j).natAbs<=2^y)(sTb:∀i j,i<w->j<w->(g Tb i j).natAbs<=2^y):Sd A (mulM B T w) L Lb (mulM R T w) (mulM Tb Rb w) N w (x+y+3):=by
 have h':=h.mono (show x<=x+y+3 by omega);refine⟨h.iA,bM h.iB iT,h.iL,h.tS,bM h.iR iT,bM iTb h.pF,?_,h.l1,h.l2,?_,?_,h'.sL,h'.CL,?_,?_⟩
 . rw[<-eS (bM h.iL h.iA) h.iR iT,h.eq]
 . rw[eS h.iR iT (bM iTb h.pF),<-eS iT iTb h.pF,t1,fw h.pF,h.r1]
 . rw[eS iTb h.pF (bM h.iR iT),<-eS h.pF h.iR iT,h.r2,fw iT,t2]
 . exact fun i j hi hj=>og h.iR iT w8 h.sR sT i j hi hj
 . intro i j hi hj;have:=og iTb h.pF w8 sTb h.Dw i j hi hj;rwa [show y+x+3=x+y+3 by omega]at this
theorem Tn.JK{X A U C:Rows}{N w:Nat}(T:Tn X A U C N w)(hX:aT N w X):mulM U X w=A/\mulM U (bH C N) N=units N/\mulM (bH C N) U N=units N/\mulM (bH U N) C N=units N/\mulM C (bH U N) N=units N:=by
 have iU:=T.fT;have iC:=T.gq;refine⟨(bM iU hX).ext T.isA fun i c hi hc=>?_,(bM iU (dj iC)).ext (cj _) fun i j hi hj=>?_,(bM (dj iC) iU).ext (cj _) fun i j hi hj=>?_,(bM (dj iU) iC).ext (cj _) fun i j hi hj=>?_,(bM iC (dj iU)).ext (cj _) fun i j hi hj=>?_⟩
 . rw[e_ iU hX hi,T.ua i c hi hc]
 . rw[e_ iU (dj iC) hi,cV hi hj,<-T.ub i j hi hj];exact aE fun k hk=>by rw[cK iC hj hk]
 . rw[e_ (dj iC) iU hi,cV hi hj,<-T.bu i j hi hj];exact aE fun k hk=>by rw[cK iC hk hi];try rw[Int.mul_comm]
 . rw[e_ (dj iU) iC hi,cV hi hj,pw,<-T.bu j i hj hi];exact aE fun k hk=>by rw[cK iU hk hi];try rw[Int.mul_comm]
 . rw[e_ iC (dj iU) hi,cV hi hj,pw,<-T.ub j i hj hi];exact aE fun k hk=>by rw[cK iU hj hk,Int.mul_comm]
theorem Af{A:Rows}{N w:Nat}(hA:aT N w A):bH (bH A w) N=A:=
 (dj (dj hA)).ext hA fun i j hi hj=>by rw[cK (dj hA) hj hi,cK hA hi hj]
theorem G7{A:Rows}{N w top e u v b:Nat}{c:B3}{ld:Nat->Nat}(H:ff A N w c top w ld e u v)(t8:top<=8)(hA:∀i c,i<N->c<w->(g A i c).natAbs<=b):(Pr top fun q=>g c.A q (ld q))<=(((8*b)^top:Nat):Int):=by
 have S1:=H.Dn;obtain⟨I,B,h1,h2,h3⟩:=S1.AW.picked ⟨S1.lead,S1.mono⟩
 have e1:D top (fun i k=>g A (I i) (ld k))=D top B*D top fun i k=>g c.A i (ld k):=by
  rw[<-A9];exact dw fun i k hi hk=>h2 i (ld k) hi (S1.lead k hk).1
 rw[E1 (M:=fun i k=>g c.A i (ld k)) fun i k hi hk hki=>(S1.lead i hi).2.2 _ (S1.mono k i hki hi)]at e1;have h4:=FG t8 (M:=fun i k=>g A (I i) (ld k)) (m:=b) fun i k hi hk=>hA _ _ (h1 i hi) (S1.lead k hk).1;rw[e1]at h4;have h5:=BQ h3 h4;have h6:0<Pr top fun q=>g c.A q (ld q):=mQ fun q hq=>(S1.lead q hq).2.1;omega
theorem wL{A:Rows}{N w t1 t2 e1 u1 v1 e2 u2 v2 b:Nat}{c1 c2:B3}{l1 l2:Nat->Nat}(H1:ff A N w c1 t1 w l1 e1 u1 v1)(H2:ff (bH c1.A w) w N c2 t2 N l2 e2 u2 v2)(t8:t1<=8)(hA:∀i c,i<N->c<w->(g A i c).natAbs<=b):t2=t1/\Lo (bH c2.A N) N w t1/\(Pr t1 fun q=>g (bH c2.A N) q q)<=(((8*b)^t1:Nat):Int):=by
 have S1:=H1.Dn;have iA:=S1.tn.isA;have le:=S1.le;have at_:∀i c,i<N->c<w->g (bH c1.A w) c i=g c1.A i c:=fun i c hi hc=>cK iA hi hc;have lw:∀q,q<t1->l1 q<w:=fun q hq=>(S1.lead q hq).1
 have j8:∀q c,q<t1->c<t1->q<c->g (bH c1.A w) (l1 q) c=0:=fun q c hq hc hqc=>by
  rw[at_ c _ (by omega) (lw q hq)];exact(S1.lead c hc).2.2 _ (S1.mono q c hqc hc)
 obtain⟨e,F⟩:=Gn (f:=l1) H2 le lw (fun i c hi hc hr=>by rw[at_ c i hc hi];exact S1.zs c i hr hc hi) j8 (fun q hq=>by rw[at_ q _ (by omega) (lw q hq)];exact Int.ne_of_gt (S1.lead q hq).2.1);refine⟨e,F.lo,?_⟩;have d:=F.prod (f:=l1) lw j8;have e3:(Pr t1 fun q=>g (bH c1.A w) (l1 q) q)=Pr t1 fun q=>g c1.A q (l1 q):=qu fun q hq=>at_ q _ (by omega) (lw q hq);have e4:(Pr t1 fun q=>g (bH c2.A N) q q)=Pr t1 fun q=>g c2.A q q:=qu fun q hq=>cK F.is (by have:=F.rN;omega) (by omega);rw[e4];rw[e3]at d;exact Int.le_trans (Int.le_of_dvd (mQ fun q hq=>(S1.lead q hq).2.1) d) (G7 H1 t8 hA)
def Cl(X:Rows)(r t:Nat):Prop:=∀i j,j<t->j<i->i<r->g X i j=0
def Dg(X:Rows)(N w:Nat):Prop:=∀i c,i<N->c<w->i≠c->g X i c=0
theorem Lo.dg{X:Rows}{N w r:Nat}(L:Lo X N w r)(h:Cl X r r):Dg X N w:=fun i c hi hc hne=>by
 by_cases ho:r<=i\/r<=c
 . exact L.out i c hi hc ho
 . by_cases hic:i<c
   . exact L.j8 i c (by omega) (by omega) hic
   . exact h i c (by omega) (by omega) (by omega)
section
variable {X Y Z:Rows}{N w r t:Nat}
theorem Cl.unit(L:Lo X N w r)(h:Cl X r t){q:Nat}(hqt:q<t)(hq:q<r):(∀i,i<N->g X q q∣g X i q)/\bE X N w fun c=>g X q q*dl q c:=by
 have rN:=L.rN;have rW:=L.rW
 have row:∀c,c<w->g X q c=g X q q*dl q c:=fun c hc=>by
  by_cases e:q=c
  . subst e;rw[bD,Int.mul_one]
  . rw[bx e,Int.mul_zero];by_cases hcr:c<r
    . by_cases hqc:q<c
      . exact L.j8 q c hq hcr hqc
      . exact h q c (by omega) (by omega) hq
    . exact L.out q c (by omega) hc (.inr (by omega))
 refine⟨fun i hi=>?_,(bE.row (X:=X) (w:=w) (k:=q) (by omega)).eq fun c hc=>(row c hc).symm⟩;by_cases e:i=q
 . rw[e];exact Int.dvd_refl _
 . have:g X i q=0:=by
    by_cases hir:i<r
    . by_cases hiq:i<q
      . exact L.j8 i q hir hq hiq
      . exact h i q hqt (by omega) hir
    . exact L.out i q hi (by omega) (.inl (by omega))
   rw[this];exact⟨0,by rw[Int.mul_zero]⟩
theorem Cl.step(L:Lo X N w r)(F:Fr X Y N w r)(h:Cl X r t):Cl (bH Y w) r t/\(∀q,q<t->q<r->g Y q q=g X q q)/\(t<r->∀i,i<r->t<=i->g Y t t∣g X i t):=by
 have rN:=L.rN;have rW:=L.rW;refine⟨fun i j hj hji hi=>?_,fun q hqt hq=>?_,fun htr i hi hti=>?_⟩
 . obtain⟨u1,u2⟩:=h.unit L hj (by omega);rw[cK F.is (show j<N by omega) (by omega)];exact(F.fix (by omega) (L.pos j (by omega)) u1 u2).2.2 i (by omega) (by omega)
 . obtain⟨u1,u2⟩:=h.unit L hqt hq;exact(F.fix hq (L.pos q hq) u1 u2).1
 . exact F.dvd htr (bE.row (X:=X) (w:=w) (k:=i) (by omega)) fun c hc=>h i c hc (by omega) hi
theorem Lo.round(L:Lo X N w r)(F:Fr X Y N w r)(G:Fr (bH Y w) Z w N r)(h:Cl X r t)(htr:t<r):Cl (bH Z N) r t/\(g Z t t∣g X t t)/\(g Z t t=g X t t->Cl (bH Z N) r (t+1)):=by
 have rN:=L.rN;have rW:=L.rW;have L2:=F.lo;obtain⟨c1,_,d1⟩:=h.step L F;obtain⟨c2,_,d2⟩:=c1.step L2 G;have a1:=d1 htr t htr (Nat.le_refl _);have at_:∀i c,i<N->c<w->g (bH Y w) c i=g Y i c:=fun i c hi hc=>cK F.is hi hc
 have a2:∀i,i<r->t<=i->g Z t t∣g Y t i:=fun i hi hti=>by
  have:=d2 htr i hi hti;rwa [at_ t i (by omega) (by omega)]at this
 have a3:=a2 t htr (Nat.le_refl _);refine⟨c2,Int.dvd_trans a3 a1,fun e=>?_⟩
 have eY:g Z t t=g Y t t:=by
  rw[<-e]at a1;exact Int.dvd_antisymm (Int.le_of_lt (G.pos t htr)) (Int.le_of_lt (F.pos t htr)) a3 a1
 have u1:∀i,i<w->g Y t t∣g (bH Y w) i t:=fun i hi=>by
  rw[at_ t i (by omega) hi];by_cases hir:i<r
  . by_cases hti:t<=i
    . rw[<-eY];exact a2 i hir hti
    . rw[F.up t i htr (by omega)];exact⟨0,by rw[Int.mul_zero]⟩
  . rw[F.out t i (by omega) hi (by omega)];exact⟨0,by rw[Int.mul_zero]⟩
 have u2:bE (bH Y w) w N fun c=>g Y t t*dl t c:=(bE.row (X:=bH Y w) (w:=N) (k:=t) (by omega)).eq fun c hc=>by
  rw[at_ c t hc (by omega)];by_cases e:t=c
  . subst e;rw[bD,Int.mul_one]
  . rw[bx e,Int.mul_zero];by_cases hcr:c<r
    . by_cases htc:t<c
      . exact(F.up c t hcr htc).symm
      . have:=c1 t c (by omega) (by omega) htr;rw[at_ c t hc (by omega)]at this;exact this.symm
    . exact(F.zs c t (by omega) hc (by omega)).symm
 have f:=G.fix htr (F.pos t htr) u1 u2;intro i j hj hji hi;by_cases e2:j=t
 . subst e2;rw[cK G.is (show j<w by omega) (by omega)];exact f.2.2 i (by omega) (by omega)
 . exact c2 i j (by omega) hji hi
end
def lf(X:Rows)(r t b:Nat):Nat:=(r-t)*(b+1)+if t<r then(g X t t).natAbs.log2 else 0
theorem Es{a b:Nat}(hb:0<b)(h:b∣a)(ha:0<a)(hne:b≠a):b.log2<a.log2:=by
 obtain⟨k,rfl⟩:=h
 have k2:2<=k:=by
  rcases k with _|_|k
  . simp at ha
  . simp at hne
  . omega
 have h1:2^(b.log2)<=b:=Nat.log2_self_le (by omega);have h2:b*2<=b*k:=Nat.mul_le_mul_left b k2;have h3:b.log2+1<=(b*k).log2:=(Nat.le_log2 (by omega)).mpr (by rw[Nat.pow_succ];omega);omega
theorem KZ{X:Rows}{N w r t b:Nat}(L:Lo X N w r)(r8:r<=8)(hM:(Pr r fun q=>g X q q)<=((2^b:Nat):Int)):lf X r t b<=9*(b+1):=by
 unfold lf;have h1:(r-t)*(b+1)<=8*(b+1):=Nat.mul_le_mul_right _ (by omega);split
 . rename_i h;have h2:=xB (fun q hq=>L.pos q hq) t h;have h3:=L.pos t h;have h4:(g X t t).natAbs.log2<b+1:=(Nat.log2_lt (by omega)).mpr (by rw[Nat.pow_succ];omega);omega
 . omega
theorem Lo.less{X Y Z:Rows}{N w r t b:Nat}(L:Lo X N w r)(F:Fr X Y N w r)(G:Fr (bH Y w) Z w N r)(h:Cl X r t)(htr:t<r)(hM:(Pr r fun q=>g (bH Z N) q q)<=((2^b:Nat):Int)):∃t',t'<=r/\Cl (bH Z N) r t'/\lf (bH Z N) r t' b<lf X r t b:=by
 obtain⟨h1,h2,h3⟩:=L.round F G h htr;have rN:=L.rN;have rW:=L.rW;have LZ:=G.lo;have eZ:g (bH Z N) t t=g Z t t:=cK G.is (by omega) (by omega);by_cases e:g Z t t=g X t t
 . refine⟨t+1,htr,h3 e,?_⟩;unfold lf;rw[if_pos htr]
   have h4:(if t+1<r then(g (bH Z N) (t+1) (t+1)).natAbs.log2 else 0)<=b:=by
    split
    . rename_i h;have h5:=xB (fun q hq=>LZ.pos q hq) (t+1) h;have h6:=LZ.pos (t+1) h;have h7:(g (bH Z N) (t+1) (t+1)).natAbs.log2<b+1:=(Nat.log2_lt (by omega)).mpr (by rw[Nat.pow_succ];omega);omega
    . exact Nat.zero_le _
   have h5:(r-t)*(b+1)=(r-(t+1))*(b+1)+(b+1):=by rw[show r-t=(r-(t+1))+1 by omega,Nat.add_mul,Nat.one_mul]
   omega
 . refine⟨t,Nat.le_of_lt htr,h1,?_⟩;unfold lf;rw[if_pos htr,if_pos htr,eZ];have:=Es (b:=(g Z t t).natAbs) (a:=(g X t t).natAbs) (by have:=G.pos t htr;omega) (Int.natAbs_dvd_natAbs.mpr h2) (by have:=L.pos t htr;omega) (by have:=G.pos t htr;have:=L.pos t htr;omega);omega
def ub(n k p:Nat)(x:Int):Rows:=oC n n fun i j=>if i=k/\j=p then x else dl i j
theorem k9{n k p:Nat}{x:Int}:aT n n (ub n k p x):=uY
theorem AM{n k p i j:Nat}{x:Int}(hi:i<n)(hj:j<n)(hkp:k≠p):g (ub n k p x) i j=dl i j+x*(dl i k*dl p j):=by
 unfold ub;rw[sJ hi hj];by_cases h1:i=k
 . by_cases h2:j=p
   . rw[if_pos ⟨h1,h2⟩,h1,h2,bD,bD,bx hkp];omega
   . rw[if_neg fun h=>h2 h.2,bx (Ne.symm h2)];simp
 . rw[if_neg fun h=>h1 h.1,bx h1];simp
theorem CJ{n k p m:Nat}{x:Int}{B:Rows}(hB:aT m n B)(hk:k<n)(hkp:k≠p){i c:Nat}(hi:i<m)(hc:c<n):g (mulM B (ub n k p x) n) i c=g B i c+x*(g B i k*dl p c):=by
 rw[e_ hB k9 hi]
 have e:(S n fun j=>g B i j*g (ub n k p x) j c)=S n (fun j=>g B i j*dl j c)+S n fun j=>x*dl p c*(g B i j*dl j k):=by
  rw[<-gN]
  exact aE fun j hj=>by
   rw[AM hj hc hkp];grind
 rw[e,eX,ka hc fun j=>g B i j,ka hk fun j=>g B i j];grind
theorem Ay{n k p:Nat}{x:Int}(hk:k<n)(hp:p<n)(hkp:k≠p):mulM (ub n k p x) (ub n k p (-x)) n=units n:=(bM k9 k9).ext (cj n) fun i c hi hc=>by
 rw[CJ k9 hk hkp hi hc,AM hi hc hkp,AM hi hk hkp,cV hi hc,bx (Ne.symm hkp)];grind
theorem CD{n k p i j:Nat}{x:Int}(hx:x.natAbs<=1)(hi:i<n)(hj:j<n):(g (ub n k p x) i j).natAbs<=2^0:=by
 unfold ub;rw[sJ hi hj];split
 . exact hx
 . unfold dl;split<;>decide
theorem zZ{X:Rows}{N w q:Nat}{a:Int}{v:Nat->Int}(hq:q<w)(h:∀i,i<N->a∣g X i q)(hv:bE X N w v):a∣v q:=by
 obtain⟨z,hz⟩:=hv;rw[hz q hq]
 have:∀n,n<=N->a∣S n fun k=>z k*g X k q:=fun n=>by
  induction n with
  |zero=>exact fun _=>⟨0,by rw[Int.mul_zero];rfl⟩
  |succ n ih=>exact fun hn=>Int.dvd_add (ih (by omega)) (Int.dvd_trans (h n (by omega)) (Int.dvd_mul_left _ _))
 exact this N (Nat.le_refl _)
section
variable {B Y Z:Rows}{N w r k o:Nat}
theorem Gk(L:Lo B N w r)(dg:Dg B N w)(hko:k<o)(ho:o<r){i c:Nat}(hi:i<N)(hc:c<w):g (mulM B (ub w o k 1) w) i c=if i=c then g B i i else if i=o/\c=k then g B o o else 0:=by
 have rN:=L.rN;have rW:=L.rW;rw[CJ L.is (by omega) (by omega) hi hc,Int.one_mul];by_cases h1:i=c
 . subst h1;rw[if_pos rfl];by_cases h2:k=i
   . subst h2;rw[dg k o hi (by omega) (by omega),Int.zero_mul,Int.add_zero]
   . rw[bx h2,Int.mul_zero,Int.add_zero]
 . rw[if_neg h1,dg i c hi hc h1];by_cases h2:k=c
   . subst h2;rw[bD,Int.mul_one,Int.zero_add];by_cases h3:i=o
     . subst h3;rw[if_pos ⟨rfl,rfl⟩]
     . rw[if_neg fun h=>h3 h.1];exact dg i o hi (by omega) h3
   . rw[bx h2,if_neg fun h=>h2 h.2.symm];simp
theorem Fw(L:Lo B N w r)(dg:Dg B N w)(hko:k<o)(ho:o<r):Lo (mulM B (ub w o k 1) w) N w r/\(Pr r fun q=>g (mulM B (ub w o k 1) w) q q)=Pr r fun q=>g B q q:=by
 have rN:=L.rN;have rW:=L.rW;have at_:=fun{i c:Nat} (hi:i<N) (hc:c<w)=>Gk L dg hko ho hi hc;refine⟨⟨bM L.is k9,rN,rW,fun i c hi hc ho'=>?_,fun i c hi hc hic=>?_,fun i hi=>?_,fun i c hci hi=>?_⟩,qu fun q hq=>by rw[at_ (by omega) (by omega),if_pos rfl]⟩
 . rw[at_ hi hc];split
   . rename_i e;subst e;exact L.out i i hi hc ho'
   . rw[if_neg (by omega)]
 . rw[at_ (by omega) (by omega),if_neg (by omega),if_neg (by omega)]
 . rw[at_ (by omega) (by omega),if_pos rfl];exact L.pos i hi
 . have hp:=L.pos i hi;rw[at_ (by omega) (by omega),at_ (by omega) (by omega),if_neg (by omega),if_pos rfl];split
   . rename_i h;rw[<-h.1];omega
   . omega
theorem Dt(L:Lo B N w r)(dg:Dg B N w)(hko:k<o)(ho:o<r)(F:Fr (mulM B (ub w o k 1) w) Y N w r)(G:Fr (bH Y w) Z w N r):Dg (bH Z N) N w/\∀q,q<r->g (bH Z N) q q=if q=k then((Int.gcd (g B k k) (g B o o):Nat):Int)else if q=o then((Int.lcm (g B k k) (g B o o):Nat):Int)else g B q q:=by
 have rN:=L.rN;have rW:=L.rW;have at_:=fun{i c:Nat} (hi:i<N) (hc:c<w)=>Gk L dg hko ho hi hc;have pk:=L.pos k (by omega);have po:=L.pos o ho;have LX:=(Fw L dg hko ho).1;have row:∀i,i<N->bE (mulM B (ub w o k 1) w) N w (g (mulM B (ub w o k 1) w) i):=fun i hi=>bE.row hi
 have oth:∀q,q<r->q≠k->q≠o->g Y q q=g B q q/\(∀i,i<r->i≠q->g Y i q=0)/\∀c,c<w->c≠q->g Y q c=0:=fun q hq hqk hqo=>F.fix hq (L.pos q hq) (fun i hi=>by
  rw[at_ hi (by omega)];by_cases e:i=q
  . rw[if_pos e,e];exact Int.dvd_refl _
  . rw[if_neg e,if_neg (by omega)];exact⟨0,by rw[Int.mul_zero]⟩) ((row q (by omega)).eq fun c hc=>by
  rw[at_ (by omega) hc];by_cases e:q=c
  . rw[if_pos e,e,bD,Int.mul_one]
  . rw[if_neg e,if_neg (by omega),bx e,Int.mul_zero])
 have Xkk:g (mulM B (ub w o k 1) w) k k=g B k k:=by rw[at_ (by omega) (by omega),if_pos rfl]
 have Xok:g (mulM B (ub w o k 1) w) o k=g B o o:=by rw[at_ (by omega) (by omega),if_neg (by omega),if_pos ⟨rfl,rfl⟩]
 have Xoo:g (mulM B (ub w o k 1) w) o o=g B o o:=by rw[at_ (by omega) (by omega),if_pos rfl]
 have Xko:g (mulM B (ub w o k 1) w) k o=0:=by rw[at_ (by omega) (by omega),if_neg (by omega),if_neg (by omega)]
 have hg:g Y k k=((Int.gcd (g B k k) (g B o o):Nat):Int):=by
  have d1:g Y k k∣g B k k:=by
   have:=F.dvd (q:=k) (by omega) (row k (by omega)) fun c hc=>by rw[at_ (by omega) (by omega),if_neg (by omega),if_neg (by omega)]
   rwa [Xkk]at this
  have d2:g Y k k∣g B o o:=by
   have:=F.dvd (q:=k) (by omega) (row o (by omega)) fun c hc=>by rw[at_ (by omega) (by omega),if_neg (by omega),if_neg (by omega)]
   rwa [Xok]at this
  have d3:((Int.gcd (g B k k) (g B o o):Nat):Int)∣g Y k k:=zZ (by omega) (fun i hi=>by
   rw[at_ hi (by omega)];by_cases e:i=k
   . rw[if_pos e,e];exact Int.gcd_dvd_left ..
   . rw[if_neg e];split
     . exact Int.gcd_dvd_right ..
     . exact⟨0,by rw[Int.mul_zero]⟩) ((F.wV _).mpr (bE.row (by omega)))
  exact Int.dvd_antisymm (Int.le_of_lt (F.pos k (by omega))) (Int.natCast_nonneg _) (Int.dvd_coe_gcd d1 d2) d3
 have hl:g Y o o=((Int.lcm (g B k k) (g B o o):Nat):Int):=by
  obtain⟨α,hα⟩:=Int.dvd_lcm_left (g B k k) (g B o o);obtain⟨β,hβ⟩:=Int.dvd_lcm_right (g B k k) (g B o o)
  have d1:g Y o o∣((Int.lcm (g B k k) (g B o o):Nat):Int):=by
   have hv:bE (mulM B (ub w o k 1) w) N w fun c=>((Int.lcm (g B k k) (g B o o):Nat):Int)*dl o c:=(bE.kY (-α) (bE.smul β (row o (by omega))) (row k (by omega))).eq fun c hc=>by
    rw[at_ (by omega) hc,at_ (by omega) hc];by_cases e1:c=o
    . subst e1;rw[bD,if_pos rfl,if_neg (by omega),if_neg (by omega),hβ];grind
    . rw[bx (Ne.symm e1),if_neg (by omega)];by_cases e2:c=k
      . subst e2;rw[if_pos ⟨rfl,rfl⟩,if_pos rfl];grind
      . rw[if_neg (by omega),if_neg (by omega),if_neg (by omega)];grind
   have:=F.dvd ho hv fun c hc=>by rw[bx (by omega),Int.mul_zero]
   rwa [bD,Int.mul_one]at this
  have d2:((Int.lcm (g B k k) (g B o o):Nat):Int)∣g Y o o:=by
   obtain⟨z,hz⟩:=(F.wV _).mpr (bE.row (X:=Y) (n:=r) (w:=w) ho);have z1:=hz k (by omega);have z2:=hz o (by omega);rw[F.up o k ho hko]at z1
   have s1:(S N fun i=>z i*g (mulM B (ub w o k 1) w) i k)=z k*g B k k+z o*g B o o:=by
    have:(S N fun i=>z i*g (mulM B (ub w o k 1) w) i k)=S N (fun i=>g B k k*(z i*dl i k))+S N fun i=>g B o o*(z i*dl i o):=by
     rw[<-gN]
     exact aE fun i hi=>by
      rw[at_ hi (by omega)];by_cases e1:i=k
      . subst e1;rw[if_pos rfl,bD,bx (show i≠o by omega)];grind
      . rw[if_neg e1,bx e1];by_cases e2:i=o
        . subst e2;rw[if_pos ⟨rfl,rfl⟩,bD];grind
        . rw[if_neg (by omega),bx e2];grind
    rw[this,eX,eX,ka (show k<N by omega) z,ka (show o<N by omega) z];grind
   have s2:(S N fun i=>z i*g (mulM B (ub w o k 1) w) i o)=z o*g B o o:=by
    rw[jJ (k:=o) (by omega) fun i hi hne=>by rw[at_ hi (by omega),if_neg hne,if_neg (by omega),Int.mul_zero],Xoo]
   rw[s1]at z1;rw[s2]at z2;rw[z2];refine Int.coe_lcm_dvd ⟨-(z k),?_⟩ ⟨z o,Int.mul_comm _ _⟩;have:g B k k* -(z k)= -(z k*g B k k):=by grind
   omega
  exact Int.dvd_antisymm (Int.le_of_lt (F.pos o ho)) (Int.natCast_nonneg _) d1 d2
 have gp:0<((Int.gcd (g B k k) (g B o o):Nat):Int):=by rw[<-hg];exact F.pos k (by omega)
 have lp:0<((Int.lcm (g B k k) (g B o o):Nat):Int):=by rw[<-hl];exact F.pos o ho
 have hx:((Int.gcd (g B k k) (g B o o):Nat):Int)∣g Y k o:=Int.dvd_trans (Int.gcd_dvd_right ..) (zZ (X:=mulM B (ub w o k 1) w) (N:=N) (w:=w) (by omega) (fun i hi=>by
  rw[at_ hi (by omega)];by_cases e:i=o
  . rw[if_pos e,e];exact Int.dvd_refl _
  . rw[if_neg e,if_neg (by omega)];exact⟨0,by rw[Int.mul_zero]⟩) ((F.wV _).mpr (bE.row (by omega))))
 have tr_:∀i c,i<N->c<w->g (bH Y w) c i=g Y i c:=fun i c hi hc=>cK F.is hi hc;have zero:∀ {a:Int},a∣0:=fun{a}=>⟨0,by rw[Int.mul_zero]⟩
 have yk:∀c,c<w->c≠k->c≠o->g Y k c=0:=fun c hc h1 h2=>by
  by_cases hcr:c<r
  . exact(oth c hcr h1 h2).2.1 k (by omega) (Ne.symm h1)
  . exact F.out k c (by omega) hc (by omega)
 have yo:∀c,c<w->c≠o->g Y o c=0:=fun c hc h1=>by
  by_cases hcr:c<r
  . by_cases h2:c=k
    . subst h2;exact F.up o c ho hko
    . exact(oth c hcr h2 h1).2.1 o ho (Ne.symm h1)
  . exact F.out o c (by omega) hc (by omega)
 have ck:∀i,i<N->i≠k->g Y i k=0:=fun i hi h1=>by
  by_cases hir:i<r
  . by_cases h2:i=o
    . subst h2;exact F.up i k ho hko
    . exact(oth i hir h1 h2).2.2 k (by omega) (Ne.symm h1)
  . exact F.zs i k (by omega) hi (by omega)
 have co:∀i,i<N->i≠o->i≠k->g Y i o=0:=fun i hi h1 h2=>by
  by_cases hir:i<r
  . exact(oth i hir h2 h1).2.2 o (by omega) (Ne.symm h1)
  . exact F.zs i o (by omega) hi (by omega)
 have lk:bE (bH Y w) w N fun c=>((Int.gcd (g B k k) (g B o o):Nat):Int)*dl k c:=(bE.row (X:=bH Y w) (w:=N) (k:=k) (by omega)).eq fun c hc=>by
  rw[tr_ c k hc (by omega)];by_cases e:k=c
  . subst e;rw[hg,bD,Int.mul_one]
  . rw[bx e,ck c hc (Ne.symm e),Int.mul_zero]
 have all:∀q,q<r->g Z q q=(if q=k then((Int.gcd (g B k k) (g B o o):Nat):Int)else if q=o then((Int.lcm (g B k k) (g B o o):Nat):Int)else g B q q)/\∀c,c<N->c≠q->g Z q c=0:=fun q hq=>by
  by_cases h1:q=k
  . subst h1;rw[if_pos rfl]
    have f:=G.fix hq gp (fun i hi=>by
     rw[tr_ q i (by omega) hi];by_cases e1:i=q
     . subst e1;rw[hg];exact Int.dvd_refl _
     . by_cases e2:i=o
       . subst e2;exact hx
       . rw[yk i hi e1 e2];exact zero) lk
    exact⟨f.1,f.2.2⟩
  . rw[if_neg h1];by_cases h2:q=o
    . subst h2;rw[if_pos rfl];obtain⟨y,hy⟩:=hx
      have f:=G.fix hq lp (fun i hi=>by
       rw[tr_ q i (by omega) hi];by_cases e1:i=q
       . subst e1;rw[hl];exact Int.dvd_refl _
       . rw[yo i hi e1];exact zero) ((bE.kY (-y) (bE.row (X:=bH Y w) (n:=w) (w:=N) (k:=q) (by omega)) lk).eq fun c hc=>by
       rw[tr_ c q hc (by omega)];by_cases e1:q=c
       . subst e1;rw[hl,bD,bx (show k≠q by omega)];grind
       . rw[bx e1];by_cases e2:k=c
         . subst e2;rw[hy,bD];grind
         . rw[bx e2,co c hc (Ne.symm e1) (Ne.symm e2)];grind)
      exact⟨f.1,f.2.2⟩
    . rw[if_neg h2];obtain⟨o1,o2,o3⟩:=oth q hq h1 h2
      have f:=G.fix hq (L.pos q hq) (fun i hi=>by
       rw[tr_ q i (by omega) hi];by_cases e1:i=q
       . subst e1;rw[o1];exact Int.dvd_refl _
       . rw[o3 i hi e1];exact zero) ((bE.row (X:=bH Y w) (w:=N) (k:=q) (by omega)).eq fun c hc=>by
       rw[tr_ c q hc (by omega)];by_cases e1:q=c
       . subst e1;rw[o1,bD,Int.mul_one]
       . rw[bx e1,Int.mul_zero];by_cases hcr:c<r
         . exact(o2 c hcr (Ne.symm e1)).symm
         . exact(F.zs c q (by omega) hc (by omega)).symm)
      exact⟨f.1,f.2.2⟩
 refine⟨fun i c hi hc hne=>?_,fun q hq=>?_⟩
 . rw[cK G.is hc hi];by_cases hcr:c<r
   . exact(all c hcr).2 i hi hne
   . exact G.zs c i (by omega) hc hi
 . rw[cK G.is (by omega) (by omega)];exact(all q hq).1
end
structure ye(X:Rows)(N w y:Nat)(c:B3):Prop where
 sz:∀i j,i<N->j<N->(g c.U i j).natAbs<=2^y/\(g c.C i j).natAbs<=2^y
structure Ce(B:Rows)(N w y:Nat)(Q:Nat->Rows->Prop):Prop where
 low:∀i j,i<N->j<w->(g B i j).natAbs<=2^200
 s1:∀t c,eM B N w t c->ye B N w y c
 a1:∀t c,eM B N w t c->∀i j,i<N->j<w->(g c.A i j).natAbs<=2^200
 s2:∀t c,eM B N w t c->∀t2 c2,eM (bH c.A w) w N t2 c2->ye (bH c.A w) w N y c2
 lo:∀t c,eM B N w t c->∀t2 c2,eM (bH c.A w) w N t2 c2->∃r,r<=8/\Lo (bH c2.A N) N w r/\(Pr r fun q=>g (bH c2.A N) q q)<=((2^172:Nat):Int)/\Q r (bH c2.A N)
theorem pH{A:Rows}{N w M:Nat}(hA:aT N w A)(h:∀i c,i<N->c<w->(g A i c).natAbs<=M):gW A N 0 M:=fun i c _ hi=>by
 by_cases hc:c<w
 . exact h i c hi hc
 . unfold g;rw[md (by rw[hA.row hi];omega)];exact Nat.zero_le _
theorem lj{a b c:Nat}(h:a<=2^b)(l:b<=c):a<=2^c:=Nat.le_trans h (Nat.pow_le_pow_right (by decide) l)
theorem Lo.two{X:Rows}{N w r:Nat}{P:Rows->Prop}(L:Lo X N w r)(n8:N<=8)(w8:w<=8)(hM:(Pr r fun q=>g X q q)<=((2^172:Nat):Int))(h:∀Y Z,Fr X Y N w r->Fr (bH Y w) Z w N r->(Pr r fun q=>g (bH Z N) q q)<=((2^172:Nat):Int)->P (bH Z N)):Ce X N w 180 (fun r' M=>r'=r/\P M):=by
 have rN:=L.rN;have rW:=L.rW;have bX:=L.abs hM;have lX:=pH L.is bX;have one:∀t c,eM X N w t c->∃ld,ff X N w c t w ld (Ey 172 t) (Uy 172 t) (Cx 172 t):=fun t c hC=>hC.str L.is lX (by omega) (Nat.le_refl _)
 have lo1:∀t c,eM X N w t c->Fr X c.A N w r/\Lo (bH c.A w) w N r/\(Pr r fun q=>g (bH c.A w) q q)<=((2^172:Nat):Int):=fun t c hC=>by
  obtain⟨ld,H⟩:=one t c hC;obtain⟨_,F,dv⟩:=L.fr H;refine⟨F,F.lo,?_⟩;rw[qu (h:=fun q=>g c.A q q) fun q hq=>cK F.is (by omega) (by omega)];exact Int.le_trans (Int.le_of_dvd (mQ fun q hq=>L.pos q hq) dv) hM
 refine⟨fun i j hi hj=>lj (bX i j hi hj) (by decide),fun t c hC=>?_,fun t c hC i j hi hj=>?_,fun t c hC t2 c2 hC2=>?_,fun t c hC t2 c2 hC2=>?_⟩
 . obtain⟨ld,H⟩:=one t c hC;exact⟨L.turn (by omega) hC H hM⟩
 . obtain⟨F,L2,hM2⟩:=lo1 t c hC;have:=L2.abs hM2 j i hj hi;rw[cK F.is hi hj]at this;exact lj this (by decide)
 . obtain⟨F,L2,hM2⟩:=lo1 t c hC;obtain⟨ld,H⟩:=hC2.str L2.is (pH L2.is (L2.abs hM2)) (by omega) (Nat.le_refl _);exact⟨L2.turn (by omega) hC2 H hM2⟩
 . obtain⟨F,L2,hM2⟩:=lo1 t c hC;obtain⟨ld,H⟩:=hC2.str L2.is (pH L2.is (L2.abs hM2)) (by omega) (Nat.le_refl _);obtain⟨_,G,dv⟩:=L2.fr H
   have hM3:(Pr r fun q=>g (bH c2.A N) q q)<=((2^172:Nat):Int):=by
    rw[qu (h:=fun q=>g c2.A q q) fun q hq=>cK G.is (by omega) (by omega)];exact Int.le_trans (Int.le_of_dvd (mQ fun q hq=>L2.pos q hq) dv) hM2
   exact⟨r,by omega,G.lo,hM3,rfl,h _ _ F G hM3⟩
theorem NU:∀t,t<5->Ey 175 t<=10000000/\Uy 175 t<=10000000/\Cx 175 t<=10000000:=by decide+kernel
theorem Oh:∀t,t<9->Ey 77 t<=10000000/\Uy 77 t<=10000000/\Cx 77 t<=10000000:=by decide+kernel
theorem ff.Gi{X:Rows}{N w top p e u v y:Nat}{c:B3}{ld:Nat->Nat}(H:ff X N w c top p ld e u v)(h1:e<=y)(h2:u<=y)(h3:v<=y):ye X N w y c:=⟨fun i j hi hj=>by
 by_cases ht:i<top
 . have:=H.hi i j ht;exact⟨lj this.2.1 h2,lj this.2.2 h3⟩
 . have ht:=Nat.le_of_not_lt ht;exact⟨lj (H.lo.2.1 i j ht hi) h1,lj (H.lo.2.2 i j ht hi) h1⟩⟩
theorem Fj{A:Rows}{N w:Nat}(hA:aT N w A)(n8:N<=8)(w8:w<=8)(h:(N<=4/\∀i j,i<N->j<w->(g A i j).natAbs<=2^40)\/∀i j,i<N->j<w->(g A i j).natAbs<=2^6):Ce A N w 10000000 (fun _ _=>True):=by
 obtain⟨b,e,hb,hbe,hc⟩:∃b e,(∀i j,i<N->j<w->(g A i j).natAbs<=2^b)/\b<=e/\((N<=4/\b=40/\e=175)\/(b=6/\e=77)):=by
  rcases h with⟨h1,h2⟩|h
  . exact⟨40,175,h2,by decide,.inl ⟨h1,rfl,rfl⟩⟩
  . exact⟨6,77,h,by decide,.inr ⟨rfl,rfl⟩⟩
 have he:e<=200:=by rcases hc with⟨_,_,rfl⟩|⟨_,rfl⟩<;>decide
 have sz:∀t,t<=N->Ey e t<=10000000/\Uy e t<=10000000/\Cx e t<=10000000:=fun t ht=>by
  rcases hc with⟨h4,_,rfl⟩|⟨_,rfl⟩
  . exact NU t (by omega)
  . exact Oh t (by omega)
 have lA:gW A N 0 (2^e):=pH hA fun i j hi hj=>lj (hb i j hi hj) hbe;have one:∀t c,eM A N w t c->∃ld,ff A N w c t w ld (Ey e t) (Uy e t) (Cx e t):=fun t c hC=>hC.str hA lA (by omega) (Nat.le_refl _)
 have bA:∀t c,eM A N w t c->∀i j,i<N->j<w->(g c.A i j).natAbs<=2^e:=fun t c hC i j hi hj=>by
  obtain⟨ld,H⟩:=one t c hC;have S1:=H.Dn;have le:=S1.le;by_cases ht:i<t
  . have s:ft c.A t w ld:=⟨S1.lead,S1.mono⟩
    obtain⟨I,B,h1,h2,h3⟩:=S1.AW.picked s;refine Nat.le_trans (M9 (A:=fun i=>g A (I i)) s S1.red (by omega) (fun i c hi hc=>hb _ c (h1 i hi) hc) h2 h3 i j ht hj) ?_;rcases hc with⟨h4,rfl,rfl⟩|⟨rfl,rfl⟩
    . exact Nat.le_trans (Nat.mul_le_mul (show t<=4 by omega) (Nat.pow_le_pow_right (by decide) (show t<=4 by omega))) (show 4*(9*2^40)^4<=2^175 by decide+kernel)
    . exact Nat.le_trans (Nat.mul_le_mul (show t<=8 by omega) (Nat.pow_le_pow_right (by decide) (show t<=8 by omega))) (show 8*(9*2^6)^8<=2^77 by decide+kernel)
  . rw[S1.zs i j (by omega) hi hj];exact Nat.zero_le _
 have two:∀t c,eM A N w t c->∀t2 c2,eM (bH c.A w) w N t2 c2->∃ld,ff (bH c.A w) w N c2 t2 N ld (Ey e t2) (Uy e t2) (Cx e t2):=fun t c hC t2 c2 hC2=>by
  obtain⟨ld,H⟩:=one t c hC;have iA:=H.tn.isA;exact hC2.str (dj iA) (pH (dj iA) fun i j hi hj=>by rw[cK iA hj hi];exact bA t c hC j i hj hi) (by omega) (Nat.le_refl _)
 refine⟨fun i j hi hj=>lj (hb i j hi hj) (by omega),fun t c hC=>?_,fun t c hC i j hi hj=>lj (bA t c hC i j hi hj) he,fun t c hC t2 c2 hC2=>?_,fun t c hC t2 c2 hC2=>?_⟩
 . obtain⟨ld,H⟩:=one t c hC;obtain⟨z1,z2,z3⟩:=sz t H.le;exact H.Gi z1 z2 z3
 . obtain⟨ld,H⟩:=two t c hC t2 c2 hC2;obtain⟨ld1,H1⟩:=one t c hC;have le:=H1.le;have e2:=(wL H1 H (by omega) hb).1;obtain⟨z1,z2,z3⟩:=sz t2 (by omega);exact H.Gi z1 z2 z3
 . obtain⟨ld,H⟩:=two t c hC t2 c2 hC2;obtain⟨ld1,H1⟩:=one t c hC;have le:=H1.le;obtain⟨_,L,hM⟩:=wL H1 H (by omega) hb;refine⟨t,by omega,L,Int.le_trans hM (Int.ofNat_le.mpr ?_),trivial⟩;rcases hc with⟨h4,rfl,rfl⟩|⟨rfl,rfl⟩
   . exact Nat.le_trans (Nat.pow_le_pow_right (by decide) (show t<=4 by omega)) (show(8*2^40)^4<=2^172 by decide+kernel)
   . exact Nat.le_trans (Nat.pow_le_pow_right (by decide) (show t<=8 by omega)) (show(8*2^6)^8<=2^172 by decide+kernel)
theorem Lo.again{X:Rows}{N w r:Nat}(L:Lo X N w r)(n8:N<=8)(w8:w<=8)(hM:(Pr r fun q=>g X q q)<=((2^172:Nat):Int)):Ce X N w 180 (fun r' M=>r'=r/\∀t,t<r->Cl X r t->∃t',t'<=r/\Cl M r t'/\lf M r t' 172<lf X r t 172):=
 L.two n8 w8 hM fun Y Z F G hZ t ht h=>L.less F G h ht hZ
theorem Ee{B:Rows}{N w r k o:Nat}(L:Lo B N w r)(n8:N<=8)(w8:w<=8)(hM:(Pr r fun q=>g B q q)<=((2^172:Nat):Int))(dg:Dg B N w)(hko:k<o)(ho:o<r):Ce (mulM B (ub w o k 1) w) N w 180 (fun r' M=>r'=r/\Dg M N w/\∀q,q<r->g M q q=if q=k then((Int.gcd (g B k k) (g B o o):Nat):Int)else if q=o then((Int.lcm (g B k k) (g B o o):Nat):Int)else g B q q):=by
 obtain⟨LX,eP⟩:=Fw L dg hko ho;exact LX.two n8 w8 (by rw[eP];exact hM) fun Y Z F G _=>Dt L dg hko ho F G
end Mx
namespace Prog
open PySem L2 L3
open PySem.Spec hiding items?
open PyProof.Rows hiding St
theorem kP{i j:Int}(h1: -(2^64)<i)(h2:i<2^64):IntMulOk i j:= .of_left (intBits_le_64 h1 h2)
theorem pS{i j:Int}(h1: -(2^64)<j)(h2:j<2^64):IntMulOk i j:= .of_right (intBits_le_64 h1 h2)
def isInt:D->Bool
 | .int _=>true
 |_=>false
abbrev aJ(r:List Int):List D:=r.map D.int
abbrev bO(r:List Int):D:= .tup (aJ r)
abbrev bf(r:List Int):D:= .lst (aJ r)
abbrev aB(A:List (List Int)):D:= .tup (A.map bO)
abbrev FD(A:List (List Int)):D:= .lst (A.map bf)
def bW(st:af):List D->List (List Int)->Prop
 | [],[]=>True
 |d::ds,r::rs=>items? st d=some (aJ r)/\bW st ds rs
 |_,_=>False
structure fD(st:af)(d:D)(A:List (List Int)):Prop where
 ex:∃ds,items? st d=some ds/\bW st ds A
theorem bW.len{st:af}:∀ {ds:List D} {A:List (List Int)},bW st ds A->ds.length=A.length
 | [],[],_=>rfl
 |_::_,_::_,h=>by simp[bW.len h.2]
theorem bW.tup{st:af}:∀ {A:List (List Int)},bW st (A.map bO) A
 | []=>trivial
 |_::_=>⟨rfl,bW.tup⟩
theorem bW.lst{st:af}:∀ {A:List (List Int)},bW st (A.map bf) A
 | []=>trivial
 |_::_=>⟨rfl,bW.lst⟩
theorem bW.get{st:af}:∀ {ds:List D} {A:List (List Int)} {i:Nat} {d:D},bW st ds A->ds[i]?=some d->∃r,A[i]?=some r/\items? st d=some (aJ r)
 |_::_,r::_,0,_,h,e=>by simp at e;subst e;exact⟨r,rfl,h.1⟩
 |_::_,_::_,i+1,d,h,e=>by
  obtain⟨r,e1,e2⟩:=bW.get (i:=i) (d:=d) h.2 (by simpa using e);exact⟨r,by simpa using e1,e2⟩
theorem dO{st:af}{A:List (List Int)}:fD st (aB A) A:=⟨_,rfl,bW.tup⟩
theorem Hn{st:af}{A:List (List Int)}:fD st (FD A) A:=⟨_,rfl,bW.lst⟩
structure Ext(st st':af):Prop where
 len:st.length<=st'.length
 same:∀m,m<st.length->st'[m]?=st[m]?
theorem Ext.trans{st st1 st2:af}(a:Ext st st1)(b:Ext st1 st2):Ext st st2:=⟨Nat.le_trans a.len b.len,fun m h=>(b.same m (Nat.lt_of_lt_of_le h a.len)).trans (a.same m h)⟩
theorem Ext.push{st:af}{c:List Cell}:Ext st (st++c):=⟨by simp,fun m h=>List.getElem?_append_left h⟩
theorem Ext.set{st:af}{n:Nat}{c:Cell}{st0:af}(a:Ext st0 st)(h:st0.length<=n):Ext st0 (st.set n c):=⟨by rw[List.length_set];exact a.len,fun m hm=>by rw[List.getElem?_set_ne (by omega)];exact a.same m hm⟩
theorem kI{r:List Int}{k:Nat}(h:k<r.length):fE (aJ r) (k:Int)=some (.int (r.getD k 0)):=by
 refine jH ?_;rw[List.getElem?_map,List.getElem?_eq_getElem h,Mx.a8 h];rfl
theorem getD_mem{r:List Int}{k:Nat}(h:k<r.length):r.getD k 0∈r:=by rw[Mx.a8 h];exact List.getElem_mem _
theorem bW.at{st:af}{ds:List D}{A:List (List Int)}{k:Nat}(h:bW st ds A)(hk:k<A.length):∃d,fE ds (k:Int)=some d/\items? st d=some (aJ (A.getD k [])):=by
 have hl:=h.len;have e:ds[k]?=some ds[k]:=List.getElem?_eq_getElem (by omega);obtain⟨r,er,hr⟩:=h.get e;refine⟨ds[k],jH e,?_⟩;rw[Mx.a8 hk];rw[List.getElem?_eq_getElem hk]at er;cases er;exact hr
theorem ints_app{r:List Int}{x:Int}:aJ r++[D.int x]=aJ (r++[x]):=by simp[aJ]
theorem Eu{A:List (List Int)}{r:List Int}:A.map bO++[bO r]=(A++[r]).map bO:=by simp
theorem zj{r s:List Int}{d:D}(h:d∈ik (aJ r) (aJ s)):∃a b,a∈r/\b∈s/\d= .tup [.int a,.int b]:=by
 obtain⟨n,hn,e⟩:=List.mem_iff_getElem.mp h;have e':(ik (aJ r) (aJ s))[n]?=some d:=by rw[List.getElem?_eq_getElem hn,e]
 obtain⟨x,y,ex,ey,rfl⟩:=tY e';rw[List.getElem?_map]at ex ey;cases q1:r[n]? with
 |none=>rw[q1]at ex;cases ex
 |some a=>
  cases q2:s[n]? with
  |none=>rw[q2]at ey;cases ey
  |some b=>
   rw[q1]at ex;rw[q2]at ey;cases ex;cases ey;exact⟨a,b,List.mem_of_getElem? q1,List.mem_of_getElem? q2,rfl⟩
theorem zl(n:Nat):(List.replicate n [D.int 0]).flatten=aJ (List.replicate n 0):=by
 induction n with
 |zero=>rfl
 |succ n ih=>rw[List.replicate_succ,List.flatten_cons,ih];rfl
theorem wz:∀r:List Int,(aJ r).map (fun x=>match x with| .int i=>i|_=>0)=r
 | []=>rfl
 |a::r=>by rw[aJ,List.map_cons,List.map_cons,wz r]
theorem Et{d:D}{ds:List D}:fE (d::ds) 0=some d:=jH (j:=0) rfl
def intsOf(st:af)(d:D):List Int:=match items? st d with
 |some xs=>xs.map fun x=>match x with| .int i=>i|_=>0
 |none=>[]
theorem wQ{st:af}{d:D}{r:List Int}(h:items? st d=some (aJ r)):intsOf st d=r:=by
 unfold intsOf;rw[h];exact wz r
theorem CC{x y:D}{xs ys:List D}:ik (x::xs) (y::ys)= .tup [x,y]::ik xs ys:=rfl
theorem As{n:Nat}{r:List Int}:(aJ r).all (pl n)=true:=by
 refine List.all_eq_true.mpr fun d hd=>?_;obtain⟨i,_,rfl⟩:=List.mem_map.mp hd;cases n<;>rfl
theorem EA{n:Nat}{A:List (List Int)}:pl (n+2) (FD A)=true:=by
 unfold pl;refine List.all_eq_true.mpr fun d hd=>?_;obtain⟨r,_,rfl⟩:=List.mem_map.mp hd;unfold pl;exact As
def ay:Addr:=130
def aC:Addr:=200
abbrev fe(b:Bool):Cell:=Cell.tab 110 ⟨56,32,56,66⟩ "Bench.live_rows.<locals>.<lambda>" b
abbrev JX:List (Addr×Pos×Str):=[(110,⟨56,32,56,66⟩,"Bench.live_rows.<locals>.<lambda>")]
def mV:cF:=fun ds st K=>∃(d:D) (A:List (List Int)),ds=[d]/\fD st d A/\A.length<=1000/\K (aB A) st
def oM:List Str:=["rows"]
def DN:DS:=(cu (bR d7 (ae (dm (gn (ab 0)) [none] (bP 0) cB (bR d7 (ae (ab 0) ak))) ak)))
theorem jN{tg:fQ}{te:DE}{ok:af->Prop}{σc:cv}{st:af}{K:List D->af->Prop}{ds:List D}{A:List (List Int)}(f:List Int->D)(aK:ok st)(hr:bW st ds A)(hx:∀d r,r∈A->items? st d=some (aJ r)->∀K',K' (f r) st->∃σ2,tg d σc=some σ2/\te σ2 st K')(k:K (A.map f) st):c9 tg cB te ok σc ds [] st K:=by
 refine gc (fun rest acc st'=>∃(A1 A2:List (List Int)),st=st'/\A1++A2=A/\bW st rest A2/\acc=A1.map f) ?_ ?_ _ _ _ ⟨[],A,rfl,rfl,hr,rfl⟩
 . rintro acc st' ⟨A1,A2,rfl,he,h,rfl⟩;match A2,h with
   | [],_=>
     rw[List.append_nil]at he;subst he;exact⟨aK,k⟩
 . rintro d rest acc st' ⟨A1,A2,rfl,he,h,rfl⟩ next
   match A2,h with
   |r::A2,h=>
    obtain⟨σ2,e2,q⟩:=hx d r (by rw[<-he];simp) h.1 (fun y st2=>c9 tg cB te ok σc rest (A1.map f++[y]) st2 K) (next _ _ ⟨A1++[r],A2,rfl,by rw[<-he];simp,h.2,by simp⟩);exact⟨aK,σ2,e2,q⟩
theorem Bc:∀ds st K,mV ds st K->ds.length=1/\DN {nx:=fun _ st'=>K .aI st',rt:=K} (a7 oM ds) st:=by
 rintro ds st K ⟨d,A,rfl,⟨da,hd,ra⟩,hl,k⟩;refine⟨rfl,?_⟩;refine rQ hd fun ok aK=>⟨cy (by rw[ra.len];exact hl),?_⟩
 refine jN bO aK ra (fun e r hr he K' q=>⟨_,rfl,dA he q⟩) ?_;exact dA rfl k
def nN:cF:=fun ds st K=>∃x y t r s,ds=[x,.int t,y]/\items? st x=some (aJ r)/\items? st y=some (aJ s)/\r.length<=1000/\(∀b∈s,IntMulOk t b)/\K (bf (Mx.iN r t s)) st
def sy:List Str:=["row","times","other"]
def Hi:DS:=(cu (dm (vz (ae (ab 0) (ae (ab 2) ak))) [none,none,some 1] (kU 0 1) cB (az jq (ab 0) (az fM (ab 2) (ab 1)))))
theorem wX{t:Int}:∀(r s:List Int),(ik (aJ r) (aJ s)).map (fun d=>match d with| .tup [.int a,.int b]=> .int (a+t*b)|_=> .aI)=aJ (Mx.iN r t s)
 | [],_=>rfl
 |_::_,[]=>rfl
 |a::r,b::s=>by
  have:=wX (t:=t) r s;unfold ik Mx.iN at this⊢;simp only[aJ,List.map_cons,List.zip_cons_cons,List.zipWith_cons_cons]at this⊢;rw[this]
theorem Fq:∀ds st K,nN ds st K->ds.length=3/\Hi {nx:=fun _ st'=>K .aI st',rt:=K} (a7 sy ds) st:=by
 rintro ds st K ⟨x,y,t,r,s,rfl,hx,hy,hl,hm,k⟩;refine⟨rfl,?_⟩;refine uK hx hy fun ok aK=>⟨cy (by rw[qh];simp;omega),?_⟩
 refine comp_map (g:=fun d=>match d with| .tup [.int a,.int b]=> .int (a+t*b)|_=> .aI) (aK st hx hy) _ (fun d hd K' q=>?_) ?_
 . obtain⟨a,b,ha,hb,rfl⟩:=zj hd;exact⟨_,rfl,fZ (hm b hb) (ij q)⟩
 . rw[wX];exact k
def ui:cF:=fun ds st K=>∃(x y:D) (n:Nat) (ws:List Int) (A:List (List Int)),ds=[x,y,.int n]/\items? st x=some (aJ ws)/\fD st y A/\(∀r∈A,r.length=n)/\n<=1000/\(∀w∈ws,∀r∈A,∀b∈r,IntMulOk w b)/\K (bO (Mx.gI ws A (List.replicate n 0))) st
def qx:List Str:=["weights","rows","wide","total","weight","row"]
def Fb:DS:=(aL (cJ 3 (az fM (BG (ae (dC (.int 0)) ak)) (ab 2)))
 (aL (kE (vz (ae (ab 0) (ae (ab 1) ak))) (kU 4 5) (cJ 3 (aH nN (ae (ab 3) (ae (ab 4) (ae (ab 5) ak))))))
 (cu (bR d7 (ae (ab 3) ak)))))
theorem Cw:∀ds st K,ui ds st K->ds.length=3/\Fb {nx:=fun _ st'=>K .aI st',rt:=K} (a7 qx ds) st:=by
 rintro ds st K ⟨x,y,n,ws,A,rfl,hx,⟨dr,hy,hr⟩,hw,hn,hm,k⟩;refine⟨rfl,?_⟩;refine MO (Nat.le_of_ble_eq_true rfl) (Ak ⟨by omega,by omega,cy (by simp;omega)⟩ ?_);rw[Int.toNat_natCast,zl];refine uK hx hy fun ok aK=>?_
 refine ma (fun rest σ st'=>∃(v4 v5:Option D) (ws':List Int) (ds':List D) (A':List (List Int)) (acc:List Int),st=st'/\rest=ik (aJ ws') ds'/\bW st ds' A'/\σ=[some x,some y,some (.int n),some (bf acc),v4,v5]/\acc.length=n/\(∀r∈A',r∈A)/\(∀w∈ws',w∈ws)/\Mx.gI ws' A' acc=Mx.gI ws A (List.replicate n 0)) ?_ ?_ _ _ _
  ⟨none,none,ws,dr,A,List.replicate n 0,rfl,rfl,hr,rfl,by simp,fun _ h=>h,fun _ h=>h,rfl⟩
 . rintro σ st1 ⟨v4,v5,ws',ds',A',acc,rfl,he,hr',rfl,hl,_,_,hs⟩;refine⟨aK _ hx hy,dA rfl ?_⟩
   have:Mx.gI ws' A' acc=acc:=by
    match ws',ds',A',hr',he with
    | [],_,_,_,_=>unfold Mx.gI;rfl
    |_::_,[],[],_,_=>unfold Mx.gI;rfl
    |_::_,_::_,_::_,_,he=>cases he
   rw[this]at hs;rw[hs];exact k
 . rintro d rest σ st1 ⟨v4,v5,ws',ds',A',acc,rfl,he,hr',rfl,hl,ha,hw',hs⟩ next
   match ws',ds',A',hr',he with
   |w::ws',e::ds',r::A',hr',he=>
    simp only[aJ,List.map_cons,CC,List.cons.injEq]at he;obtain⟨rfl,rfl⟩:=he;refine⟨aK _ hx hy,_,rfl,?_⟩;have hrl:=hw r (ha r List.mem_cons_self);refine⟨_,_,_,acc,r,rfl,rfl,hr'.1,by omega,fun b hb=>hm w (hw' w List.mem_cons_self) r (ha r List.mem_cons_self) b hb,?_⟩;refine next _ _ ⟨_,_,ws',ds',A',Mx.iN acc w r,rfl,rfl,hr'.2,rfl,by rw[Mx.qF (by omega)];exact hl,fun q hq=>ha q (List.mem_cons_of_mem _ hq),fun q hq=>hw' q (List.mem_cons_of_mem _ hq),?_⟩
    rw[<-hs];rfl
   | [],_,_,_,he=>cases he
   |_::_,[],[],_,he=>cases he
def iz:cF:=fun ds st K=>∃(x y:D) (n:Nat) (A B:List (List Int)),ds=[x,y]/\fD st x A/\fD st y B/\B≠ []/\(∀r∈B,r.length=n)/\n<=1000/\A.length<=1000/\(∀w∈A,∀c∈w,∀r∈B,∀b∈r,IntMulOk c b)/\K (aB (Mx.mulM A B n)) st
def oV:List Str:=["one","other","wide"]
def Cb:DS:=(aL (cJ 2 (bR eQ (ae (az bV (ab 1) (dC (.int 0))) ak)))
 (cu (bR d7 (ae (dm (gn (ab 0)) [none,some 1,some 2] (bP 0) cB (aH ui (ae (ab 0) (ae (ab 1) (ae (ab 2) ak))))) ak))))
theorem xX{st:af}{n:Nat}{B:List (List Int)}{f:D->D}:∀ {ds:List D} {A:List (List Int)},bW st ds A->(∀d r,items? st d=some (aJ r)->f d=bO (Mx.gI r B (List.replicate n 0)))->ds.map f=(Mx.mulM A B n).map bO
 | [],[],_,_=>rfl
 |d::ds,r::A,h,hf=>by
  rw[List.map_cons,hf d r h.1,xX h.2 hf];rfl
theorem AJ:∀ds st K,iz ds st K->ds.length=2/\Cb {nx:=fun _ st'=>K .aI st',rt:=K} (a7 oV ds) st:=by
 rintro ds st K ⟨x,y,n,A,B,rfl,⟨da,hx,ra⟩,hy,hB,hw,hn,hl,hm,k⟩;refine⟨rfl,?_⟩;obtain⟨db,ey,rb⟩:=hy.ex;match B,db,rb,hB,hw,hm,hy,k,ey with
 |r0::B,d0::db,rb,_,hw,hm,hy,k,ey=>
  have h0:r0.length=n:=hw r0 List.mem_cons_self;refine aX ey Et (c8 rb.1 ?_);rw[List.length_map,h0];refine rQ hx fun ok aK=>⟨cy (by rw[ra.len];exact hl),?_⟩
  refine comp_map (g:=fun d=>bO (Mx.gI (intsOf st d) (r0::B) (List.replicate n 0))) aK da (fun d hd K' q=>?_) ?_
  . obtain⟨i,hi,ed⟩:=List.mem_iff_getElem.mp hd;obtain⟨r,er,hr⟩:=ra.get (i:=i) (d:=d) (by rw[List.getElem?_eq_getElem hi,ed]);refine⟨_,rfl,d,y,n,r,r0::B,rfl,hr,hy,hw,hn,fun c hc=>hm r (List.mem_of_getElem? er) c hc,?_⟩;rw[wQ hr]at q;exact q
  . refine dA rfl ?_;rw[xX ra (n:=n) (B:=r0::B) fun d r h=>by rw[wQ h]];exact k
 |_::_,[],rb,_,_,_,_,_,_=>exact rb.elim
def uo:cF:=fun ds st K=>∃(d:D) (A:List (List Int)) (j:Nat),ds=[d,.int j]/\fD st d A/\(∀r∈A,j<r.length)/\A.length<=1000/\K (bO (Mx.qp A j)) st
def qG:List Str:=["rows","place"]
def ES:DS:=(cu (bR d7 (ae (dm (gn (ab 0)) [none,some 1] (bP 0) cB (az bV (ab 0) (ab 1))) ak)))
theorem Ct{tg:fQ}{te:DE}{ok:af->Prop}{σc:cv}{st:af}{K:List D->af->Prop}{ds:List D}{A:List (List Int)}(f:List Int->D)(aK:ok st)(hr:bW st ds A)(hx:∀d r,r∈A->items? st d=some (aJ r)->∀K',K' (f r) st->∃σ2,tg d σc=some σ2/\te σ2 st K')(k:K (A.map f) st):c9 tg cB te ok σc ds [] st K:=by
 refine gc (fun rest acc st'=>∃(A1 A2:List (List Int)),st=st'/\A1++A2=A/\bW st rest A2/\acc=A1.map f) ?_ ?_ _ _ _ ⟨[],A,rfl,rfl,hr,rfl⟩
 . rintro acc st' ⟨A1,A2,rfl,he,h,rfl⟩;match A2,h with
   | [],_=>
     rw[List.append_nil]at he;subst he;exact⟨aK,k⟩
 . rintro d rest acc st' ⟨A1,A2,rfl,he,h,rfl⟩ next
   match A2,h with
   |r::A2,h=>
    obtain⟨σ2,e2,q⟩:=hx d r (by rw[<-he];simp) h.1 (fun y st2=>c9 tg cB te ok σc rest (A1.map f++[y]) st2 K) (next _ _ ⟨A1++[r],A2,rfl,by rw[<-he];simp,h.2,by simp⟩);exact⟨aK,σ2,e2,q⟩
theorem C8(A:List (List Int))(j:Nat):A.map (fun r=>D.int (r.getD j 0))=aJ (Mx.qp A j):=by unfold Mx.qp aJ;rw[List.map_map];rfl
theorem CO:∀ds st K,uo ds st K->ds.length=2/\ES {nx:=fun _ st'=>K .aI st',rt:=K} (a7 qG ds) st:=by
 rintro ds st K ⟨d,A,j,rfl,⟨da,hd,ra⟩,hj,hl,k⟩;refine⟨rfl,?_⟩;refine rQ hd fun ok aK=>⟨cy (by rw[ra.len];exact hl),?_⟩
 refine Ct (fun r=> .int (r.getD j 0)) aK ra (fun e r hr he K' q=>⟨_,rfl,aX he (kI (hj r hr)) q⟩) ?_;rw[C8];exact dA rfl k
def gy:cF:=fun ds st K=>∃(d:D) (A:List (List Int)) (n:Nat),ds=[d,.int n]/\fD st d A/\(∀r∈A,r.length=n)/\A.length<=1000/\n<=1000/\K (aB (Mx.bH A n)) st
def kg:List Str:=["rows","wide"]
def xl:DS:=(cu (bR d7 (ae (dm (du (ae (ab 1) ak)) [none,some 0] (bP 0) cB (aH uo (ae (ab 1) (ae (ab 0) ak)))) ak)))
theorem E4(A:List (List Int))(n:Nat):(List.range n).map (fun j=>bO (Mx.qp A j))=(Mx.bH A n).map bO:=by unfold Mx.bH;rw[List.map_map];rfl
theorem v_:∀ds st K,gy ds st K->ds.length=2/\xl {nx:=fun _ st'=>K .aI st',rt:=K} (a7 kg ds) st:=by
 rintro ds st K ⟨d,A,n,rfl,hd,hw,hl,hn,k⟩;refine⟨rfl,?_⟩;refine eJ ⟨by omega,by omega⟩ ⟨cy (by rw[dq];omega),?_⟩;rw[Int.toNat_natCast];refine gS (fun j=>bO (Mx.qp A j)) n (fun i hi K' q=>⟨_,rfl,d,A,i,rfl,hd,fun r hr=>by rw[hw r hr];exact hi,hl,q⟩) ?_;rw[E4];exact dA rfl k
def qf:cF:=fun ds st K=>∃(n i:Nat),ds=[.int n,.int i]/\n<=1000/\K (bO (Mx.jT n i)) st
def nt:List Str:=["n","place"]
def Bd:DS:=(cu (bR d7 (ae (dm (du (ae (ab 0) ak)) [none,some 1] (bP 0) cB (De (bz (az jY (ab 0) (ab 1))) (dC (.int 1)) (dC (.int 0)))) ak)))
theorem zL:∀ds st K,qf ds st K->ds.length=2/\Bd {nx:=fun _ st'=>K .aI st',rt:=K} (a7 nt ds) st:=by
 rintro ds st K ⟨n,i,rfl,hn,k⟩;refine⟨rfl,?_⟩;refine eJ ⟨by omega,by omega⟩ ⟨cy (by rw[dq];omega),?_⟩;rw[Int.toNat_natCast];refine gS (fun j=> .int (Mx.dl j i)) n (fun j hj K' q=>⟨_,rfl,?_⟩) ?_
 . refine eq2 (fun h=>g7 ?_) fun h=>?_
   . have:j=i:=by omega
     subst this;rw[Mx.bD]at q;exact q
   . rw[Mx.bx (by omega)]at q;exact q
 . have:(List.range n).map (fun j=>D.int (Mx.dl j i))=aJ (Mx.jT n i):=by unfold Mx.jT aJ;rw[List.map_map];rfl
   rw[this];exact dA rfl k
def fo:cF:=fun ds st K=>∃(n:Nat),ds=[.int n]/\n<=1000/\K (aB (Mx.units n)) st
def mm:List Str:=["n"]
def zP:DS:=(cu (bR d7 (ae (dm (du (ae (ab 0) ak)) [none,some 0] (bP 0) cB (aH qf (ae (ab 1) (ae (ab 0) ak)))) ak)))
theorem x4:∀ds st K,fo ds st K->ds.length=1/\zP {nx:=fun _ st'=>K .aI st',rt:=K} (a7 mm ds) st:=by
 rintro ds st K ⟨n,rfl,hn,k⟩;refine⟨rfl,?_⟩;refine eJ ⟨by omega,by omega⟩ ⟨cy (by rw[dq];omega),?_⟩;rw[Int.toNat_natCast];refine gS (fun i=>bO (Mx.jT n i)) n (fun i hi K' q=>⟨_,rfl,n,i,rfl,hn,q⟩) ?_;have:(List.range n).map (fun i=>bO (Mx.jT n i))=(Mx.units n).map bO:=by unfold Mx.units;rw[List.map_map];rfl
 rw[this];exact dA rfl k
def jx:cF:=fun ds st K=>∃(t d:Int),ds=[.int t,.int d]/\d≠0/\K (.int (Mx.qn t d)) st
def gK:List Str:=["top","bottom"]
def sh:DS:=(cu (az pK (az jq (az fM (dC (.int 2)) (ab 0)) (ab 1)) (az fM (dC (.int 2)) (ab 1))))
theorem E7{a:Int}{m:Nat}(h:a.natAbs<2^m):Builtin.Int.intBits a<=m:=by
 unfold Builtin.Int.intBits;by_cases h0:a.natAbs=0
 . have:a=0:=by omega
   subst this;simp
 . have:=(Nat.log2_lt h0).mpr h;split<;>omega
theorem lP{a b:Int}{m n:Nat}(ha:a.natAbs<=2^m)(hb:b.natAbs<=2^n)(h:m+n<=130000000):IntMulOk a b:=by
 have q:∀ {x:Int} {k:Nat},x.natAbs<=2^k->Builtin.Int.intBits x<=k+1:=fun{x k} h=>E7 (Nat.lt_of_le_of_lt h (Nat.pow_lt_pow_right (by decide) (Nat.lt_succ_self k)));have h1:=q ha;have h2:=q hb;have e:(2:Nat)^27=134217728:=by decide
 have z:Builtin.Int.intTooBig (Builtin.Int.intBits a+Builtin.Int.intBits b)=false:=by
  unfold Builtin.Int.intTooBig bitsLine;exact decide_eq_false (by omega)
 unfold IntMulOk;rw[z];simp
theorem q_:∀ds st K,jx ds st K->ds.length=2/\sh {nx:=fun _ st'=>K .aI st',rt:=K} (a7 gK ds) st:=by
 rintro ds st K ⟨t,d,rfl,hd,k⟩;exact⟨rfl,fZ (kP (by decide) (by decide)) (ij (fZ (kP (by decide) (by decide)) (yd (by omega) k)))⟩
def j9:cF:=fun ds st K=>∃(n k o:Nat) (A:List (List Int)),ds=[.ref n,.int k,.int o]/\st[n]?=some (.lst (A.map bf))/\k<A.length/\o<A.length/\K (.ref st.length) (st++[.lst ((Mx.bq A k o).map bf)])
def my:List Str:=["rows","k","other","order"]
def zF:DS:=(aL (cJ 3 (bR pQ (ae (ab 0) ak)))
 (aL (gY (ab 3) (ab 1) (az bV (ab 0) (ab 2)))
 (aL (gY (ab 3) (ab 2) (az bV (ab 0) (ab 1)))
 (cu (ab 3)))))
theorem dW{A:List (List Int)}{j:Nat}(h:j<A.length):fE (A.map bf) (j:Int)=some (bf (A.getD j [])):=by
 refine jH ?_;rw[List.getElem?_map,List.getElem?_eq_getElem h,Mx.a8 h];rfl
theorem mK{m k:Nat}(h:k<m):nR m (k:Int)=some k:=by
 have:=Ca (i:=(k:Int)) (m:=m) (by omega) (by omega);rw[Int.toNat_natCast]at this;exact this
theorem i5{A:List (List Int)}{k:Nat}{r:List Int}:(A.map bf).set k (bf r)=(A.set k r).map bf:=by rw[List.map_set]
theorem zh:∀ds st K,j9 ds st K->ds.length=3/\zF {nx:=fun _ st'=>K .aI st',rt:=K} (a7 my ds) st:=by
 rintro ds st K ⟨n,k,o,A,rfl,e,hk,ho,kk⟩;refine⟨rfl,?_⟩;have hn:n<st.length:=(List.getElem?_eq_some_iff.mp e).1;refine yw (a9 e) ?_;have e1:(st++[Cell.lst (A.map bf)])[n]?=some (.lst (A.map bf)):=by rw[List.getElem?_append_left hn];exact e
 have e2:(st++[Cell.lst (A.map bf)])[st.length]?=some (.lst (A.map bf)):=by simp
 refine aX (a9 e1) (dW ho) (jo e2 (by rw[List.length_map];exact mK hk) ?_);rw[i5]
 have es:(st++[Cell.lst (A.map bf)]).set st.length (.lst ((A.set k (A.getD o [])).map bf))=st++[Cell.lst ((A.set k (A.getD o [])).map bf)]:=by
  rw[List.set_append_right _ _ (Nat.le_refl _),Nat.sub_self];rfl
 rw[es];have e3:(st++[Cell.lst ((A.set k (A.getD o [])).map bf)])[n]?=some (.lst (A.map bf)):=by rw[List.getElem?_append_left hn];exact e
 have e4:(st++[Cell.lst ((A.set k (A.getD o [])).map bf)])[st.length]?=some (.lst ((A.set k (A.getD o [])).map bf)):=by simp
 refine aX (a9 e3) (dW hk) (jo e4 (by rw[List.length_map,List.length_set];exact mK ho) ?_);rw[i5]
 have es2:(st++[Cell.lst ((A.set k (A.getD o [])).map bf)]).set st.length (.lst (((A.set k (A.getD o [])).set o (A.getD k [])).map bf))=st++[Cell.lst ((Mx.bq A k o).map bf)]:=by
  rw[List.set_append_right _ _ (Nat.le_refl _),Nat.sub_self];rfl
 rw[es2];exact kk
def mW:cF:=fun ds st K=>∃(d:D) (r:List Int),ds=[d]/\items? st d=some (aJ r)/\r.length<=1000/\K (bf (r.map fun x=> -x)) st
def oR:List Str:=["row"]
def Ck:DS:=(cu (dm (gn (ab 0)) [none] (bP 0) cB (tG nj (ab 0))))
theorem AZ:∀ds st K,mW ds st K->ds.length=1/\Ck {nx:=fun _ st'=>K .aI st',rt:=K} (a7 oR ds) st:=by
 rintro ds st K ⟨d,r,rfl,hd,hl,k⟩;refine⟨rfl,?_⟩;refine rQ hd fun ok aK=>⟨cy (by unfold aJ;rw[List.length_map];exact hl),?_⟩
 refine comp_map (g:=fun x=>match x with| .int a=> .int (-a)|_=> .aI) aK _ (fun x hx K' q=>?_) ?_
 . unfold aJ at hx;obtain⟨a,_,rfl⟩:=List.mem_map.mp hx;exact⟨_,rfl,oB q⟩
 . have e:(aJ r).map (fun x=>match x with| .int a=> .int (-a)|_=> .aI)=aJ (r.map fun x=> -x):=by unfold aJ;rw[List.map_map,List.map_map];rfl
   rw[e];exact k
structure Bn(st:af)(b xb xu xc:Nat)(A U C:List (List Int)):Prop where
 eb:st[b]?=some (Cell.ins ay [("body",.ref xb),("turn",.ref xu),("back_columns",.ref xc)])
 e1:st[xb]?=some (Cell.lst (A.map bf))
 e2:st[xu]?=some (Cell.lst (U.map bf))
 e3:st[xc]?=some (Cell.lst (C.map bf))
 n1:xb≠xu
 n2:xb≠xc
 n3:xu≠xc
theorem kW{st:af}{b x:Nat}{C:Addr}{fs:List (Str×D)}{xs:List D}(h1:st[b]?=some (Cell.ins C fs))(h2:st[x]?=some (Cell.lst xs)):b≠x:=fun z=>by rw[z,h2]at h1;cases h1
def kv:cF:=fun ds st K=>∃(b N:Nat) (d:D) (A:List (List Int)),ds=[.ref b,d]/\st[b]?=some (.ins ay [])/\fD st d A/\A.length=N/\N<=16/\∀st',Bn st' b st.length (st.length+1) (st.length+2) A (Mx.units N) (Mx.units N)->st'.length=st.length+3->(∀m,m<st.length->m≠b->st'[m]?=st[m]?)->K .aI st'
def iD:List Str:=["self","rows"]
def ux:DS:=(aL (fx ay "body" (ab 0) (mS (gn (ab 1)) [none] (bP 0) cB (bR nD (ae (ab 0) ak))))
 (aL (fx ay "turn" (ab 0) (mS (gn (aH fo (ae (bR eQ (ae (ab 1) ak)) ak))) [none] (bP 0) cB (bR nD (ae (ab 0) ak))))
 (fx ay "back_columns" (ab 0) (mS (gn (aH fo (ae (bR eQ (ae (ab 1) ak)) ak))) [none] (bP 0) cB (bR nD (ae (ab 0) ak))))))
theorem qA(f:Str)(v:D):∀fs:List (Str×D),(putD f v fs).length<=fs.length+1
 | []=>by simp[putD]
 |(g,x)::r=>by
  unfold putD;split
  . simp
  . have:=qA f v r;simp only[List.length_cons];omega
theorem xV{st:af}{A:List (List Int)}:bW st (A.map bO) A:=bW.tup
theorem wq(n:Nat):(Mx.units n).length=n:=by unfold Mx.units;simp
theorem tE:∀ds st K,kv ds st K->ds.length=2/\ux {nx:=fun _ st'=>K .aI st',rt:=K} (a7 iD ds) st:=by
 rintro ds st K ⟨b,N,d,A,rfl,eb,hA,hl,hN,k⟩;refine⟨rfl,?_⟩;have hb:b<st.length:=(List.getElem?_eq_some_iff.mp eb).1;obtain⟨da,hd,ra⟩:=hA.ex;have hdl:=ra.len;have lst:∀(e:D) (r:List Int),True:=fun _ _=>trivial;refine rQ hd fun ok aK=>⟨cy (by omega),?_⟩
 refine jN bf aK ra (fun e r hr he K' q=>⟨_,rfl,pM he q⟩) ?_;have eb1:(st++[Cell.lst (A.map bf)])[b]?=some (.ins ay []):=by rw[List.getElem?_append_left hb];exact eb
 refine l7 eb1 (by decide) ?_;generalize hs1:(st++[Cell.lst (A.map bf)]).set b (.ins ay (putD "body" (.ref st.length) []))=st1;have l1:st1.length=st.length+1:=by rw[<-hs1];simp
 have f1:∀m,m<st.length->m≠b->st1[m]?=st[m]?:=fun m hm hmb=>by rw[<-hs1,List.getElem?_set_ne (Ne.symm hmb),List.getElem?_append_left hm]
 have b1:st1[b]?=some (.ins ay (putD "body" (.ref st.length) [])):=by rw[<-hs1,List.getElem?_set_self (by simp;omega)]
 have x1:st1[st.length]?=some (.lst (A.map bf)):=by rw[<-hs1,List.getElem?_set_ne (by omega)];simp
 clear hs1
 have itd:∃da',items? st1 d=some da'/\da'.length=N:=by
  cases d with
  |ref n=>
   by_cases hnb:n=b
   . subst hnb;unfold items? at hd;simp only[eb]at hd;cases hd
   . have hn:n<st.length:=by
      unfold items? at hd;simp only at hd;cases q:st[n]? with
      |none=>rw[q]at hd;cases hd
      |some c=>exact(List.getElem?_eq_some_iff.mp q).1
     refine⟨da,?_,by omega⟩;unfold items? at hd⊢;simp only at hd⊢;rw[f1 n hn hnb];exact hd
  |_=>exact⟨da,hd,by omega⟩
 obtain⟨da1,hd1,hdl1⟩:=itd;refine c8 hd1 ?_;rw[hdl1];refine⟨N,rfl,by omega,?_⟩;refine i7 ⟨cy (by rw[List.length_map,wq];omega),?_⟩;refine jN bf trivial xV (fun e r hr he K' q=>⟨_,rfl,pM he q⟩) ?_;have b2:(st1++[Cell.lst ((Mx.units N).map bf)])[b]?=some (.ins ay (putD "body" (.ref st.length) [])):=by rw[List.getElem?_append_left (by omega)];exact b1
 refine l7 b2 (by have:=qA "body" (.ref st.length) [];simp only[List.length_nil]at this;omega) ?_;generalize hs2:(st1++[Cell.lst ((Mx.units N).map bf)]).set b (.ins ay (putD "turn" (.ref st1.length) (putD "body" (.ref st.length) [])))=st2;have l2:st2.length=st.length+2:=by rw[<-hs2];simp;omega
 have f2:∀m,m<st1.length->m≠b->st2[m]?=st1[m]?:=fun m hm hmb=>by rw[<-hs2,List.getElem?_set_ne (Ne.symm hmb),List.getElem?_append_left hm]
 have b2':st2[b]?=some (.ins ay (putD "turn" (.ref st1.length) (putD "body" (.ref st.length) []))):=by rw[<-hs2,List.getElem?_set_self (by simp;omega)]
 have x2:st2[st1.length]?=some (.lst ((Mx.units N).map bf)):=by rw[<-hs2,List.getElem?_set_ne (by omega)];simp
 clear hs2
 have itd2:items? st2 d=some da1:=by
  cases d with
  |ref n=>
   by_cases hnb:n=b
   . subst hnb;unfold items? at hd1;simp only[b1]at hd1;cases hd1
   . have hn:n<st1.length:=by
      unfold items? at hd1;simp only at hd1;cases q:st1[n]? with
      |none=>rw[q]at hd1;cases hd1
      |some c=>exact(List.getElem?_eq_some_iff.mp q).1
     unfold items? at hd1⊢;simp only at hd1⊢;rw[f2 n hn hnb];exact hd1
  |_=>exact hd1
 refine c8 itd2 ?_;rw[hdl1];refine⟨N,rfl,by omega,?_⟩;refine i7 ⟨cy (by rw[List.length_map,wq];omega),?_⟩;refine jN bf trivial xV (fun e r hr he K' q=>⟨_,rfl,pM he q⟩) ?_;have b3:(st2++[Cell.lst ((Mx.units N).map bf)])[b]?=some (.ins ay (putD "turn" (.ref st1.length) (putD "body" (.ref st.length) []))):=by rw[List.getElem?_append_left (by omega)];exact b2'
 refine l7 b3 (by have h1:=qA "body" (.ref st.length) [];have h2:=qA "turn" (.ref st1.length) (putD "body" (.ref st.length) []);simp only[List.length_nil]at h1;omega) ?_;refine k _ ⟨?_,?_,?_,?_,by omega,by omega,by omega⟩ (by simp;omega) fun m hm hmb=>?_
 . rw[List.getElem?_set_self (by simp;omega),l1,l2];rfl
 . rw[List.getElem?_set_ne (by omega),List.getElem?_append_left (by omega),f2 _ (by omega) (by omega)];exact x1
 . rw[List.getElem?_set_ne (by omega),List.getElem?_append_left (by omega)];rw[l1]at x2;exact x2
 . rw[List.getElem?_set_ne (by omega)];rw[show st.length+2=st2.length by omega];simp
 . rw[List.getElem?_set_ne (Ne.symm hmb),List.getElem?_append_left (by omega),f2 m (by omega) hmb,f1 m hm hmb]
def k6:cF:=fun ds st K=>∃(b xb xu xc N w k j:Nat) (A U C:List (List Int)) (q:Int),ds=[.ref b,.int k,.int q,.int j]/\Bn st b xb xu xc A U C/\Mx.aT N w A/\Mx.aT N N U/\Mx.aT N N C/\k<N/\j<N/\N<=16/\w<=16/\(∀x∈A.getD j [],IntMulOk (-q) x)/\(∀x∈U.getD j [],IntMulOk (-q) x)/\(∀x∈C.getD k [],IntMulOk q x)/\
 ∀st',Bn st' b xb xu xc (Mx.aP A k q j) (Mx.aP U k q j) (Mx.aP C j (-q) k)->st'.length=st.length->(∀m,m≠xb->m≠xu->m≠xc->st'[m]?=st[m]?)->K .aI st'
def lF:List Str:=["self","k","times","other"]
def zq:DS:=(aL (gY (bL ay "body" (ab 0)) (ab 1) (aH nN (ae (az bV (bL ay "body" (ab 0)) (ab 1)) (ae (tG nj (ab 2)) (ae (az bV (bL ay "body" (ab 0)) (ab 3)) ak)))))
 (aL (gY (bL ay "turn" (ab 0)) (ab 1) (aH nN (ae (az bV (bL ay "turn" (ab 0)) (ab 1)) (ae (tG nj (ab 2)) (ae (az bV (bL ay "turn" (ab 0)) (ab 3)) ak)))))
 (gY (bL ay "back_columns" (ab 0)) (ab 3) (aH nN (ae (az bV (bL ay "back_columns" (ab 0)) (ab 3)) (ae (ab 2) (ae (az bV (bL ay "back_columns" (ab 0)) (ab 1)) ak)))))))
theorem xj:∀ds st K,k6 ds st K->ds.length=4/\zq {nx:=fun _ st'=>K .aI st',rt:=K} (a7 lF ds) st:=by
 rintro ds st K ⟨b,xb,xu,xc,N,w,k,j,A,U,C,q,rfl,B,hA,hU,hC,hk,hj,hN,hw,mA,mU,mC,kk⟩;refine⟨rfl,?_⟩;have lA:=hA.len;have lU:=hU.len;have lC:=hC.len;have rA:=Mx.cU hA hk;have rU:=Mx.cU hU hk;have rC:=Mx.cU hC hj;have bx1:=kW B.eb B.e1;have bx2:=kW B.eb B.e2;have bx3:=kW B.eb B.e3;have n1:=B.n1;have n2:=B.n2;have n3:=B.n3;refine aV B.eb rfl (aX (a9 B.e1) (dW (by omega)) (oB (aV B.eb rfl (aX (a9 B.e1) (dW (by omega)) ?_))));refine⟨_,_,-q,A.getD k [],A.getD j [],rfl,rfl,rfl,by omega,mA,?_⟩;refine aV B.eb rfl (jo B.e1 (by rw[List.length_map,lA];exact mK hk) ?_);rw[i5];have g1:∀m,m≠xb->(st.set xb (.lst ((A.set k (Mx.iN (A.getD k []) (-q) (A.getD j []))).map bf)))[m]?=st[m]?:=fun m hm=>List.getElem?_set_ne (Ne.symm hm);have h1:(st.set xb (.lst ((A.set k (Mx.iN (A.getD k []) (-q) (A.getD j []))).map bf)))[xb]?=some (.lst ((Mx.aP A k q j).map bf)):=List.getElem?_set_self (List.getElem?_eq_some_iff.mp B.e1).1;have z1:(st.set xb (.lst ((A.set k (Mx.iN (A.getD k []) (-q) (A.getD j []))).map bf))).length=st.length:=List.length_set;generalize st.set xb (.lst ((A.set k (Mx.iN (A.getD k []) (-q) (A.getD j []))).map bf))=st1 at g1 h1 z1⊢;have eb1:=(g1 b bx1).trans B.eb;have e21:=(g1 xu (Ne.symm n1)).trans B.e2;have e31:=(g1 xc (Ne.symm n2)).trans B.e3;refine aV eb1 rfl (aX (a9 e21) (dW (by omega)) (oB (aV eb1 rfl (aX (a9 e21) (dW (by omega)) ?_))));refine⟨_,_,-q,U.getD k [],U.getD j [],rfl,rfl,rfl,by omega,mU,?_⟩;refine aV eb1 rfl (jo e21 (by rw[List.length_map,lU];exact mK hk) ?_);rw[i5];have g2:∀m,m≠xu->(st1.set xu (.lst ((U.set k (Mx.iN (U.getD k []) (-q) (U.getD j []))).map bf)))[m]?=st1[m]?:=fun m hm=>List.getElem?_set_ne (Ne.symm hm);have h2:(st1.set xu (.lst ((U.set k (Mx.iN (U.getD k []) (-q) (U.getD j []))).map bf)))[xu]?=some (.lst ((Mx.aP U k q j).map bf)):=List.getElem?_set_self (List.getElem?_eq_some_iff.mp e21).1;have z2:(st1.set xu (.lst ((U.set k (Mx.iN (U.getD k []) (-q) (U.getD j []))).map bf))).length=st1.length:=List.length_set;generalize st1.set xu (.lst ((U.set k (Mx.iN (U.getD k []) (-q) (U.getD j []))).map bf))=st2 at g2 h2 z2⊢;have eb2:=(g2 b bx2).trans eb1;have e32:=(g2 xc (Ne.symm n3)).trans e31;refine aV eb2 rfl (aX (a9 e32) (dW (by omega)) (aV eb2 rfl (aX (a9 e32) (dW (by omega)) ?_)));refine⟨_,_,q,C.getD j [],C.getD k [],rfl,rfl,rfl,by omega,mC,?_⟩;refine aV eb2 rfl (jo e32 (by rw[List.length_map,lC];exact mK hj) ?_);rw[i5];have hc:C.set j (Mx.iN (C.getD j []) q (C.getD k []))=Mx.aP C j (-q) k:=by unfold Mx.aP;rw[Int.neg_neg]
 rw[hc];refine kk _ ⟨?_,?_,?_,?_,n1,n2,n3⟩ (by rw[List.length_set];omega) fun m m1 m2 m3=>?_
 . rw[List.getElem?_set_ne (Ne.symm bx3)];exact eb2
 . rw[List.getElem?_set_ne (Ne.symm n2),g2 _ n1];exact h1
 . rw[List.getElem?_set_ne (Ne.symm n3)];exact h2
 . exact List.getElem?_set_self (List.getElem?_eq_some_iff.mp e32).1
 . rw[List.getElem?_set_ne (Ne.symm m3),g2 m m2,g1 m m1]
def kB:cF:=fun ds st K=>∃(b xb xu xc N w k o:Nat) (A U C:List (List Int)),ds=[.ref b,.int k,.int o]/\Bn st b xb xu xc A U C/\Mx.aT N w A/\Mx.aT N N U/\Mx.aT N N C/\k<N/\o<N/\
 ∀st',Bn st' b st.length (st.length+1) (st.length+2) (Mx.bq A k o) (Mx.bq U k o) (Mx.bq C k o)->st'.length=st.length+3->(∀m,m<st.length->m≠b->st'[m]?=st[m]?)->K .aI st'
def iE:List Str:=["self","k","other"]
def uj:DS:=(aL (fx ay "body" (ab 0) (aH j9 (ae (bL ay "body" (ab 0)) (ae (ab 1) (ae (ab 2) ak)))))
 (aL (fx ay "turn" (ab 0) (aH j9 (ae (bL ay "turn" (ab 0)) (ae (ab 1) (ae (ab 2) ak)))))
 (fx ay "back_columns" (ab 0) (aH j9 (ae (bL ay "back_columns" (ab 0)) (ae (ab 1) (ae (ab 2) ak)))))))
theorem tj:∀ds st K,kB ds st K->ds.length=3/\uj {nx:=fun _ st'=>K .aI st',rt:=K} (a7 iE ds) st:=by
 rintro ds st K ⟨b,xb,xu,xc,N,w,k,o,A,U,C,rfl,B,hA,hU,hC,hk,ho,kk⟩;refine⟨rfl,?_⟩;have lA:=hA.len;have lU:=hU.len;have lC:=hC.len;have bx1:=kW B.eb B.e1;have bx2:=kW B.eb B.e2;have bx3:=kW B.eb B.e3;have hb:b<st.length:=(List.getElem?_eq_some_iff.mp B.eb).1;have hu:xu<st.length:=(List.getElem?_eq_some_iff.mp B.e2).1;have hc:xc<st.length:=(List.getElem?_eq_some_iff.mp B.e3).1;refine aV B.eb rfl ?_;refine⟨xb,k,o,A,rfl,B.e1,by omega,by omega,?_⟩;have eb1:(st++[Cell.lst ((Mx.bq A k o).map bf)])[b]?=some (.ins ay [("body",.ref xb),("turn",.ref xu),("back_columns",.ref xc)]):=by rw[List.getElem?_append_left hb];exact B.eb
 refine l7 eb1 (by simp) ?_;have pb:putD "body" (.ref st.length) [("body",.ref xb),("turn",.ref xu),("back_columns",.ref xc)]=([("body",.ref st.length),("turn",.ref xu),("back_columns",.ref xc)]:List (Str×D)):=rfl;rw[pb];generalize hs1:(st++[Cell.lst ((Mx.bq A k o).map bf)]).set b (.ins ay [("body",.ref st.length),("turn",.ref xu),("back_columns",.ref xc)])=st1;have l1:st1.length=st.length+1:=by rw[<-hs1];simp
 have f1:∀m,m<st.length->m≠b->st1[m]?=st[m]?:=fun m hm hmb=>by rw[<-hs1,List.getElem?_set_ne (Ne.symm hmb),List.getElem?_append_left hm]
 have b1:st1[b]?=some (.ins ay [("body",.ref st.length),("turn",.ref xu),("back_columns",.ref xc)]):=by rw[<-hs1,List.getElem?_set_self (by simp;omega)]
 have x1:st1[st.length]?=some (.lst ((Mx.bq A k o).map bf)):=by rw[<-hs1,List.getElem?_set_ne (by omega)];simp
 clear hs1 eb1;refine aV b1 rfl ?_;refine⟨xu,k,o,U,rfl,(f1 xu hu (Ne.symm bx2)).trans B.e2,by omega,by omega,?_⟩;have eb1:(st1++[Cell.lst ((Mx.bq U k o).map bf)])[b]?=some (.ins ay [("body",.ref st.length),("turn",.ref xu),("back_columns",.ref xc)]):=by rw[List.getElem?_append_left (by omega)];exact b1
 refine l7 eb1 (by simp) ?_;have pb:putD "turn" (.ref st1.length) [("body",.ref st.length),("turn",.ref xu),("back_columns",.ref xc)]=([("body",.ref st.length),("turn",.ref st1.length),("back_columns",.ref xc)]:List (Str×D)):=rfl;rw[pb];generalize hs2:(st1++[Cell.lst ((Mx.bq U k o).map bf)]).set b (.ins ay [("body",.ref st.length),("turn",.ref st1.length),("back_columns",.ref xc)])=st2;have l2:st2.length=st.length+2:=by rw[<-hs2];simp;omega
 have f2:∀m,m<st1.length->m≠b->st2[m]?=st1[m]?:=fun m hm hmb=>by rw[<-hs2,List.getElem?_set_ne (Ne.symm hmb),List.getElem?_append_left hm]
 have b2:st2[b]?=some (.ins ay [("body",.ref st.length),("turn",.ref st1.length),("back_columns",.ref xc)]):=by rw[<-hs2,List.getElem?_set_self (by simp;omega)]
 have x2:st2[st1.length]?=some (.lst ((Mx.bq U k o).map bf)):=by rw[<-hs2,List.getElem?_set_ne (by omega)];simp
 clear hs2 eb1;refine aV b2 rfl ?_;refine⟨xc,k,o,C,rfl,((f2 xc (by omega) (Ne.symm bx3)).trans (f1 xc hc (Ne.symm bx3))).trans B.e3,by omega,by omega,?_⟩;have eb1:(st2++[Cell.lst ((Mx.bq C k o).map bf)])[b]?=some (.ins ay [("body",.ref st.length),("turn",.ref st1.length),("back_columns",.ref xc)]):=by rw[List.getElem?_append_left (by omega)];exact b2
 refine l7 eb1 (by simp) ?_;have pb:putD "back_columns" (.ref st2.length) [("body",.ref st.length),("turn",.ref st1.length),("back_columns",.ref xc)]=([("body",.ref st.length),("turn",.ref st1.length),("back_columns",.ref st2.length)]:List (Str×D)):=rfl;rw[pb];refine kk _ ⟨?_,?_,?_,?_,by omega,by omega,by omega⟩ (by simp;omega) fun m hm hmb=>?_
 . rw[List.getElem?_set_self (by simp;omega),l1,l2]
 . rw[List.getElem?_set_ne (by omega),List.getElem?_append_left (by omega),f2 _ (by omega) (by omega)];exact x1
 . rw[List.getElem?_set_ne (by omega),List.getElem?_append_left (by omega)];rw[l1]at x2;exact x2
 . rw[List.getElem?_set_ne (by omega)];rw[show st.length+2=st2.length by omega];simp
 . rw[List.getElem?_set_ne (Ne.symm hmb),List.getElem?_append_left (by omega),f2 m (by omega) hmb,f1 m hm hmb]
def i9:cF:=fun ds st K=>∃(b xb xu xc N w k:Nat) (A U C:List (List Int)),ds=[.ref b,.int k]/\Bn st b xb xu xc A U C/\Mx.aT N w A/\Mx.aT N N U/\Mx.aT N N C/\k<N/\N<=16/\w<=16/\
 ∀st',Bn st' b xb xu xc (Mx.fV A k) (Mx.fV U k) (Mx.fV C k)->st'.length=st.length->(∀m,m≠xb->m≠xu->m≠xc->st'[m]?=st[m]?)->K .aI st'
def gh:List Str:=["self","k"]
def qZ:DS:=(aL (gY (bL ay "body" (ab 0)) (ab 1) (aH mW (ae (az bV (bL ay "body" (ab 0)) (ab 1)) ak)))
 (aL (gY (bL ay "turn" (ab 0)) (ab 1) (aH mW (ae (az bV (bL ay "turn" (ab 0)) (ab 1)) ak)))
 (gY (bL ay "back_columns" (ab 0)) (ab 1) (aH mW (ae (az bV (bL ay "back_columns" (ab 0)) (ab 1)) ak)))))
theorem qE:∀ds st K,i9 ds st K->ds.length=2/\qZ {nx:=fun _ st'=>K .aI st',rt:=K} (a7 gh ds) st:=by
 rintro ds st K ⟨b,xb,xu,xc,N,w,k,A,U,C,rfl,B,hA,hU,hC,hk,hN,hw,kk⟩;refine⟨rfl,?_⟩;have lA:=hA.len;have lU:=hU.len;have lC:=hC.len;have rA:=Mx.cU hA hk;have rU:=Mx.cU hU hk;have rC:=Mx.cU hC hk;have bx1:=kW B.eb B.e1;have bx2:=kW B.eb B.e2;have bx3:=kW B.eb B.e3;have n1:=B.n1;have n2:=B.n2;have n3:=B.n3;refine aV B.eb rfl (aX (a9 B.e1) (dW (by omega)) ?_);refine⟨_,A.getD k [],rfl,rfl,by omega,?_⟩;refine aV B.eb rfl (jo B.e1 (by rw[List.length_map,lA];exact mK hk) ?_);rw[i5];have g1:∀m,m≠xb->(st.set xb (.lst ((A.set k ((A.getD k []).map fun x=> -x)).map bf)))[m]?=st[m]?:=fun m hm=>List.getElem?_set_ne (Ne.symm hm);have h1:(st.set xb (.lst ((A.set k ((A.getD k []).map fun x=> -x)).map bf)))[xb]?=some (.lst ((Mx.fV A k).map bf)):=List.getElem?_set_self (List.getElem?_eq_some_iff.mp B.e1).1;have z1:(st.set xb (.lst ((A.set k ((A.getD k []).map fun x=> -x)).map bf))).length=st.length:=List.length_set;generalize st.set xb (.lst ((A.set k ((A.getD k []).map fun x=> -x)).map bf))=st1 at g1 h1 z1⊢;have eb1:=(g1 b bx1).trans B.eb;have e21:=(g1 xu (Ne.symm n1)).trans B.e2;have e31:=(g1 xc (Ne.symm n2)).trans B.e3;refine aV eb1 rfl (aX (a9 e21) (dW (by omega)) ?_);refine⟨_,U.getD k [],rfl,rfl,by omega,?_⟩;refine aV eb1 rfl (jo e21 (by rw[List.length_map,lU];exact mK hk) ?_);rw[i5];have g2:∀m,m≠xu->(st1.set xu (.lst ((U.set k ((U.getD k []).map fun x=> -x)).map bf)))[m]?=st1[m]?:=fun m hm=>List.getElem?_set_ne (Ne.symm hm);have h2:(st1.set xu (.lst ((U.set k ((U.getD k []).map fun x=> -x)).map bf)))[xu]?=some (.lst ((Mx.fV U k).map bf)):=List.getElem?_set_self (List.getElem?_eq_some_iff.mp e21).1;have z2:(st1.set xu (.lst ((U.set k ((U.getD k []).map fun x=> -x)).map bf))).length=st1.length:=List.length_set;generalize st1.set xu (.lst ((U.set k ((U.getD k []).map fun x=> -x)).map bf))=st2 at g2 h2 z2⊢;have eb2:=(g2 b bx2).trans eb1;have e32:=(g2 xc (Ne.symm n3)).trans e31;refine aV eb2 rfl (aX (a9 e32) (dW (by omega)) ?_);refine⟨_,C.getD k [],rfl,rfl,by omega,?_⟩;refine aV eb2 rfl (jo e32 (by rw[List.length_map,lC];exact mK hk) ?_);rw[i5];refine kk _ ⟨?_,?_,?_,?_,n1,n2,n3⟩ (by rw[List.length_set];omega) fun m m1 m2 m3=>?_
 . rw[List.getElem?_set_ne (Ne.symm bx3)];exact eb2
 . rw[List.getElem?_set_ne (Ne.symm n2),g2 _ n1];exact h1
 . rw[List.getElem?_set_ne (Ne.symm n3)];exact h2
 . exact List.getElem?_set_self (List.getElem?_eq_some_iff.mp e32).1
 . rw[List.getElem?_set_ne (Ne.symm m3),g2 m m2,g1 m m1]
def hV:cF:=fun ds st K=>∃(b xb xu xc N w top p:Nat) (A U C:List (List Int)) (f:Bool),ds=[.ref b,.int top,.int p]/\Bn st b xb xu xc A U C/\Mx.aT N w A/\top<=N/\N<=16/\p<w/\w<=16/\st[0]?=some (fe f)/\
 ∀L,Mx.j4 A N top p L->K (.lst (L.map fun(k:Nat)=> .int (k:Int))) (st.set 0 (fe true))
def hO:List Str:=["self","top","place","live"]
def s_:DS:=(aL (cJ 3 (dm (pG (ae (ab 1) (ae (bR eQ (ae (bL ay "body" (ab 0)) ak)) ak))) [none,some 0,some 2] (bP 0) (bz (az oY (az bV (az bV (bL ay "body" (ab 1)) (ab 0)) (ab 2)) (dC (.int 0)))) (ab 0)))
 (cu (yM 0 110 ⟨56,32,56,66⟩ "Bench.live_rows.<locals>.<lambda>" [none,some 0,some 2] (bR yc (ae (az bV (az bV (bL ay "body" (ab 1)) (ab 0)) (ab 2)) ak)) (ab 3))))
theorem pA{a b:Prop}(h:b):if false=true then a else b:=h
theorem HV{st:af}{b:Nat}{C:Addr}{fs:List (Str×D)}{f:Bool}(h1:st[b]?=some (Cell.ins C fs))(h2:st[0]?=some (fe f)):b≠0:=fun z=>by rw[z,h2]at h1;cases h1
theorem sO{st:af}{b:Nat}{xs:List D}{f:Bool}(h1:st[b]?=some (Cell.lst xs))(h2:st[0]?=some (fe f)):b≠0:=fun z=>by rw[z,h2]at h1;cases h1
theorem Bn.keep{st st':af}{b xb xu xc:Nat}{A U C:List (List Int)}(B:Bn st b xb xu xc A U C)(h:∀m,m=b\/m=xb\/m=xu\/m=xc->st'[m]?=st[m]?):Bn st' b xb xu xc A U C:=
 ⟨(h b (.inl rfl)).trans B.eb,(h xb (.inr (.inl rfl))).trans B.e1,(h xu (.inr (.inr (.inl rfl)))).trans B.e2,(h xc (.inr (.inr (.inr rfl)))).trans B.e3,B.n1,B.n2,B.n3⟩
theorem Bn.tab{st:af}{b xb xu xc:Nat}{A U C:List (List Int)}{f:Bool}(B:Bn st b xb xu xc A U C)(h:st[0]?=some (fe f))(c:Cell):Bn (st.set 0 c) b xb xu xc A U C:=
 B.keep fun m hm=>List.getElem?_set_ne fun z=>by
  subst z;rcases hm with rfl|rfl|rfl|rfl
  . exact HV B.eb h rfl
  . exact sO B.e1 h rfl
  . exact sO B.e2 h rfl
  . exact sO B.e3 h rfl
theorem ou{r:List Int}{k:Nat}(h:k<r.length):fE (aJ r) (k:Int)=some (.int (r.getD k 0)):=by
 refine jH ?_;unfold aJ;rw[List.getElem?_map,List.getElem?_eq_getElem h,Mx.a8 h];rfl
def gG(A:List (List Int))(N top p:Nat):List Nat:=(List.range (N-top)).filterMap fun i=>if Mx.g A (top+i) p≠0 then some (top+i)else none
theorem we{A:List (List Int)}{N top p k:Nat}:k∈gG A N top p↔top<=k/\k<N/\Mx.g A k p≠0:=by
 unfold gG;rw[List.mem_filterMap];constructor
 . rintro⟨i,hi,e⟩;rw[List.mem_range]at hi;split at e
   . rename_i h;cases e;exact⟨by omega,by omega,h⟩
   . cases e
 . rintro⟨h1,h2,h3⟩;refine⟨k-top,List.mem_range.mpr (by omega),?_⟩;rw[show top+(k-top)=k by omega,if_pos h3]
theorem pw_filterMap{f:Nat->Option Nat}(h:∀i j a b,i<j->f i=some a->f j=some b->a<b):∀ {l:List Nat},l.Pairwise (· < ·)->(l.filterMap f).Pairwise (· < ·)
 | [],_=>by simp
 |x::l,hl=>by
  obtain⟨h1,h2⟩:=List.pairwise_cons.mp hl;rw[List.filterMap_cons];split
  . exact pw_filterMap h h2
  . rename_i a e;refine List.pairwise_cons.mpr ⟨fun b hb=>?_,pw_filterMap h h2⟩;obtain⟨j,hj,ej⟩:=List.mem_filterMap.mp hb;exact h x j a b (h1 j hj) e ej
theorem pw_liveR{A:List (List Int)}{N top p:Nat}:(gG A N top p).Pairwise (· < ·):=by
 unfold gG;refine pw_filterMap (fun i j a b hij ha hb=>?_) List.pairwise_lt_range;split at ha
 . split at hb
   . cases ha;cases hb;omega
   . cases hb
 . cases ha
theorem xm{f:Nat->Option Nat}(l:List Nat):(l.filterMap f).length<=l.length:=List.length_filterMap_le ..
theorem HU{A:List (List Int)}{N top p:Nat}{os:List (Int×Int)}(hp:os.Perm (((gG A N top p).map fun(k:Nat)=>(((Mx.g A k p).natAbs:Nat):Int)).zip ((gG A N top p).map fun(k:Nat)=>(k:Int))))(hs:os.Pairwise slt):
 Mx.j4 A N top p (os.map fun q=>q.2.toNat)/\os.map (fun q=>D.int q.2)=(os.map fun q=>q.2.toNat).map fun(k:Nat)=>D.int (k:Int):=by
 have hz:((gG A N top p).map fun(k:Nat)=>(((Mx.g A k p).natAbs:Nat):Int)).zip ((gG A N top p).map fun(k:Nat)=>(k:Int))=(gG A N top p).map fun k=>((((Mx.g A k p).natAbs:Nat):Int),(k:Int)):=by
  exact List.zip_map' ..
 rw[hz]at hp
 have hm:∀q∈os,∃k,k∈gG A N top p/\q=((((Mx.g A k p).natAbs:Nat):Int),(k:Int)):=fun q hq=>by
  obtain⟨k,h1,h2⟩:=List.mem_map.mp (hp.mem_iff.mp hq);exact⟨k,h1,h2.symm⟩
 refine⟨⟨fun k=>?_,?_⟩,?_⟩
 . rw[<-we];constructor
   . intro h;obtain⟨q,hq,e⟩:=List.mem_map.mp h;obtain⟨j,h1,rfl⟩:=hm q hq;simp only[Int.toNat_natCast]at e;rw[<-e];exact h1
   . intro h;exact List.mem_map.mpr ⟨((((Mx.g A k p).natAbs:Nat):Int),(k:Int)),hp.mem_iff.mpr (List.mem_map.mpr ⟨k,h,rfl⟩),by simp⟩
 . rw[List.pairwise_map];refine hs.imp_of_mem fun{x y} hx hy h=>?_;obtain⟨j,_,rfl⟩:=hm x hx;obtain⟨k,_,rfl⟩:=hm y hy;unfold slt at h;simp only[Int.toNat_natCast];omega
 . rw[List.map_map];refine List.map_congr_left fun q hq=>?_;obtain⟨j,_,rfl⟩:=hm q hq;simp
theorem si:∀ds st K,hV ds st K->ds.length=3/\s_ {nx:=fun _ st'=>K .aI st',rt:=K} (a7 hO ds) st:=by
 rintro ds st K ⟨b,xb,xu,xc,N,w,top,p,A,U,C,f,rfl,B,hA,ht,hN,hp,hw,h0,k⟩;refine⟨rfl,?_⟩;have lA:=hA.len;have rowA:∀i,i<N->(A.getD i []).length=w:=fun i hi=>Mx.cU hA hi;refine aV B.eb rfl (c8 (a9 B.e1) ?_);rw[List.length_map,lA];refine AD ⟨by omega,by omega,by omega,by omega⟩ ⟨cy (by unfold eF;simp;omega),?_⟩;have er:((N:Int)-(top:Int)).toNat=N-top:=by omega
 rw[er];refine gc (fun rest acc st'=>∃i:Nat,i<=N-top/\st'=st/\rest=(List.range (N-top-i)).map (fun j=>D.int ((top+i+j:Nat):Int))/\acc=((List.range i).filterMap fun i=>if Mx.g A (top+i) p≠0 then some (top+i)else none).map fun(k:Nat)=>D.int (k:Int)) ?_ ?_ _ _ _ ⟨0,Nat.zero_le _,rfl,by unfold eF;simp,by simp⟩
 . rintro acc st' ⟨i,hi,rfl,hr,rfl⟩
   have hi':i=N-top:=by
    rcases Nat.lt_or_ge i (N-top)with z|z
    . rw[show N-top-i=(N-top-i-1)+1 by omega,List.range_succ_eq_map]at hr;cases hr
    . omega
   subst hi';refine⟨trivial,?_⟩;have e1:((gG A N top p).map fun(k:Nat)=>D.int (k:Int))=((gG A N top p).map fun(k:Nat)=>(k:Int)).map D.int:=by rw[List.map_map];rfl
   refine⟨(gG A N top p).map fun(k:Nat)=>(k:Int),(gG A N top p).map fun(k:Nat)=>(((Mx.g A k p).natAbs:Nat):Int),f,congrArg D.lst e1,?_,?_,by rw[List.length_map,List.length_map],h0,fun i n q hn hq=>?_,fun os hp' hs=>?_⟩
   . rw[List.length_map];have:=xm (f:=fun i=>if Mx.g A (top+i) p≠0 then some (top+i)else none) (List.range (N-top));rw[List.length_range]at this;show(gG A N top p).length<64;unfold gG;omega
   . rw[List.pairwise_map];exact pw_liveR.imp fun h=>by omega
   . rw[List.getElem?_map]at hn hq;cases z:(gG A N top p)[i]? with
     |none=>rw[z]at hn;cases hn
     |some j=>
      rw[z]at hn hq;cases hn;cases hq;obtain⟨j1,j2,j3⟩:=we.mp (List.mem_of_getElem? z);have B1:=B.tab h0 (fe true);refine aV B1.eb rfl (aX (a9 B1.e1) (dW (by omega)) (aX rfl (ou (by rw[rowA j j2];exact hp)) (IH ⟨rfl,rfl⟩)))
   . obtain⟨h1,h2⟩:=HU hp' hs;rw[h2];exact k _ h1
 . rintro d rest acc st' ⟨i,hi,rfl,hr,rfl⟩ next
   have hlt:i<N-top:=by
    rcases Nat.lt_or_ge i (N-top)with z|z
    . exact z
    . rw[show N-top-i=0 by omega]at hr;cases hr
   rw[show N-top-i=(N-top-i-1)+1 by omega,List.range_succ_eq_map,List.map_cons,List.map_map]at hr;obtain⟨rfl,rfl⟩:=List.cons.inj hr;refine⟨trivial,_,rfl,?_⟩;refine aV B.eb rfl (aX (a9 B.e1) (dW (j:=top+i+0) (by omega)) (aX rfl (ou (by rw[rowA _ (by omega)];exact hp)) ?_));have e2:List.range (i+1)=List.range i++[i]:=List.range_succ
   have e3:((List.range (N-top-i-1)).map ((fun j=>D.int ((top+i+j:Nat):Int))∘Nat.succ))=(List.range (N-top-(i+1))).map fun j=>D.int ((top+(i+1)+j:Nat):Int):=by
    rw[show N-top-i-1=N-top-(i+1) by omega];refine List.map_congr_left fun j _=>?_;show D.int ((top+i+(j+1):Nat):Int)=_;rw[show top+i+(j+1)=top+(i+1)+j by omega]
   refine ne2 (fun h=>?_) fun h=>?_
   . refine(next _ _ ⟨i+1,by omega,rfl,e3,?_⟩);rw[e2,List.filterMap_append,List.map_append];have:Mx.g A (top+i) p≠0:=h;simp[this]
   . refine(next _ _ ⟨i+1,by omega,rfl,e3,?_⟩);rw[e2,List.filterMap_append,List.map_append];have:Mx.g A (top+i) p=0:=h;simp[this]
structure Bo(n0:Nat)(st st':af)(b xb xu xc:Nat):Prop where
 lo:1<=n0/\n0<=b/\n0<=xb/\n0<=xu/\n0<=xc
 fr:∀m,m<n0->m≠0->st'[m]?=st[m]?
 tb:∃f,st'[0]?=some (fe f)
def lS:cF:=fun ds st K=>∃(n0 b xb xu xc N w top p e u v z:Nat) (A0 A U C:List (List Int)) (ld:Nat->Nat),ds=[.ref b,.int top,.int p]/\Bn st b xb xu xc A U C/\Bo n0 st st b xb xu xc/\Mx.ff A0 N w ⟨A,U,C⟩ top p ld e u v/\N<=16/\w<=16/\p<w/\z<=60000000/\(∀c,Mx.fC N top p ⟨A,U,C⟩ c->Mx.Sm c N (2^z))/\
 (∀st',Bn st' b xb xu xc A U C->Bo n0 st st' b xb xu xc->Mx.j4 A N top p []->K (.bl false) st')/\
 ∀st' xb' xu' xc' (c:Mx.B3) (r:Nat),Bn st' b xb' xu' xc' (Mx.setB c p top r).A (Mx.setB c p top r).U (Mx.setB c p top r).C->Bo n0 st st' b xb' xu' xc'->Mx.fC N top p ⟨A,U,C⟩ c->Mx.j4 c.A N top p [r]->K (.bl true) st'
def jR:List Str:=["self","top","place","live","great","small"]
def vA:DS:=(aL (cJ 3 (d8 ay "live_rows" hV (ab 0) (ae (ab 1) (ae (ab 2) ak))))
 (aL (uF (bz (az oQ (bR eQ (ae (ab 3) ak)) (dC (.int 1)))) (aL (cJ 4 (az bV (ab 3) (tG nj (dC (.int 1)))))
 (aL (cJ 5 (az bV (ab 3) (tG nj (dC (.int 2)))))
 (aL (fu (d8 ay "take" k6 (ab 0) (ae (ab 4) (ae (aH jx (ae (az bV (az bV (bL ay "body" (ab 0)) (ab 4)) (ab 2)) (ae (az bV (az bV (bL ay "body" (ab 0)) (ab 5)) (ab 2)) ak))) (ae (ab 5) ak)))))
 (cJ 3 (d8 ay "live_rows" hV (ab 0) (ae (ab 1) (ae (ab 2) ak))))))))
 (aL (eV (bz (az jY (bR eQ (ae (ab 3) ak)) (dC (.int 0)))) (cu (dC (.bl false))) dJ)
 (aL (fu (d8 ay "exchange" kB (ab 0) (ae (ab 1) (ae (az bV (ab 3) (dC (.int 0))) ak))))
 (aL (eV (bz (az su (az bV (az bV (bL ay "body" (ab 0)) (ab 1)) (ab 2)) (dC (.int 0)))) (fu (d8 ay "change_sign" i9 (ab 0) (ae (ab 1) ak))) dJ)
 (cu (dC (.bl true))))))))
theorem Bo.J8{n0:Nat}{st st':af}{b xb xu xc:Nat}(h:Bo n0 st st' b xb xu xc):Bo n0 st (st'.set 0 (fe true)) b xb xu xc:=
 ⟨h.lo,fun m hm h0=>by rw[List.getElem?_set_ne (Ne.symm h0)];exact h.fr m hm h0,true,by
  obtain⟨f,e⟩:=h.tb;exact List.getElem?_set_self (List.getElem?_eq_some_iff.mp e).1⟩
theorem Bo.low{n0:Nat}{st st1 st2:af}{b xb xu xc:Nat}(h:Bo n0 st st1 b xb xu xc)(f:∀m,m≠xb->m≠xu->m≠xc->st2[m]?=st1[m]?):Bo n0 st st2 b xb xu xc:=by
 obtain⟨l1,l2,l3,l4,l5⟩:=h.lo;refine⟨h.lo,fun m hm h0=>?_,?_⟩
 . rw[f m (by omega) (by omega) (by omega)];exact h.fr m hm h0
 . obtain⟨z,e⟩:=h.tb;exact⟨z,by rw[f 0 (by omega) (by omega) (by omega)];exact e⟩
theorem xY{n j:Nat}(h:1<=j)(h2:j<=n):nR n (-(j:Int))=some (n-j):=by
 unfold nR;rw[if_neg (by omega),if_pos (by omega)];congr 1;omega
theorem Mv{L:List Nat}{j k:Nat}:fE ((L++[j,k]).map fun(k:Nat)=>D.int (k:Int)) (-1)=some (.int (k:Int)):=by
 unfold fE;have:=xY (n:=((L++[j,k]).map fun(k:Nat)=>D.int (k:Int)).length) (j:=1) (by decide) (by simp);rw[show(-((1:Nat):Int))= -1 from rfl]at this;rw[this];simp
theorem Kz{L:List Nat}{j k:Nat}:fE ((L++[j,k]).map fun(k:Nat)=>D.int (k:Int)) (-2)=some (.int (j:Int)):=by
 unfold fE;have:=xY (n:=((L++[j,k]).map fun(k:Nat)=>D.int (k:Int)).length) (j:=2) (by decide) (by simp);rw[show(-((2:Nat):Int))= -2 from rfl]at this;rw[this];simp
theorem Fs:∀ {L:List Nat},1<L.length->∃M j k,L=M++[j,k]:=fun{L} h=>by
 refine⟨L.take (L.length-2),L[L.length-2]'(by omega),L[L.length-1]'(by omega),?_⟩;have e1:L=L.take (L.length-2)++L.drop (L.length-2):=(List.take_append_drop _ _).symm
 have e2:L.drop (L.length-2)=[L[L.length-2]'(by omega),L[L.length-1]'(by omega)]:=by
  rw[List.drop_eq_getElem_cons (by omega),List.drop_eq_getElem_cons (by omega),List.drop_eq_nil_of_le (by omega)];congr 2;congr 1;omega
 rw[<-e2];exact e1
theorem uO:∀ds st K,lS ds st K->ds.length=3/\vA {nx:=fun _ st'=>K .aI st',rt:=K} (a7 jR ds) st:=by
 rintro ds st K ⟨n0,b,xb,xu,xc,N,w,top,p,e,u,v,z,A0,A,U,C,ld,rfl,B,O,S,hN,hw,hp,hzz,hz,kf,kt⟩;refine⟨rfl,?_⟩;have hle:=S.le;obtain⟨f,h0⟩:=O.tb;refine dY B.eb rfl ?_;refine⟨b,xb,xu,xc,N,w,top,p,A,U,C,f,rfl,B,S.tn.isA,hle,hN,hp,hw,h0,fun L hL=>?_⟩;have B1:=B.tab h0 (fe true);have O1:=O.J8;try dsimp only[ak]
 refine jG (fun σ st'=>∃(L:List Nat) (v4 v5:Option D) (c:Mx.B3) (gr:Nat),σ=[some (.ref b),some (.int top),some (.int p),some (.lst (L.map fun(k:Nat)=> .int (k:Int))),v4,v5]/\L.length<=1/\Bn st' b xb xu xc c.A c.U c.C/\Bo n0 st st' b xb xu xc/\Mx.fC N top p ⟨A,U,C⟩ c/\Mx.Gb A0 N w top p (2^(4*e)) (N*2^(4*e)) gr ⟨A,U,C⟩ c/\Mx.j4 c.A N top p L) (fun nx hnx=>?_) ?_
 . refine⟨fun m σ st'=>∃(L:List Nat) (v4 v5:Option D) (c:Mx.B3) (gr:Nat),σ=[some (.ref b),some (.int top),some (.int p),some (.lst (L.map fun(k:Nat)=> .int (k:Int))),v4,v5]/\Bn st' b xb xu xc c.A c.U c.C/\Bo n0 st st' b xb xu xc/\Mx.fC N top p ⟨A,U,C⟩ c/\Mx.Gb A0 N w top p (2^(4*e)) (N*2^(4*e)) gr ⟨A,U,C⟩ c/\Mx.j4 c.A N top p L/\m=Mx.mu c.A N p,⟨_,L,none,none,⟨A,U,C⟩,_,rfl,B1,O1,.refl _,Mx.Gb.start S,hL,rfl⟩,?_⟩;rintro m σ st1 ⟨L,v4,v5,c,gr,rfl,B,O,hR,hG,hL,rfl⟩;refine c8 rfl ?_;rw[List.length_map];refine FK (fun h=>g7 ?_) fun h=>pA (hnx _ _ ⟨L,v4,v5,c,gr,rfl,by omega,B,O,hR,hG,hL⟩);obtain⟨M,j,k,rfl⟩:=Fs (L:=L) (by omega);refine oB (aX rfl Mv (oB (aX rfl Kz ?_)));obtain⟨G2,hlt,hoth,k1,k2,j1,j2,hjk,hj0,_⟩:=hG.step hL;have T:=hG.tn;have lA:=T.isA.len;have hsm:=hz c hR;refine dY B.eb rfl (aV B.eb rfl (aX (a9 B.e1) (dW (by omega)) (aX rfl (ou (by rw[Mx.cU T.isA k2];exact hp)) (aV B.eb rfl (aX (a9 B.e1) (dW (by omega)) (aX rfl (ou (by rw[Mx.cU T.isA j2];exact hp)) ?_))))));refine⟨_,_,rfl,hj0,?_⟩;have hq:(Mx.qn (Mx.g c.A k p) (Mx.g c.A j p)).natAbs<=2^(z+1):=Nat.le_trans (Mx.L_ hj0) (Mx.zD (hsm k p k2).1 (hsm j p j2).1)
   have hm:∀ {x:Int},x.natAbs<=2^z->IntMulOk (Mx.qn (Mx.g c.A k p) (Mx.g c.A j p)) x/\IntMulOk (-(Mx.qn (Mx.g c.A k p) (Mx.g c.A j p))) x:=fun{x} h=>
    ⟨lP hq h (by omega),lP (by rw[Int.natAbs_neg];exact hq) h (by omega)⟩
   have mg:∀ {X:List (List Int)} {i:Nat} {x:Int},x∈X.getD i []->∃q,x=Mx.g X i q:=fun{X i x} hx=>by
    obtain⟨c,hc,rfl⟩:=List.mem_iff_getElem.mp hx;exact⟨c,by unfold Mx.g;rw[Mx.a8 hc]⟩
   refine⟨b,xb,xu,xc,N,w,k,j,c.A,c.U,c.C,_,rfl,B,T.isA,T.fT,T.gq,k2,j2,hN,hw,fun x hx=>(by obtain⟨q,rfl⟩:=mg hx;exact(hm (hsm j q j2).1).2),fun x hx=>(by obtain⟨q,rfl⟩:=mg hx;exact(hm (hsm j q j2).2.1).2),fun x hx=>(by obtain⟨q,rfl⟩:=mg hx;exact(hm (hsm k q k2).2.2).1),fun st2 B2 l2 f2=>?_⟩;have O2:=O.low f2;obtain⟨f',h0'⟩:=O2.tb;refine dY B2.eb rfl ?_;refine⟨b,xb,xu,xc,N,w,top,p,_,_,_,f',rfl,B2,G2.tn.isA,hle,hN,hp,hw,h0',fun L2 hL2=>?_⟩;refine⟨_,?_,L2,_,_,Mx.qm c p k j,_,rfl,B2.tab h0' (fe true),O2.J8,hR.tail ⟨M,k,j,hL,rfl⟩,G2,hL2,rfl⟩;unfold Mx.mu;refine Mx.FC (k:=k) hlt k2 fun i hi=>?_;by_cases h:i=k
   . rw[h];exact Nat.le_of_lt hlt
   . rw[hoth i h];exact Nat.le_refl _
 . rintro σ st1 ⟨L,v4,v5,c,gr,rfl,hl,B,O,hR,hG,hL⟩;refine c8 rfl ?_;rw[List.length_map];match L,hl,hL with
   | [],_,hL=>
     refine eq2 (fun h=>g7 ?_) fun h=>absurd rfl h
     have e0:c=⟨A,U,C⟩:=by
      rcases hG.KP with z|⟨j,h1,h2,h3⟩
      . exact z
      . exact absurd ((hL.mem j).mpr ⟨h1,h2,h3⟩) (by simp)
     subst e0;exact kf st1 B O hL
   | [r],_,hL=>
     refine eq2 (fun h=>absurd h (by simp)) fun h=>pA ?_;obtain⟨s1,hr1,hr2⟩:=hG.set (hG.low hN) hL;have ht:top<N:=by omega
     have T:=hG.tn;refine dY B.eb rfl (aX rfl (show fE ([r].map fun(k:Nat)=>D.int (k:Int)) 0=some (.int (r:Int))from rfl) ?_);refine⟨b,xb,xu,xc,N,w,top,r,c.A,c.U,c.C,rfl,B,T.isA,T.fT,T.gq,ht,hr2,fun st2 B2 l2 f2=>?_⟩;obtain⟨l1,l2',l3,l4,l5⟩:=O.lo
     have hst:n0<=st1.length:=by
      have:=(List.getElem?_eq_some_iff.mp B.eb).1;omega
     have O2:Bo n0 st st2 b st1.length (st1.length+1) (st1.length+2):=by
      refine⟨⟨l1,l2',by omega,by omega,by omega⟩,fun m hm h0=>?_,?_⟩
      . rw[f2 m (by omega) (by omega)];exact O.fr m hm h0
      . obtain⟨z,e⟩:=O.tb;exact⟨z,by rw[f2 0 (by omega) (by omega)];exact e⟩
     have T1:=T.FR ht hr2;refine aV B2.eb rfl (aX (a9 B2.e1) (dW (by have:=T1.isA.len;omega)) (aX rfl (ou (by rw[Mx.cU T1.isA ht];exact hp)) ?_));refine FW (fun h=>g7 ?_) fun h=>pA ?_
     . have es:Mx.setB c p top r=⟨Mx.fV (Mx.bq c.A top r) top,Mx.fV (Mx.bq c.U top r) top,Mx.fV (Mx.bq c.C top r) top⟩:=if_pos h;refine dY B2.eb rfl ?_;refine⟨b,_,_,_,N,w,top,_,_,_,rfl,B2,T1.isA,T1.fT,T1.gq,ht,hN,hw,fun st3 B3 l3 f3=>?_⟩;exact kt st3 _ _ _ c r (by rw[es];exact B3) (O2.low f3) hR hL
     . have es:Mx.setB c p top r=⟨Mx.bq c.A top r,Mx.bq c.U top r,Mx.bq c.C top r⟩:=if_neg (fun z=>by unfold Mx.g at z;omega);exact kt st2 _ _ _ c r (by rw[es];exact B2) O2 hR hL
def i_:cF:=fun ds st K=>∃(b xb xu xc N w top p e u v z:Nat) (A0 A U C:List (List Int)),ds=[.ref b,.int top,.int p]/\Bn st b xb xu xc A U C/\Mx.Tn A0 A U C N w/\N<=16/\w<=16/\p<w/\top<N/\0<Mx.g A top p/\(∀q,q<p->Mx.g A top q=0)/\
 (∀q,(Mx.g A top q).natAbs<=2^e/\(Mx.g U top q).natAbs<=2^e/\(Mx.g C top q).natAbs<=2^e)/\(∀i q,i<top->(Mx.g A i q).natAbs<=2^u/\(Mx.g U i q).natAbs<=2^u/\(Mx.g C i q).natAbs<=2^v)/\z<=60000000/\(∀k,k<=top->Mx.Sm (Mx.ja p top k ⟨A,U,C⟩) N (2^z))/\
 ∀st',Bn st' b xb xu xc (Mx.ja p top top ⟨A,U,C⟩).A (Mx.ja p top top ⟨A,U,C⟩).U (Mx.ja p top top ⟨A,U,C⟩).C->(∀m,m≠xb->m≠xu->m≠xc->st'[m]?=st[m]?)->K .aI st'
def gj:List Str:=["self","top","place","k"]
def qW:DS:=(kE (du (ae (ab 1) ak)) (bP 3) (fu (d8 ay "take" k6 (ab 0) (ae (ab 3) (ae (az pK (az bV (az bV (bL ay "body" (ab 0)) (ab 3)) (ab 2)) (az bV (az bV (bL ay "body" (ab 0)) (ab 1)) (ab 2))) (ae (ab 1) ak))))))
theorem BN{X:List (List Int)}{i:Nat}{x:Int}(hx:x∈X.getD i []):∃q,x=Mx.g X i q:=by
 obtain⟨c,hc,rfl⟩:=List.mem_iff_getElem.mp hx;exact⟨c,by unfold Mx.g;rw[Mx.a8 hc]⟩
theorem qo:∀ds st K,i_ ds st K->ds.length=3/\qW {nx:=fun _ st'=>K .aI st',rt:=K} (a7 gj ds) st:=by
 rintro ds st K ⟨b,xb,xu,xc,N,w,top,p,e,u,v,z,A0,A,U,C,rfl,B,T,hN,hw,hp,ht,htp,hz,hlo,hhi,hzz,hsm,kk⟩;refine⟨rfl,?_⟩;refine eJ ⟨by omega,by omega⟩ ?_;rw[Int.toNat_natCast];refine jz top (fun k σ st'=>∃v3:Option D,σ=[some (.ref b),some (.int top),some (.int p),v3]/\Bn st' b xb xu xc (Mx.ja p top k ⟨A,U,C⟩).A (Mx.ja p top k ⟨A,U,C⟩).U (Mx.ja p top k ⟨A,U,C⟩).C/\(∀m,m≠xb->m≠xu->m≠xc->st'[m]?=st[m]?)/\Mx.mD A0 N w top p e u v ⟨A,U,C⟩ k (Mx.ja p top k ⟨A,U,C⟩)) ?_ ?_ ⟨none,rfl,B,fun _ _ _ _=>rfl,Mx.mD.start T fun q=>(hlo q).2.2⟩
 . rintro σ st' ⟨v3,rfl,B',f,I⟩;exact kk st' B' f
 . rintro k σ st' rest hk ⟨v3,rfl,B',f,I⟩ next
   refine⟨_,rfl,?_⟩;have hs:=I.step hk ht hp htp hz (fun q=>⟨(hlo q).1,(hlo q).2.1⟩) hhi;have hs2:=hsm k (Nat.le_of_lt hk);generalize hc:Mx.ja p top k ⟨A,U,C⟩=c at*;have lA:=I.tn.isA.len;have kN:k<N:=by omega
   have gA:∀i q,k<=i->Mx.g c.A i q=Mx.g A i q:=fun i q hi=>by unfold Mx.g;rw[(I.rA i hi).1]
   have hq:((Mx.g c.A k p).fdiv (Mx.g c.A top p)).natAbs<=2^z:=Nat.le_trans (Mx.yz _ (by rw[gA top p (by omega)];exact htp)) (hs2 k p kN).1;have htp':Mx.g c.A top p≠0:=by rw[gA top p (by omega)];omega
   refine dY B'.eb rfl (aV B'.eb rfl (aX (a9 B'.e1) (dW (by omega)) (aX rfl (ou (by rw[Mx.cU I.tn.isA kN];exact hp)) (aV B'.eb rfl (aX (a9 B'.e1) (dW (by omega)) (aX rfl (ou (by rw[Mx.cU I.tn.isA ht];exact hp)) (yd htp' ?_)))))));refine⟨b,xb,xu,xc,N,w,k,top,c.A,c.U,c.C,_,rfl,B',I.tn.isA,I.tn.fT,I.tn.gq,kN,ht,hN,hw,fun x hx=>?_,fun x hx=>?_,fun x hx=>?_,fun st2 B2 l2 f2=>?_⟩
   . obtain⟨q,rfl⟩:=BN hx;exact lP (by rw[Int.natAbs_neg];exact hq) (hs2 top q ht).1 (by omega)
   . obtain⟨q,rfl⟩:=BN hx;exact lP (by rw[Int.natAbs_neg];exact hq) (hs2 top q ht).2.1 (by omega)
   . obtain⟨q,rfl⟩:=BN hx;exact lP hq (hs2 k q kN).2.2 (by omega)
   . have el:Mx.ja p top (k+1) ⟨A,U,C⟩=⟨Mx.aP c.A k ((Mx.g c.A k p).fdiv (Mx.g c.A top p)) top,Mx.aP c.U k ((Mx.g c.A k p).fdiv (Mx.g c.A top p)) top,Mx.aP c.C top (-((Mx.g c.A k p).fdiv (Mx.g c.A top p))) k⟩:=by rw[<-hc];rfl
     refine next _ _ ⟨_,rfl,?_,fun m h1 h2 h3=>(f2 m h1 h2 h3).trans (f m h1 h2 h3),?_⟩
     . rw[el];exact B2
     . rw[el];exact hs
structure Bk(st st':af):Prop where
 le:st.length<=st'.length
 fr:∀m,m<st.length->m≠0->st'[m]?=st[m]?
 tb:∃f,st'[0]?=some (fe f)
def nB:cF:=fun ds st K=>∃(d:D) (N w e0 z:Nat) (A:List (List Int)) (f:Bool),ds=[d]/\fD st d A/\Mx.aT N w A/\1<=N/\N<=16/\w<=16/\Mx.gW A N 0 (2^e0)/\z<=60000000/\(∀p t c,p<w->Mx.eM A N p t c->Mx.Ba N p t z c)/\st[0]?=some (fe f)/\
 ∀st' (top:Nat) (c:Mx.B3),Mx.eM A N w top c->Bk st st'->K (.tup [aB (c.A.take top),aB c.U,aB (Mx.bH c.C N)]) st'
def nE:List Str:=["rows","bench","top","place","back"]
def BE:DS:=(aL (cJ 1 (xJ ay kv (ae (ab 0) ak)))
 (aL (cJ 2 (dC (.int 0)))
 (aL (kE (du (ae (bR eQ (ae (az bV (ab 0) (dC (.int 0))) ak)) ak)) (bP 3) (eV (bz (d8 ay "gather" lS (ab 1) (ae (ab 2) (ae (ab 3) ak)))) (aL (fu (d8 ay "lower_above" i_ (ab 1) (ae (ab 2) (ae (ab 3) ak))))
 (BY 2 (zo (fun i j=>i+j)) (dC (.int 1)))) dJ))
 (aL (cJ 4 (aH gy (ae (bL ay "back_columns" (ab 1)) (ae (bR eQ (ae (ab 0) ak)) ak))))
 (cu (x9 (ae (aH mV (ae (zf (bL ay "body" (ab 1)) vT (BP (ab 2))) ak)) (ae (aH mV (ae (bL ay "turn" (ab 1)) ak)) (ae (ab 4) ak)))))))))
theorem wF{st st':af}{f:Bool}(h0:st[0]?=some (fe f))(fr:∀m,m<st.length->m≠0->st'[m]?=st[m]?){d:D}{xs:List D}(h:items? st d=some xs):items? st' d=some xs:=by
 cases d with
 |ref n=>
  have e:=C9 h;have n0:n≠0:=sO e h0;rw[a9 ((fr n (List.getElem?_eq_some_iff.mp e).1 n0).trans e)]
 |_=>exact h
theorem wB{st st':af}{f:Bool}(h0:st[0]?=some (fe f))(fr:∀m,m<st.length->m≠0->st'[m]?=st[m]?):∀ {ds:List D} {A:List (List Int)},bW st ds A->bW st' ds A
 | [],[],_=>trivial
 |_::_,_::_,h=>⟨wF h0 fr h.1,wB h0 fr h.2⟩
theorem uZ{st st':af}{f:Bool}(h0:st[0]?=some (fe f))(fr:∀m,m<st.length->m≠0->st'[m]?=st[m]?){d:D}{A:List (List Int)}(h:fD st d A):fD st' d A:=by
 obtain⟨ds,h1,h2⟩:=h.ex;exact⟨ds,wF h0 fr h1,wB h0 fr h2⟩
theorem J6{xs:List D}{j:Nat}:L3.cutD xs none (some (j:Int))=xs.take j:=by
 unfold L3.cutD;rw[HT.GU,HT.EV,List.drop_zero,Nat.sub_zero];by_cases h:j<=xs.length
 . rw[Nat.min_eq_left h]
 . rw[Nat.min_eq_right (by omega),List.take_length,List.take_of_length_le (by omega)]
theorem zC:∀ds st K,nB ds st K->ds.length=1/\BE {nx:=fun _ st'=>K .aI st',rt:=K} (a7 nE ds) st:=by
 rintro ds st K ⟨d,N,w,e0,z,A,f,rfl,hd,hA,hN1,hN,hw,hlo,hzz,hsz,h0,kk⟩;refine⟨rfl,?_⟩;have lA:=hA.len;have h0l:0<st.length:=(List.getElem?_eq_some_iff.mp h0).1;have hd1:fD (st++[Cell.ins ay []]) d A:=uZ h0 (fun m hm _=>List.getElem?_append_left hm) hd;refine⟨st.length,N,d,A,rfl,by simp,hd1,lA,hN,fun st1 B1 l1 f1=>⟨rfl,?_⟩⟩;have hl1:(st++[Cell.ins ay []]).length=st.length+1:=by simp
 have fr1:∀m,m<st.length->st1[m]?=st[m]?:=fun m hm=>by rw[f1 m (by omega) (by omega),List.getElem?_append_left hm]
 have O1:Bo st.length st st1 st.length (st.length+1) (st.length+1+1) (st.length+1+2):=⟨⟨h0l,by omega,by omega,by omega,by omega⟩,fun m hm _=>fr1 m hm,f,(fr1 0 h0l).trans h0⟩
 rw[hl1]at B1;have hdk:∀ {st':af},(∀m,m<st.length->m≠0->st'[m]?=st[m]?)->fD st' d A:=fun h=>uZ h0 h hd;obtain⟨da,hda,hra⟩:=(hdk O1.fr).ex;have hdl:=hra.len
 have hrow0:∃d0,da[0]?=some d0/\items? st1 d0=some (aJ (A.getD 0 [])):=by
  have hi:0<da.length:=by omega
  obtain⟨r,e1,e2⟩:=bW.get hra (List.getElem?_eq_getElem hi);refine⟨da[0],List.getElem?_eq_getElem hi,?_⟩;have:A.getD 0 []=r:=by rw[List.getD_eq_getElem?_getD,e1];rfl
  rw[this];exact e2
 obtain⟨d0,hd0,hi0⟩:=hrow0;have er:(aJ (A.getD 0 [])).length=w:=by unfold aJ;rw[List.length_map];exact Mx.cU hA (by omega)
 try dsimp only[ak]
 refine jG (A:=cJ 2 _) (fun σ st'=>σ=[some d,some (.ref st.length),some (.int 0),none,none]/\st'=st1) (fun nx h=>h _ _ ⟨rfl,rfl⟩) ?_;rintro _ _ ⟨rfl,rfl⟩;refine jG (A:=kE _ _ _) (fun σ st'=>∃(top xb xu xc:Nat) (v3:Option D) (c:Mx.B3),σ=[some d,some (.ref st.length),some (.int top),v3,none]/\Bn st' st.length xb xu xc c.A c.U c.C/\Bo st.length st st' st.length xb xu xc/\Mx.eM A N w top c) (fun nx hnx=>?_) ?_
 . refine aX hda (show fE da 0=some d0 from jH (j:=0) hd0) (c8 hi0 ?_);rw[er];refine eJ ⟨by omega,by omega⟩ ?_;rw[Int.toNat_natCast];refine jz w (fun p σ st'=>∃(top xb xu xc:Nat) (v3:Option D) (c:Mx.B3),σ=[some d,some (.ref st.length),some (.int top),v3,none]/\Bn st' st.length xb xu xc c.A c.U c.C/\Bo st.length st st' st.length xb xu xc/\Mx.eM A N p top c) ?_ ?_ ⟨0,_,_,_,none,⟨A,Mx.units N,Mx.units N⟩,rfl,B1,O1,.start⟩
   . rintro σ st' ⟨top,xb,xu,xc,v3,c,rfl,B,O,hC⟩;exact hnx _ _ ⟨top,xb,xu,xc,v3,c,rfl,B,O,hC⟩
   . rintro p σ st' rest hp ⟨top,xb,xu,xc,v3,c,rfl,B,O,hC⟩ next
     refine⟨_,rfl,?_⟩;obtain⟨ld,S⟩:=hC.str hA hlo hN (Nat.le_of_lt hp);have hle:=S.le;have hroom:=hsz p top c hp hC;refine dY B.eb rfl ?_;refine⟨st.length,st.length,xb,xu,xc,N,w,top,p,_,_,_,z,A,c.A,c.U,c.C,ld,rfl,B,⟨O.lo,fun _ _ _=>rfl,O.tb⟩,S,hN,hw,hp,hzz,hroom.ga,fun st2 B2 O2 hL=>?_,fun st2 xb2 xu2 xc2 c2 r B2 O2 hR hL=>?_⟩
     . exact pA (next _ _ ⟨top,xb,xu,xc,_,c,rfl,B2,⟨O2.lo,fun m h1 h2=>(O2.fr m h1 h2).trans (O.fr m h1 h2),O2.tb⟩,.next hC (.none hL)⟩)
     . refine g7 ?_;obtain⟨s1,ht,_⟩:=S.En hN hp hR hL;have O2':Bo st.length st st2 st.length xb2 xu2 xc2:=⟨O2.lo,fun m h1 h2=>(O2.fr m h1 h2).trans (O.fr m h1 h2),O2.tb⟩
       refine dY B2.eb rfl ?_;refine⟨st.length,xb2,xu2,xc2,N,w,top,p,4*Mx.Ey e0 top+4,Mx.Uy e0 top,Mx.Cx e0 top,z,A,_,_,_,rfl,B2,s1.tn,hN,hw,hp,ht,s1.tp,fun q hq=>s1.zs top q (Nat.le_refl _) ht hq,fun q=>⟨s1.lo.1 top q (Nat.le_refl _) ht,s1.lo.2.1 top q (Nat.le_refl _) ht,s1.lo.2.2 top q (Nat.le_refl _) ht⟩,fun i q hi=>?_,hzz,fun k hk=>hroom.lo c2 r k hR hL hk,fun st3 B3 f3=>?_⟩
       . obtain⟨a1,a2,a3⟩:=s1.Gg hi q;rw[a1,a2,a3];exact S.hi i q hi
       . exact next _ _ ⟨top+1,xb2,xu2,xc2,_,_,rfl,B3,O2'.low f3,.next hC (.one hR hL)⟩
 . rintro σ st2 ⟨top,xb,xu,xc,v3,c,rfl,B,O,hC⟩;obtain⟨ld,S⟩:=hC.str hA hlo hN (Nat.le_refl _);have hle:=S.le;have T:=S.tn;have lN:=T.isA.len;refine aV B.eb rfl ?_;obtain⟨da2,hda2,hra2⟩:=(hdk O.fr).ex;refine c8 hda2 ?_;rw[hra2.len,lA];refine⟨_,c.C,N,rfl,⟨_,a9 B.e3,bW.lst⟩,T.gq.kO,by rw[T.gq.len];omega,by omega,?_⟩;refine aV B.eb rfl (CP B.e1 ?_);rw[J6,<-List.map_take];refine⟨_,c.A.take top,rfl,⟨_,rfl,bW.lst⟩,by rw[List.length_take];omega,?_⟩;refine aV B.eb rfl ?_;refine⟨_,c.U,rfl,⟨_,a9 B.e2,bW.lst⟩,by rw[T.fT.len];omega,?_⟩;refine⟨by show 3<=sizeLine;decide,?_⟩;refine kk st2 top c hC ⟨?_,O.fr,O.tb⟩;have:=(List.getElem?_eq_some_iff.mp B.eb).1;omega
structure Us(n:Nat)(st st':af):Prop where
 len:st'.length=st.length
 same:∀m,m≠n->st'[m]?=st[m]?
theorem Us.trans{n:Nat}{st st1 st2:af}(a:Us n st st1)(b:Us n st1 st2):Us n st st2:=⟨b.len.trans a.len,fun m h=>(b.same m h).trans (a.same m h)⟩
theorem fj{st:af}{n:Nat}{C:Addr}{fs gs:List (Str×D)}{f:Str}{d:D}{K:af->Prop}(e:st[n]?=some (.ins C fs))(h:fs.length<1000)(eg:putD f d fs=gs)(k:∀st',st'[n]?=some (.ins C gs)->Us n st st'->K st'):vm C f (.ref n) d st K:=l7 e h (by
 rw[eg];exact k _ (List.getElem?_set_self (List.getElem?_eq_some_iff.mp e).1) ⟨List.length_set,fun m hm=>List.getElem?_set_ne (Ne.symm hm)⟩)
structure Si(st:af)(n N w:Nat)(d:D)(L Lb R Rb:List (List Int)):Prop where
 e:st[n]?=some (Cell.ins aC [("many",.int N),("wide",.int w),("body",d),("left",aB L),("left_back",aB Lb),("right",aB R),("right_back",aB Rb)])
def kG:cF:=fun ds st K=>∃(n N w:Nat) (d:D) (A:List (List Int)),ds=[.ref n,d]/\st[n]?=some (.ins aC [])/\(∀s,fD s d A)/\Mx.aT N w A/\1<=N/\N<=8/\w<=8/\∀st',Si st' n N w d (Mx.units N) (Mx.units N) (Mx.units w) (Mx.units w)->Us n st st'->K .aI st'
def iQ:List Str:=["self","rows"]
def uh:DS:=(aL (fx aC "many" (ab 0) (bR eQ (ae (ab 1) ak)))
 (aL (fx aC "wide" (ab 0) (bR eQ (ae (az bV (ab 1) (dC (.int 0))) ak)))
 (aL (fx aC "body" (ab 0) (ab 1))
 (aL (fx aC "left" (ab 0) (aH fo (ae (bL aC "many" (ab 0)) ak)))
 (aL (fx aC "left_back" (ab 0) (aH fo (ae (bL aC "many" (ab 0)) ak)))
 (aL (fx aC "right" (ab 0) (aH fo (ae (bL aC "wide" (ab 0)) ak)))
 (fx aC "right_back" (ab 0) (aH fo (ae (bL aC "wide" (ab 0)) ak)))))))))
theorem tu:∀ds st K,kG ds st K->ds.length=2/\uh {nx:=fun _ st'=>K .aI st',rt:=K} (a7 iQ ds) st:=by
 rintro ds st K ⟨n,N,w,d,A,rfl,e,hd,hA,n1,n8,w8,k⟩;refine⟨rfl,?_⟩;have lA:=hA.len;obtain⟨da,hda,ra⟩:=(hd st).ex;have lda:da.length=N:=by rw[ra.len];exact lA
 refine c8 hda ?_;rw[lda];refine fj (gs:=[("many",.int N)]) e (Nat.le_of_ble_eq_true rfl) rfl fun st1 e1 U1=>?_;obtain⟨db,hdb,rb⟩:=(hd st1).ex;obtain⟨d0,h0,i0⟩:=rb.at (k:=0) (by omega);refine aX hdb h0 (c8 i0 ?_);rw[List.length_map,hA.row (i:=0) (by omega)];refine fj (gs:=[("many",.int N),("wide",.int w)]) e1 (Nat.le_of_ble_eq_true rfl) rfl fun st2 e2 U2=>?_;refine fj (gs:=[("many",.int N),("wide",.int w),("body",d)]) e2 (Nat.le_of_ble_eq_true rfl) rfl fun st3 e3 U3=>?_;refine aV e3 rfl ⟨N,rfl,by omega,?_⟩;refine fj (gs:=[("many",.int N),("wide",.int w),("body",d),("left",aB (Mx.units N))]) e3 (Nat.le_of_ble_eq_true rfl) rfl fun st4 e4 U4=>?_;refine aV e4 rfl ⟨N,rfl,by omega,?_⟩;refine fj (gs:=[("many",.int N),("wide",.int w),("body",d),("left",aB (Mx.units N)),("left_back",aB (Mx.units N))]) e4 (Nat.le_of_ble_eq_true rfl) rfl fun st5 e5 U5=>?_;refine aV e5 rfl ⟨w,rfl,by omega,?_⟩;refine fj (gs:=[("many",.int N),("wide",.int w),("body",d),("left",aB (Mx.units N)),("left_back",aB (Mx.units N)),("right",aB (Mx.units w))]) e5 (Nat.le_of_ble_eq_true rfl) rfl fun st6 e6 U6=>?_;refine aV e6 rfl ⟨w,rfl,by omega,?_⟩;refine fj (gs:=[("many",.int N),("wide",.int w),("body",d),("left",aB (Mx.units N)),("left_back",aB (Mx.units N)),("right",aB (Mx.units w)),("right_back",aB (Mx.units w))]) e6 (Nat.le_of_ble_eq_true rfl) rfl fun st7 e7 U7=>?_;exact k st7 ⟨e7⟩ (U1.trans (U2.trans (U3.trans (U4.trans (U5.trans (U6.trans U7))))))
def Le(X:List (List Int))(N w b:Nat):Prop:=∀i j,i<N->j<w->(Mx.g X i j).natAbs<=2^b
theorem Le.mem{X:List (List Int)}{N w b:Nat}(h:Le X N w b)(hX:Mx.aT N w X):∀r∈X,∀x∈r,x.natAbs<=2^b:=fun r hr x hx=>by
 obtain⟨i,hi,rfl⟩:=List.mem_iff_getElem.mp hr;obtain⟨j,hj,rfl⟩:=List.mem_iff_getElem.mp hx;have:=h i j (by rw[<-hX.len];exact hi) (by rw[<-hX.kO _ hr];exact hj);unfold Mx.g at this;rwa [Mx.a8 hi,Mx.a8 hj]at this
theorem pD{X Y:List (List Int)}{N w p q a b:Nat}(hX:Mx.aT N w X)(hY:Mx.aT p q Y)(bX:Le X N w a)(bY:Le Y p q b)(h:a+b<=130000000):∀r∈X,∀c∈r,∀s∈Y,∀y∈s,IntMulOk c y:=fun r hr c hc s hs y hy=>lP (bX.mem hX r hr c hc) (bY.mem hY s hs y hy) h
theorem ne_nil{X:List (List Int)}{N w:Nat}(hX:Mx.aT N w X)(h:1<=N):X≠ []:=fun z=>by
 have:=hX.len;rw[z]at this;simp at this;omega
def j5:cF:=fun ds st K=>∃(n N w x y:Nat) (d:D) (A B L Lb R Rb T Tb:List (List Int)),ds=[.ref n,aB T,aB Tb]/\Si st n N w d L Lb R Rb/\(∀s,fD s d B)/\Mx.Sd A B L Lb R Rb N w x/\1<=N/\N<=8/\w<=8/\Mx.aT N N T/\Mx.aT N N Tb/\Le T N N y/\Le Tb N N y/\Le B N w 200/\x+y<=120000000/\∀st',Si st' n N w (aB (Mx.mulM T B w)) (Mx.mulM T L N) (Mx.mulM Lb Tb N) R Rb->Us n st st'->K .aI st'
def hJ:List Str:=["self","turn","back"]
def tm:DS:=(aL (fx aC "body" (ab 0) (aH iz (ae (ab 1) (ae (bL aC "body" (ab 0)) ak))))
 (aL (fx aC "left" (ab 0) (aH iz (ae (ab 1) (ae (bL aC "left" (ab 0)) ak))))
 (fx aC "left_back" (ab 0) (aH iz (ae (bL aC "left_back" (ab 0)) (ae (ab 2) ak))))))
theorem rV:∀ds st K,j5 ds st K->ds.length=3/\tm {nx:=fun _ st'=>K .aI st',rt:=K} (a7 hJ ds) st:=by
 rintro ds st K ⟨n,N,w,x,y,d,A,B,L,Lb,R,Rb,T,Tb,rfl,s,hd,S,n1,n8,w8,iT,iTb,sT,sTb,sB,hxy,k⟩;refine⟨rfl,?_⟩;refine aV s.e rfl ⟨aB T,d,w,T,B,rfl,dO,hd st,ne_nil S.iB n1,S.iB.kO,by omega,by rw[iT.len];omega,pD iT S.iB sT sB (by omega),?_⟩;refine fj (gs:=[("many",.int N),("wide",.int w),("body",aB (Mx.mulM T B w)),("left",aB L),("left_back",aB Lb),("right",aB R),("right_back",aB Rb)]) s.e (Nat.le_of_ble_eq_true rfl) rfl fun st1 e1 U1=>?_;refine aV e1 rfl ⟨aB T,_,N,T,L,rfl,dO,dO,ne_nil S.iL n1,S.iL.kO,by omega,by rw[iT.len];omega,pD iT S.iL sT S.sL (by omega),?_⟩;refine fj (gs:=[("many",.int N),("wide",.int w),("body",aB (Mx.mulM T B w)),("left",aB (Mx.mulM T L N)),("left_back",aB Lb),("right",aB R),("right_back",aB Rb)]) e1 (Nat.le_of_ble_eq_true rfl) rfl fun st2 e2 U2=>?_;refine aV e2 rfl ⟨_,_,N,Lb,Tb,rfl,dO,dO,ne_nil iTb n1,iTb.kO,by omega,by rw[S.tS.len];omega,pD S.tS iTb S.CL sTb (by omega),?_⟩;refine fj (gs:=[("many",.int N),("wide",.int w),("body",aB (Mx.mulM T B w)),("left",aB (Mx.mulM T L N)),("left_back",aB (Mx.mulM Lb Tb N)),("right",aB R),("right_back",aB Rb)]) e2 (Nat.le_of_ble_eq_true rfl) rfl fun st3 e3 U3=>?_;exact k st3 ⟨e3⟩ (U1.trans (U2.trans U3))
def gR:cF:=fun ds st K=>∃(n N w x y:Nat) (d:D) (A B L Lb R Rb T Tb:List (List Int)),ds=[.ref n,aB T,aB Tb]/\Si st n N w d L Lb R Rb/\(∀s,fD s d B)/\Mx.Sd A B L Lb R Rb N w x/\1<=w/\N<=8/\w<=8/\Mx.aT w w T/\Mx.aT w w Tb/\Le T w w y/\Le Tb w w y/\Le B N w 200/\x+y<=120000000/\∀st',Si st' n N w (aB (Mx.mulM B T w)) L Lb (Mx.mulM R T w) (Mx.mulM Tb Rb w)->Us n st st'->K .aI st'
def gT:List Str:=["self","turn","back"]
def rK:DS:=(aL (fx aC "body" (ab 0) (aH iz (ae (bL aC "body" (ab 0)) (ae (ab 1) ak))))
 (aL (fx aC "right" (ab 0) (aH iz (ae (bL aC "right" (ab 0)) (ae (ab 1) ak))))
 (fx aC "right_back" (ab 0) (aH iz (ae (ab 2) (ae (bL aC "right_back" (ab 0)) ak))))))
theorem qV:∀ds st K,gR ds st K->ds.length=3/\rK {nx:=fun _ st'=>K .aI st',rt:=K} (a7 gT ds) st:=by
 rintro ds st K ⟨n,N,w,x,y,d,A,B,L,Lb,R,Rb,T,Tb,rfl,s,hd,S,w1,n8,w8,iT,iTb,sT,sTb,sB,hxy,k⟩;refine⟨rfl,?_⟩;refine aV s.e rfl ⟨d,aB T,w,B,T,rfl,hd st,dO,ne_nil iT w1,iT.kO,by omega,by rw[S.iB.len];omega,pD S.iB iT sB sT (by omega),?_⟩;refine fj (gs:=[("many",.int N),("wide",.int w),("body",aB (Mx.mulM B T w)),("left",aB L),("left_back",aB Lb),("right",aB R),("right_back",aB Rb)]) s.e (Nat.le_of_ble_eq_true rfl) rfl fun st1 e1 U1=>?_;refine aV e1 rfl ⟨_,_,w,R,T,rfl,dO,dO,ne_nil iT w1,iT.kO,by omega,by rw[S.iR.len];omega,pD S.iR iT S.sR sT (by omega),?_⟩;refine fj (gs:=[("many",.int N),("wide",.int w),("body",aB (Mx.mulM B T w)),("left",aB L),("left_back",aB Lb),("right",aB (Mx.mulM R T w)),("right_back",aB Rb)]) e1 (Nat.le_of_ble_eq_true rfl) rfl fun st2 e2 U2=>?_;refine aV e2 rfl ⟨_,_,w,Tb,Rb,rfl,dO,dO,ne_nil S.pF w1,S.pF.kO,by omega,by rw[iTb.len];omega,pD iTb S.pF sTb S.Dw (by omega),?_⟩;refine fj (gs:=[("many",.int N),("wide",.int w),("body",aB (Mx.mulM B T w)),("left",aB L),("left_back",aB Lb),("right",aB (Mx.mulM R T w)),("right_back",aB (Mx.mulM Tb Rb w))]) e2 (Nat.le_of_ble_eq_true rfl) rfl fun st3 e3 U3=>?_;exact k st3 ⟨e3⟩ (U1.trans (U2.trans U3))
structure Sk(n:Nat)(st st':af):Prop where
 le:st.length<=st'.length
 fr:∀m,m<st.length->m≠0->m≠n->st'[m]?=st[m]?
 tb:∃f,st'[0]?=some (fe f)
theorem Sk.trans{n:Nat}{st st1 st2:af}(a:Sk n st st1)(b:Sk n st1 st2):Sk n st st2:=⟨Nat.le_trans a.le b.le,fun m h h0 hn=>(b.fr m (Nat.lt_of_lt_of_le h a.le) h0 hn).trans (a.fr m h h0 hn),b.tb⟩
theorem Sk.of{n:Nat}{st st1 st2:af}(nz:n≠0)(a:Bk st st1)(b:Us n st1 st2):Sk n st st2:=by
 obtain⟨f,e⟩:=a.tb;exact⟨by have:=a.le;have:=b.len;omega,fun m h h0 hn=>(b.same m hn).trans (a.fr m h h0),f,(b.same 0 (Ne.symm nz)).trans e⟩
theorem Si.keep{st st1:af}{n N w:Nat}{d:D}{L Lb R Rb:List (List Int)}(s:Si st n N w d L Lb R Rb)(nz:n≠0)(a:Bk st st1):Si st1 n N w d L Lb R Rb:=⟨(a.fr n (List.getElem?_eq_some_iff.mp s.e).1 nz).trans s.e⟩
theorem Cn{A:List (List Int)}{N w b:Nat}(hA:Mx.aT N w A)(h:Le A N w b):Mx.gW A N 0 (2^b):=Mx.pH hA h
def gL:cF:=fun ds st K=>∃(n N w x y:Nat) (d:D) (A B L Lb R Rb:List (List Int)) (f:Bool),ds=[.ref n]/\Si st n N w d L Lb R Rb/\(∀s,fD s d B)/\Mx.Sd A B L Lb R Rb N w x/\1<=N/\N<=8/\w<=8/\Le B N w 200/\(∀t c,Mx.eM B N w t c->Mx.ye B N w y c)/\x+y<=120000000/\n≠0/\st[0]?=some (fe f)/\∀st' t c,Mx.eM B N w t c->Si st' n N w (aB c.A) (Mx.mulM c.U L N) (Mx.mulM Lb (Mx.bH c.C N) N) R Rb->Mx.Sd A c.A (Mx.mulM c.U L N) (Mx.mulM Lb (Mx.bH c.C N) N) R Rb N w (x+y+3)->Sk n st st'->K .aI st'
def gF:List Str:=["self","told"]
def rM:DS:=(aL (cJ 1 (aH nB (ae (bL aC "body" (ab 0)) ak)))
 (fu (d8 aC "turn_left" j5 (ab 0) (ae (az bV (ab 1) (dC (.int 1))) (ae (az bV (ab 1) (dC (.int 2))) ak)))))
theorem qX:∀ds st K,gL ds st K->ds.length=1/\rM {nx:=fun _ st'=>K .aI st',rt:=K} (a7 gF ds) st:=by
 rintro ds st K ⟨n,N,w,x,y,d,A,B,L,Lb,R,Rb,f,rfl,s,hd,S,n1,n8,w8,sB,hy,hxy,nz,h0,k⟩;refine⟨rfl,?_⟩;have hlo:=Cn S.iB sB;refine aV s.e rfl ⟨d,N,w,200,60000000,B,f,rfl,hd st,S.iB,n1,by omega,by omega,hlo,by decide,fun p t c hp hC=>hC.C_ S.iB hlo n8 hp,h0,fun st1 top c hC Bk1=>?_⟩;have s1:=s.keep nz Bk1;obtain⟨ld,H⟩:=hC.str S.iB hlo (by omega) (Nat.le_refl _);obtain⟨m1,m2,m3,_,_⟩:=H.tn.JK S.iB;have iU:=H.tn.fT;have iC:=H.tn.gq;have iCt:=Mx.dj iC;have sz:=(hy top c hC).sz;have sU:Le c.U N N y:=fun i j hi hj=>(sz i j hi hj).1;have sC:Le (Mx.bH c.C N) N N y:=fun i j hi hj=>by rw[Mx.cK iC hj hi];exact(sz j i hj hi).2
 refine dY s1.e rfl (aX rfl rfl (aX rfl rfl ⟨n,N,w,x,y,d,A,B,L,Lb,R,Rb,c.U,Mx.bH c.C N,rfl,s1,hd,S,n1,n8,w8,iU,iCt,sU,sC,sB,hxy,fun st2 s2 U2=>?_⟩));have S2:=S.left n8 iU iCt m2 m3 sU sC;rw[m1]at s2 S2;exact k st2 top c hC s2 S2 (Sk.of nz Bk1 U2)
def fJ:cF:=fun ds st K=>∃(n N w x y:Nat) (A B L Lb R Rb:List (List Int)) (f:Bool),ds=[.ref n]/\Si st n N w (aB B) L Lb R Rb/\Mx.Sd A B L Lb R Rb N w x/\1<=w/\N<=8/\w<=8/\Le B N w 200/\(∀t c,Mx.eM (Mx.bH B w) w N t c->Mx.ye (Mx.bH B w) w N y c)/\x+y<=120000000/\n≠0/\st[0]?=some (fe f)/\∀st' t c,Mx.eM (Mx.bH B w) w N t c->Si st' n N w (aB (Mx.bH c.A N)) L Lb (Mx.mulM R (Mx.bH c.U w) w) (Mx.mulM c.C Rb w)->Mx.Sd A (Mx.bH c.A N) L Lb (Mx.mulM R (Mx.bH c.U w) w) (Mx.mulM c.C Rb w) N w (x+y+3)->Sk n st st'->K .aI st'
def fK:List Str:=["self","told"]
def pV:DS:=(aL (cJ 1 (aH nB (ae (aH gy (ae (bL aC "body" (ab 0)) (ae (bL aC "wide" (ab 0)) ak))) ak)))
 (fu (d8 aC "turn_right" gR (ab 0) (ae (aH gy (ae (az bV (ab 1) (dC (.int 1))) (ae (bL aC "wide" (ab 0)) ak))) (ae (aH gy (ae (az bV (ab 1) (dC (.int 2))) (ae (bL aC "wide" (ab 0)) ak))) ak)))))
theorem pf:∀ds st K,fJ ds st K->ds.length=1/\pV {nx:=fun _ st'=>K .aI st',rt:=K} (a7 fK ds) st:=by
 rintro ds st K ⟨n,N,w,x,y,A,B,L,Lb,R,Rb,f,rfl,s,S,w1,n8,w8,sB,hy,hxy,nz,h0,k⟩;refine⟨rfl,?_⟩;have iX:=Mx.dj S.iB;have hlo:=Cn iX (b:=200) fun i j hi hj=>by rw[Mx.cK S.iB hj hi];exact sB j i hj hi
 refine aV s.e rfl (aV s.e rfl ⟨_,B,w,rfl,dO,S.iB.kO,by rw[S.iB.len];omega,by omega,?_⟩);refine⟨_,w,N,200,60000000,Mx.bH B w,f,rfl,dO,iX,w1,by omega,by omega,hlo,by decide,fun p t c hp hC=>hC.C_ iX hlo w8 hp,h0,fun st1 top c hC Bk1=>?_⟩;have s1:=s.keep nz Bk1;obtain⟨ld,H⟩:=hC.str iX hlo (by omega) (Nat.le_refl _);obtain⟨m1,_,_,m4,m5⟩:=H.tn.JK iX;have iU:=H.tn.fT;have iC:=H.tn.gq;have iUt:=Mx.dj iU;have sz:=(hy top c hC).sz;have sU:Le (Mx.bH c.U w) w w y:=fun i j hi hj=>by rw[Mx.cK iU hj hi];exact(sz j i hj hi).1
 have sC:Le c.C w w y:=fun i j hi hj=>(sz i j hi hj).2;refine dY s1.e rfl (aX rfl rfl (aV s1.e rfl ⟨_,c.U,w,rfl,dO,iU.kO,by rw[iU.len];omega,by omega,?_⟩));refine aX rfl rfl (aV s1.e rfl ⟨_,Mx.bH c.C w,w,rfl,dO,(Mx.dj iC).kO,by rw[(Mx.dj iC).len];omega,by omega,?_⟩);rw[Mx.Af iC];refine⟨n,N,w,x,y,aB B,A,B,L,Lb,R,Rb,Mx.bH c.U w,c.C,rfl,s1,fun _=>dO,S,w1,n8,w8,iUt,iC,sU,sC,sB,hxy,fun st2 s2 U2=>?_⟩;have S2:=S.right w8 iUt iC m4 m5 sU sC
 have eB:Mx.mulM B (Mx.bH c.U w) w=Mx.bH c.A N:=by
  rw[<-m1,Mx.Gw iU iX,Mx.Af S.iB]
 rw[eB]at s2 S2;exact k st2 top c hC s2 S2 (Sk.of nz Bk1 U2)
def ni:cF:=fun ds st K=>∃(B:List (List Int)) (N w:Nat),ds=[aB B]/\Mx.aT N w B/\N<=8/\w<=8/\∀b:Bool,(b=true↔Mx.Dg B N w)->K (.bl b) st
def ki:List Str:=["rows","k","row"]
def xf:DS:=(aL (kE (xH (ae (ab 0) ak)) (kU 1 2) (eV (gZ (bz (bR tX (ae (dm (xH (ae (ab 2) ak)) [none,none,some 1] (kU 0 1) cB (ER (az jY (ab 1) (dC (.int 0))) (az jY (ab 0) (ab 2)))) ak)))) (cu (dC (.bl false))) dJ))
 (cu (dC (.bl true))))
theorem Bq{A:List (List Int)}{i:Nat}{d:D}{rest:List D}(hr:d::rest=fG i ((A.map bO).drop i)):i<A.length/\d= .tup [.int (i:Int),bO (A.getD i [])]/\rest=fG (i+1) ((A.map bO).drop (i+1)):=by
 rcases Nat.lt_or_ge i A.length with h|h
 . rw[List.drop_eq_getElem_cons (by rw[List.length_map];exact h),List.getElem_map]at hr;unfold fG at hr;obtain⟨h1,h2⟩:=List.cons.inj hr;exact⟨h,by rw[Mx.a8 h];exact h1,h2⟩
 . rw[List.drop_eq_nil_of_le (by rw[List.length_map];exact h)]at hr;cases hr
theorem CV{r:List Int}{i:Nat}{d:D}{rest:List D}(hr:d::rest=fG i ((aJ r).drop i)):i<r.length/\d= .tup [.int (i:Int),.int (r.getD i 0)]/\rest=fG (i+1) ((aJ r).drop (i+1)):=by
 rcases Nat.lt_or_ge i r.length with h|h
 . rw[List.drop_eq_getElem_cons (by rw[List.length_map];exact h),List.getElem_map]at hr;unfold fG at hr;obtain⟨h1,h2⟩:=List.cons.inj hr;exact⟨h,by rw[Mx.a8 h];exact h1,h2⟩
 . rw[List.drop_eq_nil_of_le (by rw[List.length_map];exact h)]at hr;cases hr
theorem yj{xs:List D}{i:Nat}(hr: []=fG i (xs.drop i)):xs.length<=i:=by
 rcases Nat.lt_or_ge i xs.length with h|h
 . rw[List.drop_eq_getElem_cons h]at hr;unfold fG at hr;cases hr
 . exact h
theorem yL{f:Nat->Bool}:∀l:List Nat,gX (l.map fun j=>D.bl (f j))=some (l.map f)
 | []=>rfl
 |a::l=>by rw[List.map_cons,List.map_cons];unfold gX;rw[yL l];rfl
theorem vY:∀ds st K,ni ds st K->ds.length=1/\xf {nx:=fun _ st'=>K .aI st',rt:=K} (a7 ki ds) st:=by
 rintro ds st K ⟨B,N,w,rfl,iB,n8,w8,k⟩;refine⟨rfl,?_⟩;have lB:=iB.len;refine zV (xs:=B.map bO) rfl fun ok aK=>?_;refine ma (fun rest σ st'=>st=st'/\∃(i:Nat) (v1 v2:Option D),i<=N/\rest=fG i ((B.map bO).drop i)/\σ=[some (aB B),v1,v2]/\∀a c,a<i->c<w->a≠c->Mx.g B a c=0) ?_ ?_ _ _ _ ⟨rfl,0,none,none,Nat.zero_le _,rfl,rfl,fun a c ha=>absurd ha (Nat.not_lt_zero _)⟩
 . rintro σ st' ⟨rfl,i,v1,v2,hi,hrest,rfl,h⟩;have:=yj hrest;rw[List.length_map]at this;exact⟨aK _ rfl,k true ⟨fun _ a c ha=>h a c (by omega),fun _=>rfl⟩⟩
 . rintro x rest σ st' ⟨rfl,i,v1,v2,hi,hrest,rfl,h⟩ next
   obtain⟨hiB,rfl,rfl⟩:=Bq hrest;have lr:=iB.row (i:=i) (by omega);refine⟨aK _ rfl,_,rfl,zV (xs:=aJ (B.getD i [])) rfl fun ok2 hok2=>⟨cy (by rw[se,List.length_map];omega),?_⟩⟩;refine gc (fun rest acc st'=>st=st'/\∃j:Nat,j<=w/\rest=fG j ((aJ (B.getD i [])).drop j)/\acc=(List.range j).map fun c=>D.bl (decide (Mx.g B i c=0\/c=i))) ?_ ?_ _ _ _ ⟨rfl,0,Nat.zero_le _,rfl,rfl⟩
   . rintro acc st' ⟨rfl,j,hj,hrest,rfl⟩;have:=yj hrest;rw[List.length_map]at this;have ej:j=w:=by omega
     subst ej;refine⟨hok2 _ rfl,yB (yL _) ?_⟩;cases hb:((List.range j).map fun c=>decide (Mx.g B i c=0\/c=i)).all id with
     |true=>
      refine next _ _ ⟨rfl,i+1,_,_,by omega,rfl,rfl,fun a c ha hc hne=>?_⟩
      by_cases e:a=i
      . subst e;have:=List.all_eq_true.mp hb (decide (Mx.g B a c=0\/c=a)) (List.mem_map.mpr ⟨c,List.mem_range.mpr hc,rfl⟩);rcases of_decide_eq_true this with z|z
        . exact z
        . exact absurd z.symm hne
      . exact h a c (by omega) hc hne
     |false=>
      refine k false ⟨fun z=>(by cases z),fun dg=>?_⟩;exfalso
      have:((List.range j).map fun c=>decide (Mx.g B i c=0\/c=i)).all id=true:=List.all_eq_true.mpr fun b hb'=>by
       obtain⟨c,hc,rfl⟩:=List.mem_map.mp hb';by_cases e:c=i
       . exact decide_eq_true (.inr e)
       . exact decide_eq_true (.inl (dg i c (by omega) (List.mem_range.mp hc) (Ne.symm e)))
      rw[hb]at this;cases this
   . rintro x rest acc st' ⟨rfl,j,hj,hrest,rfl⟩ next2;obtain⟨hjr,rfl,rfl⟩:=CV hrest;refine⟨hok2 _ rfl,_,rfl,?_⟩;have fin:∀b,b=decide (Mx.g B i j=0\/j=i)->(List.range j).map (fun c=>D.bl (decide (Mx.g B i c=0\/c=i)))++[D.bl b]=(List.range (j+1)).map fun c=>D.bl (decide (Mx.g B i c=0\/c=i)):=fun b e=>by rw[List.range_succ,List.map_append,e];rfl
     refine eq2 (fun z=>?_) fun z=>eq2 (fun z2=>?_) fun z2=>?_
     . show c9 _ _ _ _ _ _ _ _ _;rw[fin true (decide_eq_true (.inl z)).symm];exact next2 _ _ ⟨rfl,j+1,by omega,rfl,rfl⟩
     . show c9 _ _ _ _ _ _ _ _ _;rw[fin true (decide_eq_true (.inr (by omega))).symm];exact next2 _ _ ⟨rfl,j+1,by omega,rfl,rfl⟩
     . show c9 _ _ _ _ _ _ _ _ _;rw[fin false (decide_eq_false (fun y=>y.elim z fun y=>z2 (by omega))).symm];exact next2 _ _ ⟨rfl,j+1,by omega,rfl,rfl⟩
def jQ:cF:=fun ds st K=>∃(n N w x y:Nat) (d:D) (A B L Lb R Rb:List (List Int)) (Q:Nat->List (List Int)->Prop) (f:Bool),ds=[.ref n]/\Si st n N w d L Lb R Rb/\(∀s,fD s d B)/\Mx.Sd A B L Lb R Rb N w x/\1<=N/\1<=w/\N<=8/\w<=8/\Mx.Ce B N w y Q/\x+2*y<=100000000/\n≠0/\st[0]?=some (fe f)/\∀st' r M B' L' Lb' R' Rb',r<=8->Q r M->Mx.Lo M N w r->Mx.Lo B' N w r->Mx.Dg B' N w->(Mx.Pr r fun q=>Mx.g B' q q)<=((2^172:Nat):Int)->(Mx.Dg M N w->B'=M)->Si st' n N w (aB B') L' Lb' R' Rb'->Mx.Sd A B' L' Lb' R' Rb' N w (x+2*y+700000)->Sk n st st'->K .aI st'
def jU:List Str:=["self"]
def vH:DS:=(aL (fu (d8 aC "stand_rows" gL (ab 0) ak))
 (aL (fu (d8 aC "stand_columns" fJ (ab 0) ak))
 (uF (gZ (bz (aH ni (ae (bL aC "body" (ab 0)) ak)))) (aL (fu (d8 aC "stand_rows" gL (ab 0) ak))
 (fu (d8 aC "stand_columns" fJ (ab 0) ak))))))
theorem uV:∀ds st K,jQ ds st K->ds.length=1/\vH {nx:=fun _ st'=>K .aI st',rt:=K} (a7 jU ds) st:=by
 rintro ds st K ⟨n,N,w,x,y,d,A,B,L,Lb,R,Rb,Q,f,rfl,s,hd,S,n1,w1,n8,w8,T,hxy,nz,h0,k⟩;refine⟨rfl,?_⟩;refine dY s.e rfl ⟨n,N,w,x,y,d,A,B,L,Lb,R,Rb,f,rfl,s,hd,S,n1,n8,w8,T.low,T.s1,by omega,nz,h0,fun st1 t1 c1 C1 s1 S1 K1=>?_⟩;obtain⟨f1,h1⟩:=K1.tb;refine dY s1.e rfl ⟨n,N,w,x+y+3,y,A,c1.A,_,_,R,Rb,f1,rfl,s1,S1,w1,n8,w8,T.a1 t1 c1 C1,T.s2 t1 c1 C1,by omega,nz,h1,fun st2 t2 c2 C2 s2 S2 K2=>?_⟩;obtain⟨r,r8,LM,hM,q⟩:=T.lo t1 c1 C1 t2 c2 C2;have K12:=K1.trans K2;generalize Mx.bH c2.A N=M at s2 S2 LM hM q;refine⟨fun m σ st'=>∃(B' L' Lb' R' Rb':List (List Int)) (t x':Nat),σ=[some (.ref n)]/\Mx.Lo B' N w r/\(Mx.Pr r fun q=>Mx.g B' q q)<=((2^172:Nat):Int)/\t<=r/\Mx.Cl B' r t/\m=Mx.lf B' r t 172/\x'+400*m<=x+2*y+700000/\(B'=M\/¬Mx.Dg M N w)/\Si st' n N w (aB B') L' Lb' R' Rb'/\Mx.Sd A B' L' Lb' R' Rb' N w x'/\Sk n st st',⟨_,M,_,_,_,_,0,_,rfl,LM,hM,Nat.zero_le _,fun i j hj=>absurd hj (Nat.not_lt_zero _),rfl,?_,.inl rfl,s2,S2,K12⟩,?_⟩
 . have:=Mx.KZ (t:=0) LM r8 hM;omega
 . rintro m σ st3 ⟨B',L',Lb',R',Rb',t,x',rfl,LB,hB,ht,cl,rfl,hx,hq,s3,S3,K3⟩;refine aV s3.e rfl ⟨B',N,w,rfl,S3.iB,n8,w8,fun b hb=>?_⟩;cases b with
   |true=>exact k st3 r M B' L' Lb' R' Rb' r8 q LM LB (hb.mp rfl) hB (fun dM=>hq.elim id fun z=>absurd dM z) s3 (S3.mono (by omega)) K3
   |false=>
    have nd:¬Mx.Dg B' N w:=fun z=>by have:=hb.mpr z;cases this
    have htr:t<r:=Nat.lt_of_le_of_ne ht fun z=>nd (LB.dg (by rw[<-z];rw[z]at cl⊢;exact cl));have T2:=LB.again n8 w8 hB;obtain⟨f3,h3⟩:=K3.tb;refine g7 (dY s3.e rfl ⟨n,N,w,x',180,_,A,B',L',Lb',R',Rb',f3,rfl,s3,fun _=>dO,S3,n1,n8,w8,T2.low,T2.s1,by omega,nz,h3,fun st4 t4 c4 C4 s4 S4 K4=>?_⟩);obtain⟨f4,h4⟩:=K4.tb;refine dY s4.e rfl ⟨n,N,w,x'+180+3,180,A,c4.A,_,_,R',Rb',f4,rfl,s4,S4,w1,n8,w8,T2.a1 t4 c4 C4,T2.s2 t4 c4 C4,by omega,nz,h4,fun st5 t5 c5 C5 s5 S5 K5=>?_⟩;obtain⟨r',_,LM2,hM2,er,hl⟩:=T2.lo t4 c4 C4 t5 c5 C5;subst er;obtain⟨t',ht',cl',hlt⟩:=hl t htr cl;refine⟨_,hlt,_,_,_,_,_,t',_,rfl,LM2,hM2,ht',cl',rfl,?_,.inr ?_,s5,S5,K3.trans (K4.trans K5)⟩
    . omega
    . rcases hq with rfl|z
      . exact nd
      . exact z
def jg:cF:=fun ds st K=>∃(n k p:Nat) (x:Int),ds=[.int n,.int k,.int p,.int x]/\n<=8/\k<n/\p<n/\∀st',Ext st st'->K (aB (Mx.ub n k p x)) st'
def jl:List Str:=["n","k","place","number","rows"]
def ve:DS:=(aL (cJ 4 (mS (gn (aH fo (ae (ab 0) ak))) [none] (bP 0) cB (bR pQ (ae (ab 0) ak))))
 (aL (gY (az bV (ab 4) (ab 1)) (ab 2) (ab 3))
 (cu (aH mV (ae (ab 4) ak)))))
theorem GQ{n k p:Nat}{x:Int}(hk:k<n)(hp:p<n):(Mx.units n).set k (((Mx.units n).getD k []).set p x)=Mx.ub n k p x:=by
 have iU:=Mx.cj n;have lU:=iU.len;have lr:=iU.row hk
 have is:Mx.aT n n ((Mx.units n).set k (((Mx.units n).getD k []).set p x)):=⟨by rw[List.length_set];exact lU,fun r hr=>by
  rcases List.mem_or_eq_of_mem_set hr with h|h
  . exact iU.kO r h
  . rw[h,List.length_set];exact lr⟩
 refine is.ext Mx.k9 fun i j hi hj=>?_;unfold Mx.ub;rw[Mx.sJ hi hj];unfold Mx.g
 have gs:((Mx.units n).set k (((Mx.units n).getD k []).set p x)).getD i []=if i=k then((Mx.units n).getD k []).set p x else(Mx.units n).getD i []:=by
  rw[Mx.a8 (by rw[List.length_set];omega)];by_cases h:i=k
  . subst h;rw[List.getElem_set_self,if_pos rfl]
  . rw[List.getElem_set_ne (Ne.symm h),if_neg h,Mx.a8 (show i<(Mx.units n).length by omega)]
 rw[gs];by_cases h:i=k
 . subst h;rw[if_pos rfl];by_cases h2:j=p
   . subst h2;rw[Mx.a8 (by rw[List.length_set];omega),List.getElem_set_self,if_pos ⟨rfl,rfl⟩]
   . rw[Mx.a8 (by rw[List.length_set];omega),List.getElem_set_ne (Ne.symm h2),<-Mx.a8 (d:=0),if_neg fun z=>h2 z.2];exact Mx.cV hi hj
 . rw[if_neg h,if_neg fun z=>h z.1];exact Mx.cV hi hj
abbrev uN(r:List Int):Cell:= .lst (aJ r)
def jV(b n:Nat):List D:=(List.range n).map fun i=> .ref (b+i)
theorem D5{b n:Nat}:jV b n++[.ref (b+n)]=jV b (n+1):=by unfold jV;rw[List.range_succ,List.map_append];rfl
theorem wy{st:af}:∀ {A:List (List Int)} {b:Nat},(∀i r,A[i]?=some r->st[b+i]?=some (uN r))->bW st (jV b A.length) A
 | [],_,_=>trivial
 |r::A,b,h=>by
  have e:jV b (r::A).length= .ref b::jV (b+1) A.length:=by
   unfold jV;rw[List.length_cons,List.range_succ_eq_map,List.map_cons,List.map_map,Nat.add_zero];congr 1;exact List.map_congr_left fun i _=>by show D.ref (b+(i+1))=D.ref (b+1+i);congr 1;omega
  rw[e]
  exact⟨a9 (h 0 r rfl),wy fun i q hq=>by
   have:=h (i+1) q hq;rwa [show b+(i+1)=b+1+i by omega]at this⟩
theorem uq:∀ds st K,jg ds st K->ds.length=4/\ve {nx:=fun _ st'=>K .aI st',rt:=K} (a7 jl ds) st:=by
 rintro ds st K ⟨n,k,p,x,rfl,n8,hk,hp,kk⟩;refine⟨rfl,⟨n,rfl,by omega,?_⟩⟩;have iU:=Mx.cj n;have lU:=iU.len;refine i7 ⟨cy (by rw[List.length_map,lU];omega),?_⟩;refine gc (fun rest acc st'=>∃A1 A2:List (List Int),A1++A2=Mx.units n/\rest=A2.map bO/\acc=jV st.length A1.length/\st'=st++A1.map uN) ?_ ?_ _ _ _ ⟨[],Mx.units n,rfl,rfl,rfl,by simp⟩;rotate_left
 . rintro d rest acc st' ⟨A1,A2,he,hr,rfl,rfl⟩ next
   match A2,hr with
   |r::A2,hr=>
    rw[List.map_cons,List.cons.injEq]at hr;obtain⟨rfl,rfl⟩:=hr;refine⟨trivial,_,rfl,yw rfl ?_⟩;show c9 _ _ _ _ _ _ _ _ _;rw[List.length_append,List.length_map,D5];refine next _ _ ⟨A1++[r],A2,by rw[<-he];simp,rfl,by simp,by simp⟩
 rintro acc st' ⟨A1,A2,he,hr,rfl,rfl⟩;match A2,hr with
 | [],_=>
   rw[List.append_nil]at he;subst he;refine⟨trivial,?_⟩;generalize hs:st++(Mx.units n).map uN++[Cell.lst (jV st.length (Mx.units n).length)]=st1;have l1:(st++(Mx.units n).map uN).length=st.length+n:=by simp[lU]
   have er:st1[st.length+n]?=some (.lst (jV st.length n)):=by
    rw[<-hs,<-l1,List.getElem?_append_right (Nat.le_refl _),Nat.sub_self,lU];rfl
   have ec:∀i r,(Mx.units n)[i]?=some r->st1[st.length+i]?=some (uN r):=fun i r hi=>by
    have hil:=(List.getElem?_eq_some_iff.mp hi).1;rw[<-hs,List.getElem?_append_left (by rw[l1];omega),List.getElem?_append_right (by omega),Nat.add_sub_cancel_left,List.getElem?_map,hi];rfl
   have X1:Ext st st1:=by rw[<-hs,List.append_assoc];exact Ext.push
   rw[l1];clear hs;have hk':k<(Mx.units n).length:=by omega
   have ek:=ec k _ (List.getElem?_eq_getElem hk');rw[<-Mx.a8 (d:=[]) hk']at ek;have lr:=iU.row hk;have at1:fE (jV st.length n) (k:Int)=some (.ref (st.length+k)):=jH (by unfold jV;rw[List.getElem?_map,List.getElem?_range hk];rfl);refine aX (a9 er) at1 ?_;show yS (.ref (st.length+k)) (.int p) (.int x) st1 _;refine jo ek (Ca (by omega) (by rw[List.length_map,Int.toNat_natCast];omega)) ?_;rw[Int.toNat_natCast,show(aJ ((Mx.units n).getD k [])).set p (.int x)=aJ (((Mx.units n).getD k []).set p x)from List.map_set.symm];refine⟨_,Mx.ub n k p x,rfl,⟨jV st.length n,a9 ((List.getElem?_set_ne (by omega)).trans er),?_⟩,by rw[Mx.k9.len];omega,kk _ (X1.set (by omega))⟩;rw[<-GQ hk hp];have:=wy (st:=st1.set (st.length+k) (.lst (aJ (((Mx.units n).getD k []).set p x)))) (A:=(Mx.units n).set k (((Mx.units n).getD k []).set p x)) (b:=st.length) fun i r hi=>?_
   . rwa [List.length_set,lU]at this
   . by_cases h:k=i
     . subst h;rw[List.getElem?_set_self hk']at hi;cases hi;rw[List.getElem?_set_self (List.getElem?_eq_some_iff.mp ek).1]
     . rw[List.getElem?_set_ne h]at hi;rw[List.getElem?_set_ne (by omega)];exact ec i r hi
def ng:cF:=fun ds st K=>∃(n N w x r k o:Nat) (A B L Lb R Rb:List (List Int)) (f:Bool),ds=[.ref n,.int k,.int o]/\Si st n N w (aB B) L Lb R Rb/\Mx.Sd A B L Lb R Rb N w x/\1<=N/\N<=8/\w<=8/\r<=8/\Mx.Lo B N w r/\Mx.Dg B N w/\(Mx.Pr r fun q=>Mx.g B q q)<=((2^172:Nat):Int)/\k<o/\o<r/\x<=90000000/\n≠0/\st[0]?=some (fe f)/\∀st' B' L' Lb' R' Rb',Mx.Lo B' N w r->Mx.Dg B' N w->(Mx.Pr r fun q=>Mx.g B' q q)<=((2^172:Nat):Int)->(∀q,q<r->Mx.g B' q q=if q=k then((Int.gcd (Mx.g B k k) (Mx.g B o o):Nat):Int)else if q=o then((Int.lcm (Mx.g B k k) (Mx.g B o o):Nat):Int)else Mx.g B q q)->Si st' n N w (aB B') L' Lb' R' Rb'->Mx.Sd A B' L' Lb' R' Rb' N w (x+701000)->Sk n st st'->K .aI st'
def kh:List Str:=["self","k","other"]
def xg:DS:=(aL (fu (d8 aC "turn_right" gR (ab 0) (ae (aH jg (ae (bL aC "wide" (ab 0)) (ae (ab 2) (ae (ab 1) (ae (dC (.int 1)) ak))))) (ae (aH jg (ae (bL aC "wide" (ab 0)) (ae (ab 2) (ae (ab 1) (ae (tG nj (dC (.int 1))) ak))))) ak))))
 (fu (d8 aC "settle" jQ (ab 0) ak)))
theorem Sk.ext{n:Nat}{st st1 st2:af}(nz:n≠0)(h0:∃f,st[0]?=some (fe f))(hn:n<st.length)(a:Ext st st1)(b:Us n st1 st2):Sk n st st2:=by
 obtain⟨f,e⟩:=h0;have l0:=(List.getElem?_eq_some_iff.mp e).1;exact⟨by have:=a.len;have:=b.len;omega,fun m h h0 hn=>(b.same m hn).trans (a.same m h),f,(b.same 0 (Ne.symm nz)).trans ((a.same 0 l0).trans e)⟩
theorem vX:∀ds st K,ng ds st K->ds.length=3/\xg {nx:=fun _ st'=>K .aI st',rt:=K} (a7 kh ds) st:=by
 rintro ds st K ⟨n,N,w,x,r,k,o,A,B,L,Lb,R,Rb,f,rfl,s,S,n1,n8,w8,r8,LB,dg,hM,hko,ho,hx,nz,h0,kk⟩;refine⟨rfl,?_⟩;have rW:=LB.rW;have rN:=LB.rN;have hn:=(List.getElem?_eq_some_iff.mp s.e).1;refine dY s.e rfl (aV s.e rfl ⟨w,o,k,1,rfl,w8,by omega,by omega,fun st1 X1=>?_⟩);have s1:Si st1 n N w (aB B) L Lb R Rb:=⟨(X1.same n hn).trans s.e⟩
 refine aV s1.e rfl (oB ⟨w,o,k,-1,rfl,w8,by omega,by omega,fun st2 X2=>?_⟩);have s2:Si st2 n N w (aB B) L Lb R Rb:=⟨((X1.trans X2).same n hn).trans s.e⟩
 have sB:Le B N w 200:=fun i j hi hj=>Mx.lj (LB.abs hM i j hi hj) (by decide);have a1:Le (Mx.ub w o k 1) w w 0:=fun i j hi hj=>Mx.CD (by decide) hi hj;have a2:Le (Mx.ub w o k (-1)) w w 0:=fun i j hi hj=>Mx.CD (by decide) hi hj;refine⟨n,N,w,x,0,_,A,B,L,Lb,R,Rb,Mx.ub w o k 1,Mx.ub w o k (-1),rfl,s2,fun _=>dO,S,by omega,n8,w8,Mx.k9,Mx.k9,a1,a2,sB,by omega,fun st3 s3 U3=>?_⟩;have b1:=Mx.Ay (n:=w) (k:=o) (p:=k) (x:=1) (by omega) (by omega) (by omega);have b2:=Mx.Ay (n:=w) (k:=o) (p:=k) (x:= -1) (by omega) (by omega) (by omega);have S3:=S.right w8 Mx.k9 Mx.k9 b1 b2 a1 a2;have K3:=Sk.ext nz ⟨f,h0⟩ hn (X1.trans X2) U3;obtain⟨f3,h3⟩:=K3.tb;refine dY s3.e rfl ⟨n,N,w,x+0+3,180,_,A,_,L,Lb,_,_,_,f3,rfl,s3,fun _=>dO,S3,n1,by omega,n8,w8,Mx.Ee LB n8 w8 hM dg hko ho,by omega,nz,h3,fun st4 r' M B' L' Lb' R' Rb' _ q _ LB' dg' hM' hd s4 S4 K4=>?_⟩;obtain⟨er,dM,qM⟩:=q;subst er;have e:=hd dM;subst e;exact kk st4 _ L' Lb' R' Rb' LB' dg' hM' qM s4 (S4.mono (by omega)) (K3.trans K4)
def dg(B:List (List Int))(r:Nat):List Int:=(List.range r).map fun q=>Mx.g B q q
def lE:cF:=fun ds st K=>∃(B:List (List Int)) (N w r:Nat),ds=[aB B]/\Mx.Lo B N w r/\1<=N/\N<=8/\w<=8/\K (bO (dg B r)) st
def lD:List Str:=["body","least"]
def yu:DS:=(aL (cJ 1 (bR vK (ae (bR eQ (ae (ab 0) ak)) (ae (bR eQ (ae (az bV (ab 0) (dC (.int 0))) ak)) ak))))
 (cu (bR d7 (ae (dm (du (ae (ab 1) ak)) [none,some 0] (bP 0) (bz (az oY (az bV (az bV (ab 1) (ab 0)) (ab 0)) (dC (.int 0)))) (az bV (az bV (ab 1) (ab 0)) (ab 0))) ak))))
theorem i6{A:List (List Int)}{j:Nat}(h:j<A.length):fE (A.map bO) (j:Int)=some (bO (A.getD j [])):=by
 refine jH ?_;rw[List.getElem?_map,List.getElem?_eq_getElem h,Mx.a8 h];rfl
theorem xh:∀ds st K,lE ds st K->ds.length=1/\yu {nx:=fun _ st'=>K .aI st',rt:=K} (a7 lD ds) st:=by
 rintro ds st K ⟨B,N,w,r,rfl,L,n1,n8,w8,k⟩;refine⟨rfl,?_⟩;have lB:=L.is.len;have rN:=L.rN;have rW:=L.rW;refine c8 rfl (aX rfl (i6 (j:=0) (by omega)) (c8 rfl (Cq ?_)));rw[List.length_map,List.length_map,lB,L.is.row (i:=0) (by omega)]
 obtain⟨m,em,hm1,hm2,hm3⟩:∃m:Nat,(if(w:Int)<(N:Int)then(w:Int)else(N:Int))=(m:Int)/\r<=m/\m<=N/\m<=w:=by
  by_cases h:(w:Int)<(N:Int)
  . exact⟨w,if_pos h,rW,by omega,by omega⟩
  . exact⟨N,if_neg h,rN,by omega,by omega⟩
 rw[em];refine eJ ⟨by omega,by omega⟩ ⟨cy (by rw[dq];omega),?_⟩;rw[Int.toNat_natCast];have at2:∀j,j<m->fE (aJ (B.getD j [])) (j:Int)=some (.int (Mx.g B j j)):=fun j hj=>kI (by rw[L.is.row (by omega)];omega);refine gc (fun rest acc st'=>st=st'/\∃j:Nat,j<=m/\rest=(List.range (m-j)).map (fun i=>D.int (((j+i:Nat):Int)))/\acc=aJ (dg B (min j r))) ?_ ?_ _ _ _ ⟨rfl,0,Nat.zero_le _,by unfold eF;simp,by rw[Nat.zero_min];rfl⟩
 . rintro acc st' ⟨rfl,j,hj,hr,rfl⟩
   have:m-j=0:=by
    cases q:m-j with
    |zero=>rfl
    |succ i=>rw[q,List.range_succ_eq_map]at hr;cases hr
   refine⟨trivial,dA rfl ?_⟩;rw[show min j r=r by omega];exact k
 . rintro d rest acc st' ⟨rfl,j,hj,hr,rfl⟩ next
   have hjm:j<m:=by
    rcases Nat.lt_or_ge j m with h|h
    . exact h
    . rw[show m-j=0 by omega]at hr;cases hr
   rw[show m-j=(m-(j+1))+1 by omega,List.range_succ_eq_map,List.map_cons,List.map_map,List.cons.injEq]at hr;obtain⟨rfl,rfl⟩:=hr
   have erest:(List.map ((fun i=>D.int (((j+i:Nat):Int)))∘Nat.succ) (List.range (m-(j+1))))=(List.range (m-(j+1))).map (fun i=>D.int (((j+1+i:Nat):Int))):=List.map_congr_left fun i _=>by
    show D.int (((j+(i+1):Nat):Int))=D.int (((j+1+i:Nat):Int));congr 2;omega
   rw[Nat.add_zero];refine⟨trivial,_,rfl,aX rfl (i6 (by omega)) (aX rfl (at2 j hjm) (ne2 (fun h=>?_) fun h=>?_))⟩
   . have hjr:j<r:=Nat.lt_of_not_le fun z=>h (L.out j j (by omega) (by omega) (.inl z));refine g7 (aX rfl (i6 (by omega)) (aX rfl (at2 j hjm) ?_));show c9 _ _ _ _ _ _ _ _ _;rw[ints_app];refine next _ _ ⟨rfl,j+1,hjm,erest,?_⟩
     rw[show min (j+1) r=j+1 by omega,show min j r=j by omega];unfold dg;rw[List.range_succ,List.map_append];rfl
   . have hjr:r<=j:=Nat.le_of_not_lt fun z=>by have:=L.pos j z;omega
     refine next _ _ ⟨rfl,j+1,hjm,erest,?_⟩
     rw[show min (j+1) r=r by omega,show min j r=r by omega]
structure Dv(A B L Lb R Rb:List (List Int))(N w r:Nat):Prop where
 lo:Mx.Lo B N w r
 dg:Mx.Dg B N w
 pr:(Mx.Pr r fun q=>Mx.g B q q)<=((2^172:Nat):Int)
 ch:∀i j,i<j->j<r->Mx.g B i i∣Mx.g B j j
 sd:Mx.Sd A B L Lb R Rb N w 62000000
def nu:cF:=fun ds st K=>∃(d:D) (A:List (List Int)) (N w:Nat) (f:Bool),ds=[d]/\(∀s,fD s d A)/\Mx.aT N w A/\1<=N/\1<=w/\N<=8/\w<=8/\((N<=4/\∀i j,i<N->j<w->(Mx.g A i j).natAbs<=2^40)\/∀i j,i<N->j<w->(Mx.g A i j).natAbs<=2^6)/\st[0]?=some (fe f)/\∀st' B L Lb R Rb r,Dv A B L Lb R Rb N w r->Bk st st'->K (.tup [bO (dg B r),aB L,aB Lb,aB R,aB Rb]) st'
def nr:List Str:=["rows","sides","many","k","other"]
def Bv:DS:=(aL (cJ 1 (xJ aC kG (ae (ab 0) ak)))
 (aL (fu (d8 aC "settle" jQ (ab 1) ak))
 (aL (cJ 2 (bR eQ (ae (aH lE (ae (bL aC "body" (ab 1)) ak)) ak)))
 (aL (kE (du (ae (ab 2) ak)) (bP 3) (kE (pG (ae (az jq (ab 3) (dC (.int 1))) (ae (ab 2) ak))) (bP 4) (eV (bz (az oY (az lZ (az bV (az bV (bL aC "body" (ab 1)) (ab 4)) (ab 4)) (az bV (az bV (bL aC "body" (ab 1)) (ab 3)) (ab 3))) (dC (.int 0)))) (fu (d8 aC "merge" ng (ab 1) (ae (ab 3) (ae (ab 4) ak)))) dJ)))
 (cu (x9 (ae (aH lE (ae (bL aC "body" (ab 1)) ak)) (ae (bL aC "left" (ab 1)) (ae (bL aC "left_back" (ab 1)) (ae (bL aC "right" (ab 1)) (ae (bL aC "right_back" (ab 1)) ak)))))))))))
theorem DY{m:Int}(h0:0<m)(h:m<2^62):m.natAbs.log2<9000:=by
 have:m.natAbs.log2<62:=(Nat.log2_lt (by omega)).mpr (by omega);omega
theorem j_{B:List (List Int)}{r:Nat}:(dg B r).length=r:=by unfold dg;simp
theorem zO:∀ds st K,nu ds st K->ds.length=1/\Bv {nx:=fun _ st'=>K .aI st',rt:=K} (a7 nr ds) st:=by
 rintro ds st K ⟨d,A,N,w,f,rfl,hd,hA,n1,w1,n8,w8,hb,h0,k⟩;refine⟨rfl,?_⟩;have l0:=(List.getElem?_eq_some_iff.mp h0).1;refine⟨st.length,N,w,d,A,rfl,by simp,hd,hA,n1,n8,w8,fun st1 s1 U1=>⟨rfl,?_⟩⟩;have nz:st.length≠0:=by omega
 have h1:st1[0]?=some (fe f):=by rw[U1.same 0 (by omega),List.getElem?_append_left l0];exact h0
 refine dY s1.e rfl ⟨st.length,N,w,0,10000000,d,A,A,_,_,_,_,fun _ _=>True,f,rfl,s1,hd,Mx.Sd.start hA,n1,w1,n8,w8,Mx.Fj hA n8 w8 hb,by omega,nz,h1,fun st2 r M B L Lb R Rb r8 _ _ LB dB pB _ s2 S2 K2=>?_⟩;refine aV s2.e rfl ⟨B,N,w,r,rfl,LB,n1,n8,w8,c8 rfl ?_⟩;rw[List.length_map,j_];have K02:Sk st.length st st2:=⟨by have:=K2.le;have:=U1.len;simp at this;omega,fun m hm hm0 hmn=>(K2.fr m (by have:=U1.len;simp at this;omega) hm0 hmn).trans ((U1.same m hmn).trans (List.getElem?_append_left hm)),K2.tb⟩
 clear K2 U1 h1 s1;try dsimp only[ak]
 refine jG (A:=kE _ _ _) (fun σ st'=>∃(B L Lb R Rb:List (List Int)) (v3 v4:Option D),σ=[some d,some (.ref st.length),some (.int r),v3,v4]/\Dv A B L Lb R Rb N w r/\Si st' st.length N w (aB B) L Lb R Rb/\Sk st.length st st') (fun nx hnx=>?_) ?_
 . refine eJ ⟨by omega,by omega⟩ ?_;rw[Int.toNat_natCast];refine jz r (fun q σ st'=>∃(B L Lb R Rb:List (List Int)) (v3 v4:Option D),σ=[some d,some (.ref st.length),some (.int r),v3,v4]/\Mx.Lo B N w r/\Mx.Dg B N w/\(Mx.Pr r fun q=>Mx.g B q q)<=((2^172:Nat):Int)/\(∀i j,i<q->i<j->j<r->Mx.g B i i∣Mx.g B j j)/\Mx.Sd A B L Lb R Rb N w (20700000+4910000*q)/\Si st' st.length N w (aB B) L Lb R Rb/\Sk st.length st st') ?_ ?_ ⟨B,L,Lb,R,Rb,none,none,rfl,LB,dB,pB,fun i j hi=>absurd hi (Nat.not_lt_zero _),S2.mono (by omega),s2,K02⟩
   . rintro σ st' ⟨B,L,Lb,R,Rb,v3,v4,rfl,LB,dB,pB,ch,S,s,K'⟩;exact hnx _ _ ⟨B,L,Lb,R,Rb,v3,v4,rfl,⟨LB,dB,pB,fun i j hij hj=>ch i j (by omega) hij hj,S.mono (by omega)⟩,s,K'⟩
   . clear LB dB pB S2 s2 K02;rintro q σ st3 rest hq ⟨B,L,Lb,R,Rb,v3,v4,rfl,LB,dB,pB,ch,S,s3,K3⟩ next
     refine⟨_,rfl,ij (AD ⟨by omega,by omega,by omega,by omega⟩ ?_)⟩;have er:((r:Int)-((q:Int)+1)).toNat=r-(q+1):=by omega
     rw[er];refine ma (fun rest2 σ st'=>∃(o:Nat) (B L Lb R Rb:List (List Int)) (v4:Option D),q<o/\o<=r/\rest2=(List.range (r-o)).map (fun i=>D.int (((o+i:Nat):Int)))/\σ=[some d,some (.ref st.length),some (.int r),some (.int (q:Int)),v4]/\Mx.Lo B N w r/\Mx.Dg B N w/\(Mx.Pr r fun q=>Mx.g B q q)<=((2^172:Nat):Int)/\(∀i j,i<q->i<j->j<r->Mx.g B i i∣Mx.g B j j)/\(∀j,q<j->j<o->Mx.g B q q∣Mx.g B j j)/\Mx.Sd A B L Lb R Rb N w (20700000+4910000*q+701000*(o-(q+1)))/\Si st' st.length N w (aB B) L Lb R Rb/\Sk st.length st st') ?_ ?_ _ _ _ ⟨q+1,B,L,Lb,R,Rb,v4,by omega,hq,?_,rfl,LB,dB,pB,ch,fun j h1 h2=>absurd h1 (by omega),by rw[Nat.sub_self];exact S,s3,K3⟩
     . clear LB dB pB ch S s3 K3 B L Lb R Rb;rintro σ st4 ⟨o,B,L,Lb,R,Rb,v4,h1,h2,hr,rfl,LB,dB,pB,ch,ch2,S,s4,K4⟩
       have eo:r-o=0:=by
        cases z:r-o with
        |zero=>rfl
        |succ i=>rw[z,List.range_succ_eq_map]at hr;cases hr
       refine⟨trivial,next _ _ ⟨B,L,Lb,R,Rb,_,_,rfl,LB,dB,pB,fun i j hi hij hj=>?_,S.mono (by omega),s4,K4⟩⟩;by_cases z:i=q
       . subst z;exact ch2 j hij (by omega)
       . exact ch i j (by omega) hij hj
     . clear LB dB pB ch S s3 K3 B L Lb R Rb;rintro x rest2 σ st4 ⟨o,B,L,Lb,R,Rb,v4,h1,h2,hr,rfl,LB,dB,pB,ch,ch2,S,s4,K4⟩ next2
       have ho:o<r:=by
        rcases Nat.lt_or_ge o r with h|h
        . exact h
        . rw[show r-o=0 by omega]at hr;cases hr
       rw[show r-o=(r-(o+1))+1 by omega,List.range_succ_eq_map,List.map_cons,List.map_map,List.cons.injEq]at hr;obtain⟨rfl,rfl⟩:=hr
       have erest:(List.map ((fun i=>D.int (((o+i:Nat):Int)))∘Nat.succ) (List.range (r-(o+1))))=(List.range (r-(o+1))).map (fun i=>D.int (((o+1+i:Nat):Int))):=List.map_congr_left fun i _=>by
        show D.int (((o+(i+1):Nat):Int))=D.int (((o+1+i:Nat):Int));congr 2;omega
       rw[Nat.add_zero];have rN:=LB.rN;have rW:=LB.rW;have lB:=LB.is.len;have at2:∀j,j<r->fE (aJ (B.getD j [])) (j:Int)=some (.int (Mx.g B j j)):=fun j hj=>kI (by rw[LB.is.row (by omega)];omega);have hpq:=LB.pos q hq;refine⟨trivial,_,rfl,?_⟩;refine aV s4.e rfl (aX rfl (i6 (by omega)) (aX rfl (at2 o ho) (aV s4.e rfl (aX rfl (i6 (by omega)) (aX rfl (at2 q hq) (lu (by omega) (ne2 (fun hne=>g7 ?_) fun he=>?_)))))))
       . obtain⟨f4,h4⟩:=K4.tb;refine dY s4.e rfl ⟨st.length,N,w,_,r,q,o,A,B,L,Lb,R,Rb,f4,rfl,s4,S,n1,n8,w8,r8,LB,dB,pB,h1,ho,by omega,nz,h4,fun st5 B' L' Lb' R' Rb' LB' dB' pB' gv s5 S5 K5=>?_⟩;have gl:=Int.gcd_dvd_left (Mx.g B q q) (Mx.g B o o);have gr:=Int.gcd_dvd_right (Mx.g B q q) (Mx.g B o o);have lr:=Int.dvd_lcm_right (Mx.g B q q) (Mx.g B o o);refine next2 _ _ ⟨o+1,B',L',Lb',R',Rb',_,by omega,ho,erest,rfl,LB',dB',pB',fun i j hi hij hj=>?_,fun j hqj hjo=>?_,S5.mono (by omega),s5,K4.trans K5⟩
         . rw[gv i (by omega),gv j hj,if_neg (by omega),if_neg (by omega)];by_cases e1:j=q
           . rw[if_pos e1];exact Int.dvd_coe_gcd (ch i q hi (by omega) hq) (ch i o hi (by omega) ho)
           . rw[if_neg e1];by_cases e2:j=o
             . rw[if_pos e2];exact Int.dvd_trans (ch i o hi (by omega) ho) lr
             . rw[if_neg e2];exact ch i j hi hij hj
         . rw[gv q hq,gv j (by omega),if_pos rfl,if_neg (by omega)];by_cases e2:j=o
           . rw[if_pos e2];exact Int.dvd_trans gr lr
           . rw[if_neg e2];exact Int.dvd_trans gl (ch2 j hqj (by omega))
       . refine next2 _ _ ⟨o+1,B,L,Lb,R,Rb,_,by omega,ho,erest,rfl,LB,dB,pB,ch,fun j hqj hjo=>?_,S.mono (by omega),s4,K4⟩;by_cases e2:j=o
         . rw[e2];exact Int.dvd_of_fmod_eq_zero he
         . exact ch2 j hqj (by omega)
     . unfold eF;exact List.map_congr_left fun i _=>by congr 1
 . rintro σ st3 ⟨B,L,Lb,R,Rb,v3,v4,rfl,dv,s3,K3⟩;refine aV s3.e rfl ⟨B,N,w,r,rfl,dv.lo,n1,n8,w8,?_⟩;refine aV s3.e rfl (aV s3.e rfl (aV s3.e rfl (aV s3.e rfl ⟨Nat.le_of_ble_eq_true rfl,?_⟩)));exact k st3 B L Lb R Rb r dv ⟨K3.le,fun m hm h0=>K3.fr m hm h0 (by omega),K3.tb⟩
structure Bx(st:af)(n:Nat)(b:Int):Prop where
 ex:∃x y z,st[n]?=some (.lst [.int x,.int y,.int z])/\0<=x/\0<=z/\z<=b
structure Upd(st:af)(n:Nat)(st':af):Prop where
 len:st'.length=st.length
 same:∀m,m≠n->st'[m]?=st[m]?
theorem Upd.refl{st:af}{n:Nat}:Upd st n st:=⟨rfl,fun _ _=>rfl⟩
theorem Upd.trans{st st1 st2:af}{n:Nat}(a:Upd st n st1)(b:Upd st1 n st2):Upd st n st2:=⟨b.len.trans a.len,fun m h=>(b.same m h).trans (a.same m h)⟩
theorem Upd.set{st:af}{n:Nat}{c:Cell}:Upd st n (st.set n c):=⟨List.length_set,fun m h=>List.getElem?_set_ne (Ne.symm h)⟩
structure XU(st:af)(n:Nat)(st':af):Prop where
 len:st.length<=st'.length
 same:∀m,m<st.length->m≠n->st'[m]?=st[m]?
theorem XU.trans{st st1 st2:af}{n:Nat}(a:XU st n st1)(b:XU st1 n st2):XU st n st2:=⟨Nat.le_trans a.len b.len,fun m h g=>(b.same m (Nat.lt_of_lt_of_le h a.len) g).trans (a.same m h g)⟩
theorem XU.upd{st st1:af}{n:Nat}(a:Upd st n st1):XU st n st1:=⟨by rw[a.len];exact Nat.le_refl _,fun m _ g=>a.same m g⟩
theorem XU.ext{st st1:af}{n:Nat}(a:Ext st st1):XU st n st1:=⟨a.len,fun m h _=>a.same m h⟩
theorem XU.set{st st1:af}{n k:Nat}{c:Cell}(a:XU st n st1)(h:st.length<=k):XU st n (st1.set k c):=⟨by rw[List.length_set];exact a.len,fun m hm g=>by rw[List.getElem?_set_ne (Nat.ne_of_gt (Nat.lt_of_lt_of_le hm h))];exact a.same m hm g⟩
theorem Bx.lt{st:af}{n:Nat}{b:Int}(B:Bx st n b):n<st.length:=by
 obtain⟨_,_,_,e,_⟩:=B.ex;exact(List.getElem?_eq_some_iff.mp e).1
theorem Bx.cell{st st':af}{n:Nat}{b:Int}(B:Bx st n b)(e:st'[n]?=st[n]?):Bx st' n b:=by
 obtain⟨x,y,z,e1,r⟩:=B.ex;exact⟨x,y,z,e.trans e1,r⟩
theorem Bx.mono{st:af}{n:Nat}{b b':Int}(B:Bx st n b)(l:b<=b'):Bx st n b':=by
 obtain⟨x,y,z,e,h1,h2,h3⟩:=B.ex;exact⟨x,y,z,e,h1,h2,Int.le_trans h3 l⟩
def nS:cF:=fun ds st K=>∃(ns:List Int) (k:Nat),ds=[.lst (ns.map .int),.int k]/\k<=3/\ns.length<=63/\∀st',Bx st' st.length 4000->Ext st st'->K (.ref st.length) st'
def kX:List Str:=["_law_script","_law_k","_law_cell"]
def yr:DS:=(aL (cJ 2 (dC (.int 0)))
 (aL (eV (bz (az oQ (bR eQ (ae (ab 0) ak)) (dC (.int 0)))) (cJ 2 (az bV (ab 0) (az lZ (ab 1) (bR eQ (ae (ab 0) ak))))) dJ)
 (cu (uf (ae (az fM (ab 2) (bR um (ae (az Ac (ab 2) (az qw (dC (.int 10)) (dC (.int 18)))) ak))) (ae (ab 2) (ae (az fM (dC (.int 1009)) (ab 1)) ak)))))))
theorem xa:∀ds st K,nS ds st K->ds.length=2/\yr {nx:=fun _ st'=>K .aI st',rt:=K} (a7 kX ds) st:=by
 rintro ds st K ⟨ns,k,rfl,hk,hl,q⟩;refine⟨rfl,?_⟩
 have fin:∀c:Int,cu (uf (ae (az fM (ab 2) (bR um (ae (az Ac (ab 2) (az qw (dC (.int 10)) (dC (.int 18)))) ak))) (ae (ab 2) (ae (az fM (dC (.int 1009)) (ab 1)) ak))))
  {nx:=fun _ st'=>K .aI st',rt:=K} [some (.lst (ns.map .int)),some (.int k),some (.int c)] st:=by
  intro c;refine vf ⟨by decide,by decide,by decide⟩ (LF (vM (fZ (pS ?_ ?_) (fZ (kP (by decide) (by decide)) ⟨Nat.le_of_ble_eq_true rfl,?_⟩))))
  . split<;>decide
  . split<;>decide
  . refine q _ ⟨_,_,_,by rw[List.getElem?_append_right (Nat.le_refl _),Nat.sub_self];rfl,?_,?_,?_⟩ Ext.push
    . by_cases hc:(10:Int)^(18:Int).toNat<=c
      . have:(0:Int)<=c:=Int.le_trans (by decide) hc;rw[decide_eq_true hc,if_pos rfl];omega
      . rw[decide_eq_false hc,if_neg Bool.false_ne_true];omega
    . omega
    . omega
 refine c8 rfl (A5 ?_);rw[List.length_map];by_cases h0:(0:Int)<(ns.length:Int)
 . rw[decide_eq_true h0];refine g7 (c8 rfl (lu (by rw[List.length_map];omega) ?_));rw[List.length_map];have m1:=Int.fmod_nonneg_of_pos (k:Int) h0;have m2:=Int.fmod_lt_of_pos (k:Int) h0;obtain⟨j,ej⟩:=Int.eq_ofNat_of_zero_le m1;rw[ej]at m2⊢;exact aX rfl (kI (r:=ns) (by omega)) (fin _)
 . rw[decide_eq_false h0];exact fin 0
def cM:cF:=fun ds st K=>∃(n:Nat) (m b:Int),ds=[.ref n,.int m]/\Bx st n b/\b<=1000000/\0<m/\m<2^62/\∀r st',0<=r->r<m->Bx st' n (b+1)->Upd st n st'->K (.int r) st'
def nA:List Str:=["_law_source_here","_law_many","_law_digit","_law_m"]
def Bs:DS:=(aL (eV (bz (az oQ (az bV (ab 0) (dC (.int 0))) (dC (.int 0)))) (aL (cJ 2 (az lZ (az bV (ab 0) (dC (.int 0))) (ab 1)))
 (aL (gY (ab 0) (dC (.int 0)) (az sM (az bV (ab 0) (dC (.int 0))) (ab 1)))
 (cu (ab 2)))) dJ)
 (aL (gY (ab 0) (dC (.int 2)) (az jq (az bV (ab 0) (dC (.int 2))) (dC (.int 1))))
 (aL (cJ 3 (az lZ (az fM (az jq (az jq (az lZ (az bV (ab 0) (dC (.int 1))) (dC (.int 2147483647))) (az fM (dC (.int 65539)) (az bV (ab 0) (dC (.int 2))))) (dC (.int 11))) (dC (.int 48271))) (dC (.int 2147483629))))
 (aL (cJ 3 (az jq (az lZ (az fM (ab 3) (ab 3)) (dC (.int 1999999973))) (az fM (dC (.int 39373)) (az bV (ab 0) (dC (.int 2))))))
 (cu (az lZ (az sM (az lZ (az fM (ab 3) (dC (.int 99991))) (dC (.int 2147483587))) (dC (.int 7))) (ab 1)))))))
theorem v9{d:D}{σ:cv}{st:af}{K:DK}(k:K d st):dC d σ st K:=k
theorem zR:∀ds st K,cM ds st K->ds.length=2/\Bs {nx:=fun _ st'=>K .aI st',rt:=K} (a7 nA ds) st:=by
 rintro ds st K ⟨n,m,b,rfl,⟨x,y,z,e,hx,hz,hb⟩,hb2,hm0,hm1,k⟩;refine⟨rfl,?_⟩;have hn:n<st.length:=(List.getElem?_eq_some_iff.mp e).1;have it:items? st (.ref n)=some [.int x,.int y,.int z]:=a9 e;refine aX it (by rfl) (FK (fun h=>g7 ?_) fun h=>?_)
 . refine aX it (by rfl) (lu (by omega) (aX it (by rfl) (zY (by omega) (DY hm0 hm1) (jo e (by rfl) ?_))));refine k _ _ (Int.fmod_nonneg_of_pos _ hm0) (Int.fmod_lt_of_pos _ hm0) ⟨_,_,_,List.getElem?_set_self hn,?_,hz,by omega⟩ Upd.set;rw[Int.fdiv_eq_ediv_of_nonneg _ (by omega)];exact Int.ediv_nonneg hx (by omega)
 . refine aX it (by rfl) (ij (jo e (by rfl) ?_));have e2:(st.set n (.lst ([D.int x,D.int y,D.int z].set 2 (.int (z+1)))))[n]?=some (.lst [.int x,.int y,.int (z+1)]):=List.getElem?_set_self hn;have it2:=a9 e2;refine aX it2 (by rfl) (lu (by decide) (aX it2 (by rfl) (fZ (kP (by decide) (by decide)) ?_)));generalize y.fmod 2147483647=y1;generalize 65539*(z+1)=p;refine ij (v9 (ij (v9 (fZ (pS (by decide) (by decide)) (v9 (lu (by decide) ?_))))));have u1:=Int.fmod_nonneg_of_pos ((y1+p+11)*48271) (show(0:Int)<2147483629 by decide);have u2:=Int.fmod_lt_of_pos ((y1+p+11)*48271) (show(0:Int)<2147483629 by decide);generalize((y1+p+11)*48271).fmod 2147483629=u at u1 u2⊢;refine fZ (kP (by omega) (by omega)) (v9 (lu (by decide) ?_));generalize(u*u).fmod 1999999973=u3;refine aX it2 (by rfl) (fZ (kP (by decide) (by decide)) ?_);generalize 39373*(z+1)=p2;refine ij ?_;generalize u3+p2=u4;refine fZ (pS (by decide) (by decide)) (v9 (lu (by decide) (v9 (zY (by decide) (by decide+kernel) (lu (by omega) ?_)))));exact k _ _ (Int.fmod_nonneg_of_pos _ hm0) (Int.fmod_lt_of_pos _ hm0) ⟨_,_,_,e2,hx,by omega,by omega⟩ Upd.set
def nY:cF:=fun ds st K=>∃(n:Nat) (b:Int),ds=[.ref n]/\Bx st n b/\b<=900000/\∀r st',r.natAbs<=1000000000000->Bx st' n (b+4)->Upd st n st'->K (.int r) st'
def lG:List Str:=["_law_source_here","_law_how"]
def yg:DS:=(aL (cJ 1 (aH cM (ae (ab 0) (ae (dC (.int 40)) ak))))
 (aL (eV (bz (az su (ab 1) (dC (.int 32)))) (cu (az oa (aH cM (ae (ab 0) (ae (dC (.int 7)) ak))) (dC (.int 3)))) dJ)
 (aL (eV (bz (az su (ab 1) (dC (.int 39)))) (cu (az oa (aH cM (ae (ab 0) (ae (dC (.int 41)) ak))) (dC (.int 20)))) dJ)
 (cu (az fM (az jq (az fM (aH cM (ae (ab 0) (ae (az qw (dC (.int 10)) (dC (.int 6))) ak))) (az qw (dC (.int 10)) (dC (.int 6)))) (aH cM (ae (ab 0) (ae (az qw (dC (.int 10)) (dC (.int 6))) ak)))) (az oa (dC (.int 1)) (az fM (dC (.int 2)) (aH cM (ae (ab 0) (ae (dC (.int 2)) ak))))))))))
theorem xi:∀ds st K,nY ds st K->ds.length=1/\yg {nx:=fun _ st'=>K .aI st',rt:=K} (a7 lG ds) st:=by
 rintro ds st K ⟨n,b,rfl,B,hb,k⟩;refine⟨rfl,?_⟩;refine⟨n,40,b,rfl,B,by omega,by decide,by decide,fun r0 st0 a0 a1 B0 U0=>?_⟩;refine FW (fun _=>g7 ?_) fun _=>?_
 . exact⟨n,7,_,rfl,B0,by omega,by decide,by decide,fun r1 st1 c0 c1 B1 U1=>n_ (k _ _ (by omega) (B1.mono (by omega)) (U0.trans U1))⟩
 refine FW (fun _=>g7 ?_) fun _=>?_
 . exact⟨n,41,_,rfl,B0,by omega,by decide,by decide,fun r1 st1 c0 c1 B1 U1=>n_ (k _ _ (by omega) (B1.mono (by omega)) (U0.trans U1))⟩
 have e6:(10:Int)^(6:Int).toNat=1000000:=by decide
 refine vf ⟨by decide,by decide,by decide⟩ ?_;rw[e6];refine⟨n,_,_,rfl,B0,by omega,by decide,by decide,fun r1 st1 c0 c1 B1 U1=>vf ⟨by decide,by decide,by decide⟩ ?_⟩;rw[e6];refine fZ (pS (by decide) (by decide)) (vf ⟨by decide,by decide,by decide⟩ ?_);rw[e6];refine⟨n,_,_,rfl,B1,by omega,by decide,by decide,fun r2 st2 d0 d1 B2 U2=>ij ?_⟩;refine⟨n,2,_,rfl,B2,by omega,by decide,by decide,fun r3 st3 f0 f1 B3 U3=>fZ (kP (by decide) (by decide)) (n_ (fZ (pS (by omega) (by omega)) ?_))⟩;refine k _ _ ?_ (B3.mono (by omega)) (((U0.trans U1).trans U2).trans U3);have:r3=0\/r3=1:=by omega
 rcases this with rfl|rfl<;>omega
structure Dr(A:List (List Int))(N w:Nat):Prop where
 is:Mx.aT N w A
 n1:1<=N
 n8:N<=8
 w1:1<=w
 w8:w<=8
 bd:(N<=4/\∀i j,i<N->j<w->(Mx.g A i j).natAbs<=2^40)\/∀i j,i<N->j<w->(Mx.g A i j).natAbs<=2^6
def qD:cF:=fun ds st K=>∃(n:Nat) (b:Int),ds=[.ref n]/\Bx st n b/\b<=500000/\∀st' A N w,Dr A N w->XU st n st'->K (aB A) st'
def nH:List Str:=["_law_source_here","_law_great","_law_many","_law_wide","_law_rows_here","_law_k","_law_how","_law_row"]
def AQ:DS:=(aL (cJ 1 (az jY (aH cM (ae (ab 0) (ae (dC (.int 8)) ak))) (dC (.int 5))))
 (aL (yq 2 3 (ae (az jq (dC (.int 1)) (aH cM (ae (ab 0) (ae (dC (.int 4)) ak)))) (ae (az jq (dC (.int 1)) (aH cM (ae (ab 0) (ae (dC (.int 4)) ak)))) ak)))
 (aL (eV (bz (ab 1)) (yq 2 3 (ae (az jq (dC (.int 6)) (aH cM (ae (ab 0) (ae (dC (.int 3)) ak)))) (ae (az jq (dC (.int 6)) (aH cM (ae (ab 0) (ae (dC (.int 3)) ak)))) ak))) dJ)
 (aL (cJ 4 (uf ak))
 (aL (kE (du (ae (ab 2) ak)) (bP 5) (aL (cJ 6 (aH cM (ae (ab 0) (ae (dC (.int 8)) ak))))
 (aL (cJ 7 (De (bz (ab 1)) (dm (du (ae (ab 3) ak)) [none,some 0] (bP 0) cB (az oa (aH cM (ae (ab 1) (ae (dC (.int 5)) ak))) (dC (.int 2)))) (dm (du (ae (ab 3) ak)) [none,some 0] (bP 0) cB (aH nY (ae (ab 1) ak)))))
 (aL (eV (bz (az jY (ab 6) (dC (.int 0)))) (cJ 7 (az fM (BG (ae (dC (.int 0)) ak)) (ab 3))) dJ)
 (aL (eV (oX (bz (az jY (ab 6) (dC (.int 1)))) (bz (az oQ (ab 5) (dC (.int 0))))) (cJ 7 (dm (gn (az bV (ab 4) (aH cM (ae (ab 0) (ae (ab 5) ak))))) [none] (bP 0) cB (tG nj (ab 0)))) dJ)
 (aL (eV (oX (bz (az jY (ab 6) (dC (.int 2)))) (oX (bz (az oQ (ab 5) (dC (.int 1)))) (bz (ab 1)))) (cJ 7 (dm (vz (ae (az bV (ab 4) (dC (.int 0))) (ae (az bV (ab 4) (az oa (ab 5) (dC (.int 1)))) ak))) [none,none] (kU 0 1) cB (az oa (az fM (dC (.int 2)) (ab 0)) (ab 1)))) dJ)
 (fu (lO (ab 4) (bR d7 (ae (ab 7) ak))))))))))
 (cu (bR d7 (ae (ab 4) ak))))))))
theorem CI{A:List (List Int)}{N w M:Nat}(hA:Mx.aT N w A)(h:∀r∈A,∀x∈r,x.natAbs<=M):∀i j,i<N->j<w->(Mx.g A i j).natAbs<=M:=fun i j hi hj=>by
 have lA:=hA.len;have lr:=hA.row hi;unfold Mx.g;exact h _ (by rw[Mx.a8 (by omega)];exact List.getElem_mem _) _ (getD_mem (by omega))
def kH(g:Bool)(k:Nat):Nat:=if g then 2+4*k else 1000000000000
theorem zH:∀ds st K,qD ds st K->ds.length=1/\AQ {nx:=fun _ st'=>K .aI st',rt:=K} (a7 nH ds) st:=by
 rintro ds st K ⟨n,b,rfl,B,hb,k⟩;refine⟨rfl,?_⟩;refine⟨n,8,b,rfl,B,by omega,by decide,by decide,fun r0 st0 a0 a1 B0 U0=>vn rfl rfl ?_⟩;generalize cS (.int r0) (.int 5)=g;refine⟨n,4,_,rfl,B0,by omega,by decide,by decide,fun r1 st1 c0 c1 B1 U1=>ij ?_⟩;refine⟨n,4,_,rfl,B1,by omega,by decide,by decide,fun r2 st2 d0 d1 B2 U2=>ij ?_⟩;have U02:=(U0.trans U1).trans U2;try dsimp only[ak]
 refine jG (A:=eV _ _ _) (fun σ s=>∃N w:Nat,σ=[some (.ref n),some (.bl g),some (.int N),some (.int w),none,none,none,none]/\1<=N/\N<=8/\1<=w/\w<=8/\(g=false->N<=4)/\Bx s n (b+5)/\Upd st n s) (fun nx hnx=>?_) ?_
 . cases g with
   |true=>
    refine⟨n,3,_,rfl,B2,by omega,by decide,by decide,fun r3 st3 e0 e1 B3 U3=>ij ⟨n,3,_,rfl,B3,by omega,by decide,by decide,fun r4 st4 f0 f1 B4 U4=>ij ?_⟩⟩;obtain⟨i,rfl⟩:=Int.eq_ofNat_of_zero_le e0;obtain⟨j,rfl⟩:=Int.eq_ofNat_of_zero_le f0;exact hnx _ _ ⟨6+i,6+j,by simp[a7];rfl,by omega,by omega,by omega,by omega,fun z=>(by cases z),B4.mono (by omega),(U02.trans U3).trans U4⟩
   |false=>
    obtain⟨i,rfl⟩:=Int.eq_ofNat_of_zero_le c0;obtain⟨j,rfl⟩:=Int.eq_ofNat_of_zero_le d0;exact hnx _ _ ⟨1+i,1+j,by simp[a7];rfl,by omega,by omega,by omega,by omega,fun _=>by omega,B2.mono (by omega),U02⟩
 clear B0 U0 B1 U1 B2 U2 U02;rintro _ st3 ⟨N,w,rfl,n1,n8,w1,w8,hg,B3,U3⟩;refine⟨Nat.le_of_ble_eq_true rfl,?_⟩;have nl:=B3.lt;have l3:=U3.len;have X3:Ext st3 (st3++[Cell.lst []]):=Ext.push;have e3:(st3++[Cell.lst []])[st3.length]?=some (.lst (([]:List (List Int)).map bO)):=by simp
 have B3':Bx (st3++[Cell.lst []]) n (b+5):=B3.cell (X3.same n nl);have XU3:XU st n (st3++[Cell.lst []]):=(XU.upd U3).trans (XU.ext X3);generalize st3.length=m at e3 nl l3;generalize st3++[Cell.lst []]=st4 at e3 B3' XU3;clear B3 U3 X3;refine eJ ⟨by omega,by omega⟩ ?_;rw[Int.toNat_natCast];have mono:kH g 0<=kH g N:=by unfold kH;split<;>omega
 refine jz N (fun q σ st'=>∃(A:List (List Int)) (v5 v6 v7:Option D),σ=[some (.ref n),some (.bl g),some (.int N),some (.int w),some (.ref m),v5,v6,v7]/\A.length=q/\(∀r∈A,r.length=w)/\(∀r∈A,∀x∈r,x.natAbs<=kH g q)/\(g=true->∀x∈A.getD 0 [],x.natAbs<=2)/\st'[m]?=some (.lst (A.map bO))/\Bx st' n (b+5+100*q)/\XU st n st') ?_ ?_ ⟨[],none,none,none,rfl,rfl,by simp,by simp,by simp,e3,B3'.mono (by omega),XU3⟩
 . rintro σ st' ⟨A,v5,v6,v7,rfl,lA,wA,bA,_,e,_,X⟩;refine dA (a9 e) (k st' A N w ⟨⟨lA,wA⟩,n1,n8,w1,w8,?_⟩ X);cases g with
   |true=>exact .inr fun i j hi hj=>Nat.le_trans (CI ⟨lA,wA⟩ bA i j hi hj) (by unfold kH;rw[if_pos rfl];omega)
   |false=>exact .inl ⟨hg rfl,fun i j hi hj=>Nat.le_trans (CI ⟨lA,wA⟩ bA i j hi hj) (by unfold kH;rw[if_neg Bool.false_ne_true];decide)⟩
 . clear e3 B3' XU3 st4;rintro q σ st4 rest hq ⟨A,v5,v6,v7,rfl,lA,wA,bA,b0,e4,B4,X4⟩ next
   have mn:m≠n:=by omega
   refine⟨_,rfl,n,8,_,rfl,B4,by omega,by decide,by decide,fun how st5 h0 h1 B5 U5=>?_⟩;have e5:st5[m]?=some (.lst (A.map bO)):=(U5.same m mn).trans e4;have X5:=X4.trans (XU.upd U5);dsimp only;refine jG (A:=cJ 7 _) (fun σ s=>∃r:List Int,σ=[some (.ref n),some (.bl g),some (.int N),some (.int w),some (.ref m),some (.int q),some (.int how),some (bf r)]/\r.length=w/\(∀x∈r,x.natAbs<=kH g 0)/\Bx s n (b+5+100*q+50)/\Upd st5 n s) (fun nx hnx=>?_) ?_
   . cases g with
     |true=>
      refine eJ ⟨by omega,by omega⟩ ⟨cy (by rw[dq];omega),?_⟩;rw[Int.toNat_natCast];refine gc (fun rest acc st'=>∃r:List Int,acc=aJ r/\r.length+rest.length=w/\(∀x∈r,x.natAbs<=2)/\Bx st' n (b+5+100*q+1+r.length)/\Upd st5 n st') ?_ ?_ _ _ _ ⟨[],rfl,by rw[dq];simp,by simp,B5.mono (by simp),Upd.refl⟩
      . rintro acc st6 ⟨r,rfl,hr,br,B6,U6⟩;have hr:r.length=w:=by simpa using hr
        exact⟨trivial,hnx _ _ ⟨r,rfl,hr,br,B6.mono (by omega),U6⟩⟩
      . rintro x rest2 acc st6 ⟨r,rfl,hr,br,B6,U6⟩ next2;have hr2:r.length<w:=by simp at hr;omega
        refine⟨trivial,_,rfl,n,5,_,rfl,B6,by omega,by decide,by decide,fun y st7 y0 y1 B7 U7=>n_ ?_⟩;show c9 _ _ _ _ _ _ _ _ _;rw[ints_app];refine next2 _ _ ⟨r++[y-2],rfl,by simp at hr⊢;omega,fun x hx=>?_,B7.mono (by simp;omega),U6.trans U7⟩;rcases List.mem_append.mp hx with h|h
        . exact br x h
        . rw[List.mem_singleton.mp h];omega
     |false=>
      refine eJ ⟨by omega,by omega⟩ ⟨cy (by rw[dq];omega),?_⟩;rw[Int.toNat_natCast];refine gc (fun rest acc st'=>∃r:List Int,acc=aJ r/\r.length+rest.length=w/\(∀x∈r,x.natAbs<=1000000000000)/\Bx st' n (b+5+100*q+1+4*r.length)/\Upd st5 n st') ?_ ?_ _ _ _ ⟨[],rfl,by rw[dq];simp,by simp,B5.mono (by simp),Upd.refl⟩
      . rintro acc st6 ⟨r,rfl,hr,br,B6,U6⟩;have hr:r.length=w:=by simpa using hr
        exact⟨trivial,hnx _ _ ⟨r,rfl,hr,br,B6.mono (by omega),U6⟩⟩
      . rintro x rest2 acc st6 ⟨r,rfl,hr,br,B6,U6⟩ next2;have hr2:r.length<w:=by simp at hr;omega
        refine⟨trivial,_,rfl,n,_,rfl,B6,by omega,fun y st7 hy B7 U7=>?_⟩;show c9 _ _ _ _ _ _ _ _ _;rw[ints_app];refine next2 _ _ ⟨r++[y],rfl,by simp at hr⊢;omega,fun x hx=>?_,B7.mono (by simp;omega),U6.trans U7⟩;rcases List.mem_append.mp hx with h|h
        . exact br x h
        . rw[List.mem_singleton.mp h];exact hy
   rintro _ st6 ⟨r,rfl,lr,br,B6,U6⟩;have e6:st6[m]?=some (.lst (A.map bO)):=(U6.same m mn).trans e5;have X6:=X5.trans (XU.upd U6);have up1:kH g q<=kH g (q+1):=by unfold kH;split<;>omega
   have up0:kH g 0<=kH g (q+1):=by unfold kH;split<;>omega
   clear B5 U5 e5 X5 B4 e4 X4 U6;refine jG (A:=eV _ _ _) (fun σ s=>st6=s/\∃r:List Int,σ=[some (.ref n),some (.bl g),some (.int N),some (.int w),some (.ref m),some (.int q),some (.int how),some (bf r)]/\r.length=w/\∀x∈r,x.natAbs<=kH g 0) (fun nx hnx=>?_) ?_
   . refine eq2 (fun h=>g7 ?_) fun h=>hnx _ _ ⟨rfl,r,rfl,lr,br⟩;refine MO (Nat.le_of_ble_eq_true rfl) (Ak ⟨by omega,by omega,cy (by simp;omega)⟩ ?_);rw[Int.toNat_natCast,zl];exact hnx _ _ ⟨rfl,List.replicate w 0,rfl,by simp,fun x hx=>by rw[List.eq_of_mem_replicate hx];exact Nat.zero_le _⟩
   clear lr br r;rintro _ _ ⟨rfl,r,rfl,lr,br⟩;refine jG (A:=eV _ _ _) (fun σ s=>∃r:List Int,σ=[some (.ref n),some (.bl g),some (.int N),some (.int w),some (.ref m),some (.int q),some (.int how),some (bf r)]/\r.length=w/\(∀x∈r,x.natAbs<=kH g (q+1))/\(q=0->∀x∈r,x.natAbs<=kH g 0)/\s[m]?=some (.lst (A.map bO))/\Bx s n (b+5+100*q+60)/\XU st n s) (fun nx hnx=>?_) ?_
   . have old:=hnx _ _ ⟨r,rfl,lr,fun x hx=>Nat.le_trans (br x hx) up0,fun _=>br,e6,B6.mono (by omega),X6⟩;refine eq2 (fun h=>g7 (FK (fun h2=>g7 ?_) fun _=>old)) fun _=>old;refine⟨n,(q:Int),_,rfl,B6,by omega,by omega,by omega,fun y st7 y0 y1 B7 U7=>?_⟩;obtain⟨i,rfl⟩:=Int.eq_ofNat_of_zero_le y0;have hi:i<A.length:=by omega
     have e7:st7[m]?=some (.lst (A.map bO)):=(U7.same m mn).trans e6;have hmem:A.getD i []∈A:=by rw[Mx.a8 hi];exact List.getElem_mem _
     refine aX (a9 e7) (i6 hi) (i7 ⟨cy (by rw[List.length_map,wA _ hmem];omega),?_⟩);refine comp_map (g:=fun d=>match d with| .int x=> .int (-x)|_=> .aI) trivial _ (fun d hd K' q=>?_) ?_
     . obtain⟨a,_,rfl⟩:=List.mem_map.mp hd;exact⟨_,rfl,oB q⟩
     have em:(aJ (A.getD i [])).map (fun d=>match d with| .int x=>D.int (-x)|_=> .aI)=aJ ((A.getD i []).map fun x=> -x):=by
      unfold aJ;rw[List.map_map,List.map_map];rfl
     rw[em];refine hnx _ _ ⟨(A.getD i []).map fun x=> -x,rfl,by rw[List.length_map];exact wA _ hmem,fun x hx=>?_,fun z=>by omega,e7,B7.mono (by omega),X6.trans (XU.upd U7)⟩;obtain⟨y,hy,rfl⟩:=List.mem_map.mp hx;rw[Int.natAbs_neg];exact Nat.le_trans (bA _ hmem y hy) up1
   clear lr br r B6 e6 X6;rintro _ st7 ⟨r,rfl,lr,br,br0,e7,B7,X7⟩;refine jG (A:=eV _ _ _) (fun σ s=>st7=s/\∃r:List Int,σ=[some (.ref n),some (.bl g),some (.int N),some (.int w),some (.ref m),some (.int q),some (.int how),some (bf r)]/\r.length=w/\(∀x∈r,x.natAbs<=kH g (q+1))/\(q=0->∀x∈r,x.natAbs<=kH g 0)) (fun nx hnx=>?_) ?_
   . have old:=hnx _ _ ⟨rfl,r,rfl,lr,br,br0⟩;refine eq2 (fun h=>g7 (FK (fun h2=>g7 ?_) fun _=>old)) fun _=>old;cases g with
     |false=>exact old
     |true=>
      have i0:0<A.length:=by omega
      have i1:q-1<A.length:=by omega
      have m0:A.getD 0 []∈A:=by rw[Mx.a8 i0];exact List.getElem_mem _
      have m1:A.getD (q-1) []∈A:=by rw[Mx.a8 i1];exact List.getElem_mem _
      refine aX (a9 e7) (i6 (j:=0) i0) (n_ ?_);rw[show(q:Int)-1=((q-1:Nat):Int) by omega];refine aX (a9 e7) (i6 i1) (uK rfl rfl fun ok aK=>⟨cy (by rw[qh,List.length_map,List.length_map,wA _ m0,wA _ m1];omega),?_⟩);refine comp_map (g:=fun d=>match d with| .tup [.int a,.int c]=> .int (2*a-c)|_=> .aI) (aK st7 rfl rfl) _ (fun d hd K' q=>?_) ?_
      . obtain⟨a,c,_,_,rfl⟩:=zj hd;exact⟨_,rfl,fZ (kP (by decide) (by decide)) (n_ q)⟩
      have em:∀u v:List Int,(ik (aJ u) (aJ v)).map (fun d=>match d with| .tup [.int a,.int c]=>D.int (2*a-c)|_=> .aI)=aJ (List.zipWith (fun a c=>2*a-c) u v):=fun u=>by
       induction u with
       |nil=>intro v;rfl
       |cons a u ih=>
        intro v;cases v with
        |nil=>rfl
        |cons c v=>
         have hz:ik (aJ (a::u)) (aJ (c::v))= .tup [.int a,.int c]::ik (aJ u) (aJ v):=rfl;rw[hz,List.map_cons,ih v];rfl
      rw[em];refine hnx _ _ ⟨rfl,List.zipWith (fun a c=>2*a-c) (A.getD 0 []) (A.getD (q-1) []),rfl,by rw[List.length_zipWith,wA _ m0,wA _ m1];omega,fun x hx=>?_,fun z=>by omega⟩;obtain⟨i,hi,rfl⟩:=List.mem_iff_getElem.mp hx;rw[List.length_zipWith]at hi;rw[List.getElem_zipWith];have z0:=b0 rfl _ (List.getElem_mem (show i<(A.getD 0 []).length by omega));have z1:=bA _ m1 _ (List.getElem_mem (show i<(A.getD (q-1) []).length by omega));unfold kH at z1⊢;rw[if_pos rfl]at z1⊢;omega
   clear lr br br0 r;rintro _ _ ⟨rfl,r,rfl,lr,br,br0⟩;refine yR (by rfl) e7 (dA rfl (vD e7 (by rw[sizeLine_eq,List.length_map];omega) ?_));rw[Eu];have hm:=(List.getElem?_eq_some_iff.mp e7).1;have lA':st.length<=m:=by omega
   refine next _ _ ⟨A++[r],_,_,_,rfl,by simp[lA],fun s hs=>?_,fun s hs=>?_,fun hgt=>?_,List.getElem?_set_self hm,(B7.cell (List.getElem?_set_ne mn)).mono (by omega),X7.set lA'⟩
   . rcases List.mem_append.mp hs with h|h
     . exact wA s h
     . rw[List.mem_singleton.mp h];exact lr
   . rcases List.mem_append.mp hs with h|h
     . exact fun x hx=>Nat.le_trans (bA s h x hx) up1
     . rw[List.mem_singleton.mp h];exact br
   . by_cases z:q=0
     . have:A=[]:=List.eq_nil_of_length_eq_zero (by omega);subst this;intro x hx;have:=br0 z x hx;unfold kH at this;rw[if_pos hgt]at this;omega
     . have:(A++[r]).getD 0 []=A.getD 0 []:=by rw[List.getD_eq_getElem?_getD,List.getElem?_append_left (by omega),<-List.getD_eq_getElem?_getD]
       rw[this];exact b0 hgt
def gu:cF:=fun ds st K=>∃(A B:List (List Int)) (N p w a b:Nat),ds=[aB A,aB B]/\Mx.aT N p A/\Mx.aT p w B/\1<=p/\N<=8/\p<=8/\w<=8/\Le A N p a/\Le B p w b/\a+b<=130000000/\∀st',Ext st st'->K (aB (Mx.mulM A B w)) st'
def kq:List Str:=["_law_one","_law_other","_law_made","_law_row"]
def xk:DS:=(aL (cJ 2 (uf ak))
 (aL (kE (gn (ab 0)) (bP 3) (fu (lO (ab 2) (bR d7 (ae (dm (du (ae (bR eQ (ae (az bV (ab 1) (dC (.int 0))) ak)) ak)) [none,some 3,some 1] (bP 0) cB (bR x6 (ae (dm (vz (ae (ab 1) (ae (ab 2) ak))) [none,none,some 0] (kU 0 1) cB (az fM (ab 0) (az bV (ab 1) (ab 2)))) ak))) ak)))))
 (cu (bR d7 (ae (ab 2) ak)))))
theorem FY{F:List (List Int)}{i:Nat}{d:D}{rest:List D}(hr:d::rest=(F.map bO).drop i):i<F.length/\d=bO (F.getD i [])/\rest=(F.map bO).drop (i+1):=by
 have hi:i<F.length:=by
  rcases Nat.lt_or_ge i F.length with h|h
  . exact h
  . rw[List.drop_eq_nil_of_le (by rw[List.length_map];exact h)]at hr;cases hr
 rw[List.drop_eq_getElem_cons (by rw[List.length_map];exact hi),List.getElem_map]at hr;obtain⟨h1,h2⟩:=List.cons.inj hr;exact⟨hi,by rw[Mx.a8 hi];exact h1,h2⟩
theorem Lr{F:List (List Int)}{i:Nat}(hr: []=(F.map bO).drop i):F.length<=i:=by
 have:=congrArg List.length hr;rw[List.length_drop,List.length_map,List.length_nil]at this;omega
theorem Ke{k:Nat}:∀(r:List Int) (B:List (List Int)),r.length=B.length->(List.zipWith (fun a q=>a*List.getD q k 0) r B).sum=Mx.S B.length fun j=>r.getD j 0*Mx.g B j k
 | [],[],_=>rfl
 | [],_::_,h=>by cases h
 |_::_,[],h=>by cases h
 |a::r,q::B,h=>by
  rw[List.zipWith_cons_cons,List.sum_cons,Ke r B (by simpa using h),List.length_cons,Mx.yP];rfl
theorem zm{X:List (List Int)}{N w i:Nat}(hX:Mx.aT N w X)(hi:i<N):(List.range w).map (fun k=>Mx.g X i k)=X.getD i []:=Mx.zS (by simp) (hX.row hi) fun j hj=>by
 rw[Mx.a8 (by simpa using hj),List.getElem_map,List.getElem_range];rfl
theorem qU{X:List (List Int)}{i:Nat}(h:i<X.length):(X.take i).map bO++[bO (X.getD i [])]=(X.take (i+1)).map bO:=by
 rw[List.take_succ,List.getElem?_eq_getElem h,Mx.a8 h,List.map_append];rfl
theorem vF:∀ds st K,gu ds st K->ds.length=2/\xk {nx:=fun _ st'=>K .aI st',rt:=K} (a7 kq ds) st:=by
 rintro ds st K ⟨A,B,N,p,w,a,b,rfl,iA,iB,p1,n8,p8,w8,sA,sB,hab,k⟩;refine⟨rfl,Nat.le_of_ble_eq_true rfl,?_⟩;have lA:=iA.len;have lB:=iB.len;have iM:=Mx.bM iA iB;have lM:=iM.len;refine i7 ?_;refine ma (fun rest σ st'=>∃(i:Nat) (v3:Option D),i<=N/\rest=(A.map bO).drop i/\σ=[some (aB A),some (aB B),some (.ref st.length),v3]/\Ext st st'/\st'[st.length]?=some (.lst (((Mx.mulM A B w).take i).map bO))) ?_ ?_ _ _ _ ⟨0,none,Nat.zero_le _,rfl,rfl,Ext.push,by simp⟩
 . rintro σ st' ⟨i,v3,hi,hrest,rfl,X,e⟩;have:=Lr hrest;rw[List.take_of_length_le (by omega)]at e;exact⟨trivial,dA (a9 e) (k st' X)⟩
 . rintro d rest σ st' ⟨i,v3,hi,hrest,rfl,X,e⟩ next
   obtain⟨hiA,rfl,rfl⟩:=FY hrest;have him:i<N:=by omega
   have lr:=iA.row him;refine⟨trivial,_,rfl,yR (by rfl) e (aX rfl (i6 (j:=0) (by omega)) (c8 rfl ?_))⟩;rw[List.length_map,iB.row (i:=0) (by omega)];refine eJ ⟨by omega,by omega⟩ ⟨cy (by rw[dq];omega),?_⟩;rw[Int.toNat_natCast];refine gS (fun j=> .int (Mx.g (Mx.mulM A B w) i j)) w (fun j hj K' q=>⟨_,rfl,?_⟩) ?_
   . refine uK rfl rfl fun ok aK=>⟨cy (by rw[qh,List.length_map,List.length_map];omega),?_⟩
     refine gc (fun rest acc st2=>st'=st2/\∃(r':List Int) (B':List (List Int)) (R:List Int),rest=ik (aJ r') (B'.map bO)/\(∀c∈r',c∈A.getD i [])/\(∀c∈B',c∈B)/\acc=aJ R/\R++List.zipWith (fun a q=>a*List.getD q j 0) r' B'=List.zipWith (fun a q=>a*List.getD q j 0) (A.getD i []) B) ?_ ?_ _ _ _ ⟨rfl,A.getD i [],B,[],rfl,fun _ h=>h,fun _ h=>h,rfl,rfl⟩
     . rintro acc st2 ⟨rfl,r',B',R,he,_,_,rfl,hs⟩
       have e0:List.zipWith (fun a q=>a*List.getD q j 0) r' B'=[]:=by
        match r',B',he with
        | [],_,_=>rfl
        |_::_,[],_=>rfl
        |_::_,_::_,he=>cases he
       rw[e0,List.append_nil]at hs;refine⟨aK _ rfl rfl,Ji (ints_map _) ?_⟩;rw[hs,Ke _ _ (by omega),lB];have:=Mx.e_ iA iB him j;rw[this]at q;exact q
     . rintro d rest acc st2 ⟨rfl,r',B',R,he,h1,h2,rfl,hs⟩ next2;match r',B',he,h1,h2,hs with
       | [],_,he,_,_,_=>cases he
       |_::_,[],he,_,_,_=>cases he
       |c::r',v::B',he,h1,h2,hs=>
        have hz:ik (aJ (c::r')) ((v::B').map bO)= .tup [.int c,bO v]::ik (aJ r') (B'.map bO):=rfl;rw[hz,List.cons.injEq]at he;obtain⟨rfl,rfl⟩:=he;have hv:=h2 v List.mem_cons_self;have lv:=iB.kO v hv;have hmem:A.getD i []∈A:=by rw[Mx.a8 hiA];exact List.getElem_mem _
        refine⟨aK _ rfl rfl,_,rfl,aX rfl (kI (by omega)) (fZ (lP (sA.mem iA _ hmem c (h1 c List.mem_cons_self)) (sB.mem iB v hv _ (getD_mem (by omega))) hab) ?_)⟩;show c9 _ _ _ _ _ _ _ _ _;rw[ints_app];exact next2 _ _ ⟨rfl,r',B',_,rfl,fun z hz=>h1 z (List.mem_cons_of_mem _ hz),fun z hz=>h2 z (List.mem_cons_of_mem _ hz),rfl,by rw[<-hs];simp⟩
   . refine dA rfl (vD e (by rw[sizeLine_eq,List.length_map,List.length_take];omega) ?_)
     have er:(List.range w).map (fun j=>D.int (Mx.g (Mx.mulM A B w) i j))=aJ ((Mx.mulM A B w).getD i []):=by
      rw[<-zm iM him];unfold aJ;rw[List.map_map];rfl
     rw[er,qU (by omega)];exact next _ _ ⟨i+1,_,him,rfl,rfl,X.set (Nat.le_refl _),List.getElem?_set_self (List.getElem?_eq_some_iff.mp e).1⟩
def mH:cF:=fun ds st K=>∃n:Nat,ds=[.int n]/\n<=8/\K (aB (Mx.units n)) st
def mI:List Str:=["_law_n"]
def zN:DS:=(cu (bR d7 (ae (dm (du (ae (ab 0) ak)) [none,some 0] (bP 0) cB (bR d7 (ae (dm (du (ae (ab 1) ak)) [none,some 0] (bP 0) cB (bR um (ae (az jY (ab 1) (ab 0)) ak))) ak))) ak)))
theorem GW{n w:Nat}{f:Nat->Nat->Int}:(List.range n).map (fun i=>D.tup ((List.range w).map fun j=>D.int (f i j)))=(Mx.oC n w f).map bO:=by
 unfold Mx.oC;rw[List.map_map];refine List.map_congr_left fun i _=>?_;show D.tup _=bO _;unfold bO aJ;rw[List.map_map];rfl
theorem yh:∀ds st K,mH ds st K->ds.length=1/\zN {nx:=fun _ st'=>K .aI st',rt:=K} (a7 mI ds) st:=by
 rintro ds st K ⟨n,rfl,n8,k⟩;refine⟨rfl,?_⟩;refine eJ ⟨by omega,by omega⟩ ⟨cy (by rw[dq];omega),?_⟩;rw[Int.toNat_natCast];refine gS (fun i=> .tup ((List.range n).map fun j=>D.int (Mx.dl i j))) n (fun i hi K' q=>⟨_,rfl,?_⟩) ?_
 . refine eJ ⟨by omega,by omega⟩ ⟨cy (by rw[dq];omega),?_⟩;rw[Int.toNat_natCast];refine gS (fun j=> .int (Mx.dl i j)) n (fun j hj K' q=>⟨_,rfl,?_⟩) (dA rfl q);refine eq2 (fun h=>vM ?_) fun h=>vM ?_
   . rw[show Mx.dl i j=1 by rw[show i=j by omega];exact Mx.bD j]at q;exact q
   . rw[Mx.bx (by omega)]at q;exact q
 . refine dA rfl ?_;rw[GW];have e:Mx.oC n n (fun i j=>Mx.dl i j)=Mx.units n:=Mx.uY.ext (Mx.cj n) fun i j hi hj=>by rw[Mx.sJ hi hj,Mx.cV hi hj]
   rw[e];exact k
def ph:cF:=fun ds st K=>∃(ns:List Int) (N w:Nat),ds=[bO ns,.int N,.int w]/\N<=8/\w<=8/\ns.length<=8/\∀st',Ext st st'->K (aB (Mx.oC N w fun i j=>if i=j/\i<ns.length then ns.getD i 0 else 0)) st'
def mw:List Str:=["_law_numbers","_law_many","_law_wide","_law_rows_here","_law_i"]
def zE:DS:=(aL (cJ 3 (uf ak))
 (aL (kE (du (ae (ab 1) ak)) (bP 4) (fu (lO (ab 3) (bR d7 (ae (dm (du (ae (ab 2) ak)) [none,some 4,some 0] (bP 0) cB (De (oX (bz (az jY (ab 1) (ab 0))) (bz (az su (ab 1) (bR eQ (ae (ab 2) ak))))) (az bV (ab 2) (ab 1)) (dC (.int 0)))) ak)))))
 (cu (bR d7 (ae (ab 3) ak)))))
theorem x8:∀ds st K,ph ds st K->ds.length=3/\zE {nx:=fun _ st'=>K .aI st',rt:=K} (a7 mw ds) st:=by
 rintro ds st K ⟨ns,N,w,rfl,n8,w8,l8,k⟩;refine⟨rfl,Nat.le_of_ble_eq_true rfl,?_⟩;generalize hM:Mx.oC N w (fun i j=>if i=j/\i<ns.length then ns.getD i 0 else 0)=M at k;have iM:Mx.aT N w M:=by rw[<-hM];exact Mx.uY
 have lM:=iM.len;refine eJ ⟨by omega,by omega⟩ ?_;rw[Int.toNat_natCast];refine jz N (fun i σ st'=>∃v4:Option D,σ=[some (bO ns),some (.int N),some (.int w),some (.ref st.length),v4]/\Ext st st'/\st'[st.length]?=some (.lst ((M.take i).map bO))) ?_ ?_ ⟨none,rfl,Ext.push,by simp⟩
 . rintro σ st' ⟨v4,rfl,X,e⟩;rw[List.take_of_length_le (by omega)]at e;exact dA (a9 e) (k st' X)
 . rintro i σ st' rest hi ⟨v4,rfl,X,e⟩ next
   refine⟨_,rfl,yR (by rfl) e (eJ ⟨by omega,by omega⟩ ⟨cy (by rw[dq];omega),?_⟩)⟩;rw[Int.toNat_natCast];refine gS (fun j=> .int (Mx.g M i j)) w (fun j hj K' q=>⟨_,rfl,?_⟩) ?_
   . rw[<-hM,Mx.sJ hi hj]at q;refine eq2 (fun h=>g7 (c8 rfl ?_)) fun h=>?_
     . rw[List.length_map];refine FW (fun h2=>g7 ?_) fun h2=>?_
       . rw[if_pos ⟨by omega,by omega⟩]at q;exact aX rfl (kI (by omega)) q
       . rw[if_neg (by omega)]at q;exact q
     . rw[if_neg (by omega)]at q;exact q
   . refine dA rfl (vD e (by rw[sizeLine_eq,List.length_map,List.length_take];omega) ?_)
     have er:(List.range w).map (fun j=>D.int (Mx.g M i j))=aJ (M.getD i []):=by
      rw[<-zm iM hi];unfold aJ;rw[List.map_map];rfl
     rw[er,qU (by omega)];exact next _ _ ⟨_,rfl,X.set (Nat.le_refl _),List.getElem?_set_self (List.getElem?_eq_some_iff.mp e).1⟩
def la:cF:=fun ds st K=>∃x:Int,ds=[.int x]/\K (.bl true) st
def jh:List Str:=["_law_found"]
def uM:DS:=(cu (xR (bR pd (ae (ab 0) (ae (dC (.ty "int")) ak))) (Be (bz (bR pd (ae (ab 0) (ae (dC (.ty "bool")) ak)))))))
theorem uE:∀ds st K,la ds st K->ds.length=1/\uM {nx:=fun _ st'=>K .aI st',rt:=K} (a7 jh ds) st:=by
 rintro ds st K ⟨x,rfl,k⟩;exact⟨rfl,pJ rfl (by decide) (pJ rfl (by decide) k)⟩
def ia:cF:=fun ds st K=>∃(X:List (List Int)) (N w:Nat),ds=[aB X,.int N,.int w]/\Mx.aT N w X/\N<=8/\w<=8/\K (.bl true) st
def jX:List Str:=["_law_found","_law_many","_law_wide","_law_row"]
def vU:DS:=(aL (eV (nc (gZ (bz (bR pd (ae (ab 0) (ae (dC (.ty "tuple")) ak))))) (bz (az oY (bR eQ (ae (ab 0) ak)) (ab 1)))) (cu (dC (.bl false))) dJ)
 (aL (kE (gn (ab 0)) (bP 3) (eV (nc (gZ (bz (bR pd (ae (ab 3) (ae (dC (.ty "tuple")) ak))))) (nc (bz (az oY (bR eQ (ae (ab 3) ak)) (ab 2))) (gZ (bz (bR tX (ae (dm (gn (ab 3)) [none] (bP 0) cB (aH la (ae (ab 0) ak))) ak)))))) (cu (dC (.bl false))) dJ))
 (cu (dC (.bl true)))))
theorem vO:∀l:List D,gX (l.map fun _=>D.bl true)=some (l.map fun _=>true)
 | []=>rfl
 |_::l=>by simp[gX,vO l]
theorem FZ(l:List D):(l.map fun _=>true).all id=true:=by simp
theorem uH:∀ds st K,ia ds st K->ds.length=3/\vU {nx:=fun _ st'=>K .aI st',rt:=K} (a7 jX ds) st:=by
 rintro ds st K ⟨X,N,w,rfl,iX,n8,w8,k⟩;refine⟨rfl,?_⟩;have lX:=iX.len;refine pJ rfl (by decide) (c8 rfl (Cf (by rw[List.length_map,lX]) ?_));refine i7 ?_;refine ma (fun rest σ st'=>st=st'/\∃(i:Nat) (v3:Option D),i<=N/\rest=(X.map bO).drop i/\σ=[some (aB X),some (.int N),some (.int w),v3]) ?_ ?_ _ _ _ ⟨rfl,0,none,Nat.zero_le _,rfl,rfl⟩
 . rintro σ st' ⟨rfl,i,v3,_,_,rfl⟩;exact⟨trivial,k⟩
 . rintro d rest σ st' ⟨rfl,i,v3,hi,hrest,rfl⟩ next
   obtain⟨hiX,rfl,rfl⟩:=FY hrest;have lr:=iX.row (i:=i) (by omega);refine⟨trivial,_,rfl,pJ rfl (by decide) (c8 rfl (Cf (by rw[List.length_map,lr]) (i7 ⟨cy (by rw[List.length_map];omega),?_⟩)))⟩;refine comp_map (g:=fun _=> .bl true) trivial _ (fun d hd K' q=>?_) ?_
   . obtain⟨a,_,rfl⟩:=List.mem_map.mp hd;exact⟨_,rfl,a,rfl,q⟩
   refine yB (vO (aJ (X.getD i []))) ?_;rw[FZ];exact next _ _ ⟨rfl,i+1,_,by omega,rfl,rfl⟩
def jf:cF:=fun ds st K=>∃(T Tb:List (List Int)) (n x:Nat),ds=[aB T,aB Tb,.int n]/\Mx.aT n n T/\Mx.aT n n Tb/\1<=n/\n<=8/\Le T n n x/\Le Tb n n x/\2*x<=130000000/\Mx.mulM T Tb n=Mx.units n/\Mx.mulM Tb T n=Mx.units n/\∀st',Ext st st'->K (.bl true) st'
def jj:List Str:=["_law_turn","_law_back","_law_n"]
def vp:DS:=(aL (eV (nc (gZ (bz (aH ia (ae (ab 0) (ae (ab 2) (ae (ab 2) ak)))))) (gZ (bz (aH ia (ae (ab 1) (ae (ab 2) (ae (ab 2) ak))))))) (cu (dC (.bl false))) dJ)
 (cu (xR (az jY (aH gu (ae (ab 0) (ae (ab 1) ak))) (aH mH (ae (ab 2) ak))) (az jY (aH gu (ae (ab 1) (ae (ab 0) ak))) (aH mH (ae (ab 2) ak))))))
theorem iI{n:Nat}{A:List (List Int)}:pl (n+2) (aB A)=true:=by
 unfold pl;refine List.all_eq_true.mpr fun d hd=>?_;obtain⟨r,_,rfl⟩:=List.mem_map.mp hd;unfold pl;exact As
theorem uy:∀ds st K,jf ds st K->ds.length=3/\vp {nx:=fun _ st'=>K .aI st',rt:=K} (a7 jj ds) st:=by
 rintro ds st K ⟨T,Tb,n,x,rfl,iT,iTb,n1,n8,sT,sTb,hx,e1,e2,k⟩;refine⟨rfl,?_⟩;refine⟨T,n,n,rfl,iT,n8,n8,⟨Tb,n,n,rfl,iTb,n8,n8,?_⟩⟩;refine⟨T,Tb,n,n,n,x,x,rfl,iT,iTb,n1,n8,n8,n8,sT,sTb,by omega,fun st1 X1=>⟨n,rfl,n8,?_⟩⟩;rw[e1];refine vn iI iI ?_;rw[mj 40 _ iI];refine g7 ⟨Tb,T,n,n,n,x,x,rfl,iTb,iT,n1,n8,n8,n8,sTb,sT,by omega,fun st2 X2=>⟨n,rfl,n8,?_⟩⟩;rw[e2];refine vn iI iI ?_;rw[mj 40 _ iI];exact k st2 (X1.trans X2)
def mq:cF:=fun ds st K=>∃(A B L Lb R Rb:List (List Int)) (N w r:Nat),ds=[aB A,.tup [bO (dg B r),aB L,aB Lb,aB R,aB Rb]]/\Dr A N w/\Dv A B L Lb R Rb N w r/\∀st',Ext st st'->K (.bl true) st'
def mG:List Str:=["_law_rows_here","_law_told","_law_numbers","_law_left","_law_left_back","_law_right_here","_law_right_back","_law_many","_law_wide"]
def zG:DS:=(aL (eV (nc (gZ (bz (bR pd (ae (ab 1) (ae (dC (.ty "tuple")) ak))))) (nc (bz (az oY (bR eQ (ae (ab 1) ak)) (dC (.int 5)))) (gZ (bz (bR pd (ae (az bV (ab 1) (dC (.int 0))) (ae (dC (.ty "tuple")) ak))))))) (cu (dC (.bl false))) dJ)
 (aL (eV (gZ (bz (aH ia (ae (x9 (ae (az bV (ab 1) (dC (.int 0))) ak)) (ae (dC (.int 1)) (ae (bR eQ (ae (az bV (ab 1) (dC (.int 0))) ak)) ak)))))) (cu (dC (.bl false))) dJ)
 (aL (Fi (va 2 3 4 5 6) (ab 1))
 (aL (yq 7 8 (ae (bR eQ (ae (ab 0) ak)) (ae (bR eQ (ae (az bV (ab 0) (dC (.int 0))) ak)) ak)))
 (aL (eV (nc (bz (az oQ (bR eQ (ae (ab 2) ak)) (bR vK (ae (ab 7) (ae (ab 8) ak))))) (gZ (bz (bR tX (ae (dm (gn (ab 2)) [none] (bP 0) cB (az oQ (ab 0) (dC (.int 0)))) ak))))) (cu (dC (.bl false))) dJ)
 (aL (eV (bz (bR zp (ae (dm (du (ae (az oa (bR eQ (ae (ab 2) ak)) (dC (.int 1))) ak)) [none,some 2] (bP 0) cB (az oY (az lZ (az bV (ab 1) (az jq (ab 0) (dC (.int 1)))) (az bV (ab 1) (ab 0))) (dC (.int 0)))) ak))) (cu (dC (.bl false))) dJ)
 (aL (eV (nc (gZ (bz (aH jf (ae (ab 3) (ae (ab 4) (ae (ab 7) ak)))))) (gZ (bz (aH jf (ae (ab 5) (ae (ab 6) (ae (ab 8) ak))))))) (cu (dC (.bl false))) dJ)
 (cu (az jY (aH gu (ae (aH gu (ae (ab 3) (ae (ab 0) ak))) (ae (ab 5) ak))) (aH ph (ae (ab 2) (ae (ab 7) (ae (ab 8) ak)))))))))))))
theorem AU{B:List (List Int)}{r q:Nat}(h:q<r):(dg B r).getD q 0=Mx.g B q q:=by
 unfold dg;rw[Mx.a8 (by simpa using h),List.getElem_map,List.getElem_range]
theorem yp:∀ds st K,mq ds st K->ds.length=2/\zG {nx:=fun _ st'=>K .aI st',rt:=K} (a7 mG ds) st:=by
 rintro ds st K ⟨A,B,L,Lb,R,Rb,N,w,r,rfl,dr,dv,k⟩;refine⟨rfl,?_⟩;have LB:=dv.lo;have S:=dv.sd;have rN:=LB.rN;have rW:=LB.rW;have n8:=dr.n8;have w8:=dr.w8;have n1:=dr.n1;have w1:=dr.w1;have lA:=dr.is.len;refine pJ rfl (by decide) (c8 rfl (Cf rfl (aX rfl rfl (pJ rfl (by decide) ?_))));refine aX rfl rfl ⟨Nat.le_of_ble_eq_true rfl,aX rfl rfl (c8 rfl ?_)⟩;rw[List.length_map,j_];refine⟨[dg B r],1,r,rfl,⟨rfl,fun q hq=>by rw[List.mem_singleton.mp hq];exact j_⟩,by decide,by omega,⟨_,rfl,?_⟩⟩;refine c8 rfl (aX rfl (i6 (j:=0) (by omega)) (c8 rfl ?_));rw[List.length_map,List.length_map,lA,dr.is.row (i:=0) (by omega)];refine c8 rfl (Cq ?_);rw[List.length_map,j_];refine ME (by split<;>omega) (i7 ⟨cy (by rw[List.length_map,j_];omega),?_⟩);refine comp_map (g:=fun _=> .bl true) trivial _ (fun d hd K' q=>?_) ?_
 . obtain⟨a,ha,rfl⟩:=List.mem_map.mp hd;unfold dg at ha;obtain⟨i,hi,rfl⟩:=List.mem_map.mp ha;exact⟨_,rfl,MJ (LB.pos i (List.mem_range.mp hi)) q⟩
 refine yB (vO (aJ (dg B r))) ?_;rw[FZ];refine pA ?_;dsimp only[dJ];refine c8 rfl (n_ ?_);rw[List.length_map,j_];refine eJ ⟨by omega,by omega⟩ ⟨cy (by rw[dq];omega),?_⟩;rw[show((r:Int)-1).toNat=r-1 by omega];refine gS (fun _=> .bl false) (r-1) (fun j hj K' q=>⟨_,rfl,?_⟩) ?_
 . refine ij ?_;rw[show(j:Int)+1=((j+1:Nat):Int) by omega];refine aX rfl (kI (by rw[j_];omega)) (aX rfl (kI (by rw[j_];omega)) ?_);rw[AU (by omega),AU (by omega)];have hp:=LB.pos j (by omega);refine lu (by omega) (Cf (Int.fmod_eq_zero_of_dvd (dv.ch j (j+1) (by omega) (by omega))) q)
 have ba:∀l:List Nat,gX (l.map fun _=>D.bl false)=some (l.map fun _=>false):=fun l=>by
  induction l with
  |nil=>rfl
  |cons a l ih=>rw[List.map_cons,List.map_cons];unfold gX;rw[ih];rfl
 refine Kh (ba _) ?_;have ea:((List.range (r-1)).map fun _=>false).any id=false:=by simp
 rw[ea];refine pA ?_;dsimp only[dJ];refine⟨L,Lb,N,62000000,rfl,S.iL,S.tS,n1,n8,S.sL,S.CL,by omega,S.l1,S.l2,fun st1 X1=>⟨R,Rb,w,62000000,rfl,S.iR,S.pF,w1,w8,S.sR,S.Dw,by omega,S.r1,S.r2,fun st2 X2=>?_⟩⟩
 have sA:Le A N w 40:=fun i j hi hj=>by
  rcases dr.bd with⟨_,h⟩|h
  . exact h i j hi hj
  . exact Mx.lj (h i j hi hj) (by decide)
 have iLA:=Mx.bM S.iL dr.is;have sLA:Le (Mx.mulM L A w) N w (62000000+40+3):=fun i j hi hj=>Mx.og S.iL dr.is n8 S.sL sA i j hi hj;refine⟨L,A,N,N,w,62000000,40,rfl,S.iL,dr.is,n1,n8,n8,w8,S.sL,sA,by omega,fun st3 X3=>?_⟩;refine⟨_,R,N,w,w,_,62000000,rfl,iLA,S.iR,w1,n8,w8,w8,sLA,S.sR,by omega,fun st4 X4=>?_⟩;rw[S.eq];refine⟨dg B r,N,w,rfl,n8,w8,by rw[j_];omega,fun st5 X5=>?_⟩
 have eB:Mx.oC N w (fun i j=>if i=j/\i<(dg B r).length then(dg B r).getD i 0 else 0)=B:=Mx.uY.ext S.iB fun i j hi hj=>by
  rw[Mx.sJ hi hj,j_];by_cases e:i=j
  . subst e;by_cases h:i<r
    . rw[if_pos ⟨rfl,h⟩,AU h]
    . rw[if_neg (by omega),LB.out i i hi hj (.inl (by omega))]
  . rw[if_neg (by omega),dv.dg i j hi hj e]
 rw[eB];refine vn iI iI ?_;rw[mj 40 _ iI];exact k st5 (X1.trans (X2.trans (X3.trans (X4.trans X5))))
abbrev Gh:cF:=CU JX
def xv:List Str:=["_law_script","_law_k","_law_rows_here","_law_handed"]
def Ly:DS:=(aL (kE (du (ae (dC (.int 3)) ak)) (bP 1) (aL (cJ 2 (aH qD (ae (aH nS (ae (ab 0) (ae (ab 1) ak))) ak)))
 (aL (cJ 3 (dm (gn (ab 2)) [none] (bP 0) cB (bR nD (ae (ab 0) ak))))
 (aL (eV (nc (gZ (bz (aH mq (ae (ab 2) (ae (aH nu (ae (ab 3) ak)) ak))))) (bz (az vR (ab 3) (dm (gn (ab 2)) [none] (bP 0) cB (bR nD (ae (ab 0) ak)))))) (cu (dC (.bl false))) dJ)
 (eV (oX (bz (az jY (ab 1) (dC (.int 0)))) (gZ (bz (aH mq (ae (ab 2) (ae (aH nu (ae (ab 2) ak)) ak)))))) (cu (dC (.bl false))) dJ)))))
 (cu (dC (.bl true))))
theorem Jy:∀ds st K,Gh ds st K->ds.length=1/\Ly {nx:=fun _ st'=>K .aI st',rt:=K} (a7 xv ds) st:=by
 rintro ds st K ⟨ns,rfl,hl,hst,k⟩;refine⟨rfl,?_⟩;have t0:st[0]?=some (fe false):=by rw[hst];rfl
 clear hst;refine eJ ⟨by decide,by decide⟩ ?_;refine jz 3 (fun q σ st'=>∃(v1 v2 v3:Option D) (f:Bool),σ=[some (.lst (ns.map .int)),v1,v2,v3]/\st'[0]?=some (fe f)) ?_ ?_ ⟨none,none,none,false,rfl,t0⟩
 . rintro σ st' ⟨v1,v2,v3,f,rfl,_⟩;exact k st'
 . clear t0;rintro q σ st1 rest hq ⟨v1,v2,v3,f,rfl,t1⟩ next
   have l1:=(List.getElem?_eq_some_iff.mp t1).1;refine⟨_,rfl,⟨ns,q,rfl,by omega,hl,fun st2 B2 X2=>?_⟩⟩;refine⟨_,_,rfl,B2,by decide,fun st3 A N w dr X3=>?_⟩;have nz:st1.length≠0:=by omega
   have t2:st2[0]?=some (fe f):=(X2.same 0 l1).trans t1;have t3:st3[0]?=some (fe f):=(X3.same 0 (List.getElem?_eq_some_iff.mp t2).1 (Ne.symm nz)).trans t2;have lA:=dr.is.len;have n8:=dr.n8;refine i7 ⟨cy (by rw[List.length_map];omega),?_⟩;refine jN bf trivial bW.tup (fun e r hr he K' z=>⟨_,rfl,pM he z⟩) ?_;refine⟨_,A,N,w,f,rfl,fun _=>Hn,dr.is,dr.n1,dr.w1,n8,dr.w8,dr.bd,t3,fun st4 B L Lb R Rb r dv K4=>?_⟩;refine⟨A,B,L,Lb,R,Rb,N,w,r,rfl,dr,dv,fun st5 X5=>?_⟩;obtain⟨f4,t4⟩:=K4.tb;have t5:st5[0]?=some (fe f4):=(X5.same 0 (List.getElem?_eq_some_iff.mp t4).1).trans t4;refine i7 ⟨cy (by rw[List.length_map];omega),?_⟩;refine jN bf trivial bW.tup (fun e r hr he K' z=>⟨_,rfl,pM he z⟩) ?_;refine D8 EA ?_;refine eq2 (fun h=>g7 ?_) fun h=>next _ _ ⟨_,_,_,f4,rfl,t5⟩
   refine⟨_,A,N,w,f4,rfl,fun _=>dO,dr.is,dr.n1,dr.w1,n8,dr.w8,dr.bd,t5,fun st6 B' L' Lb' R' Rb' r' dv' K6=>?_⟩;refine⟨A,B',L',Lb',R',Rb',N,w,r',rfl,dr,dv',fun st7 X7=>?_⟩;obtain⟨f6,t6⟩:=K6.tb;exact next _ _ ⟨_,_,_,f6,rfl,(X7.same 0 (List.getElem?_eq_some_iff.mp t6).1).trans t6⟩
end Prog
namespace Row
open PySem L2 L3 Prog
open PySem.Spec hiding items?
open PyProof.Rows hiding St
theorem cH:(("tuple":Str))≠"__name__":=by decide+kernel
theorem c7:(("len":Str))≠"__name__":=by decide+kernel
theorem lL:(("list":Str))≠"__name__":=by decide+kernel
theorem IA:(("abs":Str))≠"__name__":=by decide+kernel
theorem yX:(("all":Str))≠"__name__":=by decide+kernel
theorem Dy:(("min":Str))≠"__name__":=by decide+kernel
theorem yT:(("int":Str))≠"__name__":=by decide+kernel
theorem JF:(("sum":Str))≠"__name__":=by decide+kernel
theorem gD:(("isinstance":Str))≠"__name__":=by decide+kernel
theorem GC:(("bool":Str))≠"__name__":=by decide+kernel
theorem Jg:(("any":Str))≠"__name__":=by decide+kernel
structure Bl(mg:Str->Option Value):Prop where
 dc:mg "tuple"=none
 xC:mg "zip"=none
 ef:mg "len"=none
 dN:mg "range"=none
 nQ:mg "list"=none
 Lw:mg "abs"=none
 EE:mg "sorted"=none
 tF:mg "enumerate"=none
 Bf:mg "all"=none
 F4:mg "min"=none
 BI:mg "int"=none
 L8:mg "sum"=none
 ig:mg "isinstance"=none
 Jf:mg "bool"=none
 KS:mg "any"=none
structure Kl(K:PySem.W.Frag)(mg:Str->Option Value):Prop where
 aZ:ClsAt K mg "Bench" ay
 aN:ClsAt K mg "Sides" aC
 bZ:d9 K ay "body"
 e8:d9 K ay "turn"
 cp:d9 K ay "back_columns"
 oz:d9 K aC "many"
 fA:d9 K aC "wide"
 c6:d9 K aC "body"
 kZ:d9 K aC "left"
 g_:d9 K aC "left_back"
 kl:d9 K aC "right"
 gH:d9 K aC "right_back"
theorem rq:VS (ai jE) oM ["tuple"]:=⟨by decide+kernel⟩
theorem A7:aR oM ["rows"] (ai jE):=⟨rfl,rfl,rfl,by decide+kernel,rfl,by decide+kernel,by decide+kernel⟩
theorem vB:VS (ai lT) sy ["zip"]:=⟨by decide+kernel⟩
theorem ED:aR sy ["row","times","other"] (ai lT):=⟨rfl,rfl,rfl,by decide+kernel,rfl,by decide+kernel,by decide+kernel⟩
theorem e9:VS (ai mh) qx ["zip","added","tuple"]:=⟨by decide+kernel⟩
theorem oJ:aR qx ["weights","rows","wide"] (ai mh):=⟨rfl,rfl,rfl,by decide+kernel,rfl,by decide+kernel,by decide+kernel⟩
theorem js:VS (ai jB) oV ["len","tuple"]:=⟨by decide+kernel⟩
theorem uL:aR oV ["one","other"] (ai jB):=⟨rfl,rfl,rfl,by decide+kernel,rfl,by decide+kernel,by decide+kernel⟩
theorem uC:VS (ai kC) qG ["tuple"]:=⟨by decide+kernel⟩
theorem C7:aR qG ["rows","place"] (ai kC):=⟨rfl,rfl,rfl,by decide+kernel,rfl,by decide+kernel,by decide+kernel⟩
theorem kj:VS (ai fO) kg ["range","tuple"]:=⟨by decide+kernel⟩
theorem vV:aR kg ["rows","wide"] (ai fO):=⟨rfl,rfl,rfl,by decide+kernel,rfl,by decide+kernel,by decide+kernel⟩
theorem nv:VS (ai iH) nt ["range","tuple"]:=⟨by decide+kernel⟩
theorem zK:aR nt ["n","place"] (ai iH):=⟨rfl,rfl,rfl,by decide+kernel,rfl,by decide+kernel,by decide+kernel⟩
theorem mB:VS (ai g6) mm ["range","tuple"]:=⟨by decide+kernel⟩
theorem xZ:aR mm ["n"] (ai g6):=⟨rfl,rfl,rfl,by decide+kernel,rfl,by decide+kernel,by decide+kernel⟩
theorem jF:VS (ai eK) gK []:=⟨by decide+kernel⟩
theorem jb:aR gK ["top","bottom"] (ai eK):=⟨rfl,rfl,rfl,by decide+kernel,rfl,by decide+kernel,by decide+kernel⟩
theorem c_:VS (ai i4) my ["list"]:=⟨by decide+kernel⟩
theorem r_:aR my ["rows","k","other"] (ai i4):=⟨rfl,rfl,rfl,by decide+kernel,rfl,by decide+kernel,by decide+kernel⟩
theorem CM:VS (ai jD) oR []:=⟨by decide+kernel⟩
theorem BJ:aR oR ["row"] (ai jD):=⟨rfl,rfl,rfl,by decide+kernel,rfl,by decide+kernel,by decide+kernel⟩
theorem bJ:VS (ai cZ) iD ["len","unit_rows"]:=⟨by decide+kernel⟩
theorem tx:aR iD ["self","rows"] (ai cZ):=⟨rfl,rfl,rfl,by decide+kernel,rfl,by decide+kernel,by decide+kernel⟩
theorem aW:VS (ai ie) lF ["added"]:=⟨by decide+kernel⟩
theorem w6:aR lF ["self","k","times","other"] (ai ie):=⟨rfl,rfl,rfl,by decide+kernel,rfl,by decide+kernel,by decide+kernel⟩
theorem bc:VS (ai fi) iE ["exchanged"]:=⟨by decide+kernel⟩
theorem tD:aR iE ["self","k","other"] (ai fi):=⟨rfl,rfl,rfl,by decide+kernel,rfl,by decide+kernel,by decide+kernel⟩
theorem aO:VS (ai dU) gh ["negated"]:=⟨by decide+kernel⟩
theorem qt:aR gh ["self","k"] (ai dU):=⟨rfl,rfl,rfl,by decide+kernel,rfl,by decide+kernel,by decide+kernel⟩
theorem de:VS (ai df) hO ["len","range","sorted"]:=⟨by decide+kernel⟩
theorem mR:aR hO ["self","top","place"] (ai df):=⟨rfl,rfl,rfl,by decide+kernel,rfl,by decide+kernel,by decide+kernel⟩
theorem aw:VS (ai fY) jR ["len","nearest_quotient"]:=⟨by decide+kernel⟩
theorem gJ:aR jR ["self","top","place"] (ai fY):=⟨rfl,rfl,rfl,by decide+kernel,rfl,by decide+kernel,by decide+kernel⟩
theorem bN:VS (ai dS) gj ["range"]:=⟨by decide+kernel⟩
theorem fU:aR gj ["self","top","place"] (ai dS):=⟨rfl,rfl,rfl,by decide+kernel,rfl,by decide+kernel,by decide+kernel⟩
theorem a6:VS (ai jL) nE ["Bench","len","range","turned_over","as_rows"]:=⟨by decide+kernel⟩
theorem i3:aR nE ["rows"] (ai jL):=⟨rfl,rfl,rfl,by decide+kernel,rfl,by decide+kernel,by decide+kernel⟩
theorem aG:VS (ai fk) iQ ["len","unit_rows"]:=⟨by decide+kernel⟩
theorem tf:aR iQ ["self","rows"] (ai fk):=⟨rfl,rfl,rfl,by decide+kernel,rfl,by decide+kernel,by decide+kernel⟩
theorem bw:VS (ai fb) hJ ["product"]:=⟨by decide+kernel⟩
theorem r9:aR hJ ["self","turn","back"] (ai fb):=⟨rfl,rfl,rfl,by decide+kernel,rfl,by decide+kernel,by decide+kernel⟩
theorem bj:VS (ai eH) gT ["product"]:=⟨by decide+kernel⟩
theorem rh:aR gT ["self","turn","back"] (ai eH):=⟨rfl,rfl,rfl,by decide+kernel,rfl,by decide+kernel,by decide+kernel⟩
theorem dE:VS (ai eE) gF ["standing"]:=⟨by decide+kernel⟩
theorem lJ:aR gF ["self"] (ai eE):=⟨rfl,rfl,rfl,by decide+kernel,rfl,by decide+kernel,by decide+kernel⟩
theorem aQ:VS (ai dy) fK ["turned_over","standing"]:=⟨by decide+kernel⟩
theorem kc:aR fK ["self"] (ai dy):=⟨rfl,rfl,rfl,by decide+kernel,rfl,by decide+kernel,by decide+kernel⟩
theorem gB:VS (ai fN) ki ["enumerate","all"]:=⟨by decide+kernel⟩
theorem pL:aR ki ["rows"] (ai fN):=⟨rfl,rfl,rfl,by decide+kernel,rfl,by decide+kernel,by decide+kernel⟩
theorem fm:VS (ai fX) jU ["is_diagonal"]:=⟨by decide+kernel⟩
theorem u6:aR jU ["self"] (ai fX):=⟨rfl,rfl,rfl,by decide+kernel,rfl,by decide+kernel,by decide+kernel⟩
theorem cE:VS (ai eR) jl ["unit_rows","as_rows"]:=⟨by decide+kernel⟩
theorem ox:aR jl ["n","k","place","number"] (ai eR):=⟨rfl,rfl,rfl,by decide+kernel,rfl,by decide+kernel,by decide+kernel⟩
theorem cN:VS (ai gw) kh ["unit_rows_but"]:=⟨by decide+kernel⟩
theorem wb:aR kh ["self","k","other"] (ai gw):=⟨rfl,rfl,rfl,by decide+kernel,rfl,by decide+kernel,by decide+kernel⟩
theorem cQ:VS (ai gd) lD ["len","min","range","tuple"]:=⟨by decide+kernel⟩
theorem qO:aR lD ["body"] (ai gd):=⟨rfl,rfl,rfl,by decide+kernel,rfl,by decide+kernel,by decide+kernel⟩
theorem aY:VS (ai jS) nr ["Sides","numbers_of","len","range"]:=⟨by decide+kernel⟩
theorem ke:aR nr ["rows"] (ai jS):=⟨rfl,rfl,rfl,by decide+kernel,rfl,by decide+kernel,by decide+kernel⟩
theorem cn:VS (ai ir) kX ["len","int"]:=⟨by decide+kernel⟩
theorem m_:aR kX ["_law_script","_law_k"] (ai ir):=⟨rfl,rfl,rfl,by decide+kernel,rfl,by decide+kernel,by decide+kernel⟩
theorem cq:VS (ai jP) nA []:=⟨by decide+kernel⟩
theorem mz:aR nA ["_law_source_here","_law_many"] (ai jP):=⟨rfl,rfl,rfl,by decide+kernel,rfl,by decide+kernel,by decide+kernel⟩
theorem bG:VS (ai il) lG ["_law_take"]:=⟨by decide+kernel⟩
theorem qL:aR lG ["_law_source_here"] (ai il):=⟨rfl,rfl,rfl,by decide+kernel,rfl,by decide+kernel,by decide+kernel⟩
theorem au:VS (ai di) nH ["_law_take","range","zip","tuple"]:=⟨by decide+kernel⟩
theorem d6:aR nH ["_law_source_here"] (ai di):=⟨rfl,rfl,rfl,by decide+kernel,rfl,by decide+kernel,by decide+kernel⟩
theorem cO:VS (ai fP) kq ["len","range","tuple"]:=⟨by decide+kernel⟩
theorem lW:aR kq ["_law_one","_law_other"] (ai fP):=⟨rfl,rfl,rfl,by decide+kernel,rfl,by decide+kernel,by decide+kernel⟩
theorem mv:VS (ai g4) mI ["range","tuple"]:=⟨by decide+kernel⟩
theorem yt:aR mI ["_law_n"] (ai g4):=⟨rfl,rfl,rfl,by decide+kernel,rfl,by decide+kernel,by decide+kernel⟩
theorem dZ:VS (ai g5) mw ["range","tuple"]:=⟨by decide+kernel⟩
theorem ot:aR mw ["_law_numbers","_law_many","_law_wide"] (ai g5):=⟨rfl,rfl,rfl,by decide+kernel,rfl,by decide+kernel,by decide+kernel⟩
theorem cR:VS (ai fF) jh ["int","isinstance","bool"]:=⟨by decide+kernel⟩
theorem t7:aR jh ["_law_found"] (ai fF):=⟨rfl,rfl,rfl,by decide+kernel,rfl,by decide+kernel,by decide+kernel⟩
theorem a5:VS (ai fh) jX ["tuple","isinstance","len","all"]:=⟨by decide+kernel⟩
theorem oO:aR jX ["_law_found","_law_many","_law_wide"] (ai fh):=⟨rfl,rfl,rfl,by decide+kernel,rfl,by decide+kernel,by decide+kernel⟩
theorem aM:VS (ai fL) jj ["_law_are_rows","_law_product","_law_units"]:=⟨by decide+kernel⟩
theorem uB:aR jj ["_law_turn","_law_back","_law_n"] (ai fL):=⟨rfl,rfl,rfl,by decide+kernel,rfl,by decide+kernel,by decide+kernel⟩
theorem ao:VS (ai eO) mG ["tuple","isinstance","len","_law_are_rows","min","all","range","any","_law_are_turns","_law_product","_law_slope"]:=⟨by decide+kernel⟩
theorem nU:aR mG ["_law_rows_here","_law_told"] (ai eO):=⟨rfl,rfl,rfl,by decide+kernel,rfl,by decide+kernel,by decide+kernel⟩
theorem eh:VS (ai mE) xv ["range","_law_source","_law_rows","dividing","_law_right"]:=⟨by decide+kernel⟩
theorem uI:aR xv ["_law_script"] (ai mE):=⟨rfl,rfl,rfl,by decide+kernel,rfl,by decide+kernel,by decide+kernel⟩
structure Ev(w:World)(mg:Str->Option Value)(h:Heap):Prop where
 X:(KX w.params).In h
 G:h.Ns mainGlobals mg
section
variable {w:World}{mg:Str->Option Value}{h base:Heap}(e:Ev w mg h)
include e
theorem Bt:Bl mg:=⟨PySem.W.mg_none_of e.X e.G (by kernel_rfl),PySem.W.mg_none_of e.X e.G (by kernel_rfl),PySem.W.mg_none_of e.X e.G (by kernel_rfl),PySem.W.mg_none_of e.X e.G (by kernel_rfl),PySem.W.mg_none_of e.X e.G (by kernel_rfl),PySem.W.mg_none_of e.X e.G (by kernel_rfl),PySem.W.mg_none_of e.X e.G (by kernel_rfl),PySem.W.mg_none_of e.X e.G (by kernel_rfl),PySem.W.mg_none_of e.X e.G (by kernel_rfl),PySem.W.mg_none_of e.X e.G (by kernel_rfl),PySem.W.mg_none_of e.X e.G (by kernel_rfl),PySem.W.mg_none_of e.X e.G (by kernel_rfl),PySem.W.mg_none_of e.X e.G (by kernel_rfl),PySem.W.mg_none_of e.X e.G (by kernel_rfl),PySem.W.mg_none_of e.X e.G (by kernel_rfl)⟩
theorem Qt:Kl (KX w.params) mg:=⟨⟨⟨by kernel_rfl,by kernel_rfl,by kernel_rfl,by kernel_rfl⟩,PySem.W.mg_of e.X e.G (by kernel_rfl),by kernel_rfl,by kernel_rfl⟩,⟨⟨by kernel_rfl,by kernel_rfl,by kernel_rfl,by kernel_rfl⟩,PySem.W.mg_of e.X e.G (by kernel_rfl),by kernel_rfl,by kernel_rfl⟩,Hd.na (by kernel_rfl),Hd.na (by kernel_rfl),Hd.na (by kernel_rfl),Hd.na (by kernel_rfl),Hd.na (by kernel_rfl),Hd.na (by kernel_rfl),Hd.na (by kernel_rfl),Hd.na (by kernel_rfl),Hd.na (by kernel_rfl),Hd.na (by kernel_rfl)⟩
theorem oS:cD (KX w.params) mg "as_rows" "as_rows" jE ["rows"] 19 (Hd.fd jE "as_rows" "as_rows" ji 18):=Hd.qP e.X e.G (by kernel_rfl) fun _ _ _ _ _ _ _=>rfl
theorem rj:bF PW w (KX w.params) mg base cG 1 19 (Hd.fd jE "as_rows" "as_rows" ji 18) ["rows"] (cL mV):=by
 have B:=Bt e;have Q:=Qt e;exact cf (N:=oM) (oS e).fn A7 (fun cdv A outer s H E hr=>(aD (bp (fy eG (aa (d5 (Nc:=["row"]) (bh.look (ai jE) ["rows"] (by decide+kernel)) (iK (rq.nm 0)) (fun _ _ _ _=>(dR (show(["row"]:List Str).Nodup by decide+kernel) (by first|exact Or.inl rfl|exact Or.inr rfl) (by first|exact .inl rfl|exact .inr rfl))) (fun _ _ _ _=>cw) (fun _ _ _ _=>(fy eG (aa cx aj) B.dc rfl cH (by decide+kernel) rfl)) cm) aj) B.dc rfl cH (rq.d 0) (rq.g 0))))) Bc
theorem pZ:cD (KX w.params) mg "added" "added" lT ["row","times","other"] 24 (Hd.fd lT "added" "added" ji 23):=Hd.Ah e.X e.G (by kernel_rfl) fun _ _ _ _ _ _ _ _ _=>rfl
theorem sH:bF PW w (KX w.params) mg base cG 1 24 (Hd.fd lT "added" "added" ji 23) ["row","times","other"] (cL nN):=by
 have B:=Bt e;have Q:=Qt e;exact cf (N:=sy) (pZ e).fn ED (fun cdv A outer s H E hr=>(aD (bp (d5 (Nc:=["one","two","times"]) (bh.look (ai lT) ["row","times","other"] (by decide+kernel)) (xp (vB.g 0) B.xC (aa (vB.nm 0) (aa (vB.nm 2) aj))) (fun _ _ _ _=>(sV rfl (show(["one","two","times"]:List Str).Nodup by decide+kernel) (by first|exact Or.inl rfl|exact Or.inr rfl) (by first|exact .inl rfl|exact .inr rfl) (by first|exact Or.inl rfl|exact Or.inr rfl) (by first|exact .inl rfl|exact .inr rfl))) (fun _ _ _ _=>cw) (fun _ _ _ _=>(bT jM cx (bT gO cx cx))) sY)))) Fq
theorem zk:cD (KX w.params) mg "sum_by" "sum_by" mh ["weights","rows","wide"] 31 (Hd.fd mh "sum_by" "sum_by" ji 30):=Hd.Ah e.X e.G (by kernel_rfl) fun _ _ _ _ _ _ _ _ _=>rfl
theorem El:bF PW w (KX w.params) mg base cG 2 31 (Hd.fd mh "sum_by" "sum_by" ji 30) ["weights","rows","wide"] (cL ui):=by
 have B:=Bt e;have Q:=Qt e
 exact cf (N:=qx) (zk e).fn oJ (fun cdv A outer s H E hr=>(aq (cA oJ.nd (e9.l 3) (bT gO (Gd (aa av aj)) (e9.nm 2)))
  (aq (jm (xp (e9.g 0) B.xC (aa (e9.nm 0) (aa (e9.nm 1) aj))) (sV rfl oJ.nd (by first|exact Or.inl rfl|exact Or.inr rfl) (by first|exact .inl rfl|exact .inr rfl) (by first|exact Or.inl rfl|exact Or.inr rfl) (by first|exact .inl rfl|exact .inr rfl)) (aD (cA oJ.nd (e9.l 3) (a_ (pZ e) (sH e) (hr.mono (by decide)) (aa (e9.nm 3) (aa (e9.nm 4) (aa (e9.nm 5) aj))) (e9.d 1) (e9.g 1)))))
  (aD (bp (fy eG (aa (e9.nm 3) aj) B.dc rfl cH (e9.d 2) (e9.g 2))))))) Cw
theorem ju:cD (KX w.params) mg "product" "product" jB ["one","other"] 36 (Hd.fd jB "product" "product" ji 35):=Hd.vj e.X e.G (by kernel_rfl) fun _ _ _ _ _ _ _ _=>rfl
theorem kT:bF PW w (KX w.params) mg base cG 3 36 (Hd.fd jB "product" "product" ji 35) ["one","other"] (cL iz):=by
 have B:=Bt e;have Q:=Qt e
 exact cf (N:=oV) (ju e).fn uL (fun cdv A outer s H E hr=>(aq (cA uL.nd (js.l 2) (cY d_ (aa (bC (js.nm 1) av) aj) B.ef rfl c7 (js.d 0) (js.g 0)))
  (aD (bp (fy eG (aa (d5 (Nc:=["weights","other","wide"]) (bh.look (ai jB) ["one","other","wide"] (by decide+kernel)) (iK (js.nm 0)) (fun _ _ _ _=>(dR (show(["weights","other","wide"]:List Str).Nodup by decide+kernel) (by first|exact Or.inl rfl|exact Or.inr rfl) (by first|exact .inl rfl|exact .inr rfl))) (fun _ _ _ _=>cw) (fun _ _ _ _=>(a_ (zk e) (El e) (hr.mono (by decide)) (aa cx (aa cx (aa cx aj))) (by decide+kernel) rfl)) cm) aj) B.dc rfl cH (js.d 1) (js.g 1)))))) AJ
theorem yW:cD (KX w.params) mg "column" "column" kC ["rows","place"] 41 (Hd.fd kC "column" "column" ji 40):=Hd.vj e.X e.G (by kernel_rfl) fun _ _ _ _ _ _ _ _=>rfl
theorem Eb:bF PW w (KX w.params) mg base cG 1 41 (Hd.fd kC "column" "column" ji 40) ["rows","place"] (cL uo):=by
 have B:=Bt e;have Q:=Qt e;exact cf (N:=qG) (yW e).fn C7 (fun cdv A outer s H E hr=>(aD (bp (fy eG (aa (d5 (Nc:=["row","place"]) (bh.look (ai kC) ["rows","place"] (by decide+kernel)) (iK (uC.nm 0)) (fun _ _ _ _=>(dR (show(["row","place"]:List Str).Nodup by decide+kernel) (by first|exact Or.inl rfl|exact Or.inr rfl) (by first|exact .inl rfl|exact .inr rfl))) (fun _ _ _ _=>cw) (fun _ _ _ _=>(bC cx cx)) cm) aj) B.dc rfl cH (uC.d 0) (uC.g 0))))) CO
theorem iV:cD (KX w.params) mg "turned_over" "turned_over" fO ["rows","wide"] 46 (Hd.fd fO "turned_over" "turned_over" ji 45):=Hd.vj e.X e.G (by kernel_rfl) fun _ _ _ _ _ _ _ _=>rfl
theorem kn:bF PW w (KX w.params) mg base cG 2 46 (Hd.fd fO "turned_over" "turned_over" ji 45) ["rows","wide"] (cL gy):=by
 have B:=Bt e;have Q:=Qt e;exact cf (N:=kg) (iV e).fn vV (fun cdv A outer s H E hr=>(aD (bp (fy eG (aa (d5 (Nc:=["place","rows"]) (bh.look (ai fO) ["rows","wide"] (by decide+kernel)) (dG (kj.g 0) B.dN (aa (kj.nm 1) aj)) (fun _ _ _ _=>(dR (show(["place","rows"]:List Str).Nodup by decide+kernel) (by first|exact Or.inl rfl|exact Or.inr rfl) (by first|exact .inl rfl|exact .inr rfl))) (fun _ _ _ _=>cw) (fun _ _ _ _=>(a_ (yW e) (Eb e) (hr.mono (by decide)) (aa cx (aa cx aj)) (by decide+kernel) rfl)) cm) aj) B.dc rfl cH (kj.d 1) (kj.g 1))))) v_
theorem uX:cD (KX w.params) mg "unit_row" "unit_row" iH ["n","place"] 51 (Hd.fd iH "unit_row" "unit_row" ji 50):=Hd.vj e.X e.G (by kernel_rfl) fun _ _ _ _ _ _ _ _=>rfl
theorem Bu:bF PW w (KX w.params) mg base cG 1 51 (Hd.fd iH "unit_row" "unit_row" ji 50) ["n","place"] (cL qf):=by
 have B:=Bt e;have Q:=Qt e;exact cf (N:=nt) (uX e).fn zK (fun cdv A outer s H E hr=>(aD (bp (fy eG (aa (d5 (Nc:=["k","place"]) (bh.look (ai iH) ["n","place"] (by decide+kernel)) (dG (nv.g 0) B.dN (aa (nv.nm 0) aj)) (fun _ _ _ _=>(dR (show(["k","place"]:List Str).Nodup by decide+kernel) (by first|exact Or.inl rfl|exact Or.inr rfl) (by first|exact .inl rfl|exact .inr rfl))) (fun _ _ _ _=>cw) (fun _ _ _ _=>(BA (dh (k_ hr) (bS _) cx cx) av av)) cm) aj) B.dc rfl cH (nv.d 1) (nv.g 1))))) zL
theorem fW:cD (KX w.params) mg "unit_rows" "unit_rows" g6 ["n"] 56 (Hd.fd g6 "unit_rows" "unit_rows" ji 55):=Hd.qP e.X e.G (by kernel_rfl) fun _ _ _ _ _ _ _=>rfl
theorem g0:bF PW w (KX w.params) mg base cG 2 56 (Hd.fd g6 "unit_rows" "unit_rows" ji 55) ["n"] (cL fo):=by
 have B:=Bt e;have Q:=Qt e;exact cf (N:=mm) (fW e).fn xZ (fun cdv A outer s H E hr=>(aD (bp (fy eG (aa (d5 (Nc:=["place","n"]) (bh.look (ai g6) ["n"] (by decide+kernel)) (dG (mB.g 0) B.dN (aa (mB.nm 0) aj)) (fun _ _ _ _=>(dR (show(["place","n"]:List Str).Nodup by decide+kernel) (by first|exact Or.inl rfl|exact Or.inr rfl) (by first|exact .inl rfl|exact .inr rfl))) (fun _ _ _ _=>cw) (fun _ _ _ _=>(a_ (uX e) (Bu e) (hr.mono (by decide)) (aa cx (aa cx aj)) (by decide+kernel) rfl)) cm) aj) B.dc rfl cH (mB.d 1) (mB.g 1))))) x4
theorem mL:cD (KX w.params) mg "nearest_quotient" "nearest_quotient" eK ["top","bottom"] 63 (Hd.fd eK "nearest_quotient" "nearest_quotient" fS 62):=Hd.vj e.X e.G (by kernel_rfl) fun _ _ _ _ _ _ _ _=>rfl
theorem rZ:bF PW w (KX w.params) mg base cG 1 63 (Hd.fd eK "nearest_quotient" "nearest_quotient" fS 62) ["top","bottom"] (cL jx):=by
 have B:=Bt e;have Q:=Qt e;exact cf (N:=gK) (mL e).fn jb (fun cdv A outer s H E hr=>(aD (bp (bT (z_ hr rfl jb.gen jb.co) (bT jM (bT gO av (jF.nm 0)) (jF.nm 1)) (bT gO av (jF.nm 1)))))) q_
theorem mr:cD (KX w.params) mg "exchanged" "exchanged" i4 ["rows","k","other"] 70 (Hd.fd i4 "exchanged" "exchanged" fS 69):=Hd.Ah e.X e.G (by kernel_rfl) fun _ _ _ _ _ _ _ _ _=>rfl
theorem o8:bF PW w (KX w.params) mg base cG 1 70 (Hd.fd i4 "exchanged" "exchanged" fS 69) ["rows","k","other"] (cL j9):=by
 have B:=Bt e;have Q:=Qt e
 exact cf (N:=my) (mr e).fn r_ (fun cdv A outer s H E hr=>(aq (cA r_.nd (c_.l 3) (fy Ap (aa (c_.nm 0) aj) B.nQ rfl lL (c_.d 0) (c_.g 0)))
  (aq (f7 (bC (c_.nm 0) (c_.nm 2)) (c_.nm 3) (c_.nm 1))
  (aq (f7 (bC (c_.nm 0) (c_.nm 1)) (c_.nm 3) (c_.nm 2))
  (aD (bp (c_.nm 3))))))) zh
theorem o4:cD (KX w.params) mg "negated" "negated" jD ["row"] 75 (Hd.fd jD "negated" "negated" fS 74):=Hd.qP e.X e.G (by kernel_rfl) fun _ _ _ _ _ _ _=>rfl
theorem sr:bF PW w (KX w.params) mg base cG 1 75 (Hd.fd jD "negated" "negated" fS 74) ["row"] (cL mW):=by
 have B:=Bt e;have Q:=Qt e;exact cf (N:=oR) (o4 e).fn BJ (fun cdv A outer s H E hr=>(aD (bp (d5 (Nc:=["number"]) (bh.look (ai jD) ["row"] (by decide+kernel)) (iK (CM.nm 0)) (fun _ _ _ _=>(dR (show(["number"]:List Str).Nodup by decide+kernel) (by first|exact Or.inl rfl|exact Or.inr rfl) (by first|exact .inl rfl|exact .inr rfl))) (fun _ _ _ _=>cw) (fun _ _ _ _=>(qg cx)) cm)))) AZ
theorem iJ:MethAt (KX w.params) ay "__init__" "Bench.__init__" cZ ["self","rows"] 87 (Hd.fd cZ "__init__" "Bench.__init__" fS 86):=Hd.IK (by kernel_rfl) fun _ _ _ _ _ _ _ _=>rfl
theorem ur:bF PW w (KX w.params) mg base cG 3 87 (Hd.fd cZ "__init__" "Bench.__init__" fS 86) ["self","rows"] (cL kv):=by
 have B:=Bt e;have Q:=Qt e
 exact cf (N:=iD) (iJ e).fn tx (fun cdv A outer s H E hr=>(aq (dQ Q.aZ.cl Q.bZ (bJ.nm 0) (vJ (Nc:=["row"]) (bh.look (ai cZ) ["self","rows"] (by decide+kernel)) (iK (bJ.nm 1)) (fun _ _ _ _=>(dR (show(["row"]:List Str).Nodup by decide+kernel) (by first|exact Or.inl rfl|exact Or.inr rfl) (by first|exact .inl rfl|exact .inr rfl))) (fun _ _ _ _=>cw) (fun _ _ _ _=>(fy rT (aa cx aj) B.nQ rfl lL (by decide+kernel) rfl)) cm))
  (aq (dQ Q.aZ.cl Q.e8 (bJ.nm 0) (vJ (Nc:=["row"]) (bh.look (ai cZ) ["self","rows"] (by decide+kernel)) (iK (a_ (fW e) (g0 e) (hr.mono (by decide)) (aa (cY d_ (aa (bJ.nm 1) aj) B.ef rfl c7 (bJ.d 0) (bJ.g 0)) aj) (bJ.d 1) (bJ.g 1))) (fun _ _ _ _=>(dR (show(["row"]:List Str).Nodup by decide+kernel) (by first|exact Or.inl rfl|exact Or.inr rfl) (by first|exact .inl rfl|exact .inr rfl))) (fun _ _ _ _=>cw) (fun _ _ _ _=>(fy rT (aa cx aj) B.nQ rfl lL (by decide+kernel) rfl)) cm))
  (aD (dQ Q.aZ.cl Q.cp (bJ.nm 0) (vJ (Nc:=["row"]) (bh.look (ai cZ) ["self","rows"] (by decide+kernel)) (iK (a_ (fW e) (g0 e) (hr.mono (by decide)) (aa (cY d_ (aa (bJ.nm 1) aj) B.ef rfl c7 (bJ.d 0) (bJ.g 0)) aj) (bJ.d 1) (bJ.g 1))) (fun _ _ _ _=>(dR (show(["row"]:List Str).Nodup by decide+kernel) (by first|exact Or.inl rfl|exact Or.inr rfl) (by first|exact .inl rfl|exact .inr rfl))) (fun _ _ _ _=>cw) (fun _ _ _ _=>(fy rT (aa cx aj) B.nQ rfl lL (by decide+kernel) rfl)) cm)))))) tE
theorem jt:MethAt (KX w.params) ay "take" "Bench.take" ie ["self","k","times","other"] 94 (Hd.fd ie "take" "Bench.take" fS 93):=Hd.N6 (by kernel_rfl) fun _ _ _ _ _ _ _ _ _ _=>rfl
theorem rP:bF PW w (KX w.params) mg base cG 2 94 (Hd.fd ie "take" "Bench.take" fS 93) ["self","k","times","other"] (cL k6):=by
 have B:=Bt e;have Q:=Qt e
 exact cf (N:=lF) (jt e).fn w6 (fun cdv A outer s H E hr=>(aq (f7 (a_ (pZ e) (sH e) (hr.mono (by decide)) (aa (bC (bo Q.aZ.cl Q.bZ (aW.nm 0)) (aW.nm 1)) (aa (qg (aW.nm 2)) (aa (bC (bo Q.aZ.cl Q.bZ (aW.nm 0)) (aW.nm 3)) aj))) (aW.d 0) (aW.g 0)) (bo Q.aZ.cl Q.bZ (aW.nm 0)) (aW.nm 1))
  (aq (f7 (a_ (pZ e) (sH e) (hr.mono (by decide)) (aa (bC (bo Q.aZ.cl Q.e8 (aW.nm 0)) (aW.nm 1)) (aa (qg (aW.nm 2)) (aa (bC (bo Q.aZ.cl Q.e8 (aW.nm 0)) (aW.nm 3)) aj))) (aW.d 0) (aW.g 0)) (bo Q.aZ.cl Q.e8 (aW.nm 0)) (aW.nm 1))
  (aD (f7 (a_ (pZ e) (sH e) (hr.mono (by decide)) (aa (bC (bo Q.aZ.cl Q.cp (aW.nm 0)) (aW.nm 3)) (aa (aW.nm 2) (aa (bC (bo Q.aZ.cl Q.cp (aW.nm 0)) (aW.nm 1)) aj))) (aW.d 0) (aW.g 0)) (bo Q.aZ.cl Q.cp (aW.nm 0)) (aW.nm 3)))))) xj
theorem ky:MethAt (KX w.params) ay "exchange" "Bench.exchange" fi ["self","k","other"] 101 (Hd.fd fi "exchange" "Bench.exchange" fS 100):=Hd.y6 (by kernel_rfl) fun _ _ _ _ _ _ _ _ _=>rfl
theorem uv:bF PW w (KX w.params) mg base cG 2 101 (Hd.fd fi "exchange" "Bench.exchange" fS 100) ["self","k","other"] (cL kB):=by
 have B:=Bt e;have Q:=Qt e
 exact cf (N:=iE) (ky e).fn tD (fun cdv A outer s H E hr=>(aq (dQ Q.aZ.cl Q.bZ (bc.nm 0) (a_ (mr e) (o8 e) (hr.mono (by decide)) (aa (bo Q.aZ.cl Q.bZ (bc.nm 0)) (aa (bc.nm 1) (aa (bc.nm 2) aj))) (bc.d 0) (bc.g 0)))
  (aq (dQ Q.aZ.cl Q.e8 (bc.nm 0) (a_ (mr e) (o8 e) (hr.mono (by decide)) (aa (bo Q.aZ.cl Q.e8 (bc.nm 0)) (aa (bc.nm 1) (aa (bc.nm 2) aj))) (bc.d 0) (bc.g 0)))
  (aD (dQ Q.aZ.cl Q.cp (bc.nm 0) (a_ (mr e) (o8 e) (hr.mono (by decide)) (aa (bo Q.aZ.cl Q.cp (bc.nm 0)) (aa (bc.nm 1) (aa (bc.nm 2) aj))) (bc.d 0) (bc.g 0))))))) tj
theorem jd:MethAt (KX w.params) ay "change_sign" "Bench.change_sign" dU ["self","k"] 108 (Hd.fd dU "change_sign" "Bench.change_sign" fS 107):=Hd.IK (by kernel_rfl) fun _ _ _ _ _ _ _ _=>rfl
theorem rg:bF PW w (KX w.params) mg base cG 2 108 (Hd.fd dU "change_sign" "Bench.change_sign" fS 107) ["self","k"] (cL i9):=by
 have B:=Bt e;have Q:=Qt e
 exact cf (N:=gh) (jd e).fn qt (fun cdv A outer s H E hr=>(aq (f7 (a_ (o4 e) (sr e) (hr.mono (by decide)) (aa (bC (bo Q.aZ.cl Q.bZ (aO.nm 0)) (aO.nm 1)) aj) (aO.d 0) (aO.g 0)) (bo Q.aZ.cl Q.bZ (aO.nm 0)) (aO.nm 1))
  (aq (f7 (a_ (o4 e) (sr e) (hr.mono (by decide)) (aa (bC (bo Q.aZ.cl Q.e8 (aO.nm 0)) (aO.nm 1)) aj) (aO.d 0) (aO.g 0)) (bo Q.aZ.cl Q.e8 (aO.nm 0)) (aO.nm 1))
  (aD (f7 (a_ (o4 e) (sr e) (hr.mono (by decide)) (aa (bC (bo Q.aZ.cl Q.cp (aO.nm 0)) (aO.nm 1)) aj) (aO.d 0) (aO.g 0)) (bo Q.aZ.cl Q.cp (aO.nm 0)) (aO.nm 1)))))) qE
theorem h8:MethAt (KX w.params) ay "live_rows" "Bench.live_rows" df ["self","top","place"] 113 (Hd.fd df "live_rows" "Bench.live_rows" fS 112):=Hd.y6 (by kernel_rfl) fun _ _ _ _ _ _ _ _ _=>rfl
theorem nq:bF PW w (KX w.params) mg base cG 3 113 (Hd.fd df "live_rows" "Bench.live_rows" fS 112) ["self","top","place"] (cL hV):=by
 have B:=Bt e;have Q:=Qt e;have hC:PySem.W.codeHdIn (KX w.params) 112 110=true:=by kernel_rfl
 exact Ki (N:=hO) (Hd.fc (by kernel_rfl)) mR (fun A outer s H E hr=>(aq (sP mR.nd (de.l 3) (Nc:=["k","self","place"]) (bh.look (ai df) ["self","top","place","live"] (by decide+kernel)) (yE (de.g 1) B.dN (aa (de.nm 1) (aa (cY d_ (aa (bo Q.aZ.cl Q.bZ (de.nm 0)) aj) B.ef rfl c7 (de.d 0) (de.g 0)) aj))) (fun _ _ _ _=>(dR (show(["k","self","place"]:List Str).Nodup by decide+kernel) (by first|exact Or.inl rfl|exact Or.inr rfl) (by first|exact .inl rfl|exact .inr rfl))) (fun _ _ _ _=>(Ci (dh uA (bS _) (bC (bC (bo Q.aZ.cl Q.bZ cx) cx) cx) av))) (fun _ _ _ _=>cx) cm)
  (aD (bp (G8 (c0:=112) (nI.look (Nc:=["k","self","place"]) (fr:=[none,some 0,some 2]) (p:="k") (bh.look (ai df) ["self","top","place","live"] (by decide+kernel))) rfl hr rfl hC (fun _ _ _ _=>(cY L5 (aa (bC (bC (bo Q.aZ.cl Q.bZ cx) cx) cx) aj) B.Lw rfl IA (by decide+kernel) rfl)) (de.nm 3) (de.g 2) B.EE))))) si
theorem lV:MethAt (KX w.params) ay "gather" "Bench.gather" fY ["self","top","place"] 120 (Hd.fd fY "gather" "Bench.gather" fS 119):=Hd.y6 (by kernel_rfl) fun _ _ _ _ _ _ _ _ _=>rfl
theorem vL:bF PW w (KX w.params) mg base cG 4 120 (Hd.fd fY "gather" "Bench.gather" fS 119) ["self","top","place"] (cL lS):=by
 have B:=Bt e;have Q:=Qt e
 exact cf (N:=jR) (lV e).fn gJ (fun cdv A outer s H E hr=>(aq (cA gJ.nd (aw.l 3) (iZ (aw.nm 0) Q.aZ.cl (h8 e).me (nq e) (hr.mono (by decide)) (h8 e).bd (aa (aw.nm 1) (aa (aw.nm 2) aj))))
  (aq (yD (dh uz (bS _) (cY d_ (aa (aw.nm 3) aj) B.ef rfl c7 (aw.d 0) (aw.g 0)) av) (aq (cA gJ.nd (aw.l 4) (bC (aw.nm 3) (qg av)))
  (aq (cA gJ.nd (aw.l 5) (bC (aw.nm 3) (qg av)))
  (aq (dX (iZ (aw.nm 0) Q.aZ.cl (jt e).me (rP e) (hr.mono (by decide)) (jt e).bd (aa (aw.nm 4) (aa (a_ (mL e) (rZ e) (hr.mono (by decide)) (aa (bC (bC (bo Q.aZ.cl Q.bZ (aw.nm 0)) (aw.nm 4)) (aw.nm 2)) (aa (bC (bC (bo Q.aZ.cl Q.bZ (aw.nm 0)) (aw.nm 5)) (aw.nm 2)) aj)) (aw.d 1) (aw.g 1)) (aa (aw.nm 5) aj)))))
  (aD (cA gJ.nd (aw.l 3) (iZ (aw.nm 0) Q.aZ.cl (h8 e).me (nq e) (hr.mono (by decide)) (h8 e).bd (aa (aw.nm 1) (aa (aw.nm 2) aj)))))))))
  (aq (eW (dh (k_ hr) (bS _) (cY d_ (aa (aw.nm 3) aj) B.ef rfl c7 (aw.d 0) (aw.g 0)) av) (aD (bp jZ)) dF)
  (aq (dX (iZ (aw.nm 0) Q.aZ.cl (ky e).me (uv e) (hr.mono (by decide)) (ky e).bd (aa (aw.nm 1) (aa (bC (aw.nm 3) av) aj))))
  (aq (eW (dh A3 (bS _) (bC (bC (bo Q.aZ.cl Q.bZ (aw.nm 0)) (aw.nm 1)) (aw.nm 2)) av) (aD (dX (iZ (aw.nm 0) Q.aZ.cl (jd e).me (rg e) (hr.mono (by decide)) (jd e).bd (aa (aw.nm 1) aj)))) dF)
  (aD (bp jZ)))))))) uO
theorem jc:MethAt (KX w.params) ay "lower_above" "Bench.lower_above" dS ["self","top","place"] 127 (Hd.fd dS "lower_above" "Bench.lower_above" fS 126):=Hd.y6 (by kernel_rfl) fun _ _ _ _ _ _ _ _ _=>rfl
theorem rf:bF PW w (KX w.params) mg base cG 3 127 (Hd.fd dS "lower_above" "Bench.lower_above" fS 126) ["self","top","place"] (cL i_):=by
 have B:=Bt e;have Q:=Qt e;exact cf (N:=gj) (jc e).fn fU (fun cdv A outer s H E hr=>(aD (jm (dG (bN.g 0) B.dN (aa (bN.nm 1) aj)) (dR fU.nd (by first|exact Or.inl rfl|exact Or.inr rfl) (by first|exact .inl rfl|exact .inr rfl)) (aD (dX (iZ (bN.nm 0) Q.aZ.cl (jt e).me (rP e) (hr.mono (by decide)) (jt e).bd (aa (bN.nm 3) (aa (bT (z_ hr rfl fU.gen fU.co) (bC (bC (bo Q.aZ.cl Q.bZ (bN.nm 0)) (bN.nm 3)) (bN.nm 2)) (bC (bC (bo Q.aZ.cl Q.bZ (bN.nm 0)) (bN.nm 1)) (bN.nm 2))) (aa (bN.nm 1) aj))))))))) qo
theorem qy:cD (KX w.params) mg "standing" "standing" jL ["rows"] 141 (Hd.fd jL "standing" "standing" fS 140):=Hd.qP e.X e.G (by kernel_rfl) fun _ _ _ _ _ _ _=>rfl
theorem vq:bF PW w (KX w.params) mg base cG 5 141 (Hd.fd jL "standing" "standing" fS 140) ["rows"] (cL nB):=by
 have B:=Bt e;have Q:=Qt e
 exact cf (N:=nE) (qy e).fn i3 (fun cdv A outer s H E hr=>(aq (cA i3.nd (a6.l 1) (Cv ⟨Q.aZ.MR,(iJ e).me.at_,(iJ e).me.fn,Q.aZ.kp⟩ (ur e) (hr.mono (by decide)) (a6.g 0) Q.aZ.mg (iJ e).bd (aa (a6.nm 0) aj) (a6.d 0)))
  (aq (cA i3.nd (a6.l 2) av)
  (aq (jm (dG (a6.g 2) B.dN (aa (cY d_ (aa (bC (a6.nm 0) av) aj) B.ef rfl c7 (a6.d 1) (a6.g 1)) aj)) (dR i3.nd (by first|exact Or.inl rfl|exact Or.inr rfl) (by first|exact .inl rfl|exact .inr rfl)) (aD (eW (eD (iZ (a6.nm 1) Q.aZ.cl (lV e).me (vL e) (hr.mono (by decide)) (lV e).bd (aa (a6.nm 2) (aa (a6.nm 3) aj)))) (aq (dX (iZ (a6.nm 1) Q.aZ.cl (jc e).me (rf e) (hr.mono (by decide)) (jc e).bd (aa (a6.nm 2) (aa (a6.nm 3) aj))))
  (aD (Iz i3.nd (a6.l 2) av J_))) dF)))
  (aq (cA i3.nd (a6.l 4) (a_ (iV e) (kn e) (hr.mono (by decide)) (aa (bo Q.aZ.cl Q.cp (a6.nm 1)) (aa (cY d_ (aa (a6.nm 0) aj) B.ef rfl c7 (a6.d 1) (a6.g 1)) aj)) (a6.d 3) (a6.g 3)))
  (aD (bp (BH (aa (a_ (oS e) (rj e) (hr.mono (by decide)) (aa (Hq (bo Q.aZ.cl Q.bZ (a6.nm 1)) GX (HA (a6.nm 2))) aj) (a6.d 4) (a6.g 4)) (aa (a_ (oS e) (rj e) (hr.mono (by decide)) (aa (bo Q.aZ.cl Q.e8 (a6.nm 1)) aj) (a6.d 4) (a6.g 4)) (aa (a6.nm 4) aj))))))))))) zC
theorem iG:MethAt (KX w.params) aC "__init__" "Sides.__init__" fk ["self","rows"] 155 (Hd.fd fk "__init__" "Sides.__init__" fR 154):=Hd.IK (by kernel_rfl) fun _ _ _ _ _ _ _ _=>rfl
theorem uu:bF PW w (KX w.params) mg base cG 3 155 (Hd.fd fk "__init__" "Sides.__init__" fR 154) ["self","rows"] (cL kG):=by
 have B:=Bt e;have Q:=Qt e
 exact cf (N:=iQ) (iG e).fn tf (fun cdv A outer s H E hr=>(aq (dQ Q.aN.cl Q.oz (aG.nm 0) (cY d_ (aa (aG.nm 1) aj) B.ef rfl c7 (aG.d 0) (aG.g 0)))
  (aq (dQ Q.aN.cl Q.fA (aG.nm 0) (cY d_ (aa (bC (aG.nm 1) av) aj) B.ef rfl c7 (aG.d 0) (aG.g 0)))
  (aq (dQ Q.aN.cl Q.c6 (aG.nm 0) (aG.nm 1))
  (aq (dQ Q.aN.cl Q.kZ (aG.nm 0) (a_ (fW e) (g0 e) (hr.mono (by decide)) (aa (bo Q.aN.cl Q.oz (aG.nm 0)) aj) (aG.d 1) (aG.g 1)))
  (aq (dQ Q.aN.cl Q.g_ (aG.nm 0) (a_ (fW e) (g0 e) (hr.mono (by decide)) (aa (bo Q.aN.cl Q.oz (aG.nm 0)) aj) (aG.d 1) (aG.g 1)))
  (aq (dQ Q.aN.cl Q.kl (aG.nm 0) (a_ (fW e) (g0 e) (hr.mono (by decide)) (aa (bo Q.aN.cl Q.fA (aG.nm 0)) aj) (aG.d 1) (aG.g 1)))
  (aD (dQ Q.aN.cl Q.gH (aG.nm 0) (a_ (fW e) (g0 e) (hr.mono (by decide)) (aa (bo Q.aN.cl Q.fA (aG.nm 0)) aj) (aG.d 1) (aG.g 1))))))))))) tu
theorem j6:MethAt (KX w.params) aC "turn_left" "Sides.turn_left" fb ["self","turn","back"] 162 (Hd.fd fb "turn_left" "Sides.turn_left" fR 161):=Hd.y6 (by kernel_rfl) fun _ _ _ _ _ _ _ _ _=>rfl
theorem sZ:bF PW w (KX w.params) mg base cG 4 162 (Hd.fd fb "turn_left" "Sides.turn_left" fR 161) ["self","turn","back"] (cL j5):=by
 have B:=Bt e;have Q:=Qt e
 exact cf (N:=hJ) (j6 e).fn r9 (fun cdv A outer s H E hr=>(aq (dQ Q.aN.cl Q.c6 (bw.nm 0) (a_ (ju e) (kT e) (hr.mono (by decide)) (aa (bw.nm 1) (aa (bo Q.aN.cl Q.c6 (bw.nm 0)) aj)) (bw.d 0) (bw.g 0)))
  (aq (dQ Q.aN.cl Q.kZ (bw.nm 0) (a_ (ju e) (kT e) (hr.mono (by decide)) (aa (bw.nm 1) (aa (bo Q.aN.cl Q.kZ (bw.nm 0)) aj)) (bw.d 0) (bw.g 0)))
  (aD (dQ Q.aN.cl Q.g_ (bw.nm 0) (a_ (ju e) (kT e) (hr.mono (by decide)) (aa (bo Q.aN.cl Q.g_ (bw.nm 0)) (aa (bw.nm 2) aj)) (bw.d 0) (bw.g 0))))))) rV
theorem fB:MethAt (KX w.params) aC "turn_right" "Sides.turn_right" eH ["self","turn","back"] 169 (Hd.fd eH "turn_right" "Sides.turn_right" fR 168):=Hd.y6 (by kernel_rfl) fun _ _ _ _ _ _ _ _ _=>rfl
theorem m6:bF PW w (KX w.params) mg base cG 4 169 (Hd.fd eH "turn_right" "Sides.turn_right" fR 168) ["self","turn","back"] (cL gR):=by
 have B:=Bt e;have Q:=Qt e
 exact cf (N:=gT) (fB e).fn rh (fun cdv A outer s H E hr=>(aq (dQ Q.aN.cl Q.c6 (bj.nm 0) (a_ (ju e) (kT e) (hr.mono (by decide)) (aa (bo Q.aN.cl Q.c6 (bj.nm 0)) (aa (bj.nm 1) aj)) (bj.d 0) (bj.g 0)))
  (aq (dQ Q.aN.cl Q.kl (bj.nm 0) (a_ (ju e) (kT e) (hr.mono (by decide)) (aa (bo Q.aN.cl Q.kl (bj.nm 0)) (aa (bj.nm 1) aj)) (bj.d 0) (bj.g 0)))
  (aD (dQ Q.aN.cl Q.gH (bj.nm 0) (a_ (ju e) (kT e) (hr.mono (by decide)) (aa (bj.nm 2) (aa (bo Q.aN.cl Q.gH (bj.nm 0)) aj)) (bj.d 0) (bj.g 0))))))) qV
theorem fz:MethAt (KX w.params) aC "stand_rows" "Sides.stand_rows" eE ["self"] 176 (Hd.fd eE "stand_rows" "Sides.stand_rows" fR 175):=Hd.IL (by kernel_rfl) fun _ _ _ _ _ _ _=>rfl
theorem m7:bF PW w (KX w.params) mg base cG 6 176 (Hd.fd eE "stand_rows" "Sides.stand_rows" fR 175) ["self"] (cL gL):=by
 have B:=Bt e;have Q:=Qt e
 exact cf (N:=gF) (fz e).fn lJ (fun cdv A outer s H E hr=>(aq (cA lJ.nd (dE.l 1) (a_ (qy e) (vq e) (hr.mono (by decide)) (aa (bo Q.aN.cl Q.c6 (dE.nm 0)) aj) (dE.d 0) (dE.g 0)))
  (aD (dX (iZ (dE.nm 0) Q.aN.cl (j6 e).me (sZ e) (hr.mono (by decide)) (j6 e).bd (aa (bC (dE.nm 1) av) (aa (bC (dE.nm 1) av) aj))))))) qX
theorem eC:MethAt (KX w.params) aC "stand_columns" "Sides.stand_columns" dy ["self"] 183 (Hd.fd dy "stand_columns" "Sides.stand_columns" fR 182):=Hd.IL (by kernel_rfl) fun _ _ _ _ _ _ _=>rfl
theorem kR:bF PW w (KX w.params) mg base cG 6 183 (Hd.fd dy "stand_columns" "Sides.stand_columns" fR 182) ["self"] (cL fJ):=by
 have B:=Bt e;have Q:=Qt e
 exact cf (N:=fK) (eC e).fn kc (fun cdv A outer s H E hr=>(aq (cA kc.nd (aQ.l 1) (a_ (qy e) (vq e) (hr.mono (by decide)) (aa (a_ (iV e) (kn e) (hr.mono (by decide)) (aa (bo Q.aN.cl Q.c6 (aQ.nm 0)) (aa (bo Q.aN.cl Q.fA (aQ.nm 0)) aj)) (aQ.d 0) (aQ.g 0)) aj) (aQ.d 1) (aQ.g 1)))
  (aD (dX (iZ (aQ.nm 0) Q.aN.cl (fB e).me (m6 e) (hr.mono (by decide)) (fB e).bd (aa (a_ (iV e) (kn e) (hr.mono (by decide)) (aa (bC (aQ.nm 1) av) (aa (bo Q.aN.cl Q.fA (aQ.nm 0)) aj)) (aQ.d 0) (aQ.g 0)) (aa (a_ (iV e) (kn e) (hr.mono (by decide)) (aa (bC (aQ.nm 1) av) (aa (bo Q.aN.cl Q.fA (aQ.nm 0)) aj)) (aQ.d 0) (aQ.g 0)) aj))))))) pf
theorem qI:cD (KX w.params) mg "is_diagonal" "is_diagonal" fN ["rows"] 214 (Hd.fd fN "is_diagonal" "is_diagonal" fR 213):=Hd.qP e.X e.G (by kernel_rfl) fun _ _ _ _ _ _ _=>rfl
theorem w_:bF PW w (KX w.params) mg base cG 1 214 (Hd.fd fN "is_diagonal" "is_diagonal" fR 213) ["rows"] (cL ni):=by
 have B:=Bt e;have Q:=Qt e
 exact cf (N:=ki) (qI e).fn pL (fun cdv A outer s H E hr=>(aq (jm (Cm (gB.g 0) B.tF (aa (gB.nm 0) aj)) (sV rfl pL.nd (by first|exact Or.inl rfl|exact Or.inr rfl) (by first|exact .inl rfl|exact .inr rfl) (by first|exact Or.inl rfl|exact Or.inr rfl) (by first|exact .inl rfl|exact .inr rfl)) (aD (eW (gg (eD (cY (AY rfl) (aa (d5 (Nc:=["place","number","k"]) (bh.look (ai fN) ["rows","k","row"] (by decide+kernel)) (Cm (gB.g 0) B.tF (aa (gB.nm 2) aj)) (fun _ _ _ _=>(sV rfl (show(["place","number","k"]:List Str).Nodup by decide+kernel) (by first|exact Or.inl rfl|exact Or.inr rfl) (by first|exact .inl rfl|exact .inr rfl) (by first|exact Or.inl rfl|exact Or.inr rfl) (by first|exact .inl rfl|exact .inr rfl))) (fun _ _ _ _=>cw) (fun _ _ _ _=>(Ny (mF (k_ hr) (bS _) cx av) (BX (mF (k_ hr) (bS _) cx cx)))) sY) aj) B.Bf rfl yX (gB.d 1) (gB.g 1)))) (aD (bp jZ)) dF)))
  (aD (bp jZ)))) vY
theorem h_:MethAt (KX w.params) aC "settle" "Sides.settle" fX ["self"] 190 (Hd.fd fX "settle" "Sides.settle" fR 189):=Hd.IL (by kernel_rfl) fun _ _ _ _ _ _ _=>rfl
theorem pR:bF PW w (KX w.params) mg base cG 7 190 (Hd.fd fX "settle" "Sides.settle" fR 189) ["self"] (cL jQ):=by
 have B:=Bt e;have Q:=Qt e
 exact cf (N:=jU) (h_ e).fn u6 (fun cdv A outer s H E hr=>(aq (dX (nL (fm.nm 0) Q.aN.cl (fz e).me (m7 e) (hr.mono (by decide)) (fz e).bd))
  (aq (dX (nL (fm.nm 0) Q.aN.cl (eC e).me (kR e) (hr.mono (by decide)) (eC e).bd))
  (aD (yD (gg (eD (a_ (qI e) (w_ e) (hr.mono (by decide)) (aa (bo Q.aN.cl Q.c6 (fm.nm 0)) aj) (fm.d 0) (fm.g 0)))) (aq (dX (nL (fm.nm 0) Q.aN.cl (fz e).me (m7 e) (hr.mono (by decide)) (fz e).bd))
  (aD (dX (nL (fm.nm 0) Q.aN.cl (eC e).me (kR e) (hr.mono (by decide)) (eC e).bd))))))))) uV
theorem ll:cD (KX w.params) mg "unit_rows_but" "unit_rows_but" eR ["n","k","place","number"] 209 (Hd.fd eR "unit_rows_but" "unit_rows_but" fR 208):=Hd.N0 e.X e.G (by kernel_rfl) fun _ _ _ _ _ _ _ _ _ _=>rfl
theorem oN:bF PW w (KX w.params) mg base cG 3 209 (Hd.fd eR "unit_rows_but" "unit_rows_but" fR 208) ["n","k","place","number"] (cL jg):=by
 have B:=Bt e;have Q:=Qt e
 exact cf (N:=jl) (ll e).fn ox (fun cdv A outer s H E hr=>(aq (EL ox.nd (cE.l 4) (Nc:=["row"]) (bh.look (ai eR) ["n","k","place","number","rows"] (by decide+kernel)) (iK (a_ (fW e) (g0 e) (hr.mono (by decide)) (aa (cE.nm 0) aj) (cE.d 0) (cE.g 0))) (fun _ _ _ _=>(dR (show(["row"]:List Str).Nodup by decide+kernel) (by first|exact Or.inl rfl|exact Or.inr rfl) (by first|exact .inl rfl|exact .inr rfl))) (fun _ _ _ _=>cw) (fun _ _ _ _=>(fy Ap (aa cx aj) B.nQ rfl lL (by decide+kernel) rfl)) cm)
  (aq (f7 (cE.nm 3) (bC (cE.nm 4) (cE.nm 1)) (cE.nm 2))
  (aD (bp (a_ (oS e) (rj e) (hr.mono (by decide)) (aa (cE.nm 4) aj) (cE.d 1) (cE.g 1))))))) uq
theorem nh:MethAt (KX w.params) aC "merge" "Sides.merge" gw ["self","k","other"] 197 (Hd.fd gw "merge" "Sides.merge" fR 196):=Hd.y6 (by kernel_rfl) fun _ _ _ _ _ _ _ _ _=>rfl
theorem w9:bF PW w (KX w.params) mg base cG 8 197 (Hd.fd gw "merge" "Sides.merge" fR 196) ["self","k","other"] (cL ng):=by
 have B:=Bt e;have Q:=Qt e
 exact cf (N:=kh) (nh e).fn wb (fun cdv A outer s H E hr=>(aq (dX (iZ (cN.nm 0) Q.aN.cl (fB e).me (m6 e) (hr.mono (by decide)) (fB e).bd (aa (a_ (ll e) (oN e) (hr.mono (by decide)) (aa (bo Q.aN.cl Q.fA (cN.nm 0)) (aa (cN.nm 2) (aa (cN.nm 1) (aa av aj)))) (cN.d 0) (cN.g 0)) (aa (a_ (ll e) (oN e) (hr.mono (by decide)) (aa (bo Q.aN.cl Q.fA (cN.nm 0)) (aa (cN.nm 2) (aa (cN.nm 1) (aa (qg av) aj)))) (cN.d 0) (cN.g 0)) aj))))
  (aD (dX (nL (cN.nm 0) Q.aN.cl (h_ e).me (pR e) (hr.mono (by decide)) (h_ e).bd))))) vX
theorem oE:cD (KX w.params) mg "numbers_of" "numbers_of" gd ["body"] 219 (Hd.fd gd "numbers_of" "numbers_of" fR 218):=Hd.qP e.X e.G (by kernel_rfl) fun _ _ _ _ _ _ _=>rfl
theorem rY:bF PW w (KX w.params) mg base cG 1 219 (Hd.fd gd "numbers_of" "numbers_of" fR 218) ["body"] (cL lE):=by
 have B:=Bt e;have Q:=Qt e
 exact cf (N:=lD) (oE e).fn qO (fun cdv A outer s H E hr=>(aq (cA qO.nd (cQ.l 1) (cY (F5 rfl) (aa (cY d_ (aa (cQ.nm 0) aj) B.ef rfl c7 (cQ.d 0) (cQ.g 0)) (aa (cY d_ (aa (bC (cQ.nm 0) av) aj) B.ef rfl c7 (cQ.d 0) (cQ.g 0)) aj)) B.F4 rfl Dy (cQ.d 1) (cQ.g 1)))
  (aD (bp (fy eG (aa (d5 (Nc:=["k","body"]) (bh.look (ai gd) ["body","least"] (by decide+kernel)) (dG (cQ.g 2) B.dN (aa (cQ.nm 1) aj)) (fun _ _ _ _=>(dR (show(["k","body"]:List Str).Nodup by decide+kernel) (by first|exact Or.inl rfl|exact Or.inr rfl) (by first|exact .inl rfl|exact .inr rfl))) (fun _ _ _ _=>(Ci (dh uA (bS _) (bC (bC cx cx) cx) av))) (fun _ _ _ _=>(bC (bC cx cx) cx)) cm) aj) B.dc rfl cH (cQ.d 3) (cQ.g 3)))))) xh
theorem qv:cD (KX w.params) mg "dividing" "dividing" jS ["rows"] 226 (Hd.fd jS "dividing" "dividing" fR 225):=Hd.qP e.X e.G (by kernel_rfl) fun _ _ _ _ _ _ _=>rfl
theorem vb:bF PW w (KX w.params) mg base cG 9 226 (Hd.fd jS "dividing" "dividing" fR 225) ["rows"] (cL nu):=by
 have B:=Bt e;have Q:=Qt e
 exact cf (N:=nr) (qv e).fn ke (fun cdv A outer s H E hr=>(aq (cA ke.nd (aY.l 1) (Cv ⟨Q.aN.MR,(iG e).me.at_,(iG e).me.fn,Q.aN.kp⟩ (uu e) (hr.mono (by decide)) (aY.g 0) Q.aN.mg (iG e).bd (aa (aY.nm 0) aj) (aY.d 0)))
  (aq (dX (nL (aY.nm 1) Q.aN.cl (h_ e).me (pR e) (hr.mono (by decide)) (h_ e).bd))
  (aq (cA ke.nd (aY.l 2) (cY d_ (aa (a_ (oE e) (rY e) (hr.mono (by decide)) (aa (bo Q.aN.cl Q.c6 (aY.nm 1)) aj) (aY.d 1) (aY.g 1)) aj) B.ef rfl c7 (aY.d 2) (aY.g 2)))
  (aq (jm (dG (aY.g 3) B.dN (aa (aY.nm 2) aj)) (dR ke.nd (by first|exact Or.inl rfl|exact Or.inr rfl) (by first|exact .inl rfl|exact .inr rfl)) (aD (jm (yE (aY.g 3) B.dN (aa (bT jM (aY.nm 3) av) (aa (aY.nm 2) aj))) (dR ke.nd (by first|exact Or.inl rfl|exact Or.inr rfl) (by first|exact .inl rfl|exact .inr rfl)) (aD (eW (dh uA (bS _) (bT nF (bC (bC (bo Q.aN.cl Q.c6 (aY.nm 1)) (aY.nm 4)) (aY.nm 4)) (bC (bC (bo Q.aN.cl Q.c6 (aY.nm 1)) (aY.nm 3)) (aY.nm 3))) av) (aD (dX (iZ (aY.nm 1) Q.aN.cl (nh e).me (w9 e) (hr.mono (by decide)) (nh e).bd (aa (aY.nm 3) (aa (aY.nm 4) aj))))) dF)))))
  (aD (bp (BH (aa (a_ (oE e) (rY e) (hr.mono (by decide)) (aa (bo Q.aN.cl Q.c6 (aY.nm 1)) aj) (aY.d 1) (aY.g 1)) (aa (bo Q.aN.cl Q.kZ (aY.nm 1)) (aa (bo Q.aN.cl Q.g_ (aY.nm 1)) (aa (bo Q.aN.cl Q.kl (aY.nm 1)) (aa (bo Q.aN.cl Q.gH (aY.nm 1)) aj))))))))))))) zO
theorem sv:cD (KX w.params) mg "_law_source" "_law_source" ir ["_law_script","_law_k"] 233 (Hd.fd ir "_law_source" "_law_source" fg 232):=Hd.vj e.X e.G (by kernel_rfl) fun _ _ _ _ _ _ _ _=>rfl
theorem yV:bF PW w (KX w.params) mg base cG 1 233 (Hd.fd ir "_law_source" "_law_source" fg 232) ["_law_script","_law_k"] (cL nS):=by
 have B:=Bt e;have Q:=Qt e
 exact cf (N:=kX) (sv e).fn m_ (fun cdv A outer s H E hr=>(aq (cA m_.nd (cn.l 2) av)
  (aq (eW (dh uz (bS _) (cY d_ (aa (cn.nm 0) aj) B.ef rfl c7 (cn.d 0) (cn.g 0)) av) (aD (cA m_.nd (cn.l 2) (bC (cn.nm 0) (bT nF (cn.nm 1) (cY d_ (aa (cn.nm 0) aj) B.ef rfl c7 (cn.d 0) (cn.g 0)))))) dF)
  (aD (bp (xO (aa (bT gO (cn.nm 2) (fy FJ (aa (mF NB (bS _) (cn.nm 2) (bT xI av av)) aj) B.BI rfl yT (cn.d 1) (cn.g 1))) (aa (cn.nm 2) (aa (bT gO av (cn.nm 1)) aj))))))))) xa
theorem cX:cD (KX w.params) mg "_law_take" "_law_take" jP ["_law_source_here","_law_many"] 240 (Hd.fd jP "_law_take" "_law_take" fg 239):=Hd.vj e.X e.G (by kernel_rfl) fun _ _ _ _ _ _ _ _=>rfl
theorem dk:bF PW w (KX w.params) mg base cG 1 240 (Hd.fd jP "_law_take" "_law_take" fg 239) ["_law_source_here","_law_many"] (cL cM):=by
 have B:=Bt e;have Q:=Qt e
 exact cf (N:=nA) (cX e).fn mz (fun cdv A outer s H E hr=>(aq (eW (dh uz (bS _) (bC (cq.nm 0) av) av) (aq (cA mz.nd (cq.l 2) (bT nF (bC (cq.nm 0) av) (cq.nm 1)))
  (aq (f7 (bT D3 (bC (cq.nm 0) av) (cq.nm 1)) (cq.nm 0) av)
  (aD (bp (cq.nm 2))))) dF)
  (aq (f7 (bT jM (bC (cq.nm 0) av) av) (cq.nm 0) av)
  (aq (cA mz.nd (cq.l 3) (bT nF (bT gO (bT jM (bT jM (bT nF (bC (cq.nm 0) av) av) (bT gO av (bC (cq.nm 0) av))) av) av) av))
  (aq (cA mz.nd (cq.l 3) (bT jM (bT nF (bT gO (cq.nm 3) (cq.nm 3)) av) (bT gO av (bC (cq.nm 0) av))))
  (aD (bp (bT nF (bT D3 (bT nF (bT gO (cq.nm 3) av) av) av) (cq.nm 1))))))))) zR
theorem rF:cD (KX w.params) mg "_law_number" "_law_number" il ["_law_source_here"] 247 (Hd.fd il "_law_number" "_law_number" fg 246):=Hd.qP e.X e.G (by kernel_rfl) fun _ _ _ _ _ _ _=>rfl
theorem xU:bF PW w (KX w.params) mg base cG 2 247 (Hd.fd il "_law_number" "_law_number" fg 246) ["_law_source_here"] (cL nY):=by
 have B:=Bt e;have Q:=Qt e
 exact cf (N:=lG) (rF e).fn qL (fun cdv A outer s H E hr=>(aq (cA qL.nd (bG.l 1) (a_ (cX e) (dk e) (hr.mono (by decide)) (aa (bG.nm 0) (aa av aj)) (bG.d 0) (bG.g 0)))
  (aq (eW (dh A3 (bS _) (bG.nm 1) av) (aD (bp (bT qc (a_ (cX e) (dk e) (hr.mono (by decide)) (aa (bG.nm 0) (aa av aj)) (bG.d 0) (bG.g 0)) av))) dF)
  (aq (eW (dh A3 (bS _) (bG.nm 1) av) (aD (bp (bT qc (a_ (cX e) (dk e) (hr.mono (by decide)) (aa (bG.nm 0) (aa av aj)) (bG.d 0) (bG.g 0)) av))) dF)
  (aD (bp (bT gO (bT jM (bT gO (a_ (cX e) (dk e) (hr.mono (by decide)) (aa (bG.nm 0) (aa (bT xI av av) aj)) (bG.d 0) (bG.g 0)) (bT xI av av)) (a_ (cX e) (dk e) (hr.mono (by decide)) (aa (bG.nm 0) (aa (bT xI av av) aj)) (bG.d 0) (bG.g 0))) (bT qc av (bT gO av (a_ (cX e) (dk e) (hr.mono (by decide)) (aa (bG.nm 0) (aa av aj)) (bG.d 0) (bG.g 0))))))))))) xi
theorem vd:cD (KX w.params) mg "_law_rows" "_law_rows" di ["_law_source_here"] 252 (Hd.fd di "_law_rows" "_law_rows" fg 251):=Hd.qP e.X e.G (by kernel_rfl) fun _ _ _ _ _ _ _=>rfl
theorem AK:bF PW w (KX w.params) mg base cG 3 252 (Hd.fd di "_law_rows" "_law_rows" fg 251) ["_law_source_here"] (cL qD):=by
 have B:=Bt e;have Q:=Qt e
 exact cf (N:=nH) (vd e).fn d6 (fun cdv A outer s H E hr=>(aq (cA d6.nd (au.l 1) (mF (k_ hr) (bS _) (a_ (cX e) (dk e) (hr.mono (by decide)) (aa (au.nm 0) (aa av aj)) (au.d 0) (au.g 0)) av))
  (aq (zw d6.nd (by decide) (show(ai di).names.lookup ("_law_many":Str)=some .local by decide+kernel) (show(ai di).names.lookup ("_law_wide":Str)=some .local by decide+kernel) (aa (bT jM av (a_ (cX e) (dk e) (hr.mono (by decide)) (aa (au.nm 0) (aa av aj)) (au.d 0) (au.g 0))) (aa (bT jM av (a_ (cX e) (dk e) (hr.mono (by decide)) (aa (au.nm 0) (aa av aj)) (au.d 0) (au.g 0))) aj)))
  (aq (eW (eD (au.nm 1)) (aD (zw d6.nd (by decide) (show(ai di).names.lookup ("_law_many":Str)=some .local by decide+kernel) (show(ai di).names.lookup ("_law_wide":Str)=some .local by decide+kernel) (aa (bT jM av (a_ (cX e) (dk e) (hr.mono (by decide)) (aa (au.nm 0) (aa av aj)) (au.d 0) (au.g 0))) (aa (bT jM av (a_ (cX e) (dk e) (hr.mono (by decide)) (aa (au.nm 0) (aa av aj)) (au.d 0) (au.g 0))) aj)))) dF)
  (aq (cA d6.nd (au.l 4) (xO aj))
  (aq (jm (dG (au.g 1) B.dN (aa (au.nm 2) aj)) (dR d6.nd (by first|exact Or.inl rfl|exact Or.inr rfl) (by first|exact .inl rfl|exact .inr rfl)) (aq (cA d6.nd (au.l 6) (a_ (cX e) (dk e) (hr.mono (by decide)) (aa (au.nm 0) (aa av aj)) (au.d 0) (au.g 0)))
  (aq (cA d6.nd (au.l 7) (BA (eD (au.nm 1)) (d5 (Nc:=["_law_j","_law_source_here"]) (bh.look (ai di) ["_law_source_here","_law_great","_law_many","_law_wide","_law_rows_here","_law_k","_law_how","_law_row"] (by decide+kernel)) (dG (au.g 1) B.dN (aa (au.nm 3) aj)) (fun _ _ _ _=>(dR (show(["_law_j","_law_source_here"]:List Str).Nodup by decide+kernel) (by first|exact Or.inl rfl|exact Or.inr rfl) (by first|exact .inl rfl|exact .inr rfl))) (fun _ _ _ _=>cw) (fun _ _ _ _=>(bT qc (a_ (cX e) (dk e) (hr.mono (by decide)) (aa cx (aa av aj)) (by decide+kernel) rfl) av)) cm) (d5 (Nc:=["_law_j","_law_source_here"]) (bh.look (ai di) ["_law_source_here","_law_great","_law_many","_law_wide","_law_rows_here","_law_k","_law_how","_law_row"] (by decide+kernel)) (dG (au.g 1) B.dN (aa (au.nm 3) aj)) (fun _ _ _ _=>(dR (show(["_law_j","_law_source_here"]:List Str).Nodup by decide+kernel) (by first|exact Or.inl rfl|exact Or.inr rfl) (by first|exact .inl rfl|exact .inr rfl))) (fun _ _ _ _=>cw) (fun _ _ _ _=>(a_ (rF e) (xU e) (hr.mono (by decide)) (aa cx aj) (by decide+kernel) rfl)) cm)))
  (aq (eW (dh (k_ hr) (bS _) (au.nm 6) av) (aD (cA d6.nd (au.l 7) (bT gO (Gd (aa av aj)) (au.nm 3)))) dF)
  (aq (eW (lh (rX (dh (k_ hr) (bS _) (au.nm 6) av) (sS (dh uz (bS _) (au.nm 5) av)))) (aD (sP d6.nd (au.l 7) (Nc:=["_law_one"]) (bh.look (ai di) ["_law_source_here","_law_great","_law_many","_law_wide","_law_rows_here","_law_k","_law_how","_law_row"] (by decide+kernel)) (iK (bC (au.nm 4) (a_ (cX e) (dk e) (hr.mono (by decide)) (aa (au.nm 0) (aa (au.nm 5) aj)) (au.d 0) (au.g 0)))) (fun _ _ _ _=>(dR (show(["_law_one"]:List Str).Nodup by decide+kernel) (by first|exact Or.inl rfl|exact Or.inr rfl) (by first|exact .inl rfl|exact .inr rfl))) (fun _ _ _ _=>cw) (fun _ _ _ _=>(qg cx)) cm)) dF)
  (aq (eW (lh (rX (dh (k_ hr) (bS _) (au.nm 6) av) (rX (dh uz (bS _) (au.nm 5) av) (sS (eD (au.nm 1)))))) (aD (sP d6.nd (au.l 7) (Nc:=["_law_one","_law_other"]) (bh.look (ai di) ["_law_source_here","_law_great","_law_many","_law_wide","_law_rows_here","_law_k","_law_how","_law_row"] (by decide+kernel)) (xp (au.g 2) B.xC (aa (bC (au.nm 4) av) (aa (bC (au.nm 4) (bT qc (au.nm 5) av)) aj))) (fun _ _ _ _=>(sV rfl (show(["_law_one","_law_other"]:List Str).Nodup by decide+kernel) (by first|exact Or.inl rfl|exact Or.inr rfl) (by first|exact .inl rfl|exact .inr rfl) (by first|exact Or.inl rfl|exact Or.inr rfl) (by first|exact .inl rfl|exact .inr rfl))) (fun _ _ _ _=>cw) (fun _ _ _ _=>(bT qc (bT gO av cx) cx)) sY)) dF)
  (aD (dX (rk (au.nm 4) (fy eG (aa (au.nm 7) aj) B.dc rfl cH (au.d 3) (au.g 3)))))))))))
  (aD (bp (fy eG (aa (au.nm 4) aj) B.dc rfl cH (au.d 3) (au.g 3)))))))))) zH
theorem iS:cD (KX w.params) mg "_law_product" "_law_product" fP ["_law_one","_law_other"] 257 (Hd.fd fP "_law_product" "_law_product" fg 256):=Hd.vj e.X e.G (by kernel_rfl) fun _ _ _ _ _ _ _ _=>rfl
theorem ku:bF PW w (KX w.params) mg base cG 1 257 (Hd.fd fP "_law_product" "_law_product" fg 256) ["_law_one","_law_other"] (cL gu):=by
 have B:=Bt e;have Q:=Qt e
 exact cf (N:=kq) (iS e).fn lW (fun cdv A outer s H E hr=>(aq (cA lW.nd (cO.l 2) (xO aj))
  (aq (jm (iK (cO.nm 0)) (dR lW.nd (by first|exact Or.inl rfl|exact Or.inr rfl) (by first|exact .inl rfl|exact .inr rfl)) (aD (dX (rk (cO.nm 2) (fy eG (aa (d5 (Nc:=["_law_k","_law_row","_law_other"]) (bh.look (ai fP) ["_law_one","_law_other","_law_made","_law_row"] (by decide+kernel)) (dG (cO.g 1) B.dN (aa (cY d_ (aa (bC (cO.nm 1) av) aj) B.ef rfl c7 (cO.d 0) (cO.g 0)) aj)) (fun _ _ _ _=>(dR (show(["_law_k","_law_row","_law_other"]:List Str).Nodup by decide+kernel) (by first|exact Or.inl rfl|exact Or.inr rfl) (by first|exact .inl rfl|exact .inr rfl))) (fun _ _ _ _=>cw) (fun _ _ _ _=>(cY (LP rfl) (aa (d5 (Nc:=["_law_a","_law_b","_law_k"]) (bh.Fx (by decide+kernel)) (xp rfl B.xC (aa cx (aa cx aj))) (fun _ _ _ _=>(sV rfl (show(["_law_a","_law_b","_law_k"]:List Str).Nodup by decide+kernel) (by first|exact Or.inl rfl|exact Or.inr rfl) (by first|exact .inl rfl|exact .inr rfl) (by first|exact Or.inl rfl|exact Or.inr rfl) (by first|exact .inl rfl|exact .inr rfl))) (fun _ _ _ _=>cw) (fun _ _ _ _=>(bT gO cx (bC cx cx))) sY) aj) B.L8 rfl JF (by decide+kernel) rfl)) cm) aj) B.dc rfl cH (cO.d 2) (cO.g 2))))))
  (aD (bp (fy eG (aa (cO.nm 2) aj) B.dc rfl cH (cO.d 2) (cO.g 2))))))) vF
theorem pe:cD (KX w.params) mg "_law_units" "_law_units" g4 ["_law_n"] 262 (Hd.fd g4 "_law_units" "_law_units" fg 261):=Hd.qP e.X e.G (by kernel_rfl) fun _ _ _ _ _ _ _=>rfl
theorem tK:bF PW w (KX w.params) mg base cG 1 262 (Hd.fd g4 "_law_units" "_law_units" fg 261) ["_law_n"] (cL mH):=by
 have B:=Bt e;have Q:=Qt e;exact cf (N:=mI) (pe e).fn yt (fun cdv A outer s H E hr=>(aD (bp (fy eG (aa (d5 (Nc:=["_law_i","_law_n"]) (bh.look (ai g4) ["_law_n"] (by decide+kernel)) (dG (mv.g 0) B.dN (aa (mv.nm 0) aj)) (fun _ _ _ _=>(dR (show(["_law_i","_law_n"]:List Str).Nodup by decide+kernel) (by first|exact Or.inl rfl|exact Or.inr rfl) (by first|exact .inl rfl|exact .inr rfl))) (fun _ _ _ _=>cw) (fun _ _ _ _=>(fy eG (aa (d5 (Nc:=["_law_j","_law_i"]) (bh.Fx (by decide+kernel)) (dG rfl B.dN (aa cx aj)) (fun _ _ _ _=>(dR (show(["_law_j","_law_i"]:List Str).Nodup by decide+kernel) (by first|exact Or.inl rfl|exact Or.inr rfl) (by first|exact .inl rfl|exact .inr rfl))) (fun _ _ _ _=>cw) (fun _ _ _ _=>(fy FJ (aa (mF (k_ hr) (bS _) cx cx) aj) B.BI rfl yT (by decide+kernel) rfl)) cm) aj) B.dc rfl cH (by decide+kernel) rfl)) cm) aj) B.dc rfl cH (mv.d 1) (mv.g 1))))) yh
theorem tM:cD (KX w.params) mg "_law_slope" "_law_slope" g5 ["_law_numbers","_law_many","_law_wide"] 267 (Hd.fd g5 "_law_slope" "_law_slope" fg 266):=Hd.Ah e.X e.G (by kernel_rfl) fun _ _ _ _ _ _ _ _ _=>rfl
theorem zQ:bF PW w (KX w.params) mg base cG 1 267 (Hd.fd g5 "_law_slope" "_law_slope" fg 266) ["_law_numbers","_law_many","_law_wide"] (cL ph):=by
 have B:=Bt e;have Q:=Qt e
 exact cf (N:=mw) (tM e).fn ot (fun cdv A outer s H E hr=>(aq (cA ot.nd (dZ.l 3) (xO aj))
  (aq (jm (dG (dZ.g 0) B.dN (aa (dZ.nm 1) aj)) (dR ot.nd (by first|exact Or.inl rfl|exact Or.inr rfl) (by first|exact .inl rfl|exact .inr rfl)) (aD (dX (rk (dZ.nm 3) (fy eG (aa (d5 (Nc:=["_law_j","_law_i","_law_numbers"]) (bh.look (ai g5) ["_law_numbers","_law_many","_law_wide","_law_rows_here","_law_i"] (by decide+kernel)) (dG (dZ.g 0) B.dN (aa (dZ.nm 2) aj)) (fun _ _ _ _=>(dR (show(["_law_j","_law_i","_law_numbers"]:List Str).Nodup by decide+kernel) (by first|exact Or.inl rfl|exact Or.inr rfl) (by first|exact .inl rfl|exact .inr rfl))) (fun _ _ _ _=>cw) (fun _ _ _ _=>(BA (lh (rX (dh (k_ hr) (bS _) cx cx) (sS (dh A3 (bS _) cx (cY d_ (aa cx aj) B.ef rfl c7 (by decide+kernel) rfl))))) (bC cx cx) av)) cm) aj) B.dc rfl cH (dZ.d 1) (dZ.g 1))))))
  (aD (bp (fy eG (aa (dZ.nm 3) aj) B.dc rfl cH (dZ.d 1) (dZ.g 1))))))) x8
theorem oW:cD (KX w.params) mg "_law_is_number" "_law_is_number" fF ["_law_found"] 274 (Hd.fd fF "_law_is_number" "_law_is_number" fg 273):=Hd.qP e.X e.G (by kernel_rfl) fun _ _ _ _ _ _ _=>rfl
theorem uJ:bF PW w (KX w.params) mg base cG 1 274 (Hd.fd fF "_law_is_number" "_law_is_number" fg 273) ["_law_found"] (cL la):=by
 have B:=Bt e;have Q:=Qt e;exact cf (N:=jh) (oW e).fn t7 (fun cdv A outer s H E hr=>(aD (bp (Gq (cY sQ (aa (cR.nm 0) (aa (vP B.BI rfl yT (cR.d 0) (cR.g 0)) aj)) B.ig rfl gD (cR.d 1) (cR.g 1)) (BX (L7 (cY sQ (aa (cR.nm 0) (aa (vP B.Jf rfl GC (cR.d 2) (cR.g 2)) aj)) B.ig rfl gD (cR.d 1) (cR.g 1)))))))) uE
theorem jW:cD (KX w.params) mg "_law_are_rows" "_law_are_rows" fh ["_law_found","_law_many","_law_wide"] 279 (Hd.fd fh "_law_are_rows" "_law_are_rows" fg 278):=Hd.Ah e.X e.G (by kernel_rfl) fun _ _ _ _ _ _ _ _ _=>rfl
theorem l9:bF PW w (KX w.params) mg base cG 2 279 (Hd.fd fh "_law_are_rows" "_law_are_rows" fg 278) ["_law_found","_law_many","_law_wide"] (cL ia):=by
 have B:=Bt e;have Q:=Qt e
 exact cf (N:=jX) (jW e).fn oO (fun cdv A outer s H E hr=>(aq (eW (lh (ny (gg (eD (cY sQ (aa (a5.nm 0) (aa (vP B.dc rfl cH (a5.d 0) (a5.g 0)) aj)) B.ig rfl gD (a5.d 1) (a5.g 1)))) (oi (dh uA (bS _) (cY d_ (aa (a5.nm 0) aj) B.ef rfl c7 (a5.d 2) (a5.g 2)) (a5.nm 1))))) (aD (bp jZ)) dF)
  (aq (jm (iK (a5.nm 0)) (dR oO.nd (by first|exact Or.inl rfl|exact Or.inr rfl) (by first|exact .inl rfl|exact .inr rfl)) (aD (eW (lh (ny (gg (eD (cY sQ (aa (a5.nm 3) (aa (vP B.dc rfl cH (a5.d 0) (a5.g 0)) aj)) B.ig rfl gD (a5.d 1) (a5.g 1)))) (ny (dh uA (bS _) (cY d_ (aa (a5.nm 3) aj) B.ef rfl c7 (a5.d 2) (a5.g 2)) (a5.nm 2)) (oi (gg (eD (cY (AY rfl) (aa (d5 (Nc:=["_law_one"]) (bh.look (ai fh) ["_law_found","_law_many","_law_wide","_law_row"] (by decide+kernel)) (iK (a5.nm 3)) (fun _ _ _ _=>(dR (show(["_law_one"]:List Str).Nodup by decide+kernel) (by first|exact Or.inl rfl|exact Or.inr rfl) (by first|exact .inl rfl|exact .inr rfl))) (fun _ _ _ _=>cw) (fun _ _ _ _=>(a_ (oW e) (uJ e) (hr.mono (by decide)) (aa cx aj) (by decide+kernel) rfl)) cm) aj) B.Bf rfl yX (a5.d 3) (a5.g 3)))))))) (aD (bp jZ)) dF)))
  (aD (bp jZ))))) uH
theorem lb:cD (KX w.params) mg "_law_are_turns" "_law_are_turns" fL ["_law_turn","_law_back","_law_n"] 286 (Hd.fd fL "_law_are_turns" "_law_are_turns" fg 285):=Hd.Ah e.X e.G (by kernel_rfl) fun _ _ _ _ _ _ _ _ _=>rfl
theorem oG:bF PW w (KX w.params) mg base cG 3 286 (Hd.fd fL "_law_are_turns" "_law_are_turns" fg 285) ["_law_turn","_law_back","_law_n"] (cL jf):=by
 have B:=Bt e;have Q:=Qt e
 exact cf (N:=jj) (lb e).fn uB (fun cdv A outer s H E hr=>(aq (eW (lh (ny (gg (eD (a_ (jW e) (l9 e) (hr.mono (by decide)) (aa (aM.nm 0) (aa (aM.nm 2) (aa (aM.nm 2) aj))) (aM.d 0) (aM.g 0)))) (oi (gg (eD (a_ (jW e) (l9 e) (hr.mono (by decide)) (aa (aM.nm 1) (aa (aM.nm 2) (aa (aM.nm 2) aj))) (aM.d 0) (aM.g 0))))))) (aD (bp jZ)) dF)
  (aD (bp (Gq (mF (k_ hr) (bS _) (a_ (iS e) (ku e) (hr.mono (by decide)) (aa (aM.nm 0) (aa (aM.nm 1) aj)) (aM.d 1) (aM.g 1)) (a_ (pe e) (tK e) (hr.mono (by decide)) (aa (aM.nm 2) aj) (aM.d 2) (aM.g 2))) (BX (mF (k_ hr) (bS _) (a_ (iS e) (ku e) (hr.mono (by decide)) (aa (aM.nm 1) (aa (aM.nm 0) aj)) (aM.d 1) (aM.g 1)) (a_ (pe e) (tK e) (hr.mono (by decide)) (aa (aM.nm 2) aj) (aM.d 2) (aM.g 2))))))))) uy
theorem o6:cD (KX w.params) mg "_law_right" "_law_right" eO ["_law_rows_here","_law_told"] 291 (Hd.fd eO "_law_right" "_law_right" fg 290):=Hd.vj e.X e.G (by kernel_rfl) fun _ _ _ _ _ _ _ _=>rfl
theorem tH:bF PW w (KX w.params) mg base cG 4 291 (Hd.fd eO "_law_right" "_law_right" fg 290) ["_law_rows_here","_law_told"] (cL mq):=by
 have B:=Bt e;have Q:=Qt e
 exact cf (N:=mG) (o6 e).fn nU (fun cdv A outer s H E hr=>(aq (eW (lh (ny (gg (eD (cY sQ (aa (ao.nm 1) (aa (vP B.dc rfl cH (ao.d 0) (ao.g 0)) aj)) B.ig rfl gD (ao.d 1) (ao.g 1)))) (ny (dh uA (bS _) (cY d_ (aa (ao.nm 1) aj) B.ef rfl c7 (ao.d 2) (ao.g 2)) av) (oi (gg (eD (cY sQ (aa (bC (ao.nm 1) av) (aa (vP B.dc rfl cH (ao.d 0) (ao.g 0)) aj)) B.ig rfl gD (ao.d 1) (ao.g 1)))))))) (aD (bp jZ)) dF)
  (aq (eW (gg (eD (a_ (jW e) (l9 e) (hr.mono (by decide)) (aa (BH (aa (bC (ao.nm 1) av) aj)) (aa av (aa (cY d_ (aa (bC (ao.nm 1) av) aj) B.ef rfl c7 (ao.d 2) (ao.g 2)) aj))) (ao.d 3) (ao.g 3)))) (aD (bp jZ)) dF)
  (aq (Kp (ao.nm 1) (KJ rfl nU.nd (by first|exact Or.inl rfl|exact Or.inr rfl) (by first|exact .inl rfl|exact .inr rfl) (by first|exact Or.inl rfl|exact Or.inr rfl) (by first|exact .inl rfl|exact .inr rfl) (by first|exact Or.inl rfl|exact Or.inr rfl) (by first|exact .inl rfl|exact .inr rfl) (by first|exact Or.inl rfl|exact Or.inr rfl) (by first|exact .inl rfl|exact .inr rfl) (by first|exact Or.inl rfl|exact Or.inr rfl) (by first|exact .inl rfl|exact .inr rfl)))
  (aq (zw nU.nd (by decide) (show(ai eO).names.lookup ("_law_many":Str)=some .local by decide+kernel) (show(ai eO).names.lookup ("_law_wide":Str)=some .local by decide+kernel) (aa (cY d_ (aa (ao.nm 0) aj) B.ef rfl c7 (ao.d 2) (ao.g 2)) (aa (cY d_ (aa (bC (ao.nm 0) av) aj) B.ef rfl c7 (ao.d 2) (ao.g 2)) aj)))
  (aq (eW (lh (ny (dh uz (bS _) (cY d_ (aa (ao.nm 2) aj) B.ef rfl c7 (ao.d 2) (ao.g 2)) (cY (F5 rfl) (aa (ao.nm 7) (aa (ao.nm 8) aj)) B.F4 rfl Dy (ao.d 4) (ao.g 4))) (oi (gg (eD (cY (AY rfl) (aa (d5 (Nc:=["_law_number_here"]) (bh.look (ai eO) ["_law_rows_here","_law_told","_law_numbers","_law_left","_law_left_back","_law_right_here","_law_right_back","_law_many","_law_wide"] (by decide+kernel)) (iK (ao.nm 2)) (fun _ _ _ _=>(dR (show(["_law_number_here"]:List Str).Nodup by decide+kernel) (by first|exact Or.inl rfl|exact Or.inr rfl) (by first|exact .inl rfl|exact .inr rfl))) (fun _ _ _ _=>cw) (fun _ _ _ _=>(mF uz (bS _) cx av)) cm) aj) B.Bf rfl yX (ao.d 5) (ao.g 5))))))) (aD (bp jZ)) dF)
  (aq (eW (eD (cY (LD rfl) (aa (d5 (Nc:=["_law_k","_law_numbers"]) (bh.look (ai eO) ["_law_rows_here","_law_told","_law_numbers","_law_left","_law_left_back","_law_right_here","_law_right_back","_law_many","_law_wide"] (by decide+kernel)) (dG (ao.g 6) B.dN (aa (bT qc (cY d_ (aa (ao.nm 2) aj) B.ef rfl c7 (ao.d 2) (ao.g 2)) av) aj)) (fun _ _ _ _=>(dR (show(["_law_k","_law_numbers"]:List Str).Nodup by decide+kernel) (by first|exact Or.inl rfl|exact Or.inr rfl) (by first|exact .inl rfl|exact .inr rfl))) (fun _ _ _ _=>cw) (fun _ _ _ _=>(mF uA (bS _) (bT nF (bC cx (bT jM cx av)) (bC cx cx)) av)) cm) aj) B.KS rfl Jg (ao.d 7) (ao.g 7))) (aD (bp jZ)) dF)
  (aq (eW (lh (ny (gg (eD (a_ (lb e) (oG e) (hr.mono (by decide)) (aa (ao.nm 3) (aa (ao.nm 4) (aa (ao.nm 7) aj))) (ao.d 8) (ao.g 8)))) (oi (gg (eD (a_ (lb e) (oG e) (hr.mono (by decide)) (aa (ao.nm 5) (aa (ao.nm 6) (aa (ao.nm 8) aj))) (ao.d 8) (ao.g 8))))))) (aD (bp jZ)) dF)
  (aD (bp (mF (k_ hr) (bS _) (a_ (iS e) (ku e) (hr.mono (by decide)) (aa (a_ (iS e) (ku e) (hr.mono (by decide)) (aa (ao.nm 3) (aa (ao.nm 0) aj)) (ao.d 9) (ao.g 9)) (aa (ao.nm 5) aj)) (ao.d 9) (ao.g 9)) (a_ (tM e) (zQ e) (hr.mono (by decide)) (aa (ao.nm 2) (aa (ao.nm 7) (aa (ao.nm 8) aj))) (ao.d 10) (ao.g 10))))))))))))) yp
theorem Ll:cD (KX w.params) mg "law" "law" mE ["_law_script"] 296 (Hd.fd mE "law" "law" fg 295):=Hd.qP e.X e.G (by kernel_rfl) fun _ _ _ _ _ _ _=>rfl
theorem Lc:bF PW w (KX w.params) mg base cG 10 296 (Hd.fd mE "law" "law" fg 295) ["_law_script"] (cL Gh):=by
 have B:=Bt e;have Q:=Qt e
 exact cf (N:=xv) (Ll e).fn uI (fun cdv A outer s H E hr=>(aq (jm (dG (eh.g 0) B.dN (aa av aj)) (dR uI.nd (by first|exact Or.inl rfl|exact Or.inr rfl) (by first|exact .inl rfl|exact .inr rfl)) (aq (cA uI.nd (eh.l 2) (a_ (vd e) (AK e) (hr.mono (by decide)) (aa (a_ (sv e) (yV e) (hr.mono (by decide)) (aa (eh.nm 0) (aa (eh.nm 1) aj)) (eh.d 1) (eh.g 1)) aj) (eh.d 2) (eh.g 2)))
  (aq (sP uI.nd (eh.l 3) (Nc:=["_law_row"]) (bh.look (ai mE) ["_law_script","_law_k","_law_rows_here","_law_handed"] (by decide+kernel)) (iK (eh.nm 2)) (fun _ _ _ _=>(dR (show(["_law_row"]:List Str).Nodup by decide+kernel) (by first|exact Or.inl rfl|exact Or.inr rfl) (by first|exact .inl rfl|exact .inr rfl))) (fun _ _ _ _=>cw) (fun _ _ _ _=>(fy rT (aa cx aj) B.nQ rfl lL (by decide+kernel) rfl)) cm)
  (aq (eW (lh (ny (gg (eD (a_ (o6 e) (tH e) (hr.mono (by decide)) (aa (eh.nm 2) (aa (a_ (qv e) (vb e) (hr.mono (by decide)) (aa (eh.nm 3) aj) (eh.d 3) (eh.g 3)) aj)) (eh.d 4) (eh.g 4)))) (oi (dh (Mu hr) (bS _) (eh.nm 3) (d5 (Nc:=["_law_row"]) (bh.look (ai mE) ["_law_script","_law_k","_law_rows_here","_law_handed"] (by decide+kernel)) (iK (eh.nm 2)) (fun _ _ _ _=>(dR (show(["_law_row"]:List Str).Nodup by decide+kernel) (by first|exact Or.inl rfl|exact Or.inr rfl) (by first|exact .inl rfl|exact .inr rfl))) (fun _ _ _ _=>cw) (fun _ _ _ _=>(fy rT (aa cx aj) B.nQ rfl lL (by decide+kernel) rfl)) cm))))) (aD (bp jZ)) dF)
  (aD (eW (lh (rX (dh (k_ hr) (bS _) (eh.nm 1) av) (sS (gg (eD (a_ (o6 e) (tH e) (hr.mono (by decide)) (aa (eh.nm 2) (aa (a_ (qv e) (vb e) (hr.mono (by decide)) (aa (eh.nm 2) aj) (eh.d 3) (eh.g 3)) aj)) (eh.d 4) (eh.g 4))))))) (aD (bp jZ)) dF))))))
  (aD (bp jZ)))) Jy
end
def dL:DefRec:=match mE with
 | .FunctionDef n a b _ _ _ sc _ _ pos=>⟨n,a,b,sc,pos⟩
 |_=>⟨"",L2.kQ (.Pass ⟨0,0,0,0⟩),[],L2.ai (.Pass ⟨0,0,0,0⟩),⟨0,0,0,0⟩⟩
theorem Fo:PySem.Challenge.rw_latticeworks_k21_numbers_with_turns.wellSaid=true:=by decide+kernel
end Row
open PySem PySem.W PyProof.Rows
set_option maxRecDepth 100000 in
set_option maxHeartbeats 0 in
theorem PySem.Challenge.cw_latticeworks_k21_numbers_with_turns_holds : PySem.Challenge.rw_latticeworks_k21_numbers_with_turns.Holds := by
 refine PySem.W.holds_law Row.Fo fun Fo=>?_;refine PySem.W.holds_open (r:=PySem.Challenge.rw_latticeworks_k21_numbers_with_turns.row) (q:=PySem.W.view Row.PW [1,2,3,4,5,6,7,8,10,11,12,13,14,16,17,18,19,20,22,23,24,25,26,27,28,29,30,31,32,33]) (loose:=[]) (Xt:=fun _=>true) (XP:=fun _ _=>True) (YP:=(PySem.W.kmHook Row.KX Row.KA (fun _=>rfl) [110]).says) (d:=Row.dL) (kwd:=[]) Row.left ((PySem.W.kmHook Row.KX Row.KA (fun _=>rfl) [110]).of) ((PySem.W.kmHook Row.KX Row.KA (fun _=>rfl) [110]).keeps) (fun _ _=>trivial) (fun _ _ _ _ _=>trivial) (by kernel_rfl) (by kernel_rfl) (by kernel_rfl) (fun s _=>PySem.W.recFacts_of (R:=[]) rfl) (by kernel_rfl) Fo (by decide+kernel) ⟨rfl,rfl,rfl,rfl,rfl,by decide+kernel⟩ ?hw ?hc;case hw=>w_witness2
 refine L2.Md (n:=63) (k:=10) (x:="_law_script") (ts:=[(112,110)]) (K:=Row.KX) (sp:=fun w=>L3.Ds (Row.KX w.params) [(112,110)]) rfl (by decide) (by kernel_rfl) ⟨rfl,by decide,by decide⟩ (by kernel_rfl) rfl (fun w h Y=>⟨PySem.W.km_in_of Y,⟨(fun q hq=>by rcases List.mem_cons.mp hq with rfl|hq;kernel_rfl;cases hq),(fun q hq=>by rcases List.mem_cons.mp hq with rfl|hq;kernel_rfl;cases hq),fun q hq=>PySem.W.km_tabs_of Y _ (List.mem_map_of_mem (f:=Prod.snd) hq)⟩⟩) ?F fun _ _ a ns hl hE=>⟨a,ns,rfl,hE,hl,fun _=>rfl⟩
 intro w mg fa h X G hmg;have e2:=hmg.symm.trans (PySem.W.mg_of (v:= .ref 296) X G (by kernel_rfl));cases e2;exact⟨Hd.fd Row.mE "law" "law" Row.fg 295,fun s v=> .of_eq rfl,fun base _ _=>(Row.Lc ⟨X,G⟩).imp fun vs H Q E h=>L3.Dz (tl:=[(110,⟨56,32,56,66⟩,"Bench.live_rows.<locals>.<lambda>")]) (by kernel_rfl) rfl (by decide) h⟩
