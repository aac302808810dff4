import PyProof.Rows.All
import Wide.All
import OpenK.AllK
import Wide.FinOn
import Lean
import PyProof.EqAt
import PyProof.EqKinds
import PyProof.TupleCall
import PyProof.NeKinds
import KE.KUnpack
import PySem.Challenge.RW_latticeworks_k19_whole_same_sums
set_option Elab.async false
set_option linter.all false
set_option maxRecDepth 100000
namespace L2
open PySem PySem.Spec PyProof.Rows
abbrev Key:=Sum Int Str
def Jw:Key->Value->Bool
 | .inl k,v=>Value.isInt k v
 | .inr x,v=>Value.isStrOf x v
def Rl(w:World):Key->Int
 | .inl k=>hashInt k
 | .inr x=>hashStr w x
theorem fu:∀ {k:Key} {v:Value},Jw k v=true->(∃i t,k=Sum.inl i/\v=Value.int i t)\/(∃x t,k=Sum.inr x/\v=Value.str x t)
 | .inl i,v,h=>by
   obtain⟨t,e⟩:=Value.isInt_shape (k:=i) (v:=v) h;exact .inl ⟨i,t,rfl,e⟩
 | .inr x,v,h=>by
   obtain⟨t,e⟩:=Value.isStrOf_shape (x:=x) (v:=v) h;exact .inr ⟨x,t,rfl,e⟩
theorem OS(a b:Int):decide ((Sum.inl a:Key)=Sum.inl b)=(a==b):=by
 by_cases e:a=b
 . subst e;simp
 . have h:¬(Sum.inl a:Key)=Sum.inl b:=fun q=>e (Sum.inl.inj q);rw[decide_eq_false h];exact(beq_eq_false_iff_ne.mpr e).symm
theorem NQ(a b:Str):decide ((Sum.inr a:Key)=Sum.inr b)=decide (a=b):=by
 by_cases e:a=b
 . subst e;simp
 . have h:¬(Sum.inr a:Key)=Sum.inr b:=fun q=>e (Sum.inr.inj q);rw[decide_eq_false h,decide_eq_false e]
theorem O5(a:Int)(b:Str):decide ((Sum.inl a:Key)=Sum.inr b)=false:=decide_eq_false (fun q=>nomatch q)
theorem OM(a:Str)(b:Int):decide ((Sum.inr a:Key)=Sum.inl b)=false:=decide_eq_false (fun q=>nomatch q)
def Dz(prog:Program)(w:World):PySem.KeyKind prog w Key where
 is:=Jw
 hash:=Rl w
 inj:=fun v a b ha hb=>by
  rcases fu ha with⟨i,t,rfl,rfl⟩|⟨x,t,rfl,rfl⟩
  . rcases fu hb with⟨j,u,rfl,e⟩|⟨y,u,rfl,e⟩
    . injection e with e1 _;rw[e1]
    . exact nomatch e
  . rcases fu hb with⟨j,u,rfl,e⟩|⟨y,u,rfl,e⟩
    . exact nomatch e
    . injection e with e1 _;rw[e1]
 byValue:=fun k v h=>by
  rcases fu h with⟨i,t,rfl,rfl⟩|⟨x,t,rfl,rfl⟩<;>rfl
 pyHash:=fun hv h=>by
  rcases fu hv with⟨i,t,rfl,rfl⟩|⟨x,t,rfl,rfl⟩
  . exact wpAny_pyHash_int h
  . exact wpAny_pyHash_str h
 eqBool:=fun hu hv h=>by
  rcases fu hu with⟨i,t,rfl,rfl⟩|⟨x,t,rfl,rfl⟩
  . rcases fu hv with⟨j,u,rfl,rfl⟩|⟨y,u,rfl,rfl⟩
    . rw[OS]at h;exact wpAny_eqBool_int h
    . rw[O5]at h;exact SeqAt.EqAt.int_str i t y u _ _ _ _ h
  . rcases fu hv with⟨j,u,rfl,rfl⟩|⟨y,u,rfl,rfl⟩
    . rw[OM]at h;exact SeqAt.EqAt.str_int x t j u _ _ _ _ h
    . rw[NQ]at h;exact wpAny_eqBool_str h
 «strs» :=fun k x t v h=>by
  rcases fu h with⟨i,u,rfl,e⟩|⟨y,u,rfl,e⟩
  . exact nomatch e
  . injection e with e1 _;subst e1;cases v<;>rfl
inductive V where
 |aE|bl (b:Bool)|int (i:Int)|str (x:Str)|vU (b:Array UInt8)|vY (b:UInt64)|ref (a:Addr)|ty (n:String)
 deriving DecidableEq
def RelV:V->Value->Prop
 | .aE,u=>u=Value.none
 | .bl b,u=>u=Value.bool b
 | .int i,u=>∃t,u=Value.int i t
 | .str x,u=>∃t,u=Value.str x t
 | .vU b,u=>∃t,u=Value.bytes b t
 | .vY b,u=>∃t,u=Value.float b t
 | .ref a,u=>u=Value.ref a
 | .ty n,u=>u=Value.type n
abbrev Vals:List V->List Value->Prop:=Paired RelV
theorem Vals.length{xs:List V}{us:List Value}(r:Vals xs us):xs.length=us.length:=Paired.length r
theorem Vals.get:∀ {xs:List V} {us:List Value} {i:Nat} {x:V},Vals xs us->xs[i]?=some x->∃u,us[i]?=some u/\RelV x u
 |_,_,_,_,.nil,e=>by simp at e
 |_,_,0,_,.cons r _,e=>by simp at e;subst e;exact⟨_,rfl,r⟩
 |_,_,i+1,x,.cons _ t,e=>by
  obtain⟨u,h1,h2⟩:=Vals.get (i:=i) (x:=x) t (by simpa using e);exact⟨u,by simpa using h1,h2⟩
theorem Vals.set{x:V}{u:Value}(r:RelV x u):∀ {xs:List V} {us:List Value} (i:Nat),Vals xs us->Vals (xs.set i x) (us.set i u)
 |_,_,_,.nil=> .nil
 |_,_,0,.cons _ t=> .cons r t
 |_,_,i+1,.cons q t=> .cons q (Vals.set r i t)
theorem Vals.append:∀ {xs ys:List V} {us ws:List Value},Vals xs us->Vals ys ws->Vals (xs++ys) (us++ws)
 |_,_,_,_,.nil,s=>s
 |_,_,_,_,.cons r t,s=> .cons r (Vals.append t s)
theorem Vals.take:∀ {xs:List V} {us:List Value} (n:Nat),Vals xs us->Vals (xs.take n) (us.take n)
 |_,_,0,_=> .nil
 |_,_,_+1,.nil=> .nil
 |_,_,n+1,.cons r t=> .cons r (Vals.take n t)
theorem Vals.drop:∀ {xs:List V} {us:List Value} (n:Nat),Vals xs us->Vals (xs.drop n) (us.drop n)
 |_,_,0,r=>r
 |_,_,_+1,.nil=> .nil
 |_,_,n+1,.cons _ t=>Vals.drop n t
def q_:Option V->Option Value->Prop
 |some v,some u=>RelV v u
 |none,none=>True
 |_,_=>False
def KV{κ:Type}:List (κ×V)->List (κ×Value)->Prop:=Paired fun(p:κ×V) (q:κ×Value)=>p.1=q.1/\RelV p.2 q.2
def kV:Key->V
 | .inl i=> .int i
 | .inr x=> .str x
inductive HO where
 |lst (xs:List V)
 |tup (xs:List V)
 |dK (kvs:List (Key×V))|dT (kvs:List (List Key×V))
 |set (S:Int->Bool) (n:Nat)
 |ins (C dx:Addr) (fs:List (Str×V))
 |own (x:Addr)
 |xd (fs:List (Str×V))
 |met (f x:Addr)
 |Nv (lo hi:Int)
 |gW (o:Obj) (u:HO)
 |ll (ps:Array Value)
 |ext (φ:Heap->Prop)
abbrev Hp:=Addr->Option HO
def upd(H:Hp)(a:Addr)(o:HO):Hp:=fun b=>if b=a then some o else H b
theorem a9{H:Hp}{a:Addr}{o:HO}:upd H a o a=some o:=by unfold upd;rw[if_pos rfl]
theorem aH{H:Hp}{a b:Addr}{o:HO}(h:b≠a):upd H a o b=H b:=by unfold upd;rw[if_neg h]
theorem Mf{H:Hp}{a:Addr}{o u:HO}:upd (upd H a o) a u=upd H a u:=by
 funext b;unfold upd;split<;>rfl
theorem d3{H:Hp}{a b:Addr}{o:HO}(h:H a=some o)(h':H b=none):a≠b:=by
 intro e;subst e;rw[h]at h';cases h'
section
variable (P:Program)(w:World)
def dY(H:Hp)(h:Heap)(a:Addr):HO->Prop
 | .lst xs=>xs.length<=sizeLine/\∃(aw:List Value) (n:Nat),Vals xs aw/\h.get? a=some {cls:= .type "list",data:= .seq aw.toArray n}
 | .tup xs=>xs.length<=sizeLine/\∃aw:List Value,Vals xs aw/\IsTup h a aw.toArray
 | .dK kvs=>kvs.length<=sizeLine/\(a==sysModules)=false/\∃vs,KV kvs vs/\h.DictOf (Dz P w) a vs
 | .dT kvs=>kvs.length<=sizeLine/\(a==sysModules)=false/\∃xs:List (List Key×Addr×Value),
    Paired (fun(p:List Key×V) (q:List Key×Addr×Value)=>p.1=q.1/\H q.2.1=some (.tup (p.1.map kV))/\RelV p.2 q.2.2) kvs xs/\
    ∃o es ep,h.get? a=some o/\o.ExactDict/\o.data= .dict es ep/\es.toList=xs.map (entryOfKey (tupleKind (Dz P w)))/\(xs.map (·.1)).Nodup
 | .set S n=>h.SetOf (intKind P w) a S n
 | .ins C dx fs=>H dx=some (.own a)/\fs.length<=1000/\dx≠a/\h.get? a=some (PySem.W.instObj C dx)/\
    ∃mA,h.Ns1 dx mA/\(∀f,q_ (fs.lookup f) (mA f))/\PySem.Within mA (fs.map (·.1))
 | .own _=>∃o,h.get? a=some o
 | .xd fs=>∃mA,h.Ns1 a mA/\∀f,q_ (fs.lookup f) (mA f)
 | .Nv lo hi=>∃t u v,h.get? a=some {cls:= .type "range",data:= .fields #[.int lo t,.int hi u,.int 1 v]}
 | .gW o u=>h.get? a=some o/\dY H h a u
 | .ll ps=>h.get? a=some {cls:= .none,data:= .fields ps}
 | .met f x=>h.get? a=some (PySem.W.methodObj (.ref f) (.ref x))
 | .ext φ=>φ h/\(∃o,h.get? a=some o)/\∀h1 h2:Heap,φ h1->(∀o,h1.get? a=some o->h2.get? a=some o)->φ h2
def iZ(H:Hp)(h:Heap):Prop:=∀a o,H a=some o->dY P w H h a o
end
section
variable {P:Program}{w:World}{H H':Hp}{h h':Heap}{a:Addr}{o:HO}
theorem dY.lt(x:dY P w H h a o):a<h.objs.size:=by
 cases o with
 |lst xs=>obtain⟨_,_,_,_,e⟩:=x;exact Heap.lt_size e
 |tup xs=>obtain⟨_,_,_,p⟩:=x;exact p.lt
 |dK kvs=>obtain⟨_,_,_,_,o,_,_,e,_⟩:=x;exact Heap.lt_size e
 |dT kvs=>obtain⟨_,_,_,_,o,_,_,e,_⟩:=x;exact Heap.lt_size e
 |set S n=>obtain⟨o,_,_,_,e,_⟩:=x;exact Heap.lt_size e
 |ins C dx fs=>obtain⟨_,_,_,e,_⟩:=x;exact Heap.lt_size e
 |own y=>obtain⟨_,e⟩:=x;exact Heap.lt_size e
 |xd fs=>obtain⟨_,⟨_,_,_,e,_⟩,_⟩:=x;exact Heap.lt_size e
 |Nv lo hi=>obtain⟨_,_,_,e⟩:=x;exact Heap.lt_size e
 |gW ob u=>obtain⟨e,_⟩:=x;exact Heap.lt_size e
 |ll ps=>exact Heap.lt_size (show h.get? a=some _ from x)
 |met f y=>exact Heap.lt_size (show h.get? a=some _ from x)
 |ext φ=>obtain⟨_,⟨_,e⟩,_⟩:=x;exact Heap.lt_size e
theorem Paired.Jj{α β:Type}{F G:α->β->Prop}:∀ {l₁:List α} {l₂:List β},Paired F l₁ l₂->(∀a b,F a b->G a b)->Paired G l₁ l₂
 |_,_,.nil,_=> .nil
 |_,_,.cons r t,f=> .cons (f _ _ r) (Paired.Jj t f)
theorem dY.mW(x:dY P w H h a o)(k:∀b u,(b=a\/H b=some (.own a))->h.get? b=some u->h'.get? b=some u)
 (ho:∀b,H b=some (.own a)->H' b=some (.own a)) (ht:∀b xs,H b=some (.tup xs)->H' b=some (.tup xs)):dY P w H' h' a o:=by
 induction o with
 |lst xs=>obtain⟨z,aw,n,r,e⟩:=x;exact⟨z,aw,n,r,k _ _ (.inl rfl) e⟩
 |tup xs=>obtain⟨z,aw,r,ob,e,c⟩:=x;exact⟨z,aw,r,ob,k _ _ (.inl rfl) e,c⟩
 |dK kvs=>obtain⟨z,y,vs,r,ob,es,ep,e,c⟩:=x;exact⟨z,y,vs,r,ob,es,ep,k _ _ (.inl rfl) e,c⟩
 |dT kvs=>
  obtain⟨z,y,xs,r,ob,es,ep,e,c⟩:=x;exact⟨z,y,xs,Paired.Jj r fun p q z=>⟨z.1,ht _ _ z.2.1,z.2.2⟩,ob,es,ep,k _ _ (.inl rfl) e,c⟩
 |set S n=>obtain⟨ob,es,ep,t,e,c⟩:=x;exact⟨ob,es,ep,t,k _ _ (.inl rfl) e,c⟩
 |ins C dx fs=>
  obtain⟨d,z,ne,e,mA,⟨od,es,ep,e2,c⟩,r⟩:=x;exact⟨ho _ d,z,ne,k _ _ (.inl rfl) e,mA,⟨od,es,ep,k _ _ (.inr d) e2,c⟩,r⟩
 |own y=>obtain⟨ob,e⟩:=x;exact⟨ob,k _ _ (.inl rfl) e⟩
 |xd fs=>obtain⟨mA,⟨od,es,ep,e,c⟩,r⟩:=x;exact⟨mA,⟨od,es,ep,k _ _ (.inl rfl) e,c⟩,r⟩
 |Nv lo hi=>obtain⟨t,u,v,e⟩:=x;exact⟨t,u,v,k _ _ (.inl rfl) e⟩
 |gW ob u ih=>obtain⟨e,q⟩:=x;exact⟨k _ _ (.inl rfl) e,ih q⟩
 |ll ps=>
  have e:h.get? a=some {cls:= .none,data:= .fields ps}:=x;show h'.get? a=some {cls:= .none,data:= .fields ps};exact k a _ (.inl rfl) e
 |met f y=>
  have e:h.get? a=some (PySem.W.methodObj (.ref f) (.ref y)):=x;show h'.get? a=some (PySem.W.methodObj (.ref f) (.ref y));exact k a _ (.inl rfl) e
 |ext φ=>obtain⟨p,⟨o,e⟩,st⟩:=x;exact⟨st _ _ p fun o q=>k _ _ (.inl rfl) q,⟨o,k _ _ (.inl rfl) e⟩,st⟩
theorem iZ.lt(x:iZ P w H h)(e:H a=some o):a<h.objs.size:=(x a o e).lt
theorem iZ.fresh(x:iZ P w H h)(e:h.objs.size<=a):H a=none:=by
 cases q:H a with
 |none=>rfl
 |some u=>exact absurd (Nat.lt_of_lt_of_le (x.lt q) e) (Nat.lt_irrefl _)
theorem iZ.kept(x:iZ P w H h)(k:∀b u,h.get? b=some u->h'.get? b=some u):iZ P w H h':=fun a o e=>
 (x a o e).mW (fun b u _ q=>k b u q) (fun _ q=>q) fun _ _ q=>q
theorem iZ.laid(x:iZ P w H h)(k:∀b u,h.get? b=some u->h'.get? b=some u)(hp:h.objs.size<=a)(new:dY P w (upd H a o) h' a o):iZ P w (upd H a o) h':=fun b u e=>by
 have hn:=x.fresh hp;by_cases hb:b=a
 . subst hb;rw[a9]at e;cases e;exact new
 . rw[aH hb]at e;exact(x b u e).mW (fun c v _ q=>k c v q) (fun c q=>by rw[aH (d3 q hn)];exact q) fun c xs q=>by rw[aH (d3 q hn)];exact q
end
def Rd(H:Hp)(a:Addr)(u:HO):Prop:=H a=some u\/∃o,H a=some (.gW o u)
theorem Rd.of{H:Hp}{a:Addr}{u:HO}(h:H a=some u):Rd H a u:= .inl h
theorem Rd.ok{P:Program}{w:World}{H:Hp}{h:Heap}{a:Addr}{u:HO}(r:Rd H a u)(x:iZ P w H h):dY P w H h a u:=by
 rcases r with r|⟨o,r⟩
 . exact x a u r
 . obtain⟨_,q⟩:=x a _ r;exact q
def Kq:Option HO->Prop
 |some (.lst _)=>True
 |some (.dK _)=>True
 |some (.dT _)=>True
 |some (.set _ _)=>True
 |some (.ins _ _ _)=>True
 |some (.ext _)=>True
 |_=>False
section
variable {P:Program}{w:World}{H:Hp}{h h':Heap}{x e:Addr}{o':HO}
theorem iZ.write(ok:iZ P w H h)(mu:Kq (H x))(he:e=x\/H e=some (.own x))(k:∀b u,b≠e->h.get? b=some u->h'.get? b=some u)(heo:∃u,h'.get? e=some u)
 (new:dY P w (upd H x o') h' x o'):iZ P w (upd H x o') h':=fun b u q=>by
 have nown:∀c y,H c=some (.own y)->c≠x:=fun c y r z=>by subst z;rw[r]at mu;exact mu
 have ntup:∀c xs,H c=some (.tup xs)->c≠x:=fun c xs r z=>by subst z;rw[r]at mu;exact mu
 by_cases hb:b=x
 . subst hb;rw[a9]at q;cases q;exact new
 . rw[aH hb]at q;by_cases hbe:b=e
   . have q':H b=some (.own x):=by
      rcases he with z|z
      . exact absurd (hbe.trans z) hb
      . rw[hbe];exact z
     rw[q]at q';cases q';obtain⟨v,hv⟩:=heo;exact⟨v,by rw[hbe];exact hv⟩
   . refine(ok b u q).mW (fun c v hc r=>k c v ?_ r) (fun c r=>by rw[aH (nown c b r)];exact r) fun c xs r=>by rw[aH (ntup c xs r)];exact r
     rcases hc with rfl|hc
     . exact hbe
     . rintro rfl;rcases he with z|z
       . exact nown c b hc z
       . rw[hc]at z;cases z;exact hb rfl
end
structure Un(fs ex:List Addr)(H H':Hp)(h h':Heap):Prop where
 keep:∀b o,h.get? b=some o->H b=none->b∉fs->b∉ex->h'.get? b=some o
 slot:∀b o,h.get? b=some o->H b=none->b∈fs->b∉ex->∃sl,h'.get? b=some {o with slots:=sl}
 free:∀b o,h.get? b=some o->H b=none->b∉ex->H' b=none
 there:∀b o,h.get? b=some o->b∉ex->∃o',h'.get? b=some o'
 qS:∀b xs,H b=some (.tup xs)->H' b=some (.tup xs)
 pW:∀b o u,H b=some (.gW o u)->H' b=some (.gW o u)
 pv:∀b ps,H b=some (.ll ps)->∃more,H' b=some (.ll (ps++more))
section
variable {fs fs' ex ex':List Addr}{H H1 H2:Hp}{h h1 h2 h':Heap}{a x e:Addr}{o:HO}
theorem Un.any(u:Un fs ex H H1 h h1){b:Addr}{ob:Obj}(q:h.get? b=some ob)(n:H b=none)(hx:b∉ex):∃sl,h1.get? b=some {ob with slots:=sl}:=by
 by_cases hb:b∈fs
 . exact u.slot b ob q n hb hx
 . exact⟨ob.slots,u.keep b ob q n hb hx⟩
theorem Un.kept(k:∀b u,h.get? b=some u->h'.get? b=some u):Un fs ex H H h h':=
 ⟨fun b ob q _ _ _=>k b ob q,fun b ob q _ _ _=>⟨ob.slots,k b ob q⟩,fun _ _ _ n _=>n,fun b ob q _=>⟨ob,k b ob q⟩,fun _ _ q=>q,fun _ _ _ q=>q,fun _ ps q=>⟨#[],by rw[q];simp⟩⟩
theorem Un.refl:Un fs ex H H h h:=Un.kept fun _ _ q=>q
theorem Un.laid(k:∀b u,h.get? b=some u->h'.get? b=some u)(hp:h.objs.size<=a)(hn:H a=none):Un fs ex H (upd H a o) h h' where
 keep:=fun b u q _ _ _=>k b u q
 slot:=fun b u q _ _ _=>⟨u.slots,k b u q⟩
 free:=fun b u q n _=>by rw[aH (Nat.ne_of_lt (Nat.lt_of_lt_of_le (Heap.lt_size q) hp))];exact n
 there:=fun b u q _=>⟨u,k b u q⟩
 qS:=fun b xs q=>by rw[aH (d3 q hn)];exact q
 pW:=fun b u xs q=>by rw[aH (d3 q hn)];exact q
 pv:=fun b ps q=>⟨#[],by rw[aH (d3 q hn),q];simp⟩
theorem Un.write(mu:Kq (H x))(he:e=x\/H e=some (.own x))(k:∀b u,b≠e->h.get? b=some u->h'.get? b=some u)(heo:∃u,h'.get? e=some u):Un fs ex H (upd H x o) h h':=by
 have hx:∀b,H b=none->b≠x:=fun b n z=>by subst z;rw[n]at mu;exact mu
 have hb:∀b,H b=none->b≠e:=fun b n z=>by
  subst z;rcases he with r|r
  . exact hx b n r
  . rw[n]at r;cases r
 have hm:∀b u,H b=some u->¬Kq (some u)->b≠x:=fun b u q nm z=>by subst z;rw[q]at mu;exact nm mu
 refine⟨fun b u q n _ _=>k b u (hb b n) q,fun b u q n _ _=>⟨u.slots,k b u (hb b n) q⟩,fun b u q n _=>by rw[aH (hx b n)];exact n,fun b u q _=>?_,
  fun b xs q=>by rw[aH (hm b _ q fun z=>z)];exact q,fun b u xs q=>by rw[aH (hm b _ q fun z=>z)];exact q,fun b ps q=>⟨#[],by rw[aH (hm b _ q fun z=>z),q];simp⟩⟩
 by_cases hbe:b=e
 . subst hbe;exact heo
 . exact⟨u,k b u hbe q⟩
end
def Ko(h:Heap)(H:Hp):List Addr:=(List.range h.objs.size).filter fun a=>(H a).isSome
def qU(h:Heap)(H:Hp):Heap:=PySem.W.hideAll h (Ko h H)
theorem F5(h:Heap)(H:Hp):(qU h H).objs.size=h.objs.size:=PySem.W.hideAll_size _ _
theorem sL{h:Heap}{H:Hp}{b:Addr}{o:Obj}(e:h.get? b=some o)(n:H b=none):(qU h H).get? b=some o:=
 PySem.W.hideAll_get _ e fun hm=>by
  have q:(H b).isSome=true:=(List.mem_filter.mp hm).2;rw[n]at q;simp at q
theorem LU{h:Heap}{H:Hp}{b:Addr}{o:Obj}(e:(qU h H).get? b=some o):h.get? b=some o/\H b=none:=by
 have e':h.get? b=some o:=PySem.W.of_hideAll (Ko h H) e;refine⟨e',?_⟩;cases q:H b with
 |none=>rfl
 |some x=>
  have hm:b∈Ko h H:=List.mem_filter.mpr ⟨List.mem_range.mpr (Heap.lt_size e'),by simp[q]⟩;have z:(qU h H).get? b=none:=PySem.W.hideAll_none (Ko h H) hm;rw[z]at e;cases e
def Ls(g h:Heap)(L:Addr):List (Addr×Obj):=(List.range h.objs.size).filterMap fun a=>if a=L\/(g.get? a).isSome=true then none else(h.get? a).map fun o=>(a,o)
def rest(g h:Heap)(L d:Addr):List (Addr×Obj):=(Ls g h L).filter fun p=>decide (p.1≠d)
structure Mod(K:PySem.W.Frag)(mg:Str->Option Value)(base:Heap):Prop where
 Gi:K.In base
 glob:base.Ns mainGlobals mg
 blt:∃mb,base.Ns builtinsNs mb/\∀x:Str,x≠"__name__"->mb x=bootBuiltins x
 nolimit:base.NoLimit
 seer:base.NoSeer
 bmain:∃bm ob,mg "__builtins__"=some (.ref bm)/\bm≠builtinsNs/\base.get? bm=some ob/\ob.cls= .type "module"/\ob.dict=some builtinsNs/\ob.data= .plain
structure Cx where
 prog:Program
 w:World
 K:PySem.W.Frag
 mg:Str->Option Value
 base:Heap
 A:Around
 N:List Str
 s₀:Shared
 H₀:Hp
 env:Env
 outer:List Env
 stack:List Env
 ex:List Addr
 fn:Str->Bool
 calm:Bool
 pn:List (Addr×Obj)
 xe:Value->Shared->Prop
def rZ(l:List Env):List Addr:=l.filterMap (·.frame)
abbrev Cx.fs(X:Cx):List Addr:=rZ X.outer
def Bb(sc:Scope)(x:Str):Prop:=sc.names.lookup x=some .local\/sc.names.lookup x=some .cell\/sc.names.lookup x=some .free
def Loc(sc:Scope)(x:Str):Prop:=sc.names.lookup x=some .local\/sc.names.lookup x=some .cell
def Look(env:Env)(h:Heap)(m:Str->Option Value)(x:Str)(u:Value):Prop:=
 (env.kindOf x=some .local/\m x=some u)\/((env.kindOf x=some .cell\/env.kindOf x=some .free)/\∃c,env.cells.lookup x=some c/\h.IsCell c (some u))
structure Cx.Ok(X:Cx):Prop where
 mod:Mod X.K X.mg X.base
 kind:X.env.scope.kind= .function
 glob:X.env.globals=mainGlobals
 blt:X.env.builtins=builtinsNs
 above:X.s₀.heap.objs.size<=X.env.locals
 inj:∀x y c,X.env.cells.lookup x=some c->X.env.cells.lookup y=some c->x=y
 has:∀x,(X.env.kindOf x=some .cell\/X.env.kindOf x=some .free)->∃c,X.env.cells.lookup x=some c
 BP:∀x c,X.fn x=true->X.env.cells.lookup x=some c->X.s₀.heap.objs.size<=c
 hd:X.calm=true->X.A.handled=none
 frames:X.A.frames=some X.stack
 Dq:X.stack=X.outer\/(X.stack=X.env::X.outer/\X.env.frame=some X.env.locals)
 FW:∀b∈X.ex,b≠X.env.locals/\∀x c,X.env.cells.lookup x=some c->c≠b
 bs:∀b o,X.base.get? b=some o->X.s₀.heap.get? b=some o/\X.H₀ b=none
 um:X.base.objs.size<=X.s₀.heap.objs.size
 w6:∀b o,X.base.get? b=some o->b∉X.ex
 wu:∀b∈X.ex,b∉X.fs
 lV:X.s₀.heap.FunFrames X.base X.outer
 yn:∀b∈X.fs,X.H₀ b=none
 gt:X.prog.given.tree=none
structure Inv(X:Cx)(pins:List (Addr×Obj))(σ:List (Option V))(H:Hp)(s:Shared):Prop where
 ok:X.Ok
 os:s.os=X.s₀.os
 bare:AllBare s.gens
 base:Un X.fs X.ex X.H₀ H X.s₀.heap s.heap
 loc:∃m,s.heap.Ns X.env.locals m/\∀(i:Nat) (x:Str) (v:V),X.N[i]?=some x->σ[i]?=some (some v)->Bb X.env.scope x->∃u,RelV v u/\Look X.env s.heap m x u
 cell:∀x c,X.env.cells.lookup x=some c->∃v,s.heap.IsCell c v
 free:H X.env.locals=none
 jv:∀x c,X.env.cells.lookup x=some c->H c=none
 pin:∀p∈X.pn++pins,s.heap.get? p.1=some p.2/\H p.1=none/\p.1≠X.env.locals/\p.1∉X.fs/\∀v,p.2.data≠ .cell v
 aP:iZ X.prog X.w H s.heap
 len:σ.length=X.N.length
section
variable {X:Cx}{pins:List (Addr×Obj)}{σ:List (Option V)}{H H':Hp}{s:Shared}{h':Heap}
theorem Cx.Ok.RF(ok:X.Ok){b:Addr}{o:Obj}(e:X.base.get? b=some o):b∉X.fs:=fun hb=>by
 have:=(ok.lV.mem hb).1;rw[e]at this;cases this
theorem Inv.bs(I:Inv X pins σ H s):∀b o,X.base.get? b=some o->s.heap.get? b=some o/\H b=none:=fun b o e=>
 ⟨I.base.keep b o (I.ok.bs b o e).1 (I.ok.bs b o e).2 (I.ok.RF e) (I.ok.w6 b o e),I.base.free b o (I.ok.bs b o e).1 (I.ok.bs b o e).2 (I.ok.w6 b o e)⟩
theorem Inv.bk(I:Inv X pins σ H s):∀b o,X.base.get? b=some o->s.heap.get? b=some o:=fun b o e=>(I.bs b o e).1
theorem Inv.mod(I:Inv X pins σ H s):Mod X.K X.mg X.base:=I.ok.mod
theorem Inv.iy(I:Inv X pins σ H s):X.K.In s.heap:=I.ok.mod.Gi.keeps I.bk
theorem Inv.nolimit(I:Inv X pins σ H s):s.heap.NoLimit:=I.ok.mod.nolimit.keeps I.bk
theorem Inv.lt(I:Inv X pins σ H s):X.env.locals<s.heap.objs.size:=let⟨_,hn,_⟩:=I.loc;hn.lt
theorem Inv.sz(I:Inv X pins σ H s):X.s₀.heap.objs.size<=s.heap.objs.size:=Nat.le_trans I.ok.above (Nat.le_of_lt I.lt)
theorem Inv.OW(I:Inv X pins σ H s){a:Addr}(h:s.heap.objs.size<=a):a∉X.fs:=fun hb=>by
 obtain⟨_,o,ho,_⟩:=I.ok.lV.mem hb;exact absurd (Nat.lt_of_lt_of_le (Heap.lt_size ho) (Nat.le_trans I.sz h)) (Nat.lt_irrefl _)
theorem Inv.BM(I:Inv X pins σ H s):∀x c,X.env.cells.lookup x=some c->c≠X.env.locals:=fun x c e z=>by
 obtain⟨v,o,ho,hd⟩:=I.cell x c e;obtain⟨m,⟨o',es,ep,ho',hd',_⟩,_⟩:=I.loc;rw[z,ho']at ho;cases ho;rw[hd']at hd;cases hd
theorem Inv.lV(I:Inv X pins σ H s):s.heap.FunFrames X.base X.outer:=by
 have all:∀(l:List Env),(∀b∈rZ l,b∈X.fs)->X.s₀.heap.FunFrames X.base l->s.heap.FunFrames X.base l:=by
  intro l;induction l with
  |nil=>intro _ _;trivial
  |cons env r ih=>
   intro hs hl;obtain⟨hk,⟨L,o,hf,hn,ho,hd⟩,hr⟩:=hl;have hL:L∈X.fs:=hs L (by unfold rZ;rw[List.filterMap_cons,hf];exact List.mem_cons_self);obtain⟨sl,e⟩:=I.base.slot L o ho (I.ok.yn L hL) hL fun z=>I.ok.wu L z hL;exact⟨hk,⟨L,_,hf,hn,e,hd⟩,ih (fun b hb=>hs b (by unfold rZ;rw[List.filterMap_cons,hf];exact List.mem_cons_of_mem _ hb)) hr⟩
 exact all X.outer (fun _ hb=>hb) I.ok.lV
theorem Inv.stack(I:Inv X pins σ H s):s.heap.FunFrames X.base X.stack:=by
 rcases I.ok.Dq with e|⟨e,hf⟩
 . rw[e];exact I.lV
 . rw[e];obtain⟨m,hn,_⟩:=I.loc;refine .cons (by rw[I.ok.kind];decide) hf hn ?_ I.lV;exact Heap.get?_none_of_le (Nat.le_trans I.ok.um I.ok.above)
theorem Inv.BU(I:Inv X pins σ H s):∀b∈rZ X.stack,b∈X.env.locals::X.fs:=fun b hb=>by
 rcases I.ok.Dq with e|⟨e,hf⟩
 . rw[e]at hb;exact List.mem_cons_of_mem _ hb
 . rw[e]at hb;unfold rZ at hb;rw[List.filterMap_cons,hf]at hb;exact hb
theorem Inv.zj(I:Inv X pins σ H s):∀b∈rZ X.stack,H b=none:=fun b hb=>by
 rcases List.mem_cons.mp (I.BU b hb)with e|hb
 . rw[e];exact I.free
 . obtain⟨_,o,ho,_⟩:=I.ok.lV.mem hb;exact I.base.free b o ho (I.ok.yn b hb) fun z=>I.ok.wu b z hb
theorem Inv.step{g':Array GenState}{t':Nat}{d':Drawn}{ch:List Addr}(I:Inv X pins σ H s)
 (hch:∀b∈ch,(b∈X.ex\/X.s₀.heap.objs.size<=b)/\b≠X.env.locals/\(∀x c,X.env.cells.lookup x=some c->c≠b)/\∀p∈X.pn++pins,p.1≠b)
 (keep:∀b o,b≠X.env.locals->b∉X.fs->b∉ch->s.heap.get? b=some o->H b=none->h'.get? b=some o)
 (slot:∀b o,b≠X.env.locals->b∈X.fs->b∉ch->s.heap.get? b=some o->H b=none->∃sl,h'.get? b=some {o with slots:=sl}) (free:∀b o,b∉ch->s.heap.get? b=some o->H b=none->H' b=none)
 (there:∀b o,b∉ch->s.heap.get? b=some o->∃o',h'.get? b=some o')
 (qS:∀b xs,H b=some (.tup xs)->H' b=some (.tup xs)) (pW:∀b o u,H b=some (.gW o u)->H' b=some (.gW o u)) (pv:∀b ps,H b=some (.ll ps)->∃more,H' b=some (.ll (ps++more)))
 (ns:∀m,s.heap.Ns X.env.locals m->h'.Ns X.env.locals m) (aP:iZ X.prog X.w H' h') (hg:AllBare g'):
 Inv X pins σ H' {s with heap:=h',gens:=g',drawn:=d',toks:=t'}:=by
 have neL:∀b o,X.s₀.heap.get? b=some o->b≠X.env.locals:=fun b o e=>Nat.ne_of_lt (Nat.lt_of_lt_of_le (Heap.lt_size e) I.ok.above)
 have neC:∀b o,X.s₀.heap.get? b=some o->b∉X.ex->b∉ch:=fun b o e hx hb=>by
  rcases(hch b hb).1 with z|z
  . exact hx z
  . exact absurd (Nat.lt_of_lt_of_le (Heap.lt_size e) z) (Nat.lt_irrefl _)
 have cellK:∀x c,X.env.cells.lookup x=some c->∀v,s.heap.IsCell c v->h'.IsCell c v:=fun x c e v ⟨o,ho,hd⟩=>by
  have nch:c∉ch:=fun z=>(hch c z).2.2.1 x c e rfl;by_cases hc:c∈X.fs
  . obtain⟨sl,q⟩:=slot c o (I.BM x c e) hc nch ho (I.jv x c e);exact⟨_,q,hd⟩
  . exact⟨o,keep c o (I.BM x c e) hc nch ho (I.jv x c e),hd⟩
 refine⟨I.ok,I.os,hg,⟨fun b o e n hb hx=>?_,fun b o e n hb hx=>?_,fun b o e n hx=>?_,fun b o e hx=>?_,fun b xs e=>qS b xs (I.base.qS b xs e),fun b o xs e=>pW b o xs (I.base.pW b o xs e),fun b ps e=>?_⟩,?_,fun x c e=>?_,?_,fun x c e=>?_,fun p hp=>?_,aP,I.len⟩
 . exact keep b o (neL b o e) hb (neC b o e hx) (I.base.keep b o e n hb hx) (I.base.free b o e n hx)
 . obtain⟨sl,e1⟩:=I.base.slot b o e n hb hx;obtain⟨sl',e2⟩:=slot b _ (neL b o e) hb (neC b o e hx) e1 (I.base.free b o e n hx);exact⟨sl',e2⟩
 . obtain⟨o',e1⟩:=I.base.there b o e hx;exact free b o' (neC b o e hx) e1 (I.base.free b o e n hx)
 . obtain⟨o',e1⟩:=I.base.there b o e hx;exact there b o' (neC b o e hx) e1
 . obtain⟨m1,e1⟩:=I.base.pv b ps e;obtain⟨m2,e2⟩:=pv b _ e1;exact⟨m1++m2,by rw[e2,Array.append_assoc]⟩
 . obtain⟨m,hn,hl⟩:=I.loc;refine⟨m,ns m hn,fun i x v e1 e2 e3=>?_⟩;obtain⟨u,r,l⟩:=hl i x v e1 e2 e3;refine⟨u,r,?_⟩;rcases l with l|⟨k,c,e,z⟩
   . exact .inl l
   . exact .inr ⟨k,c,e,cellK x c e _ z⟩
 . obtain⟨v,z⟩:=I.cell x c e;exact⟨v,cellK x c e v z⟩
 . obtain⟨m,⟨o,_,_,ho,_⟩,_⟩:=I.loc;exact free _ o (fun z=>(hch _ z).2.1 rfl) ho I.free
 . obtain⟨v,o,ho,hd⟩:=I.cell x c e;exact free c o (fun z=>(hch c z).2.2.1 x c e rfl) ho (I.jv x c e)
 . obtain⟨e,n,ne,nf,d⟩:=I.pin p hp;have nch:p.1∉ch:=fun z=>(hch p.1 z).2.2.2 p hp rfl;exact⟨keep p.1 p.2 ne nf nch e n,free p.1 p.2 nch e n,ne,nf,d⟩
theorem Inv.un{t':Nat}(I:Inv X pins σ H s)(u:Un X.fs [] H H' s.heap h')(aP:iZ X.prog X.w H' h'):Inv X pins σ H' {s with heap:=h',toks:=t'}:=by
 obtain⟨m,⟨o,es,ep,ho,r⟩,_⟩:=id I.loc;obtain⟨sl,hL⟩:=u.any ho I.free (by simp)
 exact I.step (g':=s.gens) (d':=s.drawn) (ch:=[]) (fun _ z=>nomatch z) (fun b o _ hb _ e n=>u.keep b o e n hb (by simp)) (fun b o _ hb _ e n=>u.slot b o e n hb (by simp)) (fun b o _ e n=>u.free b o e n (by simp)) (fun b o _ e=>u.there b o e (by simp)) u.qS u.pW u.pv (fun m' hm=>by
  obtain⟨o',es',ep',ho',r'⟩:=hm;rw[ho]at ho';cases ho';exact⟨_,es',ep',hL,r'⟩) aP I.bare
theorem Inv.call{g':Array GenState}{t':Nat}{d':Drawn}{ch:List Addr}(I:Inv X pins σ H s)(u:Un (rZ X.stack) ch H H' s.heap h')(aP:iZ X.prog X.w H' h')(hg:AllBare g')
 (hch:∀b∈ch,(b∈X.ex\/X.s₀.heap.objs.size<=b)/\b≠X.env.locals/\(∀x c,X.env.cells.lookup x=some c->c≠b)/\∀p∈X.pn++pins,p.1≠b):
 Inv X pins σ H' {s with heap:=h',gens:=g',drawn:=d',toks:=t'}:=by
 obtain⟨m,⟨o,es,ep,ho,r⟩,_⟩:=id I.loc;obtain⟨sl,hL⟩:=u.any ho I.free fun z=>(hch _ z).2.1 rfl
 exact I.step (ch:=ch) hch (fun b o hL hb hc e n=>u.keep b o e n (fun z=>(List.mem_cons.mp (I.BU b z)).elim hL hb) hc) (fun b o _ _ hc e n=>u.any e n hc) (fun b o hc e n=>u.free b o e n hc) (fun b o hc e=>u.there b o e hc) u.qS u.pW u.pv (fun m' hm=>by
  obtain⟨o',es',ep',ho',r'⟩:=hm;rw[ho]at ho';cases ho';exact⟨_,es',ep',hL,r'⟩) aP hg
theorem Inv.turned{t':Nat}{it:Addr}(I:Inv X pins σ H s)(k:∀b o,b≠it->s.heap.get? b=some o->h'.get? b=some o)(hn:H it=none)(hL:it≠X.env.locals)
 (h1:it∈X.ex\/X.s₀.heap.objs.size<=it) (h2:∀x c,X.env.cells.lookup x=some c->c≠it) (h3:∀p∈X.pn++pins,p.1≠it):Inv X pins σ H {s with heap:=h',toks:=t'}:=by
 have nit:∀b u,H b=some u->b≠it:=fun b u e z=>by rw[z,hn]at e;cases e
 refine I.step (g':=s.gens) (d':=s.drawn) (ch:=[it]) (fun b hb=>?_) (fun b o _ _ hc e _=>k b o (fun z=>hc (by simp[z])) e) (fun b o _ _ hc e _=>⟨o.slots,k b o (fun z=>hc (by simp[z])) e⟩) (fun _ _ _ _ n=>n)
  (fun b o hc e=>⟨o,k b o (fun z=>hc (by simp[z])) e⟩) (fun _ _ e=>e) (fun _ _ _ e=>e) (fun b ps e=>⟨#[],by rw[e];simp⟩) (fun m hm=>?_) (fun b u e=>?_) I.bare
 . have e:b=it:=by simpa using hb
   subst e;exact⟨h1,hL,h2,h3⟩
 . obtain⟨o,es,ep,ho,r⟩:=hm;exact⟨o,es,ep,k _ o (Ne.symm hL) ho,r⟩
 . refine(I.aP b u e).mW (fun c v hc q=>k c v ?_ q) (fun _ q=>q) fun _ _ q=>q;rcases hc with z|z
   . rw[z];exact nit b u e
   . exact nit c _ z
theorem Inv.tok(I:Inv X pins σ H s)(t:Nat):Inv X pins σ H {s with toks:=t}:=I.un (h':=s.heap) (t':=t) Un.refl I.aP
theorem Inv.kept{t':Nat}(I:Inv X pins σ H s)(k:∀b u,s.heap.get? b=some u->h'.get? b=some u):Inv X pins σ H {s with heap:=h',toks:=t'}:=I.un (Un.kept k) (I.aP.kept k)
theorem Inv.laid{a:Addr}{o:HO}{t':Nat}(I:Inv X pins σ H s)(k:∀b u,s.heap.get? b=some u->h'.get? b=some u)(hp:s.heap.objs.size<=a)(new:dY X.prog X.w (upd H a o) h' a o):
 Inv X pins σ (upd H a o) {s with heap:=h',toks:=t'}:=I.un (Un.laid k hp (I.aP.fresh hp)) (I.aP.laid k hp new)
theorem Inv.write{x e:Addr}{o:HO}{t':Nat}(I:Inv X pins σ H s)(mu:Kq (H x))(he:e=x\/H e=some (.own x))(k:∀b u,b≠e->s.heap.get? b=some u->h'.get? b=some u)(heo:∃u,h'.get? e=some u)
 (new:dY X.prog X.w (upd H x o) h' x o):Inv X pins σ (upd H x o) {s with heap:=h',toks:=t'}:=I.un (Un.write mu he k heo) (I.aP.write mu he k heo new)
theorem Inv.vt{pins':List (Addr×Obj)}(I:Inv X pins σ H s)(h:∀p∈pins',s.heap.get? p.1=some p.2/\H p.1=none/\p.1≠X.env.locals/\p.1∉X.fs/\∀v,p.2.data≠ .cell v):Inv X pins' σ H s:=
 ⟨I.ok,I.os,I.bare,I.base,I.loc,I.cell,I.free,I.jv,fun p hp=>(List.mem_append.mp hp).elim (fun z=>I.pin p (List.mem_append_left _ z)) (h p),I.aP,I.len⟩
theorem Cd{N:List Str}(hN:N.Nodup){i j:Nat}{x:Str}(a:N[i]?=some x)(b:N[j]?=some x):i=j:=by
 obtain⟨h1,e1⟩:=List.getElem?_eq_some_iff.mp a;obtain⟨h2,e2⟩:=List.getElem?_eq_some_iff.mp b;exact(List.getElem_inj hN).mp (e1.trans e2.symm)
theorem zI{M:Model}{A:Around}{E:Value->Shared->Prop}{i:Nat}{x:Str}{v:V}{u:Value}{Q:Unit->Shared->Prop}(I:Inv X pins σ H s)(hN:X.N.Nodup)(hi:X.N[i]?=some x)(hx:Loc X.env.scope x)(r:RelV v u)
 (h:∀s',Inv X pins (σ.set i (some v)) H s'->(∃a,Heap.SameBut a s.heap s'.heap/\(a=X.env.locals\/X.env.cells.lookup x=some a))->Q () s') (hf:X.fn x=true\/X.env.scope.names.lookup x=some .local:=by first|exact .inl rfl|exact .inr rfl|assumption):wpAny M A (storeName X.env x u) Q E s:=by
 obtain⟨m,hn,hl⟩:=id I.loc;have hcls:(X.env.scope.kind== .class||(X.env.scope.kind== .module&&X.env.locals != X.env.globals))=false:=by rw[I.ok.kind];rfl
 have hiσ:i<σ.length:=by rw[I.len];exact(List.getElem?_eq_some_iff.mp hi).1
 have BM:=I.BM
 have tracked:∀ {a:Addr} {h':Heap},(∃o,s.heap.get? a=some o/\H a=none)->Heap.SameBut a s.heap h'->iZ X.prog X.w H h':=fun{a h'} ha hs b ob e=>by
  obtain⟨_,_,hfree⟩:=ha;refine(I.aP b ob e).mW (fun c w' hc q=>(hs.2 c ?_).trans q) (fun _ q=>q) fun _ _ q=>q;rintro rfl;rcases hc with rfl|hc
  . rw[hfree]at e;cases e
  . rw[hfree]at hc;cases hc
 rcases hx with hk|hk
 . refine wpAny_storeName_local hk hn (fun h' hn' hs=>?_) hcls;obtain⟨oL,_,_,hoL,_⟩:=id hn;refine h _ ⟨I.ok,I.os,I.bare,⟨fun b o e n hb hx=>?_,fun b o e n hb hx=>?_,I.base.free,fun b o e hx=>?_,I.base.qS,I.base.pW,I.base.pv⟩,⟨_,hn',fun j y v' e1 e2 e3=>?_⟩,fun y c e=>?_,I.free,I.jv,fun p hp=>?_,tracked ⟨oL,hoL,I.free⟩ hs,by simpa using I.len⟩ ⟨_,hs,.inl rfl⟩
   . exact(hs.2 b (Nat.ne_of_lt (Nat.lt_of_lt_of_le (Heap.lt_size e) I.ok.above))).trans (I.base.keep b o e n hb hx)
   . obtain⟨sl,e1⟩:=I.base.slot b o e n hb hx;exact⟨sl,(hs.2 b (Nat.ne_of_lt (Nat.lt_of_lt_of_le (Heap.lt_size e) I.ok.above))).trans e1⟩
   . obtain⟨o',e1⟩:=I.base.there b o e hx;exact⟨o',(hs.2 b (Nat.ne_of_lt (Nat.lt_of_lt_of_le (Heap.lt_size e) I.ok.above))).trans e1⟩
   . by_cases hj:j=i
     . subst hj;rw[hi]at e1;cases e1;rw[List.getElem?_set_self hiσ]at e2;cases e2;exact⟨u,r,.inl ⟨hk,by simp⟩⟩
     . rw[List.getElem?_set_ne (Ne.symm hj)]at e2;obtain⟨u',r',q⟩:=hl j y v' e1 e2 e3;refine⟨u',r',?_⟩;rcases q with⟨k,e⟩|⟨k,c,e,z⟩
       . refine .inl ⟨k,?_⟩;have:y≠x:=fun e=>hj (Cd hN e1 (e▸hi));simp[this,e]
       . exact .inr ⟨k,c,e,z.sameBut hs (BM y c e)⟩
   . obtain⟨w',z⟩:=I.cell y c e;exact⟨w',z.sameBut hs (BM y c e)⟩
   . obtain⟨e,n,ne,nf,d⟩:=I.pin p hp;exact⟨(hs.2 p.1 ne).trans e,n,ne,nf,d⟩
 . have hfn:X.fn x=true:=by
    rcases hf with z|z
    . exact z
    . rw[z]at hk;cases hk
   obtain⟨c,hc⟩:=I.ok.has x (.inl hk);obtain⟨w',z⟩:=I.cell x c hc;refine wpAny_storeName_cell I.ok.kind hk hc z (fun h' hc' hs=>?_);obtain⟨oc,hoc,hocd⟩:=id z;refine h {s with heap:=h'} ⟨I.ok,I.os,I.bare,⟨fun b o e n hb hx=>?_,fun b o e n hb hx=>?_,I.base.free,fun b o e hx=>?_,I.base.qS,I.base.pW,I.base.pv⟩,⟨m,hn.sameBut hs (Ne.symm (BM x c hc)),fun j y v' e1 e2 e3=>?_⟩,fun y c' e=>?_,I.free,I.jv,fun p hp=>?_,tracked ⟨oc,hoc,I.jv x c hc⟩ hs,by simpa using I.len⟩ ⟨c,hs,.inr hc⟩
   . exact(hs.2 b (Nat.ne_of_lt (Nat.lt_of_lt_of_le (Heap.lt_size e) (I.ok.BP x c hfn hc)))).trans (I.base.keep b o e n hb hx)
   . obtain⟨sl,e1⟩:=I.base.slot b o e n hb hx;exact⟨sl,(hs.2 b (Nat.ne_of_lt (Nat.lt_of_lt_of_le (Heap.lt_size e) (I.ok.BP x c hfn hc)))).trans e1⟩
   . obtain⟨o',e1⟩:=I.base.there b o e hx;exact⟨o',(hs.2 b (Nat.ne_of_lt (Nat.lt_of_lt_of_le (Heap.lt_size e) (I.ok.BP x c hfn hc)))).trans e1⟩
   . by_cases hj:j=i
     . subst hj;rw[hi]at e1;cases e1;rw[List.getElem?_set_self hiσ]at e2;cases e2;exact⟨u,r,.inr ⟨.inl hk,c,hc,hc'⟩⟩
     . rw[List.getElem?_set_ne (Ne.symm hj)]at e2;obtain⟨u',r',q⟩:=hl j y v' e1 e2 e3;refine⟨u',r',?_⟩;rcases q with q|⟨k,c',e,z'⟩
       . exact .inl q
       . refine .inr ⟨k,c',e,z'.sameBut hs ?_⟩;rintro rfl;exact hj (Cd hN e1 (I.ok.inj _ _ _ e hc▸hi))
   . by_cases hcc:c'=c
     . subst hcc;exact⟨_,hc'⟩
     . obtain⟨w2,z2⟩:=I.cell y c' e;exact⟨w2,z2.sameBut hs hcc⟩
   . obtain⟨e,n,ne,nf,d⟩:=I.pin p hp;refine⟨(hs.2 p.1 ?_).trans e,n,ne,nf,d⟩;intro q;rw[q,hoc]at e;have q':oc=p.2:=Option.some.inj e;exact d w' (by rw[<-q'];exact hocd)
theorem pw{M:Model}{A:Around}{E:Value->Shared->Prop}{i:Nat}{x:Str}{v:V}{u:Value}{Q:Unit->Shared->Prop}(I:Inv X pins σ H s)(hN:X.N.Nodup)(hi:X.N[i]?=some x)(hx:Loc X.env.scope x)(r:RelV v u)
 (h:∀s',Inv X pins (σ.set i (some v)) H s'->Q () s') (hf:X.fn x=true\/X.env.scope.names.lookup x=some .local:=by first|exact .inl rfl|exact .inr rfl|assumption):wpAny M A (storeName X.env x u) Q E s:=
 zI I hN hi hx r (fun s' I' _=>h s' I') hf
theorem Inv.Ex{s':Shared}{ch:List Addr}(I:Inv X pins σ H s)(ho:s'.os=s.os)(u:Un (rZ X.stack) ch H H' s.heap s'.heap)(aP:iZ X.prog X.w H' s'.heap)(hg:AllBare s'.gens)
 (hch:∀b∈ch,(b∈X.ex\/X.s₀.heap.objs.size<=b)/\b≠X.env.locals/\(∀x c,X.env.cells.lookup x=some c->c≠b)/\∀p∈X.pn++pins,p.1≠b):Inv X pins σ H' s':=by
 obtain⟨h',g',d',t',o'⟩:=s';have e:o'=s.os:=ho;subst e;exact I.call (g':=g') (t':=t') (d':=d') u aP hg hch
end
abbrev XK:=Value->Option Addr->Hp->Prop
abbrev St:=List (Option V)
abbrev VK:=V->Hp->Prop
abbrev TE:=St->Hp->VK->Prop
abbrev TT:=St->Hp->(Bool->Hp->Prop)->Prop
abbrev TA:=St->Hp->(List V->Hp->Prop)->Prop
structure Ends where
 nx:St->Hp->Prop
 rt:VK
 bk:St->Hp->Prop:=fun _ _=>False
 ct:St->Hp->Prop:=fun _ _=>False
abbrev TS:=Ends->St->Hp->Prop
def EP(X:Cx)(pins:List (Addr×Obj))(σ:St)(Q:VK)(u:Value)(s':Shared):Prop:=∃v H',Inv X pins σ H' s'/\RelV v u/\Q v H'
def TP(X:Cx)(pins:List (Addr×Obj))(σ:St)(Q:Bool->Hp->Prop)(b:Bool)(s':Shared):Prop:=∃H',Inv X pins σ H' s'/\Q b H'
def AP(X:Cx)(pins:List (Addr×Obj))(σ:St)(Q:List V->Hp->Prop)(us:List Value)(s':Shared):Prop:=∃vs H',Inv X pins σ H' s'/\Vals vs us/\Q vs H'
def SP(X:Cx)(pins:List (Addr×Obj))(D:Ends)(f:Flow)(s':Shared):Prop:=
 match f with
 | .next=>∃σ' H',Inv X pins σ' H' s'/\D.nx σ' H'
 | .brk=>∃σ' H',Inv X pins σ' H' s'/\D.bk σ' H'
 | .cont=>∃σ' H',Inv X pins σ' H' s'/\D.ct σ' H'
 | .ret u=>∃v σ' H',Inv X pins σ' H' s'/\RelV v u/\D.rt v H'
def PE(X:Cx)(e:Expr)(t:TE):Prop:=
 ∀(pins:List (Addr×Obj)) (s:Shared) (σ:St) (H:Hp) (Q:VK),Inv X pins σ H s->t σ H Q->wpAny (model X.prog X.w) X.A (eval e X.env) (EP X pins σ Q) X.xe s
def PT(X:Cx)(e:Expr)(t:TT):Prop:=
 ∀(pins:List (Addr×Obj)) (s:Shared) (σ:St) (H:Hp) (Q:Bool->Hp->Prop),Inv X pins σ H s->t σ H Q->wpAny (model X.prog X.w) X.A (isTrue e X.env (eval e X.env)) (TP X pins σ Q) X.xe s
def PW(X:Cx)(e:Expr)(t:TT):Prop:=
 ∀(whole:Sem Value) (pins:List (Addr×Obj)) (s:Shared) (σ:St) (H:Hp) (Q:Bool->Hp->Prop),Inv X pins σ H s->t σ H Q->wpAny (model X.prog X.w) X.A (isTrue e X.env whole) (TP X pins σ Q) X.xe s
theorem PW.pt{X:Cx}{e:Expr}{t:TT}(h:PW X e t):PT X e t:=h _
def PA(X:Cx)(es:List Expr)(t:TA):Prop:=
 ∀(pos:Pos) (pins:List (Addr×Obj)) (s:Shared) (σ:St) (H:Hp) (Q:List V->Hp->Prop),Inv X pins σ H s->t σ H Q->wpAny (model X.prog X.w) X.A (spliced (backTo pos (starEach es X.env))) (AP X pins σ Q) X.xe s
def PS(X:Cx)(st:Stmt)(t:TS):Prop:=
 ∀(pins:List (Addr×Obj)) (s:Shared) (σ:St) (H:Hp) (D:Ends),Inv X pins σ H s->t D σ H->wpAny (model X.prog X.w) X.A (exec st X.env) (SP X pins D) X.xe s
def iA(X:Cx)(st:List Stmt)(t:TS):Prop:=
 ∀(pins:List (Addr×Obj)) (s:Shared) (σ:St) (H:Hp) (D:Ends),Inv X pins σ H s->t D σ H->wpAny (model X.prog X.w) X.A (execs st X.env) (SP X pins D) X.xe s
theorem cp{α:Type}{t:Sem α}{Q Q':α->Shared->Prop}{M:Model}{A:Around}{E:Value->Shared->Prop}{s:Shared}(h:wpAny M A t Q E s)(hQ:∀a s,Q a s->Q' a s):wpAny M A t Q' E s:=wpAny_mono h hQ fun _ _ x=>x
section
variable {X:Cx}
def MR(i:Nat):TE:=fun σ H Q=>∃v,σ[i]?=some (some v)/\Q v H
def tC(v:V):TE:=fun _ H Q=>Q v H
theorem OP{i:Nat}{x:Str}{pos:Pos}(hN:X.N[i]?=some x)(hv:Bb X.env.scope x)(hd:(x==("__debug__":Str))=false:=by decide)(hcd:(x==("__classdict__":Str))=false:=by decide):PE X (.Name x pos) (MR i):=by
 intro pins s σ H Q I h;obtain⟨v,e,h⟩:=h;obtain⟨m,hn,hl⟩:=I.loc;obtain⟨u,r,l⟩:=hl i x v hN e hv;have fin:EP X pins σ Q u s:=⟨v,H,I,r,h⟩
 rcases l with⟨hk,hm⟩|⟨hk,c,hc,hcell⟩
 . exact wpAny_Name (wpAny_loadName_local I.ok.kind hk hn hm fin) hd
 . rcases hk with hk|hk
   . exact wpAny_Name (wpAny_loadName_cell I.ok.kind hk hc hcell fin) hd
   . exact wpAny_Name (wpAny_loadName_free I.ok.kind hk hc hcell fin hcd) hd
theorem NK{i j pos}:PE X (.Constant (.int i) j pos) (tC (.int i)):=fun _ _ _ H _ I h=>wpAny_Constant_int ⟨.int i,H,I.tok _,⟨_,rfl⟩,h⟩
theorem Pw{b j pos}:PE X (.Constant (.bool b) j pos) (tC (.bl b)):=fun _ _ _ H _ I h=>Constant_bool ⟨.bl b,H,I,rfl,h⟩
theorem M3{j pos}:PE X (.Constant .none j pos) (tC .aE):=fun _ _ _ H _ I h=>Constant_none ⟨.aE,H,I,rfl,h⟩
theorem NV{x j pos}:PE X (.Constant (.str x) j pos) (tC (.str x)):=fun _ _ _ H _ I h=>Calls.Constant_str ⟨.str x,H,I.tok _,⟨_,rfl⟩,h⟩
def Gl(X:Cx)(x:Str):Prop:=X.env.kindOf x=some .globalImplicit
theorem Dx{E:Value->Shared->Prop}{pins:List (Addr×Obj)}{s:Shared}{σ:St}{H:Hp}{x:Str}{u:Value}{pos:Pos}{Q:Value->Shared->Prop}(I:Inv X pins σ H s)(hg:Gl X x)(hm:X.mg x=some u)(h:Q u s)
 (hd:(x==("__debug__":Str))=false:=by decide):wpAny (model X.prog X.w) X.A (eval (.Name x pos) X.env) Q E s:=
 Calls.Name_function_global I.ok.kind hg (Calls.loadGlobal_global (by rw[I.ok.glob];exact I.mod.glob.keeps I.bk) hm h) hd
theorem md{E:Value->Shared->Prop}{pins:List (Addr×Obj)}{s:Shared}{σ:St}{H:Hp}{x:Str}{u:Value}{pos:Pos}{Q:Value->Shared->Prop}(I:Inv X pins σ H s)(hg:Gl X x)(hm:X.mg x=none)(hv:bootBuiltins x=some u)(h:Q u s)
 (hn:x≠"__name__":=by decide) (hd:(x==("__debug__":Str))=false:=by decide):wpAny (model X.prog X.w) X.A (eval (.Name x pos) X.env) Q E s:=by
 obtain⟨mb,h1,h2⟩:=I.mod.blt;exact Calls.Name_function_global I.ok.kind hg (Calls.loadGlobal_builtin (by rw[I.ok.glob];exact I.mod.glob.keeps I.bk) hm (by rw[I.ok.blt];exact h1.keeps I.bk) ((h2 x hn).trans hv) h) hd
theorem Lb{x:Str}{v:V}{u:Value}{pos:Pos}(hg:Gl X x)(hm:X.mg x=none)(hv:bootBuiltins x=some u)(r:RelV v u)(hn:x≠"__name__":=by decide)(hd:(x==("__debug__":Str))=false:=by decide):PE X (.Name x pos) (tC v):=
 fun _ _ _ H _ I h=>md I hg hm hv ⟨v,H,I,r,h⟩ hn hd
variable {a b:Expr}{ta tb:TE}{pos:Pos}
def tB(t:TE):TT:=fun σ H Q=>t σ H fun x H1=>∃c,x= .bl c/\Q c H1
theorem MM{e:Expr}{t:TE}(h:PE X e t)(he:∀whole,isTrue e X.env whole=(do let v <-whole;standAt e.pos;holding [v] (truthy v)):=by intro _;rfl):PT X e (tB t):=by
 intro pins s σ H Q I hw;refine isTrue_plain (cp (h pins s σ H _ I hw) fun v s1 ⟨x,H1,I1,r1,q1⟩=>?_) (he _);obtain⟨d,rfl,q⟩:=q1;cases r1;exact wpAny_truthy_bool ⟨H1,I1,q⟩
variable {tA tB':TT}{rest:List Expr}
def Na(t u:TT):TT:=fun σ H Q=>t σ H fun c H1=>if c=true then u σ H1 Q else Q false H1
def QT(t u:TT):TT:=fun σ H Q=>t σ H fun c H1=>if c=true then Q true H1 else u σ H1 Q
def Rj(t:TT):TT:=fun σ H Q=>t σ H fun c H1=>Q (!c) H1
theorem pw_and1(ha:PT X a tA):PW X (.BoolOp .And [a] pos) tA:=by
 intro wh pins s σ H Q I h;refine isTrue_and (cp (ha pins s σ H Q I h) fun c s1 e=>?_);cases c with
 |true=>exact isTrue_and_nil e
 |false=>exact e
theorem pw_or1(ha:PT X a tA):PW X (.BoolOp .Or [a] pos) tA:=by
 intro wh pins s σ H Q I h;refine isTrue_or (cp (ha pins s σ H Q I h) fun c s1 e=>?_);cases c with
 |false=>exact isTrue_or_nil e
 |true=>exact e
theorem pw_and(ha:PT X a tA)(hb:PW X (.BoolOp .And (b::rest) pos) tB'):PW X (.BoolOp .And (a::b::rest) pos) (Na tA tB'):=by
 intro wh pins s σ H Q I h;refine isTrue_and (cp (ha pins s σ H _ I h) fun c s1 ⟨H1,I1,q1⟩=>?_);cases c with
 |true=>exact hb wh pins s1 σ H1 Q I1 q1
 |false=>exact⟨H1,I1,q1⟩
theorem pw_or(ha:PT X a tA)(hb:PW X (.BoolOp .Or (b::rest) pos) tB'):PW X (.BoolOp .Or (a::b::rest) pos) (QT tA tB'):=by
 intro wh pins s σ H Q I h;refine isTrue_or (cp (ha pins s σ H _ I h) fun c s1 ⟨H1,I1,q1⟩=>?_);cases c with
 |true=>exact⟨H1,I1,q1⟩
 |false=>exact hb wh pins s1 σ H1 Q I1 q1
theorem MD(ha:PT X a tA):PT X (.UnaryOp .Not a pos) (Rj tA):=by
 intro pins s σ H Q I h;exact isTrue_not (ha pins s σ H (fun c H1=>Q (!c) H1) I h)
def Qh(ta tb:TE):TE:=fun σ H Q=>ta σ H fun x H1=>∃c,x= .bl c/\if c=true then tb σ H1 Q else Q (.bl false) H1
def RE(ta tb:TE):TE:=fun σ H Q=>ta σ H fun x H1=>∃c,x= .bl c/\if c=true then Q (.bl true) H1 else tb σ H1 Q
def PN(ta:TE):TE:=fun σ H Q=>ta σ H fun x H1=>∃c,x= .bl c/\Q (.bl (!c)) H1
theorem NJ{op}{t:TE}(h:PE X a t):PE X (.BoolOp op [a] pos) t:=fun pins s σ H Q I hw=>BoolOp_one (h pins s σ H Q I hw)
theorem N8(ha:PE X a ta)(hb:PE X (.BoolOp .And (b::rest) pos) tb):PE X (.BoolOp .And (a::b::rest) pos) (Qh ta tb):=by
 intro pins s σ H Q I h;refine BoolOp_and (cp (ha pins s σ H _ I h) fun v s1 ⟨x,H1,I1,r1,q1⟩=>?_);obtain⟨c,rfl,q1⟩:=q1;cases r1;refine wpAny_truthy_bool ?_;cases c with
 |true=>exact hb pins s1 σ H1 Q I1 q1
 |false=>exact⟨.bl false,H1,I1,rfl,q1⟩
theorem Pz(ha:PE X a ta)(hb:PE X (.BoolOp .Or (b::rest) pos) tb):PE X (.BoolOp .Or (a::b::rest) pos) (RE ta tb):=by
 intro pins s σ H Q I h;refine BoolOp_or (cp (ha pins s σ H _ I h) fun v s1 ⟨x,H1,I1,r1,q1⟩=>?_);obtain⟨c,rfl,q1⟩:=q1;cases r1;refine wpAny_truthy_bool ?_;cases c with
 |false=>exact hb pins s1 σ H1 Q I1 q1
 |true=>exact⟨.bl true,H1,I1,rfl,q1⟩
theorem MJ(ha:PE X a ta):PE X (.UnaryOp .Not a pos) (PN ta):=by
 intro pins s σ H Q I h;refine UnaryOp_ (cp (ha pins s σ H _ I h) fun v s1 ⟨x,H1,I1,r1,q1⟩=>?_);obtain⟨c,rfl,q1⟩:=q1;cases r1;exact not_of (wpAny_truthy_bool ⟨.bl (!c),H1,I1,rfl,q1⟩)
def Se(t:TT)(ta tb:TE):TE:=fun σ H Q=>t σ H fun c H1=>if c=true then ta σ H1 Q else tb σ H1 Q
theorem Iy{c:Expr}(hc:PT X c tA)(ha:PE X a ta)(hb:PE X b tb):PE X (.IfExp c a b pos) (Se tA ta tb):=by
 intro pins s σ H Q I h;refine wpAny_IfExp (cp (hc pins s σ H _ I h) fun d s1 ⟨H1,I1,q1⟩=>?_);cases d with
 |true=>exact ha pins s1 σ H1 Q I1 q1
 |false=>exact hb pins s1 σ H1 Q I1 q1
end
def nN(K:PySem.W.Frag)(H:Hp)(a:Addr)(xs:List V):Prop:=
 Rd H a (.lst xs)\/
  ∃(o:Obj) (aw:Array Value) (n:Nat),K.lookup a=some o/\o.cls= .type "list"/\o.dict=none/\o.data= .seq aw n/\aw.size<=sizeLine/\Vals xs aw.toList
def jA(K:PySem.W.Frag)(H:Hp)(a:Addr)(xs:List V):Prop:=
 Rd H a (.tup xs)\/
  ∃(o:Obj) (aw:Array Value) (n:Nat),K.lookup a=some o/\o.cls= .type "tuple"/\o.data= .seq aw n/\aw.size<=sizeLine/\Vals xs aw.toList
def RP:Value->Option V
 | .none=>some .aE
 | .bool b=>some (.bl b)
 | .int i _=>some (.int i)
 | .str x _=>some (.str x)
 | .bytes b _=>some (.vU b)
 | .float b _=>some (.vY b)
 | .ref a=>some (.ref a)
 | .type n=>some (.ty n)
 |_=>none
theorem RelV.abs{x:V}{u:Value}(r:RelV x u):RP u=some x:=by
 cases x with
 |aE=>cases r;rfl
 |bl _=>cases r;rfl
 |int _=>obtain⟨t,rfl⟩:=r;rfl
 |str _=>obtain⟨t,rfl⟩:=r;rfl
 |vU _=>obtain⟨t,rfl⟩:=r;rfl
 |vY _=>obtain⟨t,rfl⟩:=r;rfl
 |ref _=>cases r;rfl
 |ty _=>cases r;rfl
theorem RelV.inj{x y:V}{u:Value}(r:RelV x u)(q:RelV y u):x=y:=Option.some.inj (r.abs.symm.trans q.abs)
theorem Vals.inj:∀ {xs ys:List V} {us:List Value},Vals xs us->Vals ys us->xs=ys
 |_,_,_,.nil,.nil=>rfl
 |_,_,_,.cons r t,.cons r' t'=>by rw[r.inj r',Vals.inj t t']
section
variable {X:Cx}{pins:List (Addr×Obj)}{σ:St}{H:Hp}{s:Shared}{a:Addr}{xs ys:List V}
theorem nN.of{K:PySem.W.Frag}(h:H a=some (.lst xs)):nN K H a xs:= .inl (.inl h)
theorem jA.of{K:PySem.W.Frag}(h:H a=some (.tup xs)):jA K H a xs:= .inl (.inl h)
theorem Inv.list(I:Inv X pins σ H s)(h:nN X.K H a xs):∃aw:List Value,Vals xs aw/\PlainL s.heap a aw.toArray/\xs.length<=sizeLine:=by
 rcases h with h|⟨o,aw,n,hk,hc,hd,hs,hz,r⟩
 . obtain⟨z,aw,n,r,e⟩:=h.ok I.aP;exact⟨aw,r,⟨_,n,e,rfl,rfl,rfl⟩,z⟩
 . refine⟨aw.toList,r,⟨o,n,I.iy a o hk,hc,hd,by simpa using hs⟩,?_⟩;have e:=r.length;simp only[Array.length_toList]at e;omega
theorem Inv.tuple(I:Inv X pins σ H s)(h:jA X.K H a xs):∃aw:List Value,Vals xs aw/\IsTup s.heap a aw.toArray/\xs.length<=sizeLine:=by
 rcases h with h|⟨o,aw,n,hk,hc,hs,hz,r⟩
 . obtain⟨z,aw,r,p⟩:=h.ok I.aP;exact⟨aw,r,p,z⟩
 . refine⟨aw.toList,r,⟨o,I.iy a o hk,hc,n,by simpa using hs⟩,?_⟩;have e:=r.length;simp only[Array.length_toList]at e;omega
theorem Inv.Ck(I:Inv X pins σ H s)(h:nN X.K H a xs)(h':nN X.K H a ys):xs=ys:=by
 obtain⟨aw,r,⟨o,n,e,_,_,d⟩,_⟩:=I.list h;obtain⟨its',r',⟨o',n',e',_,_,d'⟩,_⟩:=I.list h';rw[e]at e';cases e';rw[d]at d';injection d' with d1 _;have:aw=its':=by simpa using congrArg Array.toList d1
 subst this;exact r.inj r'
theorem Inv.zu(I:Inv X pins σ H s)(h:jA X.K H a xs)(h':jA X.K H a ys):xs=ys:=by
 obtain⟨aw,r,⟨o,e,_,n,d⟩,_⟩:=I.tuple h;obtain⟨its',r',⟨o',e',_,n',d'⟩,_⟩:=I.tuple h';rw[e]at e';cases e';rw[d]at d';injection d' with d1 _;have:aw=its':=by simpa using congrArg Array.toList d1
 subst this;exact r.inj r'
end
abbrev Cx.rf(X:Cx)(E:Value->Shared->Prop):Cx:={X with xe:=E}
abbrev Cx.ye(X:Cx):Cx:=X.rf fun _ _=>False
theorem Cx.Ok.rf{X:Cx}(ok:X.Ok)(E:Value->Shared->Prop):(X.rf E).Ok:=
 ⟨ok.mod,ok.kind,ok.glob,ok.blt,ok.above,ok.inj,ok.has,ok.BP,ok.hd,ok.frames,ok.Dq,ok.FW,ok.bs,ok.um,ok.w6,ok.wu,ok.lV,ok.yn,ok.gt⟩
theorem Cx.Ok.nJ{X:Cx}{E:Value->Shared->Prop}(ok:(X.rf E).Ok):X.Ok:=
 ⟨ok.mod,ok.kind,ok.glob,ok.blt,ok.above,ok.inj,ok.has,ok.BP,ok.hd,ok.frames,ok.Dq,ok.FW,ok.bs,ok.um,ok.w6,ok.wu,ok.lV,ok.yn,ok.gt⟩
section
variable {X:Cx}{pins:List (Addr×Obj)}{σ:St}{H:Hp}{s:Shared}{E:Value->Shared->Prop}
theorem Inv.rf(I:Inv X pins σ H s)(E:Value->Shared->Prop):Inv (X.rf E) pins σ H s:=⟨I.ok.rf E,I.os,I.bare,I.base,I.loc,I.cell,I.free,I.jv,I.pin,I.aP,I.len⟩
theorem Inv.nJ(I:Inv (X.rf E) pins σ H s):Inv X pins σ H s:=⟨I.ok.nJ,I.os,I.bare,I.base,I.loc,I.cell,I.free,I.jv,I.pin,I.aP,I.len⟩
theorem SP.nJ{D:Ends}{f:Flow}{s':Shared}(h:SP (X.rf E) pins D f s'):SP X pins D f s':=by
 cases f with
 |next=>obtain⟨σ',H',I,q⟩:=h;exact⟨σ',H',I.nJ,q⟩
 |brk=>obtain⟨σ',H',I,q⟩:=h;exact⟨σ',H',I.nJ,q⟩
 |cont=>obtain⟨σ',H',I,q⟩:=h;exact⟨σ',H',I.nJ,q⟩
 |ret u=>obtain⟨v,σ',H',I,r,q⟩:=h;exact⟨v,σ',H',I.nJ,r,q⟩
theorem iA.ye{st:List Stmt}{t:TS}(h:iA X.ye st t):iA X st t:=fun pins s σ H D I hw=>
 wpAny_mono (h pins s σ H D (I.rf _) hw) (fun _ _ q=>q.nJ) fun _ _ z=>False.elim z
end
section
variable {X:Cx}{st:Stmt}{rest:List Stmt}{t u:TS}{e:Expr}{te:TE}{pos:Pos}
def PV:TS:=fun D σ H=>D.nx σ H
def RY(t u:TS):TS:=fun D σ H=>t {D with nx:=u D} σ H
theorem Ld:iA X [] PV:=fun _ _ σ H _ I h=>wpAny_execs_nil ⟨σ,H,I,h⟩
theorem HI(h1:PS X st t)(h2:iA X rest u):iA X (st::rest) (RY t u):=by
 intro pins s σ H D I h;refine wpAny_execs_cons (cp (h1 pins s σ H {D with nx:=u D} I h) fun f s1 q=>?_);cases f with
 |next=>
  obtain⟨σ',H',I',q⟩:=q;exact h2 pins s1 σ' H' D I' q
 |ret v=>exact q
 |brk=>exact q
 |cont=>exact q
theorem KY(h1:PS X st t):iA X [st] t:=by
 intro pins s σ H D I h;refine wpAny_execs_cons (cp (h1 pins s σ H D I h) fun f s1 q=>?_);cases f with
 |next=>exact wpAny_execs_nil q
 |ret v=>exact q
 |brk=>exact q
 |cont=>exact q
theorem Inv.quiet{pins:List (Addr×Obj)}{σ:St}{H:Hp}{s:Shared}(I:Inv X pins σ H s):interactive X.env=false:=by simp[interactive,I.ok.kind]
def O_(te:TE):TS:=fun D σ H=>te σ H fun _ H1=>D.nx σ H1
theorem Lm(he:PE X e te)(hs:swapsWith e none pos.line X.env=pure false:=by rfl):PS X (.Expr e pos) (O_ te):=by
 intro pins s σ H D I h;exact wpAny_Expr_any (cp (he pins s σ H _ I h) fun v s1 ⟨x,H1,I1,r1,q1⟩=>⟨σ,H1,I1,q1⟩) I.quiet hs
def Ry(te:TE):TS:=fun D σ H=>te σ H D.rt
theorem NI(he:PE X e te):PS X (.Return (some e) pos) (Ry te):=by
 intro pins s σ H D I h;exact wpAny_Return_some (cp (he pins s σ H _ I h) fun v s1 ⟨x,H1,I1,r1,q1⟩=>⟨x,σ,H1,I1,r1,q1⟩)
def RW(c:TT)(t u:TS):TS:=fun D σ H=>c σ H fun b H1=>if b=true then t D σ H1 else u D σ H1
theorem Py{c:Expr}{a b:List Stmt}{tc:TT}(hc:PT X c tc)(ha:iA X a t)(hb:iA X b u):PS X (.If c a b pos) (RW tc t u):=by
 intro pins s σ H D I h;refine wpAny_If (cp (hc pins s σ H _ I h) fun d s1 ⟨H1,I1,q1⟩=>?_);cases d with
 |true=>exact ha pins s1 σ H1 D I1 q1
 |false=>exact hb pins s1 σ H1 D I1 q1
end
abbrev TG:=V->St->Hp->(St->Hp->Prop)->Prop
abbrev AR:=List V->St->Hp->(St->Hp->Prop)->Prop
def PG(X:Cx)(target:Expr)(t:TG):Prop:=
 ∀(pins:List (Addr×Obj)) (s:Shared) (σ:St) (H:Hp) (v:V) (u:Value) (Q:St->Hp->Prop),Inv X pins σ H s->RelV v u->t v σ H Q->
  wpAny (model X.prog X.w) X.A (assign target X.env u) (fun _ s'=>∃σ' H',Inv X pins σ' H' s'/\Q σ' H') X.xe s
def FQ(X:Cx)(ts:List Expr)(t:AR):Prop:=
 ∀(pins:List (Addr×Obj)) (s:Shared) (σ:St) (H:Hp) (vs:List V) (us:List Value) (Q:St->Hp->Prop),Inv X pins σ H s->Vals vs us->t vs σ H Q->
  wpAny (model X.prog X.w) X.A (assignInOrder ((assignEach ts X.env).map (·.2)) us) (fun _ s'=>∃σ' H',Inv X pins σ' H' s'/\Q σ' H') X.xe s
abbrev IT:=V->V->V->Hp->(Hp->Prop)->Prop
def ON(X:Cx)(t:IT):Prop:=
 ∀(pins:List (Addr×Obj)) (s:Shared) (σ:St) (H:Hp) (o i v:V) (ov iv u:Value) (Q:Hp->Prop),Inv X pins σ H s->RelV o ov->RelV i iv->RelV v u->t o i v H Q->
  wpAny (model X.prog X.w) X.A (setItem ov iv u) (fun _ s'=>∃H',Inv X pins σ H' s'/\Q H') X.xe s
abbrev Kg:=V->V->Hp->VK->Prop
def Ni(X:Cx)(op:Operator)(t:Kg):Prop:=
 ∀(pins:List (Addr×Obj)) (s:Shared) (σ:St) (H:Hp) (x y:V) (v u:Value) (Q:VK),Inv X pins σ H s->RelV x v->RelV y u->t x y H Q->
  wpAny (model X.prog X.w) X.A (inplaceOp op v u) (EP X pins σ Q) X.xe s
section
variable {X:Cx}{pos:Pos}
def nt(i:Nat):TG:=fun v σ H Q=>Q (σ.set i (some v)) H
theorem yK{i:Nat}{x:Str}(hN:X.N.Nodup)(hi:X.N[i]?=some x)(hx:Loc X.env.scope x)(hf:X.fn x=true\/X.env.scope.names.lookup x=some .local:=by first|exact .inl rfl|exact .inr rfl|assumption):PG X (.Name x pos) (nt i):=by
 intro pins s σ H v u Q I r h;exact wpAny_assign_Name (pw I hN hi hx r (fun s' I'=>⟨_,H,I',h⟩) hf)
def ID:AR:=fun vs σ H Q=>vs=[]/\Q σ H
def yd(t:TG)(u:AR):AR:=fun vs σ H Q=>∃v r,vs=v::r/\t v σ H fun σ' H'=>u r σ' H' Q
theorem Eb:FQ X [] ID:=by
 intro pins s σ H vs us Q I r h;obtain⟨e,h⟩:=h;subst e;cases r;exact assignInOrder_nil ⟨σ,H,I,h⟩
theorem sN{e:Expr}{es:List Expr}{t:TG}{u:AR}(h1:PG X e t)(h2:FQ X es u)
 (hs:(assignEach (e::es) X.env).map (·.2)=assign e X.env::(assignEach es X.env).map (·.2):=by rfl):FQ X (e::es) (yd t u):=by
 intro pins s σ H vs us Q I r h;obtain⟨v,vr,e1,h⟩:=h;subst e1;cases r with
 |cons r rr=>
  rw[hs];refine assignInOrder_cons (cp (h1 pins s σ H _ _ _ I r h) fun _ s1 ⟨σ1,H1,I1,q1⟩=>?_);exact h2 pins s1 σ1 H1 _ _ Q I1 rr q1
def Nt(K:PySem.W.Frag)(n:Nat)(t:AR):TG:=fun v σ H Q=>∃a xs,v= .ref a/\jA K H a xs/\xs.length=n/\t xs σ H Q
theorem FV{es:List Expr}{k:Nat}{t:AR}{n:Nat}(hc:X.calm=true)(h:FQ X es t)
 (hn:(assignEach es X.env).length=n:=by rfl) (hst:(assignEach es X.env).findIdx? (·.1)=none:=by rfl):PG X (.Tuple es k pos) (Nt X.K n t):=by
 intro pins s σ H v u Q I r hw;obtain⟨a,xs,e1,hq,hl,hw⟩:=hw;subst e1;cases r;obtain⟨aw,rv,ht,hz⟩:=I.tuple hq;refine assign_Tuple_tuple (I.ok.hd hc) ht (by simp[hn,<-hl,rv.length]) hst fun h' hx=>?_;have I1:Inv X pins σ H {s with heap:=h'}:=I.kept (t':=s.toks) fun b o e=>hx b o (Nat.ne_of_lt (Heap.lt_size e)) e;exact h pins _ σ H xs _ Q I1 (by simpa using rv) hw
def zk(to ti:TE)(t:IT):TG:=fun v σ H Q=>to σ H fun o H1=>ti σ H1 fun i H2=>t o i v H2 fun H3=>Q σ H3
theorem xk{o i:Expr}{to ti:TE}{t:IT}(ho:PE X o to)(hi:PE X i ti)(hs:ON X t)
 (ha:∀v,assign (.Subscript o i pos) X.env v=(do
   let ov <-holding [v] (eval o X.env)
   let iv <-holding [v,ov] (eval i X.env)
   standAt pos
   holding [v,ov,iv] (setItem ov iv v)
   release [v,ov,iv] []):=by intro _;rfl):PG X (.Subscript o i pos) (zk to ti t):=by
 intro pins s σ H v u Q I r h;rw[ha];refine wpAny_bind (wpAny_holding (cp (ho pins s σ H _ I h) fun ov s1 ⟨x,H1,I1,r1,q1⟩=>?_));refine wpAny_bind (wpAny_holding (cp (hi pins s1 σ H1 _ I1 q1) fun iv s2 ⟨y,H2,I2,r2,q2⟩=>?_));refine wpAny_bind (wpAny_standAt (wpAny_bind (wpAny_holding (cp (hs pins s2 σ H2 x y v ov iv u _ I2 r1 r2 r q2) fun _ s3 ⟨H3,I3,q3⟩=>?_))));exact wpAny_release ⟨σ,H3,I3,q3⟩
def m9(te:TE)(g:TG):TS:=fun D σ H=>te σ H fun x H1=>g x σ H1 D.nx
theorem xl{tg e:Expr}{te:TE}{g:TG}(he:PE X e te)(hg:PG X tg g)(hs:swapsWithSole [tg] e pos.line X.env=pure false:=by rfl)(hw:swappedStores [tg] e X.env=pure none:=by rfl)
 (h1:(assignEach [tg] X.env).map (·.2)=[assign tg X.env]:=by rfl):PS X (.Assign [tg] e pos) (m9 te g):=by
 intro pins s σ H D I h;refine wpAny_Assign_stores (cp (he pins s σ H _ I h) fun v s1 ⟨x,H1,I1,r1,q1⟩=>?_) hs hw;rw[h1];exact cp (hg pins s1 σ H1 x v _ I1 r1 q1) fun _ s2 q=>q
theorem OU{i:Nat}{x:Str}{e:Expr}{te:TE}{pos':Pos}(hN:X.N.Nodup)(hi:X.N[i]?=some x)(hx:Loc X.env.scope x)(he:PE X e te)(hs:swapsWith e (some (.Name x pos')) pos.line X.env=pure false:=by rfl)(hf:X.fn x=true\/X.env.scope.names.lookup x=some .local:=by first|exact .inl rfl|exact .inr rfl|assumption):
 PS X (.Assign [.Name x pos'] e pos) (m9 te (nt i)):=by
 intro pins s σ H D I h;refine wpAny_Assign_Name (cp (he pins s σ H _ I h) fun v s1 ⟨y,H1,I1,r1,q1⟩=>?_) hs;exact pw I1 hN hi hx r1 (fun s2 I2=>⟨_,H1,I2,q1⟩) hf
def Np(i j:Nat)(ta:TA):TS:=fun D σ H=>ta σ H fun vs H1=>∃v w,vs=[v,w]/\D.nx ((σ.set i (some v)).set j (some w)) H1
theorem MC{i j:Nat}{x y:Str}{a b:Expr}{ta:TA}{px py pt:Pos}{kt k2 pt2}(hc:X.calm=true)(hN:X.N.Nodup)(hi:X.N[i]?=some x)(hj:X.N[j]?=some y)(hij:i≠j)
 (hx:X.env.scope.names.lookup x=some .local) (hy:X.env.scope.names.lookup y=some .local) (ha:PA X [a,b] ta)
 (hw:swappedStores [.Tuple [.Name x px,.Name y py] kt pt] (.Tuple [a,b] k2 pt2) X.env=pure (some [x,y]))
 (hs:swapsWithSole [.Tuple [.Name x px,.Name y py] kt pt] (.Tuple [a,b] k2 pt2) pos.line X.env=pure false:=by rfl):
 PS X (.Assign [.Tuple [.Name x px,.Name y py] kt pt] (.Tuple [a,b] k2 pt2) pos) (Np i j ta):=by
 intro pins s σ H D I h;rw[exec_Assign_arm];refine wpAny_bind (wpAny_standAt ?_);rw[hs];refine wpAny_bind (wpAny_pure ?_);rw[if_neg (by decide)];refine wpAny_bind (Tuple_ (cp (ha _ pins s σ H _ I h) fun us s1 ⟨vs,H1,I1,r1,q1⟩=>?_));obtain⟨v,w,e1,q1⟩:=q1;subst e1
 obtain⟨u1,u2,rfl,rv,rw'⟩:∃u1 u2,us=[u1,u2]/\RelV v u1/\RelV w u2:=by
  cases r1 with
  |cons p q=>
   cases q with
   |cons p' q'=>
    cases q';exact⟨_,_,rfl,p,p'⟩
 refine wpAny_newObj_type ?_ (by show 2<=sizeLine;decide);have I2:Inv X pins σ H1 {s1 with heap:=s1.heap.push {cls:= .type "tuple",data:= .seq [u1,u2].toArray}}:=I1.kept (t':=s1.toks) fun b o e=>Heap.get?_push_of_some _ e;rw[hw];refine wpAny_bind (wpAny_pure ?_);show wpAny (model X.prog X.w) X.A (do rule "assign.swapped-stores";let items <-unpackItems (.ref s1.heap.objs.size) 2 none;assignInOrder [fun v=>bindName X.env y v,fun v=>bindName X.env x v] items.reverse;pure Flow.next) _ _ _;refine wpAny_bind (wpAny_rule (wpAny_bind (unpackItems_tuple (items:= #[u1,u2]) (I.ok.hd hc) (IsTup.new s1.heap _) fun h' hx'=>?_)));have I3:=I2.kept (h':=h') (t':=s1.toks) fun b o e=>hx' b o (Nat.ne_of_lt (Heap.lt_size e)) e;show wpAny _ _ (assignInOrder [fun v=>bindName X.env y v,fun v=>bindName X.env x v] [u2,u1] >>= fun _=>pure Flow.next) _ _ _;refine wpAny_bind (assignInOrder_cons (wpAny_bindName (pw I3 hN hj (.inl hy) rw' (fun s2 I4=>?_) (.inr hy))));refine assignInOrder_cons (wpAny_bindName (pw I4 hN hi (.inl hx) rv (fun s3 I5=>assignInOrder_nil (wpAny_pure ?_)) (.inr hx)));rw[List.set_comm _ _ (Ne.symm hij)]at I5;exact⟨_,H1,I5,q1⟩
def NY(i:Nat)(te:TE)(ti:Kg):TS:=fun D σ H=>∃x,σ[i]?=some (some x)/\te σ H fun y H1=>ti x y H1 fun z H2=>D.nx (σ.set i (some z)) H2
theorem M6{i:Nat}{x:Str}{e:Expr}{te:TE}{op:Operator}{ti:Kg}{pos':Pos}(hN:X.N.Nodup)(hi:X.N[i]?=some x)(hx:Loc X.env.scope x)(he:PE X e te)(ho:Ni X op ti)(hf:X.fn x=true\/X.env.scope.names.lookup x=some .local:=by first|exact .inl rfl|exact .inr rfl|assumption):
 PS X (.AugAssign (.Name x pos') op e pos) (NY i te ti):=by
 intro pins s σ H D I h;obtain⟨v,e1,h⟩:=h;obtain⟨m,hn,hl⟩:=I.loc;have vis:Bb X.env.scope x:=by rcases hx with k|k;exact .inl k;exact .inr (.inl k)
 obtain⟨u,r,l⟩:=hl i x v hi e1 vis;refine wpAny_AugAssign_Name ?_
 have go:wpAny (model X.prog X.w) X.A (eval e X.env) (fun w s₂=>wpAny (model X.prog X.w) X.A (inplaceOp op u w) (fun r s₃=>wpAny (model X.prog X.w) X.A (storeName X.env x r) (fun _=>SP X pins D .next) X.xe s₃) X.xe s₂) X.xe s:=by
  refine cp (he pins s σ H _ I h) fun w s1 ⟨y,H1,I1,r1,q1⟩=>?_;refine cp (ho pins s1 σ H1 v y u w _ I1 r r1 q1) fun z s2 ⟨zv,H2,I2,r2,q2⟩=>?_;exact pw I2 hN hi hx r2 (fun s3 I3=>⟨_,H2,I3,q2⟩) hf
 rcases l with⟨hk,hm⟩|⟨hk,c,hc,hcell⟩
 . exact wpAny_loadName_local I.ok.kind hk hn hm go
 . rcases hk with hk|hk
   . exact wpAny_loadName_cell I.ok.kind hk hc hcell go
   . rcases hx with k|k
     . have:X.env.scope.names.lookup x=some .free:=hk;rw[k]at this;cases this
     . have:X.env.scope.names.lookup x=some .free:=hk;rw[k]at this;cases this
def Nq(f:Int->Int->Int):Kg:=fun x y H Q=>∃i j,x= .int i/\y= .int j/\Q (.int (f i j)) H
theorem Oq:Ni X .Add (Nq fun i j=>i+j):=by
 intro pins s σ H x y v u Q I r1 r2 h;obtain⟨i,j,e1,e2,q⟩:=h;subst e1;subst e2;obtain⟨t,rfl⟩:=r1;obtain⟨t',rfl⟩:=r2;exact iadd_int ⟨.int _,H,I.tok _,⟨_,rfl⟩,q⟩
def FU(c:TT)(tb:TS):TS:=fun D σ H=>∃W:Nat->St->Hp->Prop,(∃m,W m σ H)/\∀m σ H,W m σ H->
 c σ H fun b H1=>if b=true then∃N:St->Hp->Prop,(∀σ' H',N σ' H'->∃m',m'<m/\W m' σ' H')/\tb {D with nx:=N,ct:=N,bk:=D.nx} σ H1 else D.nx σ H1
theorem Jd{c:Expr}{body:List Stmt}{tc:TT}{tb:TS}(hp:PassesOwn (model X.prog X.w) X.A X.env X.xe)(hc:PT X c tc)(hb:iA X body tb):PS X (.While c body [] pos) (FU tc tb):=by
 intro pins s σ H D I h;obtain⟨W,⟨m0,w0⟩,turn⟩:=h;refine wpAny_While (codeAny_whileLoop (fun n s'=>∃σ' H',Inv X pins σ' H' s'/\W n σ' H') ?_ m0 ⟨σ,H,I,w0⟩);rintro n s1 ⟨σ1,H1,I1,w1⟩;refine wpAny_passesOwn hp (cp (hc pins s1 σ1 H1 _ I1 (turn n σ1 H1 w1)) fun b s2 ⟨H2,I2,q2⟩=>?_);cases b with
 |true=>
  obtain⟨N,hN,q2⟩:=q2;rw[if_pos rfl];refine wpAny_passesOwn hp (cp (hb pins s2 σ1 H2 _ I2 q2) fun f s3 q3=>?_);cases f with
  |next=>
   obtain⟨σ3,H3,I3,n3⟩:=q3;obtain⟨m',hm,w3⟩:=hN σ3 H3 n3;exact⟨m',hm,σ3,H3,I3,w3⟩
  |cont=>
   obtain⟨σ3,H3,I3,n3⟩:=q3;obtain⟨m',hm,w3⟩:=hN σ3 H3 n3;exact⟨m',hm,σ3,H3,I3,w3⟩
  |brk=>exact q3
  |ret v=>exact q3
 |false=>
  rw[if_neg Bool.false_ne_true];exact wpAny_execs_nil ⟨σ1,H2,I2,q2⟩
end
structure It where
 go:Nat->Hp->Prop
 qx:Nat->Hp->V->Hp->Prop
 stop:Nat->Hp->Prop
def m4(X:Cx)(pins:List (Addr×Obj))(H:Hp)(b:Addr):Prop:=
 H b=none/\b≠X.env.locals/\b∉X.fs/\(b∈X.ex\/X.s₀.heap.objs.size<=b)/\(∀x c,X.env.cells.lookup x=some c->c≠b)/\∀p∈X.pn++pins,p.1≠b
theorem Inv.wI{X:Cx}{pins:List (Addr×Obj)}{σ:St}{H H':Hp}{s:Shared}{b:Addr}(I:Inv X pins σ H s)(hb:s.heap.objs.size<=b)(hn:H' b=none):m4 X pins H' b:=by
 refine⟨hn,Nat.ne_of_gt (Nat.lt_of_lt_of_le I.lt hb),I.OW hb,.inr (Nat.le_trans I.sz hb),fun x c e z=>?_,fun p hp z=>?_⟩
 . obtain⟨v,q⟩:=I.cell x c e;exact absurd (Nat.lt_of_lt_of_le q.lt (by rw[z];exact hb)) (Nat.lt_irrefl _)
 . exact absurd (Nat.lt_of_lt_of_le (Heap.lt_size (I.pin p hp).1) (by rw[z];exact hb)) (Nat.lt_irrefl _)
structure Turn(P:Program)(w:World)(K:PySem.W.Frag)(tg:Expr)(J:It)(fp:List Addr)(it:Addr)(tn:Nat->Heap->Prop):Prop where
 mem:it∈fp
 obj:∀i h,tn i h->∀b∈fp,∃o,h.get? b=some o/\∀v,o.data≠ .cell v
 keep:∀i h h',tn i h->(∀b∈fp,∀o,h.get? b=some o->h'.get? b=some o)->tn i h'
 item:∀(X:Cx),X.prog=P->X.w=w->X.K=K->X.calm=true->∀(i:Nat) (pins:List (Addr×Obj)) (s:Shared) (σ:St) (H:Hp) (E:Value->Shared->Prop),Inv X pins σ H s->(∀b∈fp,m4 X pins H b)->tn i s.heap->J.go i H->
  wpAny (model P w) X.A (pyNext (.ref it)) (fun r s1=>∃u,r=some u/\
   wpAny (model P w) X.A (letOwnedTupleGo tg (.ref it) u) (fun _ s2=>∃x H',Inv X pins σ H' s2/\RelV x u/\J.qx i H x H'/\tn (i+1) s2.heap/\∀b∈fp,H' b=none) E s1) E s
 done:∀(X:Cx),X.prog=P->X.w=w->X.K=K->X.calm=true->∀(i:Nat) (pins:List (Addr×Obj)) (s:Shared) (σ:St) (H:Hp) (E:Value->Shared->Prop),Inv X pins σ H s->(∀b∈fp,m4 X pins H b)->tn i s.heap->J.stop i H->
  wpAny (model P w) X.A (pyNext (.ref it)) (fun r s1=>r=none/\Inv X pins σ H s1) E s
 self:∀(A:Around) (i:Nat) (s:Shared) (Q:Value->Shared->Prop) (E:Value->Shared->Prop),tn i s.heap->Q (.ref it) s->wpAny (model P w) A (pyIter (.ref it)) Q E s
abbrev TI:=St->Hp->(It->Hp->Prop)->Prop
def J6(X:Cx)(pins:List (Addr×Obj))(σ:St)(tg:Expr)(R:It->Hp->Prop)(itv:Value)(s2:Shared):Prop:=
 ∃(it:Addr) (fp:List Addr) (tn:Nat->Heap->Prop) (J:It) (H':Hp),itv= .ref it/\Inv X pins σ H' s2/\Turn X.prog X.w X.K tg J fp it tn/\tn 0 s2.heap/\(∀b∈fp,m4 X pins H' b)/\R J H'
def PI(X:Cx)(tg iter:Expr)(wi:TI):Prop:=
 ∀(pins:List (Addr×Obj)) (s:Shared) (σ:St) (H:Hp) (R:It->Hp->Prop),Inv X pins σ H s->wi σ H R->
  wpAny (model X.prog X.w) X.A (eval iter X.env) (fun v s1=>wpAny (model X.prog X.w) X.A (pyIter v) (J6 X pins σ tg R) X.xe s1) X.xe s
theorem AN{M:Model}{A:Around}{E:Value->Shared->Prop}{s:Shared}{tg:Expr}{it:Addr}{u:Value}{o:Obj}{n:String}{vs:Array Value}{Q:Unit->Shared->Prop}(ho:s.heap.get? it=some o)(hc:o.cls= .type n)(hd:o.data= .fields vs)
 (hn: ["enumerate","zip","dict_itemiterator","dict_reverseitemiterator","odict_iterator","itertools.zip_longest","itertools.pairwise"].contains n=false) (hQ:Q () s):wpAny M A (letOwnedTupleGo tg (.ref it) u) Q E s:=by
 unfold letOwnedTupleGo
 cases tg<;>first
  |exact wpAny_pure hQ
  |(cases u<;>first
     |exact wpAny_pure hQ
     |(refine wpAny_bind (wpAny_load ho ?_)
       rw[hc,hd];show wpAny M A (if(["enumerate","zip","dict_itemiterator","dict_reverseitemiterator","odict_iterator","itertools.zip_longest","itertools.pairwise"].contains n&&vs[0]?==some (rawInt _))=true then _ else _) Q E s;rw[if_neg (by intro h;rw[hn,Bool.false_and]at h;cases h)];exact wpAny_pure hQ))
def NM(K:PySem.W.Frag)(a:Addr):It:=
 ⟨fun i H=>∃xs x,nN K H a xs/\xs[i]?=some x,fun i H x H'=>H'=H/\∀xs,nN K H a xs->xs[i]?=some x,fun i H=>∃xs,nN K H a xs/\xs.length<=i⟩
def Ot(K:PySem.W.Frag)(a:Addr):It:=
 ⟨fun i H=>∃xs x,jA K H a xs/\xs[i]?=some x,fun i H x H'=>H'=H/\∀xs,jA K H a xs->xs[i]?=some x,fun i H=>∃xs,jA K H a xs/\xs.length<=i⟩
def zC(lo:Int)(n:Nat):It:=⟨fun i _=>i<n,fun i H x H'=>H'=H/\x= .int (lo+i),fun i _=>n<=i⟩
theorem Gk{P:Program}{w:World}{K:PySem.W.Frag}{tg:Expr}(a it:Addr):Turn P w K tg (NM K a) [it] it (fun i h=>h.IsListIter it a i) where
 mem:=by simp
 obj:=fun i h st b hb=>by
  have e:b=it:=by simpa using hb
  subst e;obtain⟨o,e,c,d⟩:=st;exact⟨o,e,fun v z=>by rw[d]at z;cases z⟩
 keep:=fun i h h' st k=>st.at fun o e=>k it (by simp) o e
 item:=by
  intro X hP hw hK hc i pins s σ H E I hf st hg;subst hP hw hK;obtain⟨xs,x,hq,hx⟩:=hg;obtain⟨aw,rv,p,hz⟩:=I.list hq;obtain⟨u,hu,ru⟩:=rv.get hx;obtain⟨f0,f1,f2,f3,f4,f5⟩:=hf it (by simp);refine wpAny_pyNext_list_item st p.isList (x:=u) (by simpa using hu) fun h' st' sb=>?_;have I1:Inv X pins σ H {s with heap:=h'}:=I.turned (t':=s.toks) (fun b o hb e=>(sb.2 b hb).trans e) f0 f1 f3 f4 f5;obtain⟨o,e,c,d⟩:=id st';exact⟨u,rfl,AN (s:={s with heap:=h'}) e c d (by decide) ⟨x,H,I1,ru,⟨rfl,fun ys hy=>by rw[I.Ck hy hq];exact hx⟩,st',fun b hb=>(hf b hb).1⟩⟩
 done:=by
  intro X hP hw hK hc i pins s σ H E I hf st hg;subst hP hw hK;obtain⟨xs,hq,hx⟩:=hg;obtain⟨aw,rv,p,hz⟩:=I.list hq;obtain⟨f0,f1,f2,f3,f4,f5⟩:=hf it (by simp);have hl:=rv.length;exact wpAny_pyNext_list_end (I.ok.hd hc) st p.isList (by simp;omega) fun h' eb=>⟨rfl,I.turned (t':=s.toks) (fun b o hb e=>eb b o hb e) f0 f1 f3 f4 f5⟩
 self:=fun _ _ _ _ _ st h=>wpAny_pyIter_listiter st h
theorem ES{P:Program}{w:World}{K:PySem.W.Frag}{tg:Expr}(a it:Addr):Turn P w K tg (Ot K a) [it] it (fun i h=>h.IsTupleIter it a i) where
 mem:=by simp
 obj:=fun i h st b hb=>by
  have e:b=it:=by simpa using hb
  subst e;obtain⟨o,e,c,d⟩:=st;exact⟨o,e,fun v z=>by rw[d]at z;cases z⟩
 keep:=fun i h h' st k=>st.at fun o e=>k it (by simp) o e
 item:=by
  intro X hP hw hK hc i pins s σ H E I hf st hg;subst hP hw hK;obtain⟨xs,x,hq,hx⟩:=hg;obtain⟨aw,rv,p,hz⟩:=I.tuple hq;obtain⟨u,hu,ru⟩:=rv.get hx;obtain⟨f0,f1,f2,f3,f4,f5⟩:=hf it (by simp);refine wpAny_pyNext_tuple_item st (show s.heap.IsTuple a aw.toArray from p) (x:=u) (by simpa using hu) fun h' st' sb=>?_;have I1:Inv X pins σ H {s with heap:=h'}:=I.turned (t':=s.toks) (fun b o hb e=>(sb.2 b hb).trans e) f0 f1 f3 f4 f5;obtain⟨o,e,c,d⟩:=id st';exact⟨u,rfl,AN (s:={s with heap:=h'}) e c d (by decide) ⟨x,H,I1,ru,⟨rfl,fun ys hy=>by rw[I.zu hy hq];exact hx⟩,st',fun b hb=>(hf b hb).1⟩⟩
 done:=by
  intro X hP hw hK hc i pins s σ H E I hf st hg;subst hP hw hK;obtain⟨xs,hq,hx⟩:=hg;obtain⟨aw,rv,p,hz⟩:=I.tuple hq;obtain⟨f0,f1,f2,f3,f4,f5⟩:=hf it (by simp);have hl:=rv.length;exact wpAny_pyNext_tuple_end (I.ok.hd hc) st (show s.heap.IsTuple a aw.toArray from p) (by simp;omega) fun h' eb=>⟨rfl,I.turned (t':=s.toks) (fun b o hb e=>eb b o hb e) f0 f1 f3 f4 f5⟩
 self:=fun _ _ _ _ _ st h=>wpAny_pyIter_tupleiter st h
theorem Ff{P:Program}{w:World}{K:PySem.W.Frag}{tg:Expr}(it:Addr)(lo:Int)(n:Nat):Turn P w K tg (zC lo n) [it] it (fun i h=>IsRangeIter h it (lo+(i:Nat)*1) ((n:Int)-(i:Nat)) 1) where
 mem:=by simp
 obj:=fun i h st b hb=>by
  have e:b=it:=by simpa using hb
  subst e
  exact⟨_,st,fun v z=>by
   have z':Data.fields _=Data.cell v:=z;cases z'⟩
 keep:=fun i h h' st k=>k it (by simp) _ st
 item:=by
  intro X hP hw hK hc i pins s σ H E I hf st hg;subst hP hw hK;obtain⟨f0,f1,f2,f3,f4,f5⟩:=hf it (by simp);have W:=Walks.range (prog:=X.prog) (w:=X.w) (I.ok.hd hc) it lo 1 n;refine W.item i s _ _ hg st fun v h' tk hv st' kk=>?_;obtain⟨t,rfl⟩:=hv;have I1:Inv X pins σ H {s with heap:=h',toks:=tk}:=I.turned (fun b o hb e=>kk b o (by simpa using hb) e) f0 f1 f3 f4 f5;refine⟨_,rfl,AN (s:={s with heap:=h',toks:=tk}) (n:="range_iterator") st' rfl rfl (by decide) ⟨.int (lo+i),H,I1,⟨t,?_⟩,⟨rfl,rfl⟩,st',fun b hb=>(hf b hb).1⟩⟩;rw[Int.mul_one]
 done:=by
  intro X hP hw hK hc i pins s σ H E I hf st hg;subst hP hw hK;obtain⟨f0,f1,f2,f3,f4,f5⟩:=hf it (by simp);exact wpAny_pyNext_range_end (I.ok.hd hc) st (by have:n<=i:=hg;omega) fun h' eb=>⟨rfl,I.turned (t':=s.toks) (fun b o hb e=>eb b o hb e) f0 f1 f3 f4 f5⟩
 self:=fun _ _ _ _ _ st h=>wpAny_pyIter_rangeiter st h
section
variable {X:Cx}{tg:Expr}
theorem BC{pins:List (Addr×Obj)}{σ:St}{H:Hp}{s:Shared}{R:It->Hp->Prop}{E:Value->Shared->Prop}{lo hi:Int}{t u v:Tok}{tk:Nat}(I:Inv X pins σ H s)(h1: -(2^62)<=lo)(h2:lo<2^62)(h3: -(2^62)<=hi)(h4:hi<2^62)
 (q:R (zC lo (hi-lo).toNat) H):wpAny (model X.prog X.w) X.A (pyIter (.ref s.heap.objs.size)) (J6 X pins σ tg R) E {s with heap:=s.heap.push {cls:= .type "range",data:= .fields #[.int lo t,.int hi u,.int 1 v]},toks:=tk}:=by
 refine wpAny_pyIter_range (IsRange.new ..) (small_one h1 h2 h3 h4) ?_;have I1:Inv X pins σ H {s with heap:=s.heap.push {cls:= .type "range",data:= .fields #[.int lo t,.int hi u,.int 1 v]},toks:=tk}:=I.kept fun b o e=>Heap.get?_push_of_some _ e
 refine⟨(s.heap.push {cls:= .type "range",data:= .fields #[.int lo t,.int hi u,.int 1 v]}).objs.size,[(s.heap.push {cls:= .type "range",data:= .fields #[.int lo t,.int hi u,.int 1 v]}).objs.size],_,_,H,rfl,
  I1.kept (t':=tk) fun b o e=>Heap.get?_push_of_some _ e,Ff _ lo (hi-lo).toNat,?_,fun b hb=>?_,q⟩
 . have e1:lo+((0:Nat):Int)*1=lo:=by simp
   have e2:(((hi-lo).toNat:Nat):Int)-((0:Nat):Int)=Builtin.Range.rangeSize lo hi 1:=by rw[rangeSize_one];split<;>omega
   show IsRangeIter _ _ (lo+((0:Nat):Int)*1) ((((hi-lo).toNat:Nat):Int)-((0:Nat):Int)) 1;rw[e1,e2];exact Heap.get?_push_size _ rfl
 . have e:b=(s.heap.push {cls:= .type "range",data:= .fields #[.int lo t,.int hi u,.int 1 v]}).objs.size:=by simpa using hb
   subst e;exact I1.wI (Nat.le_refl _) (I1.aP.fresh (Nat.le_refl _))
def EI(ta:TA):TI:=fun σ H R=>ta σ H fun vs H1=>∃j:Int,vs=[.int j]/\ -(2^62)<=j/\j<2^62/\R (zC 0 j.toNat) H1
def EF(ta:TA):TI:=fun σ H R=>ta σ H fun vs H1=>∃i j:Int,vs=[.int i,.int j]/\(-(2^62)<=i/\i<2^62/\ -(2^62)<=j/\j<2^62)/\R (zC i (j-i).toNat) H1
theorem Gs{a:Expr}{ta:TA}{p pos:Pos}(hg:Gl X "range")(hm:X.mg "range"=none)(ha:PA X [a] ta)(hs:starEach [a] X.env=[(false,eval a X.env)]:=by rfl):PI X tg (.Call (.Name "range" p) [a] [] pos) (EI ta):=by
 intro pins s σ H R I h;refine Call_ (md I hg hm boot_range (PyProof.Rows.callWith_type1 (cp (ha pos pins s σ H _ I h) fun us s1 ⟨vs,H1,I1,r1,q1⟩=>?_) hs rfl));obtain⟨j,e,q1,q2,q⟩:=q1;subst e;cases r1 with
 |cons r rr=>
  cases rr;obtain⟨t,rfl⟩:=r;exact call_range_1 (BC I1 (by omega) (by omega) q1 q2 (by simpa using q))
theorem Gm{a b:Expr}{ta:TA}{p pos:Pos}(hg:Gl X "range")(hm:X.mg "range"=none)(ha:PA X [a,b] ta)(hs:starEach [a,b] X.env=[(false,eval a X.env),(false,eval b X.env)]:=by rfl)(hs2:starEach [b] X.env=[(false,eval b X.env)]:=by rfl):
 PI X tg (.Call (.Name "range" p) [a,b] [] pos) (EF ta):=by
 intro pins s σ H R I h;refine Call_ (md I hg hm boot_range (PyProof.Rows.callWith_type1 (cp (ha pos pins s σ H _ I h) fun us s1 ⟨vs,H1,I1,r1,q1⟩=>?_) (by rw[hs,hs2]) (by rw[hs2];rfl)));obtain⟨i,j,e,⟨q1,q2,q3,q4⟩,q⟩:=q1;subst e;cases r1 with
 |cons r rr=>
  cases rr with
  |cons r' rr=>
   cases rr;obtain⟨t,rfl⟩:=r;obtain⟨t',rfl⟩:=r';exact call_range_2 (BC I1 q1 q2 q3 q4 q)
def M8(wi:TI)(g:TG)(tb:TS):TS:=fun D σ H=>wi σ H fun J H1=>∃W:Nat->Nat->St->Hp->Prop,(∃m,W 0 m σ H1)/\∀i m σ H,W i m σ H->
 (J.stop i H/\D.nx σ H)\/(J.go i H/\∃N:St->Hp->Prop,(∀σ' H',N σ' H'->∃m',m'<m/\W (i+1) m' σ' H')/\∀x H',J.qx i H x H'->g x σ H' fun σ2 H2=>tb {D with nx:=N,ct:=N,bk:=D.nx} σ2 H2)
def u0(fp:List Addr)(h:Heap):List (Addr×Obj):=fp.filterMap fun b=>(h.get? b).map fun o=>(b,o)
theorem oN{fp:List Addr}{h:Heap}{b:Addr}{o:Obj}(hb:b∈fp)(e:h.get? b=some o):(b,o)∈u0 fp h:=List.mem_filterMap.mpr ⟨b,hb,by rw[e];rfl⟩
theorem G9{fp:List Addr}{h:Heap}{p:Addr×Obj}(hp:p∈u0 fp h):p.1∈fp/\h.get? p.1=some p.2:=by
 obtain⟨b,hb,e⟩:=List.mem_filterMap.mp hp;cases q:h.get? b with
 |none=>rw[q]at e;cases e
 |some o=>
  rw[q]at e;have e':(b,o)=p:=Option.some.inj e;subst e';exact⟨hb,q⟩
theorem Inv.pinned{pins:List (Addr×Obj)}{σ:St}{H:Hp}{s:Shared}{fp:List Addr}(I:Inv X pins σ H s)(hf:∀b∈fp,m4 X pins H b)(ho:∀b∈fp,∃o,s.heap.get? b=some o/\∀v,o.data≠ .cell v):Inv X (pins++u0 fp s.heap) σ H s:=
 I.vt fun p hp=>(List.mem_append.mp hp).elim (fun z=>I.pin p (List.mem_append_right _ z)) fun z=>by
  obtain⟨hb,e⟩:=G9 z;obtain⟨f0,f1,f2,_⟩:=hf p.1 hb;obtain⟨o,e',d⟩:=ho p.1 hb;rw[e]at e';cases e';exact⟨e,f0,f1,f2,d⟩
theorem Inv.iI{pins pl:List (Addr×Obj)}{σ:St}{H:Hp}{s:Shared}(I:Inv X (pins++pl) σ H s):Inv X pins σ H s:=I.vt fun p hp=>I.pin p (List.mem_append_right _ (List.mem_append_left _ hp))
theorem Oh{iter:Expr}{body:List Stmt}{wi:TI}{g:TG}{tb:TS}{pos:Pos}(hp:PassesOwn (model X.prog X.w) X.A X.env X.xe)(hc:X.calm=true)(hi:PI X tg iter wi)(hg:PG X tg g)(hb:iA X body tb)
 (hs:∀x,foldedSetIterable iter X.env x=pure x:=by intro _;rfl):PS X (.For tg iter body [] pos) (M8 wi g tb):=by
 intro pins s σ H D I h;refine wpAny_For (cp (hi pins s σ H _ I h) fun v s1 h1=>cp h1 fun itv s2 h2=>?_) hs;obtain⟨it,fp,tn,J,H2,e,I2,T,st2,f2,W,⟨m0,w0⟩,turn⟩:=h2;subst e;have stat:∀ {H':Hp},(∀b∈fp,H' b=none)->∀b∈fp,m4 X pins H' b:=fun hn b hb=>⟨hn b hb,(f2 b hb).2⟩
 refine codeAny_forLoop_any (fun n s'=>∃i σ' H',Inv X pins σ' H' s'/\tn i s'.heap/\(∀b∈fp,H' b=none)/\W i n σ' H') ?_ m0 ⟨0,σ,H2,I2,st2,fun b hb=>(f2 b hb).1,w0⟩;rintro n s3 ⟨i,σ3,H3,I3,st3,fr3,w3⟩;rcases turn i n σ3 H3 w3 with⟨stop,qn⟩|⟨go,N,hN,step⟩
 . refine wpAny_passesOwn hp (cp (T.done X rfl rfl rfl hc i pins s3 σ3 H3 X.xe I3 (stat fr3) st3 stop) fun r s4 ⟨hr,I4⟩=>?_);subst hr;exact wpAny_execs_nil ⟨σ3,H3,I4,qn⟩
 . refine wpAny_passesOwn hp (cp (T.item X rfl rfl rfl hc i pins s3 σ3 H3 X.xe I3 (stat fr3) st3 go) fun r s4 ⟨u,hr,h4⟩=>?_);subst hr;refine wpAny_passesOwn hp (cp h4 fun _ s5 ⟨x,H5,I5,r5,y5,st5,fr5⟩=>?_);have I5':=I5.pinned (stat fr5) (T.obj _ _ st5);refine wpAny_passesOwn hp (cp (hg _ s5 σ3 H5 x u _ I5' r5 (step x H5 y5)) fun _ s6 ⟨σ6,H6,I6,q6⟩=>?_);refine wpAny_passesOwn hp (cp (hb _ s6 σ6 H6 _ I6 q6) fun f s7 q7=>?_)
   have again:∀ {σ7:St} {H7:Hp},Inv X (pins++u0 fp s5.heap) σ7 H7 s7->N σ7 H7->∃m,m<n/\∃i σ' H',Inv X pins σ' H' s7/\tn i s7.heap/\(∀b∈fp,H' b=none)/\W i m σ' H':=fun{σ7 H7} I7 n7=>by
    obtain⟨m',hm,w7⟩:=hN σ7 H7 n7;refine⟨m',hm,i+1,σ7,H7,I7.iI,T.keep _ _ _ st5 fun b hb o e=>(I7.pin (b,o) (List.mem_append_right _ (List.mem_append_right _ (oN hb e)))).1,fun b hb=>?_,w7⟩;obtain⟨o,e,d⟩:=T.obj _ _ st5 b hb;exact(I7.pin (b,o) (List.mem_append_right _ (List.mem_append_right _ (oN hb e)))).2.1
   cases f with
   |next=>obtain⟨σ7,H7,I7,n7⟩:=q7;exact again I7 n7
   |cont=>obtain⟨σ7,H7,I7,n7⟩:=q7;exact again I7 n7
   |brk=>obtain⟨σ7,H7,I7,q7⟩:=q7;exact⟨σ7,H7,I7.iI,q7⟩
   |ret v=>obtain⟨x7,σ7,H7,I7,r7,q7⟩:=q7;exact⟨x7,σ7,H7,I7.iI,r7,q7⟩
end
theorem nI{lo:Int}{n:Nat}{g:TG}{tb:TS}{D:Ends}{σ:St}{H:Hp}(Pv:Nat->St->Hp->Prop)(h0:Pv 0 σ H)
 (hs:∀i σ H,i<n->Pv i σ H->g (.int (lo+i)) σ H fun σ2 H2=>tb {D with nx:=Pv (i+1),ct:=Pv (i+1),bk:=D.nx} σ2 H2) (hd:∀σ H,Pv n σ H->D.nx σ H):
 ∃W:Nat->Nat->St->Hp->Prop,(∃m,W 0 m σ H)/\∀i m σ H,W i m σ H->
  ((zC lo n).stop i H/\D.nx σ H)\/((zC lo n).go i H/\∃N:St->Hp->Prop,(∀σ' H',N σ' H'->∃m',m'<m/\W (i+1) m' σ' H')/\∀x H',(zC lo n).qx i H x H'->g x σ H' fun σ2 H2=>tb {D with nx:=N,ct:=N,bk:=D.nx} σ2 H2):=by
 refine⟨fun i m σ H=>m=n-i/\i<=n/\Pv i σ H,⟨n,by simp,Nat.zero_le _,h0⟩,?_⟩;rintro i m σ H ⟨rfl,hi,p⟩;by_cases hlt:i<n
 . refine .inr ⟨hlt,Pv (i+1),fun σ' H' p'=>⟨n-(i+1),by omega,rfl,hlt,p'⟩,fun x H' y=>?_⟩;obtain⟨e,y⟩:=y;subst e y;exact hs i σ _ hlt p
 . have e:i=n:=by omega
   subst e;exact .inl ⟨Nat.le_refl _,hd σ H p⟩
abbrev R2:=V->V->Hp->VK->Prop
def cn(X:Cx)(f:Value->Value->Sem Value)(r:R2):Prop:=
 ∀(pins:List (Addr×Obj)) (s:Shared) (σ:St) (H:Hp) (x y:V) (v u:Value) (Q:VK),Inv X pins σ H s->RelV x v->RelV y u->r x y H Q->
  wpAny (model X.prog X.w) X.A (f v u) (EP X pins σ Q) X.xe s
def Dl(X:Cx)(f:Value->Sem Value)(r:V->Hp->VK->Prop):Prop:=
 ∀(pins:List (Addr×Obj)) (s:Shared) (σ:St) (H:Hp) (x:V) (v:Value) (Q:VK),Inv X pins σ H s->RelV x v->r x H Q->
  wpAny (model X.prog X.w) X.A (f v) (EP X pins σ Q) X.xe s
def de(X:Cx)(f:Value)(r:List V->Hp->VK->Prop):Prop:=
 ∀(pins:List (Addr×Obj)) (s:Shared) (σ:St) (H:Hp) (xs:List V) (us:List Value) (Q:VK),Inv X pins σ H s->Vals xs us->r xs H Q->
  wpAny (model X.prog X.w) X.A (call f us) (EP X pins σ Q) X.xe s
def F7(r:R2)(ta tb:TE):TE:=fun σ H Q=>ta σ H fun x H1=>tb σ H1 fun y H2=>r x y H2 Q
def QM(r:V->Hp->VK->Prop)(ta:TE):TE:=fun σ H Q=>ta σ H fun x H1=>r x H1 Q
def rI(C:Int->Int->Prop)(g:Int->Int->V):R2:=fun x y H Q=>∃i j,x= .int i/\y= .int j/\C i j/\Q (g i j) H
def Aa(g:Int->Int->V):R2:=fun x y H Q=>∃i j,x= .int i/\y= .int j/\Q (g i j) H
def rU(g:Int->V):V->Hp->VK->Prop:=fun x H Q=>∃i,x= .int i/\Q (g i) H
section
variable {X:Cx}{a b c:Expr}{ta tb tc:TE}{pos:Pos}
theorem HN(ha:PE X a ta)(hb:PE X b tb){pins:List (Addr×Obj)}{s:Shared}{σ:St}{H:Hp}{R:V->V->Hp->Prop}(I:Inv X pins σ H s)
 (h:ta σ H fun x H1=>tb σ H1 fun y H2=>R x y H2) {Q:Value->Shared->Prop} {f:Value->Value->Sem Value}
 (hf:∀v u s2 x y H2,Inv X pins σ H2 s2->RelV x v->RelV y u->R x y H2->wpAny (model X.prog X.w) X.A (f v u) Q X.xe s2):
 wpAny (model X.prog X.w) X.A (eval a X.env) (fun v s₁=>wpAny (model X.prog X.w) X.A (eval b X.env) (fun u s₂=>wpAny (model X.prog X.w) X.A (f v u) Q X.xe s₂) X.xe s₁) X.xe s:=by
 refine cp (ha pins s σ H _ I h) fun v s1 ⟨x,H1,I1,r1,q1⟩=>?_;refine cp (hb pins s1 σ H1 _ I1 q1) fun u s2 ⟨y,H2,I2,r2,q2⟩=>?_;exact hf v u s2 x y H2 I2 r1 r2 q2
theorem Pu{op:Operator}{r:R2}(ho:cn X (binaryOp op) r)(ha:PE X a ta)(hb:PE X b tb):PE X (.BinOp a op b pos) (F7 r ta tb):=by
 intro pins s σ H Q I h;exact wpAny_BinOp (HN ha hb I h fun v u s2 x y H2 I2 rx ry q=>ho pins s2 σ H2 x y v u Q I2 rx ry q)
theorem PF{op:UnaryOp}{r:V->Hp->VK->Prop}(ho:Dl X (unaryOp op) r)(ha:PE X a ta):PE X (.UnaryOp op a pos) (QM r ta):=by
 intro pins s σ H Q I h;exact UnaryOp_ (cp (ha pins s σ H _ I h) fun v s1 ⟨x,H1,I1,r1,q1⟩=>ho pins s1 σ H1 x v Q I1 r1 q1)
theorem JY{f:Value->Value->Sem Value}{C:Int->Int->Prop}{g:Int->Int->Int}
 (rule:∀(i j:Int) (t u:Tok) (s:Shared) (Q:Value->Shared->Prop) (E:Value->Shared->Prop),C i j->Q (.int (g i j) s.toks) {s with toks:=s.toks+1}->wpAny (model X.prog X.w) X.A (f (.int i t) (.int j u)) Q E s):
 cn X f (rI C fun i j=> .int (g i j)):=by
 intro pins s σ H x y v u Q I rx ry h;obtain⟨i,j,rfl,rfl,hc,q⟩:=h;obtain⟨t,rfl⟩:=rx;obtain⟨t',rfl⟩:=ry;exact rule i j t t' s _ _ hc ⟨.int (g i j),H,I.tok _,⟨_,rfl⟩,q⟩
theorem Nz{f:Value->Value->Sem Value}{g:Int->Int->Int}
 (rule:∀(i j:Int) (t u:Tok) (s:Shared) (Q:Value->Shared->Prop) (E:Value->Shared->Prop),Q (.int (g i j) s.toks) {s with toks:=s.toks+1}->wpAny (model X.prog X.w) X.A (f (.int i t) (.int j u)) Q E s):
 cn X f (Aa fun i j=> .int (g i j)):=by
 intro pins s σ H x y v u Q I rx ry h;obtain⟨i,j,rfl,rfl,q⟩:=h;obtain⟨t,rfl⟩:=rx;obtain⟨t',rfl⟩:=ry;exact rule i j t t' s _ _ ⟨.int (g i j),H,I.tok _,⟨_,rfl⟩,q⟩
theorem Iu{f:Value->Value->Sem Value}{g:Int->Int->Bool}
 (rule:∀(i j:Int) (t u:Tok) (s:Shared) (Q:Value->Shared->Prop) (E:Value->Shared->Prop),Q (.bool (g i j)) s->wpAny (model X.prog X.w) X.A (f (.int i t) (.int j u)) Q E s):
 cn X f (Aa fun i j=> .bl (g i j)):=by
 intro pins s σ H x y v u Q I rx ry h;obtain⟨i,j,rfl,rfl,q⟩:=h;obtain⟨t,rfl⟩:=rx;obtain⟨t',rfl⟩:=ry;exact rule i j t t' s _ _ ⟨.bl (g i j),H,I,rfl,q⟩
def IZ(i j:Int):Prop:=0<=j/\j<=1000000/\i.natAbs<2^64
theorem Ou:cn X (binaryOp .Add) (Aa fun i j=> .int (i+j)):=Nz fun _ _ _ _ _ _ _ q=>add_int q
theorem OX:cn X (binaryOp .Sub) (Aa fun i j=> .int (i-j)):=Nz fun _ _ _ _ _ _ _ q=>sub_int q
theorem LY:cn X (binaryOp .Mod) (rI (fun _ j=>j≠0) fun i j=> .int (i.fmod j)):=JY fun _ _ _ _ _ _ _ hc q=>mod_int' hc q
theorem Nu:cn X (binaryOp .Pow) (rI IZ fun i j=> .int (i^j.toNat)):=JY fun _ _ _ _ _ _ _ hc q=>pow_int_small hc.1 hc.2.1 hc.2.2 q
theorem Sj{f:Value->Sem Value}{g:Int->Int}
 (rule:∀(i:Int) (t:Tok) (s:Shared) (Q:Value->Shared->Prop) (E:Value->Shared->Prop),Q (.int (g i) s.toks) {s with toks:=s.toks+1}->wpAny (model X.prog X.w) X.A (f (.int i t)) Q E s):
 Dl X f (rU fun i=> .int (g i)):=by
 intro pins s σ H x v Q I rx h;obtain⟨i,rfl,q⟩:=h;obtain⟨t,rfl⟩:=rx;exact rule i t s _ _ ⟨.int (g i),H,I.tok _,⟨_,rfl⟩,q⟩
theorem OG:Dl X (unaryOp .USub) (rU fun i=> .int (-i)):=Sj fun _ _ _ _ _ q=>neg_int q
end
def RN:V->V->Bool
 | .aE,.aE=>true| .aE,.int _=>true| .int _,.aE=>true| .aE,.bl _=>true| .bl _,.aE=>true| .aE,.str _=>true| .str _,.aE=>true
 | .int _,.int _=>true| .bl _,.bl _=>true| .str _,.str _=>true| .vU _,.vU _=>true
 | .int _,.str _=>true| .str _,.int _=>true| .bl _,.str _=>true| .str _,.bl _=>true
 |_,_=>false
def Sq:R2:=fun x y H Q=>RN x y=true/\Q (.bl (!decide (x=y))) H
theorem LN{i j:Int}:decide (V.int i=V.int j)=(i==j):=by
 rw[Bool.eq_iff_iff];simp
theorem OQ{i j:Bool}:decide (V.bl i=V.bl j)=(i==j):=by
 rw[Bool.eq_iff_iff];simp
theorem L_{i j:Str}:decide (V.str i=V.str j)=(i==j):=by
 rw[Bool.eq_iff_iff];simp
theorem K2{i j:Array UInt8}:decide (V.vU i=V.vU j)=(i.toList==j.toList):=by
 rw[Bool.eq_iff_iff];cases i;cases j;simp
section
variable {X:Cx}{a b c:Expr}{ta tb tc:TE}{pos:Pos}
theorem fy{pins:List (Addr×Obj)}{σ:St}{H:Hp}{s:Shared}{Q:VK}{k k':Bool}(I:Inv X pins σ H s)(q:Q (.bl k) H)(e:k=k'):EP X pins σ Q (.bool k') s:=by
 subst e;exact⟨.bl k,H,I,rfl,q⟩
theorem P0:cn X (compareOp .NotEq) Sq:=by
 intro pins s σ H x y v u Q I rx ry h;obtain⟨hs,q⟩:=h;cases x with
 |aE=>
  cases rx;cases y with
  |aE=>cases ry;exact PySem.EqNone.ne_none_none (fy I q (by simp))
  |bl j=>cases ry;exact PySem.EqNone.ne_none_bool (fy I q (by simp))
  |int j=>obtain⟨t',rfl⟩:=ry;exact PySem.EqNone.ne_none_int (fy I q (by simp))
  |str j=>obtain⟨t',rfl⟩:=ry;exact PySem.EqNone.ne_none_str (fy I q (by simp))
  |_=>exact absurd (show false=true from hs) Bool.false_ne_true
 |bl i=>
  cases rx;cases y with
  |aE=>cases ry;exact PySem.EqNone.ne_bool_none (fy I q (by simp))
  |bl j=>cases ry;exact ne_bool (fy I q (congrArg not OQ))
  |str j=>obtain⟨t',rfl⟩:=ry;exact PySem.EqMixed.ne_bool_str (fy I q (by simp))
  |_=>exact absurd (show false=true from hs) Bool.false_ne_true
 |int i=>
  obtain⟨t,rfl⟩:=rx;cases y with
  |aE=>cases ry;exact PySem.EqNone.ne_int_none (fy I q (by simp))
  |int j=>obtain⟨t',rfl⟩:=ry;exact ne_int (fy I q (congrArg not LN))
  |str j=>obtain⟨t',rfl⟩:=ry;exact PySem.EqMixed.ne_int_str (fy I q (by simp))
  |_=>exact absurd (show false=true from hs) Bool.false_ne_true
 |str i=>
  obtain⟨t,rfl⟩:=rx;cases y with
  |aE=>cases ry;exact PySem.EqNone.ne_str_none (fy I q (by simp))
  |bl j=>cases ry;exact PySem.EqMixed.ne_str_bool (fy I q (by simp))
  |int j=>obtain⟨t',rfl⟩:=ry;exact PySem.EqMixed.ne_str_int (fy I q (by simp))
  |str j=>obtain⟨t',rfl⟩:=ry;exact ne_str (fy I q (congrArg not L_))
  |_=>exact absurd (show false=true from hs) Bool.false_ne_true
 |vU i=>
  obtain⟨t,rfl⟩:=rx;cases y with
  |vU j=>obtain⟨t',rfl⟩:=ry;exact PySem.W.ne_bytes (fy I q (congrArg not K2))
  |_=>exact absurd (show false=true from hs) Bool.false_ne_true
 |_=>cases y<;>exact absurd (show false=true from hs) Bool.false_ne_true
theorem PY:cn X (compareOp .Lt) (Aa fun i j=> .bl (decide (i<j))):=Iu fun _ _ _ _ _ _ _ q=>lt_int q
theorem Pk:cn X (compareOp .LtE) (Aa fun i j=> .bl (decide (i<=j))):=Iu fun _ _ _ _ _ _ _ q=>le_int q
theorem Po:cn X (compareOp .Gt) (Aa fun i j=> .bl (decide (j<i))):=Iu fun _ _ _ _ _ _ _ q=>gt_int q
theorem N2:cn X (compareOp .Is) (fun x y H Q=>y= .aE/\Q (.bl (decide (x= .aE))) H):=by
 intro pins s σ H x y v u Q I rx ry h;obtain⟨rfl,q⟩:=h;cases ry;refine is_none_gen (fy I q ?_)
 cases x<;>first
  |(cases rx;rfl)
  |(obtain⟨t,rfl⟩:=rx;rfl)
theorem Lk:cn X (compareOp .IsNot) (fun x y H Q=>y= .aE/\Q (.bl (!decide (x= .aE))) H):=by
 intro pins s σ H x y v u Q I rx ry h;obtain⟨rfl,q⟩:=h;cases ry;refine isnot_none_gen (fy I q ?_)
 cases x<;>first
  |(cases rx;rfl)
  |(obtain⟨t,rfl⟩:=rx;rfl)
theorem aZ(b:Expr){op:CmpOp}(h:op≠ .In:=by decide)(h2:op≠ .NotIn:=by decide):behindInMarks op b=false:=by
 have e1:(op==CmpOp.In)=false:=by cases op<;>first|rfl|exact absurd rfl h
 have e2:(op==CmpOp.NotIn)=false:=by cases op<;>first|rfl|exact absurd rfl h2
 cases b<;>simp[behindInMarks,e1,e2]
theorem Lc{op:CmpOp}{r:R2}(ho:cn X (compareOp op) r)(ha:PE X a ta)(hb:PE X b tb)(hm:behindInMarks op b=false):PE X (.Compare a [op] [b] pos) (F7 r ta tb):=by
 intro pins s σ H Q I h;exact wpAny_Compare1 (HN ha hb I h fun v u s2 x y H2 I2 rx ry q=>ho pins s2 σ H2 x y v u Q I2 rx ry q) hm
def Qd(t:TE):TT:=fun σ H Q=>t σ H fun x H'=>∃k,x= .bl k/\Q k H'
theorem Kv{op:CmpOp}{r:R2}(ho:cn X (compareOp op) r)(ha:PE X a ta)(hb:PE X b tb)(hm:behindInMarks op b=false):PT X (.Compare a [op] [b] pos) (Qd (F7 r ta tb)):=by
 intro pins s σ H Q I h
 refine wpAny_isTrue_Compare1 (cp (ha pins s σ H _ I h) fun v s1 ⟨x,H1,I1,r1,q1⟩=>cp (hb pins s1 σ H1 _ I1 q1) fun u s2 ⟨y,H2,I2,r2,q2⟩=>
  cp (ho pins s2 σ H2 x y v u _ I2 r1 r2 q2) fun c s3 ⟨z,H3,I3,r3,k,e,q3⟩=>?_) hm
 subst e;cases r3;exact wpAny_truthy_bool ⟨H3,I3,q3⟩
def Hb(r r':R2)(ta tb tc:TE):TE:=fun σ H Q=>ta σ H fun x H1=>tb σ H1 fun y H2=>r x y H2 fun z H3=>∃k,z= .bl k/\
 (if k=true then tc σ H3 fun w' H4=>r' y w' H4 Q else Q (.bl false) H3)
theorem HD{op op':CmpOp}{r r':R2}(ho:cn X (compareOp op) r)(ho':cn X (compareOp op') r')(ha:PE X a ta)(hb:PE X b tb)(hc:PE X c tc)
 (hm:lastMarks [op,op'] [b,c]=false:=by with_unfolding_all rfl):PE X (.Compare a [op,op'] [b,c] pos) (Hb r r' ta tb tc):=by
 intro pins s σ H Q I h
 refine Compare_chain (cp (ha pins s σ H _ I h) fun v s1 ⟨x,H1,I1,r1,q1⟩=>chain_link (cp (hb pins s1 σ H1 _ I1 q1) fun u s2 ⟨y,H2,I2,r2,q2⟩=>
  cp (ho pins s2 σ H2 x y v u _ I2 r1 r2 q2) fun d s3 ⟨z,H3,I3,r3,k,e,q3⟩=>?_)) hm
 subst e;cases r3;refine wpAny_truthy_bool ?_;cases k with
 |false=>exact ite_ff ⟨.bl false,H3,I3,rfl,q3⟩
 |true=>exact ite_tt (chain_last (cp (hc pins s3 σ H3 _ I3 q3) fun w' s4 ⟨z',H4,I4,r4,q4⟩=>ho' pins s4 σ H4 y z' u w' Q I4 r2 r4 q4))
theorem uj:(sizeLine:Nat)<2^63:=by rw[sizeLine_eq];decide
theorem Ei:cn X (binaryOp .Add) (fun x y H Q=>∃i j,x= .str i/\y= .str j/\i.length+j.length<=sizeLine/\Q (.str (i++j)) H):=by
 intro pins s σ H x y v u Q I rx ry h;obtain⟨i,j,rfl,rfl,hz,q⟩:=h;obtain⟨t,rfl⟩:=rx;obtain⟨t',rfl⟩:=ry;exact add_str (fun t' tk=>⟨.str (i++j),H,I.tok _,⟨_,rfl⟩,q⟩) hz
theorem vals1{x:V}{us:List Value}(r:Vals [x] us):∃u,us=[u]/\RelV x u:=by
 cases r with
 |cons r1 r2=>cases r2;exact⟨_,rfl,r1⟩
theorem vals2{x y:V}{us:List Value}(r:Vals [x,y] us):∃u w',us=[u,w']/\RelV x u/\RelV y w':=by
 cases r with
 |cons r1 r2=>
  cases r2 with
  |cons r3 r4=>cases r4;exact⟨_,_,rfl,r1,r3⟩
theorem Jn:de X (.builtin "abs") (fun xs H Q=>∃i,xs=[.int i]/\Q (.int (if i<0 then-i else i)) H):=by
 intro pins s σ H xs us Q I r h;obtain⟨i,rfl,q⟩:=h;obtain⟨u,rfl,t,rfl⟩:=vals1 r;exact call_abs_int fun u tk=>⟨.int (if i<0 then-i else i),H,I.tok _,⟨_,rfl⟩,q⟩
end
structure wy(h:Heap)(x dx C:Addr)(mA:Str->Option Value):Prop where
 obj:h.get? x=some (PySem.W.instObj C dx)
 ns:h.Ns1 dx mA
 ne:dx≠x
theorem GY{h:Heap}{dx:Addr}{mA:Str->Option Value}(n:h.Ns1 dx mA):∃od,h.get? dx=some od/\∀name,PySem.W.lookIn name od=some (mA name):=by
 obtain⟨o,es,ep,ho,hd,hk,_,hm⟩:=n;refine⟨o,ho,fun name=>?_⟩;have e:=hm name;unfold nsFind findBy at e;rw[<-Array.find?_toList]at e;unfold PySem.W.lookIn;rw[hd];dsimp only;split
 . rename_i y q;rw[q]at e;exact congrArg some e
 . rename_i q;rw[q]at e
   have a:es.toList.any (·.refKey)=false:=by
    rw[List.any_eq_false];intro y hy;obtain⟨z,t,hkey⟩:=hk y (Array.mem_toList_iff.mp hy);simp[DictEntry.refKey,hkey]
   have a':¬es.toList.any (·.refKey)=true:=by rw[a];exact Bool.false_ne_true
   rw[if_neg a'];exact congrArg some e
theorem wy.look{h:Heap}{x dx C:Addr}{mA:Str->Option Value}(I:wy h x dx C mA):∃od,PySem.W.InstAt h x (PySem.W.instObj C dx) C (some od)/\∀name,PySem.W.lookIn name od=some (mA name):=
 let⟨od,ho,hl⟩:=GY I.ns
 ⟨od,⟨I.obj,rfl,rfl,ho⟩,hl⟩
section
variable {prog:Program}{w:World}{A:Around}{E:Value->Shared->Prop}{s:Shared}{K:PySem.W.Frag}{x dx C f:Addr}{mA:Str->Option Value}{name:Str}{v:Value}
theorem get_map{expr:Bool}{Q:Value->Shared->Prop}(X:K.In s.heap)(I:wy s.heap x dx C mA)(hg:PySem.W.plainGet K C name=true)(hh:PySem.W.hasDictIn K C=true)
 (ha:PySem.W.findIn K (.ref C) name=some none) (hv:mA name=some v) (hv':PySem.W.handedIn v=true) (h:Q v {s with toks:=s.toks+1}):
 wpAny (model prog w) A (getAttr (.ref x) name expr) Q E s:=by
 obtain⟨od,J,hl⟩:=I.look;exact PySem.W.get_value X J (PySem.W.plainGet_of hg).1 (PySem.W.findObj_own hh ha rfl (by rw[hl,hv])) hv' h
theorem Ib{pl:Sem Bool}{Q:Value×List Value->Shared->Prop}(X:K.In s.heap)(I:wy s.heap x dx C mA)(hg:PySem.W.plainGet K C name=true)
 (hf:PySem.W.findIn K (.ref C) name=some (some (.ref f))) (ht:PySem.W.isFn K (.ref f)=true) (hv:mA name=none) (h:Q (.ref f,[.ref x]) s):
 wpAny (model prog w) A (getMethod (.ref x) name pl) Q E s:=by
 obtain⟨od,J,hl⟩:=I.look;exact PySem.W.method_fn X J (PySem.W.plainGet_of hg).1 (PySem.W.plainGet_of hg).2 hf (beq_iff_eq.mp ht) (by show(PySem.W.lookIn name od).map (·.isSome)=some false;rw[hl,hv];rfl) h
theorem jc{ns:List Str}{Q:Unit->Shared->Prop}(X:K.In s.heap)(I:wy s.heap x dx C mA)
 (hs:PySem.W.findIn K (.ref C) "__setattr__"=some (some (.builtin "object.__setattr__"))) (hp:PySem.W.plainOver K C=true) (ht:PySem.W.takerIn K C name=some none) (hh:PySem.W.hasDictIn K C=true)
 (hw:PySem.Within mA ns) (hsz:ns.length<=sizeLine)
 (h:∀h',wy h' x dx C (fun y=>if y=name then some v else mA y)->Heap.SameBut dx s.heap h'->Q () {s with heap:=h',toks:=s.toks+2}):
 wpAny (model prog w) A (setAttr (.ref x) name v) Q E s:=by
 obtain⟨od,J,hl⟩:=I.look;refine PySem.W.set_plain X J hs (PySem.W.osa_open (s:={s with toks:=s.toks+1}) (r:=none) X J hp ht fun b=>?_);obtain⟨cd,hc,hd'⟩:=PySem.W.any_some hh;have hx:s.heap.get? x=some ⟨.ref C,some dx,.plain,#[]⟩:=I.obj;refine wpAny_bind (wpAny_pure (wpAny_bind (wpAny_bind (wpAny_loadPart hx (wpAny_bind (PySem.W.Looks.here (s:={s with toks:=s.toks+1}) (PySem.W.looks_clsIn X hc) ?_))))));rw[hd'];refine wpAny_pure (a:=some dx) (wpAny_bind (wpAny_pure (wpAny_bind ?_)));refine wpAny_nsSet1 (s:={s with toks:=s.toks+1}) I.ns fun h' hn2 hs2=>?_;obtain⟨oD,esD,epD,hoD,hdD,hcD⟩:=hn2.count (PySem.Within.cons name v hw);refine wpAny_bind (wpAny_lookBehind hoD (by rw[hdD];exact pastItsLine_dict (Nat.le_trans hcD (by rw[List.length_cons];omega))) ?_);exact wpAny_pure (h _ ⟨(hs2.2 _ (Ne.symm I.ne)).trans I.obj,hn2,I.ne⟩ hs2)
theorem HF{R:Result->Shared->Prop}{vs:List Value}{kw:List (Str×Value)}(X:K.In s.heap)(hm:PySem.W.makesIn K C=true)
 (hi:PySem.W.findIn K (.ref C) "__init__"=some (some (.ref f))) (hf:PySem.W.typeIn K (.ref f)=some (.type "function"))
 (h:codeAny (model prog w) (A.under (.builtin "type.__call__" ⟨.ref C::vs,kw⟩)) (.call (.ref f) ⟨.ref (s.heap.objs.size+1)::vs,kw⟩) (PySem.W.InitBack (s.heap.objs.size+1) R)
   {s with heap:=(s.heap.push PySem.W.emptyDict).push (PySem.W.instObj C s.heap.objs.size)}):
 codeAny (model prog w) A (.call (.ref C) ⟨vs,kw⟩) R s:=by
 obtain⟨hh,g,d,t,os⟩:=s;exact PySem.W.make_core (PySem.W.makes_of X hm) (PySem.W.looks_findIn X hi) (fun self=>PySem.W.bind_fn X self hf) (.inl rfl) h
end
def iw(f:Str)(v:V):List (Str×V)->List (Str×V)
 | []=>[(f,v)]
 |(g,x)::r=>if g=f then(g,v)::r else(g,x)::iw f v r
theorem vV(f g:Str)(v:V):∀fs:List (Str×V),(iw f v fs).lookup g=if g=f then some v else fs.lookup g
 | []=>by
   show List.lookup g [(f,v)]=_;by_cases h:g=f
   . have hb:(g==f)=true:=beq_iff_eq.mpr h;simp only[List.lookup,hb,if_pos h]
   . have hb:(g==f)=false:=beq_eq_false_iff_ne.mpr h;simp only[List.lookup,hb,if_neg h]
 |(k,x)::r=>by
  have ih:=vV f g v r;rw[show iw f v ((k,x)::r)=(if k=f then(k,v)::r else(k,x)::iw f v r)from rfl];by_cases hk:k=f
  . rw[if_pos hk];by_cases h:g=k
    . have hb:(g==k)=true:=beq_iff_eq.mpr h;simp only[List.lookup,hb,if_pos (h.trans hk)]
    . have hb:(g==k)=false:=beq_eq_false_iff_ne.mpr h;simp only[List.lookup,hb,if_neg (fun e:g=f=>h (e.trans hk.symm))]
  . rw[if_neg hk];by_cases h:g=k
    . have hb:(g==k)=true:=beq_iff_eq.mpr h;simp only[List.lookup,hb,if_neg (fun e:g=f=>hk (h.symm.trans e))]
    . have hb:(g==k)=false:=beq_eq_false_iff_ne.mpr h;simp only[List.lookup,hb];exact ih
theorem uG(f:Str)(v:V):∀fs:List (Str×V),f∈(iw f v fs).map (·.1)/\∀g,g∈fs.map (·.1)->g∈(iw f v fs).map (·.1)
 | []=>⟨by simp[iw],fun g h=>by simp at h⟩
 |(k,x)::r=>by
  obtain⟨i1,i2⟩:=uG f v r;rw[show iw f v ((k,x)::r)=(if k=f then(k,v)::r else(k,x)::iw f v r)from rfl];by_cases hk:k=f
  . rw[if_pos hk];subst hk;exact⟨by simp,fun g h=>by simpa using h⟩
  . rw[if_neg hk];refine⟨?_,fun g h=>?_⟩
    . rw[List.map_cons];exact List.mem_cons_of_mem _ i1
    . rw[List.map_cons]at h⊢;rcases List.mem_cons.mp h with e|e
      . exact List.mem_cons.mpr (.inl e)
      . exact List.mem_cons_of_mem _ (i2 g e)
theorem vX(f:Str)(v:V):∀fs:List (Str×V),(iw f v fs).length<=fs.length+1
 | []=>by simp[iw]
 |(k,x)::r=>by
  have ih:=vX f v r;rw[show iw f v ((k,x)::r)=(if k=f then(k,v)::r else(k,x)::iw f v r)from rfl];by_cases hk:k=f
  . rw[if_pos hk,List.length_cons,List.length_cons];omega
  . rw[if_neg hk,List.length_cons,List.length_cons];omega
theorem q_.some_of{v:V}{o:Option Value}(r:q_ (some v) o):∃u,o=some u/\RelV v u:=by
 cases o with
 |none=>exact(show False from r).elim
 |some u=>exact⟨u,rfl,r⟩
theorem q_.none_of{o:Option Value}(r:q_ none o):o=none:=by
 cases o with
 |none=>rfl
 |some u=>exact(show False from r).elim
theorem Gx{v:V}{u:Value}(r:RelV v u):PySem.W.handedIn u=true:=by
 cases v with
 |aE=>cases (show u=Value.none from r);rfl
 |bl b=>cases (show u=Value.bool b from r);rfl
 |int i=>obtain⟨t,e⟩:=(show∃t,u=Value.int i t from r);cases e;rfl
 |str x=>obtain⟨t,e⟩:=(show∃t,u=Value.str x t from r);cases e;rfl
 |vU b=>obtain⟨t,e⟩:=(show∃t,u=Value.bytes b t from r);cases e;rfl
 |vY b=>obtain⟨t,e⟩:=(show∃t,u=Value.float b t from r);cases e;rfl
 |ref a=>cases (show u=Value.ref a from r);rfl
 |ty n=>cases (show u=Value.type n from r);rfl
section
variable {P:Program}{w:World}{H H':Hp}{h h':Heap}{a C dx:Addr}{fs fs':List (Str×V)}
theorem lK(aP:iZ P w H h)(e:H a=some (.ins C dx fs)):∃mA,wy h a dx C mA/\(∀f,q_ (fs.lookup f) (mA f))/\PySem.Within mA (fs.map (·.1))/\fs.length<=1000/\H dx=some (.own a):=by
 obtain⟨d,z,ne,ob,mA,n,r,q⟩:=(show dY P w H h a (.ins C dx fs)from aP a _ e)
 exact⟨mA,⟨ob,n,ne⟩,r,q,z,d⟩
end
structure pB(K:PySem.W.Frag)(C:Addr):Prop where
 pg:PySem.W.plainGet K C Str.empty=true
 hd:PySem.W.hasDictIn K C=true
 po:PySem.W.plainOver K C=true
 sa:PySem.W.findIn K (.ref C) "__setattr__"=some (some (.builtin "object.__setattr__"))
theorem pB.get{K:PySem.W.Frag}{C:Addr}(c:pB K C)(f:Str):PySem.W.plainGet K C f=true:=c.pg
def gJ(K:PySem.W.Frag)(C:Addr)(f:Str):Prop:=PySem.W.findIn K (.ref C) f=some none
theorem gJ.O9{K:PySem.W.Frag}{C:Addr}{f:Str}(n:gJ K C f):PySem.W.takerIn K C f=some none:=by
 unfold PySem.W.takerIn;rw[show PySem.W.findIn K (.ref C) f=some none from n];rfl
structure Meth(K:PySem.W.Frag)(C:Addr)(m:Str)(f:Addr):Prop where
 at_:PySem.W.findIn K (.ref C) m=some (some (.ref f))
 fn:PySem.W.isFn K (.ref f)=true
 kp:PySem.W.keepIn K (.ref f)=true
section
variable {X:Cx}{pins:List (Addr×Obj)}{σ:St}{H:Hp}{s:Shared}{a C dx:Addr}{fs:List (Str×V)}{f:Str}{v:V}{A:Around}{E:Value->Shared->Prop}
theorem Eh{b:Bool}{Q:Value->Shared->Prop}(I:Inv X pins σ H s)(e:H a=some (.ins C dx fs))(c:pB X.K C)(n:gJ X.K C f)(l:fs.lookup f=some v)
 (h:∀u s',Inv X pins σ H s'->RelV v u->Q u s'):wpAny (model X.prog X.w) A (getAttr (.ref a) f b) Q E s:=by
 obtain⟨mA,O,r,_,_,_⟩:=lK I.aP e;obtain⟨u,hu,ru⟩:=q_.some_of (v:=v) (o:=mA f) (by rw[<-l];exact r f);exact get_map I.iy O (c.get f) c.hd n hu (Gx ru) (h u _ (I.tok _) ru)
theorem Fb{m:Str}{g:Addr}{pl:Sem Bool}{Q:Value×List Value->Shared->Prop}(I:Inv X pins σ H s)(e:H a=some (.ins C dx fs))(c:pB X.K C)(k:Meth X.K C m g)(l:fs.lookup m=none)
 (h:Q (.ref g,[.ref a]) s):wpAny (model X.prog X.w) A (getMethod (.ref a) m pl) Q E s:=by
 obtain⟨mA,O,r,_,_,_⟩:=lK I.aP e;have hn:mA m=none:=q_.none_of (by rw[<-l];exact r m);exact Ib I.iy O (c.get m) k.at_ k.fn hn h
theorem EZ{y:V}{u:Value}{Q:Unit->Shared->Prop}(I:Inv X pins σ H s)(e:H a=some (.ins C dx fs))(c:pB X.K C)(n:gJ X.K C f)(hl:fs.length<1000)(ry:RelV y u)
 (h:∀s',Inv X pins σ (upd H a (.ins C dx (iw f y fs))) s'->Q () s'):wpAny (model X.prog X.w) A (setAttr (.ref a) f u) Q E s:=by
 obtain⟨mA,O,r,wi,_,ho⟩:=lK I.aP e;have hz:(fs.map (·.1)).length<=sizeLine:=by rw[List.length_map,sizeLine_eq];omega
 refine jc I.iy O c.sa c.po n.O9 c.hd wi hz fun h' O' sb=>h _ ?_;have hd:∃o,h'.get? dx=some o:=let⟨o,_,_,e',_⟩:=O'.ns;⟨o,e'⟩
 refine I.write (x:=a) (e:=dx) (by rw[e];exact True.intro) (.inr ho) (fun b q hb z=>(sb.2 b hb).trans z) hd ?_;refine⟨by rw[aH O.ne];exact ho,?_,O.ne,O'.obj,_,O'.ns,fun g=>?_,fun g hg=>?_⟩
 . have:=vX f y fs;omega
 . show q_ ((iw f y fs).lookup g) (if g=f then some u else mA g);rw[vV];by_cases q:g=f
   . rw[if_pos q,if_pos q];exact ry
   . rw[if_neg q,if_neg q];exact r g
 . by_cases q:g=f
   . rw[q];exact(uG f y fs).1
   . refine(uG f y fs).2 g (wi g fun z=>hg ?_);show(if g=f then some u else mA g)=none;rw[if_neg q];exact z
theorem Inv.made(I:Inv X pins σ H s):Inv X pins σ (upd (upd H s.heap.objs.size (.own (s.heap.objs.size+1))) (s.heap.objs.size+1) (.ins C s.heap.objs.size []))
 {s with heap:=(s.heap.push PySem.W.emptyDict).push (PySem.W.instObj C s.heap.objs.size)}:=by
 have e1:(s.heap.push PySem.W.emptyDict).get? s.heap.objs.size=some PySem.W.emptyDict:=Heap.get?_push_size s.heap rfl
 have e2:((s.heap.push PySem.W.emptyDict).push (PySem.W.instObj C s.heap.objs.size)).get? (s.heap.objs.size+1)=some (PySem.W.instObj C s.heap.objs.size):=by
  have:=Heap.get?_push_size (s.heap.push PySem.W.emptyDict) (o:=PySem.W.instObj C s.heap.objs.size) rfl;rwa [Heap.size_push]at this
 have e3:(s.heap.push PySem.W.emptyDict).Ns s.heap.objs.size (fun _=>none):=⟨PySem.W.emptyDict,#[],_,e1,rfl,(fun e he=>absurd he (by simp)),fun _=>rfl⟩
 have I1:=I.laid (a:=s.heap.objs.size) (o:= .own (s.heap.objs.size+1)) (h':=s.heap.push PySem.W.emptyDict) (t':=s.toks) (fun b u q=>Heap.get?_push_of_some _ q) (Nat.le_refl _) ⟨_,e1⟩;refine I1.laid (a:=s.heap.objs.size+1) (o:= .ins C s.heap.objs.size []) (t':=s.toks) (fun b u q=>Heap.get?_push_of_some _ q) (Nat.le_of_eq (Heap.size_push _ _)) ?_;have ne:s.heap.objs.size≠s.heap.objs.size+1:=Nat.ne_of_lt (Nat.lt_succ_self _);refine⟨by rw[aH ne,a9],Nat.zero_le _,ne,e2,fun _=>none,(Heap.Ns1.of_empty e3).at fun o q=>Heap.get?_push_of_some _ q,fun _=>True.intro,fun y hy=>absurd rfl hy⟩
theorem Md{prog:Program}{w:World}{env:Env}{e:Expr}{f:Str}{pos:Pos}{s:Shared}{Q:Value->Shared->Prop}(hb:attributeBase e f env (eval e env)=eval e env)
 (h:wpAny (model prog w) A (eval e env) (fun o s₁=>wpAny (model prog w) A (getAttr o f true) Q E s₁) E s):wpAny (model prog w) A (eval (.Attribute e f pos) env) Q E s:=
 Attribute_any_ h (by rw[arm_eval_Attribute,hb])
end
def Rz(K:PySem.W.Frag)(ta:TE)(f:Str):TE:=fun σ H Q=>ta σ H fun x H1=>∃a C dx fs v,x= .ref a/\H1 a=some (.ins C dx fs)/\pB K C/\gJ K C f/\fs.lookup f=some v/\Q v H1
def RM(K:PySem.W.Frag)(ta tv:TE)(f:Str):TS:=fun D σ H=>tv σ H fun y H1=>ta σ H1 fun x H2=>∃a C dx fs,x= .ref a/\H2 a=some (.ins C dx fs)/\pB K C/\gJ K C f/\fs.length<1000/\
 D.nx σ (upd H2 a (.ins C dx (iw f y fs)))
section
variable {X:Cx}{o e value:Expr}{f:Str}{pos pos' tpos:Pos}{ta tv:TE}
theorem N1(he:PE X e ta)(hb:attributeBase e f X.env (eval e X.env)=eval e X.env):PE X (.Attribute e f pos) (Rz X.K ta f):=by
 intro pins s σ H Q I h;refine Md hb (cp (he pins s σ H _ I h) fun u s1 ⟨x,H1,I1,rx,a,C,dx,fs,v,ex,ea,c,n,l,q⟩=>?_);subst ex;obtain rfl:u=Value.ref a:=rx;exact Eh I1 ea c n l fun u' s2 I2 ru=>⟨v,H1,I2,ru,q⟩
theorem ME(ha:PE X o ta)(hv:PE X value tv)(hs:swapsWith value (some (.Attribute o f pos')) pos.line X.env=pure false):PS X (.Assign [.Attribute o f pos'] value pos) (RM X.K ta tv f):=by
 intro pins s σ H D I h;refine plainObj_wpAny_Assign_Attribute (cp (hv pins s σ H _ I h) fun u s1 ⟨y,H1,I1,ry,q⟩=>cp (ha pins s1 σ H1 _ I1 q) fun ov s2 ⟨x,H2,I2,rx,a,C,dx,fs,ex,ea,c,n,l,q2⟩=>?_) hs;subst ex;obtain rfl:ov=Value.ref a:=rx;exact EZ I2 ea c n l ry fun s3 I3=>⟨σ,_,I3,q2⟩
end
section
variable {X:Cx}{pins:List (Addr×Obj)}{σ:St}{H:Hp}{s:Shared}{A:Around}{E:Value->Shared->Prop}{Q:Value->Shared->Prop}{c:Value}{b:Bool}
inductive kg(K:PySem.W.Frag)(H:Hp):V->Value->Prop where
 |aE:kg K H .aE (.type "NoneType")
 |bl (x:Bool):kg K H (.bl x) (.type "bool")
 |int (i:Int):kg K H (.int i) (.type "int")
 |str (x:Str):kg K H (.str x) (.type "str")
 |vY (x:UInt64):kg K H (.vY x) (.type "float")
 |lst {a:Addr} {xs:List V} (e:H a=some (.lst xs)):kg K H (.ref a) (.type "list")
 |gW {a:Addr} {o:Obj} {xs:List V} (e:H a=some (.gW o (.lst xs))):kg K H (.ref a) (.type "list")
 |tup {a:Addr} {xs:List V} (e:H a=some (.tup xs)):kg K H (.ref a) (.type "tuple")
 |dK {a:Addr} {kvs:List (Key×V)} (e:H a=some (.dK kvs)):kg K H (.ref a) (.type "dict")
 |dT {a:Addr} {kvs:List (List Key×V)} (e:H a=some (.dT kvs)):kg K H (.ref a) (.type "dict")
 |ins {a C dx:Addr} {fs:List (Str×V)} (e:H a=some (.ins C dx fs)) (cl:pB K C) (ha:PySem.W.findIn K (.ref C) "__class__"=some (some (.builtin "object.__class__")))
   (hn:PySem.W.specialIn K (.builtin "object.__class__") "__get__"=some (some (.builtin "getset_descriptor.__get__"))) (htk:PySem.W.takesIn K (.builtin "object.__class__")=some true)
   (hm:PySem.W.mroIn K C (.type "object")=some true):kg K H (.ref a) (.ref C)
theorem Gf{x:V}{u t:Value}(I:Inv X pins σ H s)(rx:RelV x u)(ty:kg X.K H x t)(e:PySem.W.kitOne X.K t c=some b)(h:∀tk,Q (.bool b) {s with toks:=tk}):
 wpAny (model X.prog X.w) A (call (.builtin "isinstance") [u,c]) Q E s:=by
 cases ty with
 |aE=>cases (show u=Value.none from rx);exact PySem.W.kia_one PySem.W.kitx_none I.iy True.intro e (fun z=>nomatch z) h
 |bl y=>cases (show u=Value.bool y from rx);exact PySem.W.kia_one PySem.W.kitx_bool I.iy True.intro e (fun z=>nomatch z) h
 |int i=>obtain⟨t,q⟩:=(show∃t,u=Value.int i t from rx);cases q;exact PySem.W.kia_one PySem.W.kitx_int I.iy True.intro e (fun z=>nomatch z) h
 |str y=>obtain⟨t,q⟩:=(show∃t,u=Value.str y t from rx);cases q;exact PySem.W.kia_one PySem.W.kitx_str I.iy True.intro e (fun z=>nomatch z) h
 |vY y=>obtain⟨t,q⟩:=(show∃t,u=Value.float y t from rx);cases q;exact PySem.W.kia_one PySem.W.kitx_float I.iy True.intro e (fun z=>nomatch z) h
 | @lst a xs ea=>
   cases (show u=Value.ref a from rx);obtain⟨_,_,n,_,h1⟩:=(show dY X.prog X.w H s.heap a (.lst xs)from I.aP a _ ea)
   exact PySem.W.kia_one PySem.W.kitx_list I.iy ⟨_,h1,rfl⟩ e (fun z=>nomatch z) h
 | @gW a ob xs ea=>
   cases (show u=Value.ref a from rx);obtain⟨_,_,_,n,_,h1⟩:=(show dY X.prog X.w H s.heap a (.gW ob (.lst xs))from I.aP a _ ea)
   exact PySem.W.kia_one PySem.W.kitx_list I.iy ⟨_,h1,rfl⟩ e (fun z=>nomatch z) h
 | @tup a xs ea=>
   cases (show u=Value.ref a from rx);obtain⟨_,_,_,p⟩:=(show dY X.prog X.w H s.heap a (.tup xs)from I.aP a _ ea)
   obtain⟨o,h1,h2,_⟩:=p;exact PySem.W.kia_one PySem.W.kitx_tuple I.iy ⟨o,h1,h2⟩ e (fun z=>nomatch z) h
 | @dK a kvs ea=>
   cases (show u=Value.ref a from rx);obtain⟨_,_,vs,_,p⟩:=(show dY X.prog X.w H s.heap a (.dK kvs)from I.aP a _ ea)
   obtain⟨o,es,ep,h1,h2,_⟩:=p;exact PySem.W.kia_one PySem.W.kitx_dict I.iy ⟨o,h1,h2.1⟩ e (fun z=>nomatch z) h
 | @dT a kvs ea=>
   cases (show u=Value.ref a from rx);obtain⟨_,_,xs,_,o,es,ep,h1,h2,_⟩:=(show dY X.prog X.w H s.heap a (.dT kvs)from I.aP a _ ea)
   exact PySem.W.kia_one PySem.W.kitx_dict I.iy ⟨o,h1,h2.1⟩ e (fun z=>nomatch z) h
 | @ins a C dx fs ea cl ha hn htk hm=>
   cases (show u=Value.ref a from rx);obtain⟨mA,O,_⟩:=lK I.aP ea;obtain⟨od,J,_⟩:=O.look;exact PySem.W.kia_one (PySem.W.kitx_own (cl.get _) cl.hd ha hn htk hm) I.iy J e (fun z=>nomatch z) h
end
structure dn(k:Nat)(A:Around):Prop where
 hd:A.handled=none
 dp:A.depth+3*k+105<recursionLimit
 un:A.units+16*k+200<cLine
theorem dn.mono{j k:Nat}{A:Around}(r:dn k A)(h:j<=k):dn j A:=⟨r.hd,by have:=r.dp;omega,by have:=r.un;omega⟩
theorem dn.deeper{k:Nat}{A:Around}(r:dn (k+1) A)(env:Env):dn k (A.deeper env):=
 ⟨r.hd,by have:=r.dp;show A.depth+1+3*k+105<_;omega,by have:=r.un;show A.units+3+16*k+200<_;omega⟩
theorem Fj{A:Around}{C:Addr}{us:List Value}{kw:List (Str×Value)}:(A.under (.builtin "type.__call__" ⟨.ref C::us,kw⟩)).depth=A.depth+1:=by
 first|rfl|simp[Around.under,Code.weight,Code.isCreation,Code.isGuard,Code.isCaller,Code.frames,Code.isFrame,guardIds]
theorem EX{A:Around}{C:Addr}{us:List Value}{kw:List (Str×Value)}:(A.under (.builtin "type.__call__" ⟨.ref C::us,kw⟩)).units=A.units+1:=by
 first|rfl|simp[Around.under,Code.cUnits,Code.frames,Code.isFrame]
theorem dn.make{k:Nat}{A:Around}(r:dn (k+1) A)(C:Addr)(us:List Value)(kw:List (Str×Value)):dn k (A.under (.builtin "type.__call__" ⟨.ref C::us,kw⟩)):=
 ⟨r.hd,by have:=r.dp;rw[Fj];omega,by have:=r.un;rw[EX];omega⟩
theorem dn.depth{k:Nat}{A:Around}(r:dn k A):A.depth<recursionLimit:=by have:=r.dp;omega
theorem dn.units{k:Nat}{A:Around}(r:dn k A):A.units+64<cLine:=by have:=r.un;omega
def RX:TA:=fun _ H Q=>Q [] H
def Pm(ta:TE)(tr:TA):TA:=fun σ H Q=>ta σ H fun x H1=>tr σ H1 fun xs H2=>Q (x::xs) H2
section
variable {X:Cx}{e:Expr}{es:List Expr}{te:TE}{t:TA}{pos:Pos}
theorem N3:PA X [] RX:=fun _ _ _ _ H Q I h=>Calls.spliced_nil ⟨[],H,I,.nil,h⟩
theorem Mo(ha:PE X e te)(hr:PA X es t)(hs:starEach (e::es) X.env=(false,eval e X.env)::starEach es X.env:=by rfl):PA X (e::es) (Pm te t):=by
 intro pos pins s σ H Q I h;rw[hs];show wpAny _ _ (spliced ((false,eval e X.env)::backTo pos (starEach es X.env))) _ _ s;refine Calls.spliced_cons (cp (ha pins s σ H _ I h) fun u s1 ⟨x,H1,I1,r1,q1⟩=>?_);exact cp (hr pos pins s1 σ H1 _ I1 q1) fun us s2 ⟨xs,H2,I2,r2,q2⟩=>⟨x::xs,H2,I2,.cons r1 r2,q2⟩
def RG(t:TA):TE:=fun σ H Q=>t σ H fun xs H1=>xs.length<=sizeLine/\∀p,H1 p=none->Q (.ref p) (upd H1 p (.tup xs))
def Ro(t:TA):TE:=fun σ H Q=>t σ H fun xs H1=>xs.length<=sizeLine/\∀p,H1 p=none->Q (.ref p) (upd H1 p (.lst xs))
theorem NU{x1}(h:PA X es t):PE X (.Tuple es x1 pos) (RG t):=by
 intro pins s σ H Q I hq;refine wpAny_Tuple_spliced (cp (h pos pins s σ H _ I hq) fun us s1 ⟨xs,H1,I1,r,z,q⟩=>⟨by rw[<-r.length];exact z,?_⟩);have hf:H1 s1.heap.objs.size=none:=I1.aP.fresh (Nat.le_refl _);refine⟨.ref s1.heap.objs.size,upd H1 s1.heap.objs.size (.tup xs),I1.laid (t':=s1.toks) (fun b u e=>Heap.get?_push_of_some _ e) (Nat.le_refl _) ?_,rfl,q _ hf⟩;exact⟨z,us,r,⟨_,Heap.get?_push_size _ rfl,rfl,_,rfl⟩⟩
theorem F1(h:PA X es t):PE X (.List es pos) (Ro t):=by
 intro pins s σ H Q I hq;refine wpAny_List_spliced (cp (h pos pins s σ H _ I hq) fun us s1 ⟨xs,H1,I1,r,z,q⟩=>⟨by rw[<-r.length];exact z,?_⟩);have hf:H1 s1.heap.objs.size=none:=I1.aP.fresh (Nat.le_refl _);refine⟨.ref s1.heap.objs.size,upd H1 s1.heap.objs.size (.lst xs),I1.laid (t':=s1.toks) (fun b u e=>Heap.get?_push_of_some _ e) (Nat.le_refl _) ?_,rfl,q _ hf⟩;exact⟨z,us,0,r,Heap.get?_push_size _ rfl⟩
end
abbrev Sp:=List V->Hp->VK->XK->Prop
abbrev wd:=List Env->Hp->Shared->XK->Value->Shared->Prop
structure w4(P:Program)(w:World)(K:PySem.W.Frag)(mg:Str->Option Value)(base:Heap)(A:Around)(outer:List Env)(s:Shared)(H:Hp):Prop where
 frames:A.frames=some outer
 mod:Mod K mg base
 bs:∀b o,base.get? b=some o->s.heap.get? b=some o/\H b=none
 um:base.objs.size<=s.heap.objs.size
 lV:s.heap.FunFrames base outer
 yn:∀b∈rZ outer,H b=none
 aP:iZ P w H s.heap
 bare:AllBare s.gens
 gt:P.given.tree=none
def CE(outer:List Env)(P:Program)(w:World)(H:Hp)(s:Shared)(Q:VK)(u:Value)(s':Shared):Prop:=
 ∃v H',s'.os=s.os/\AllBare s'.gens/\Un (rZ outer) [] H H' s.heap s'.heap/\iZ P w H' s'.heap/\RelV v u/\Q v H'
def CR(CX:wd)(outer:List Env)(P:Program)(w:World)(H:Hp)(s:Shared)(Q:VK)(E:XK)(r:Result)(s':Shared):Prop:=
 match r with
 | .ok (.ret u)=>CE outer P w H s Q u s'
 | .ok _=>False
 | .error e=>CX outer H s E e s'
structure bh(P:Program)(w:World)(K:PySem.W.Frag)(mg:Str->Option Value)(base:Heap)(CX:wd)(k:Nat)(f:Addr)(fd:FuncData)(ps:List Str)(sp:Sp):Prop where
 len:∀vs H Q E,sp vs H Q E->vs.length=ps.length
 run:∀(A:Around) (outer:List Env) (s:Shared) (H:Hp) (args:Args) (us:List Value) (vs:List V) (Q:VK) (E:XK),dn k A->w4 P w K mg base A outer s H->BindsTo s fd args (ps.zip us)->Vals vs us->sp vs H Q E->
  codeAny (model P w) A (.call (.ref f) args) (CR CX outer P w H s Q E) s
theorem bh.imp{P:Program}{w:World}{K:PySem.W.Frag}{mg:Str->Option Value}{base:Heap}{CX:wd}{k:Nat}{f:Addr}{fd:FuncData}{ps:List Str}{sp sp':Sp}(F:bh P w K mg base CX k f fd ps sp)
 (h:∀vs H Q E,sp' vs H Q E->sp vs H Q E):bh P w K mg base CX k f fd ps sp':=
 ⟨fun vs H Q E q=>F.len vs H Q E (h _ _ _ _ q),fun A outer s H args us vs Q E hr he hb hv hs=>F.run A outer s H args us vs Q E hr he hb hv (h _ _ _ _ hs)⟩
theorem w4.make{P:Program}{w:World}{K:PySem.W.Frag}{mg:Str->Option Value}{base:Heap}{A:Around}{outer:List Env}{s:Shared}{H:Hp}(e:w4 P w K mg base A outer s H)(C:Addr)(us:List Value)(kw:List (Str×Value)):
 w4 P w K mg base (A.under (.builtin "type.__call__" ⟨.ref C::us,kw⟩)) outer s H:=⟨by first|exact e.frames|(simpa[Around.under,Code.envs,Code.isFrame,pushEnvs]using e.frames),e.mod,e.bs,e.um,e.lV,e.yn,e.aP,e.bare,e.gt⟩
section
variable {X:Cx}{pins:List (Addr×Obj)}{σ:St}{H:Hp}{s s':Shared}
theorem Inv.Nr(I:Inv X pins σ H s):w4 X.prog X.w X.K X.mg X.base X.A X.stack s H:=
 ⟨I.ok.frames,I.ok.mod,I.bs,Nat.le_trans I.ok.um I.sz,I.stack,I.zj,I.aP,I.bare,I.ok.gt⟩
theorem Inv.after{Q:VK}{u:Value}(I:Inv X pins σ H s)(h:CE X.stack X.prog X.w H s Q u s'):EP X pins σ Q u s':=by
 obtain⟨v,H',os,bare,un,aP,r,q⟩:=h;obtain⟨hh,g,d,t,os'⟩:=s';obtain rfl:os'=s.os:=os;exact⟨v,H',I.call (h':=hh) (g':=g) (d':=d) (t':=t) (ch:=[]) un aP bare (fun b z=>absurd z (by simp)),r,q⟩
end
def JF(sp:Sp)(dvs:List V)(E:XK)(t:TA):TE:=fun σ H Q=>t σ H fun vs H1=>sp (vs++dvs) H1 Q E
def Jx(C:Addr)(m:Str)(sp:Sp)(dvs:List V)(E:XK)(ta:TE)(t:TA):TE:=fun σ H Q=>ta σ H fun x H1=>∃a dx fs,x= .ref a/\H1 a=some (.ins C dx fs)/\fs.lookup m=none/\
 t σ H1 fun vs H2=>sp (x::(vs++dvs)) H2 Q E
def JQ(C:Addr)(sp:Sp)(dvs:List V)(E:XK)(t:TA):TE:=fun σ H Q=>t σ H fun vs H1=>∀x dx,H1 x=none->H1 dx=none->dx≠x->
 sp (.ref x::(vs++dvs)) (upd (upd H1 dx (.own x)) x (.ins C dx [])) (fun v H2=>v= .aE/\Q (.ref x) H2) E
def Binds(K:PySem.W.Frag)(fd:FuncData)(ps:List Str)(ds:List Value):Prop:=
 ∀(s:Shared) (us:List Value),K.In s.heap->(us++ds).length=ps.length->BindsTo s fd ⟨us,[]⟩ (ps.zip (us++ds))
theorem Binds.all{K:PySem.W.Frag}{fd:FuncData}{ps:List Str}(h:∀us:List Value,us.length=ps.length->bindArgs fd ⟨us,[]⟩=pure (ps.zip us)):Binds K fd ps []:=fun s us _ hl=>by
 rw[List.append_nil]at hl⊢;exact .of_eq (h us hl)
def Passes(CX:wd)(X:Cx)(E:XK):Prop:=∀(pins:List (Addr×Obj)) (σ:St) (H:Hp) (s:Shared) (e:Value) (s':Shared),Inv X pins σ H s->CX X.stack H s E e s'->X.xe e s'
section
variable {X:Cx}{CX:wd}{k:Nat}{f C:Addr}{fd:FuncData}{ps:List Str}{sp:Sp}{dvs:List V}{ds:List Value}{E:XK}{x m:Str}{p pos apos:Pos}{e o:Expr}{es:List Expr}{ta:TE}{t:TA}
theorem G8{pins:List (Addr×Obj)}{σ:St}{H:Hp}{s:Shared}{Q:VK}{us:List Value}{vs:List V}(F:bh X.prog X.w X.K X.mg X.base CX k f fd ps sp)(hr:dn k X.A)(hb:Binds X.K fd ps ds)(hd:Vals dvs ds)(hx:Passes CX X E)
 (I:Inv X pins σ H s) (r:Vals vs us) (h:sp (vs++dvs) H Q E):wpAny (model X.prog X.w) X.A (call (.ref f) us) (EP X pins σ Q) X.xe s:=by
 have r2:Vals (vs++dvs) (us++ds):=r.append hd;have hl:(us++ds).length=ps.length:=by rw[<-r2.length];exact F.len _ _ _ _ h
 refine wpAny_call (codeAny_mono (F.run X.A X.stack s H ⟨us,[]⟩ (us++ds) (vs++dvs) Q E hr I.Nr (hb s us I.iy hl) r2 h) fun r s' hq=>?_);cases r with
 |error e=>exact hx pins σ H s e s' I hq
 |ok fl=>
  cases fl with
  |ret u=>exact I.after hq
  |next=>exact False.elim hq
  |brk=>exact False.elim hq
  |cont=>exact False.elim hq
theorem Lu(F:bh X.prog X.w X.K X.mg X.base CX k f fd ps sp)(hr:dn k X.A)(hg:Gl X x)(hm:X.mg x=some (.ref f))(hk:PySem.W.keepIn X.K (.ref f)=true)(hb:Binds X.K fd ps ds)(hd:Vals dvs ds)(hx:Passes CX X E)
 (ha:PA X (e::es) t) (hdb:(x==("__debug__":Str))=false:=by decide) (he:starEach (e::es) X.env=(false,eval e X.env)::starEach es X.env:=by rfl) (hpl:(backTo pos (starEach es X.env)).any (·.1)=false:=by rfl):
 PE X (.Call (.Name x p) (e::es) [] pos) (JF sp dvs E t):=by
 intro pins s σ H Q I h;refine wpAny_Call_Name_kw (Dx I hg hm ?_ hdb);refine PySem.W.callWith_K (h₀:=X.base) I.ok.mod.Gi hk (cp (ha pos pins s σ H _ I h) fun us s1 ⟨vs,H1,I1,r,q⟩=>⟨I1.iy,?_⟩) he hpl;exact G8 F hr hb hd hx I1 r q
theorem LJ{pl:Sem Bool}(he:PE X o ta)(c:pB X.K C)(hm:Meth X.K C m f)(F:bh X.prog X.w X.K X.mg X.base CX k f fd ps sp)(hr:dn k X.A)(hb:Binds X.K fd ps ds)(hd:Vals dvs ds)(hx:Passes CX X E)(ha:PA X (e::es) t)
 (hst:starEach (e::es) X.env=(false,eval e X.env)::starEach es X.env:=by rfl) (hpl:(backTo pos (starEach es X.env)).any (·.1)=false:=by rfl)
 (ht:eval (.Call (.Attribute o m apos) (e::es) [] pos) X.env=(do
   let ov <-eval o X.env
   standAt apos.atName
   let(f,first) <-holding [ov] (getMethod ov m pl)
   callWith pos f first (backTo pos (starEach (e::es) X.env)) (backToKw pos (keywordEach [] X.env))):=by rfl):
 PE X (.Call (.Attribute o m apos) (e::es) [] pos) (Jx C m sp dvs E ta t):=by
 intro pins s σ H Q I h;refine PySem.W.methodCall_KW (pl:=pl) (cp (he pins s σ H _ I h) fun u s1 ⟨x,H1,I1,rx,a,dx,fs,ex,ea,l,q⟩=>?_) ht;subst ex;obtain rfl:u=Value.ref a:=rx;refine Fb I1 ea c hm l ?_;refine PySem.W.callWith_K (first:=[.ref a]) (h₀:=X.base) I.ok.mod.Gi hm.kp (cp (ha pos pins s1 σ H1 _ I1 q) fun us s2 ⟨vs,H2,I2,r,q2⟩=>⟨I2.iy,?_⟩) hst hpl;exact G8 (us:= .ref a::us) (vs:= .ref a::vs) F hr hb hd hx I2 (.cons rfl r) q2
structure Mk(K:PySem.W.Frag)(C f:Addr):Prop where
 makes:PySem.W.makesIn K C=true
 init:PySem.W.findIn K (.ref C) "__init__"=some (some (.ref f))
 fn:PySem.W.isFn K (.ref f)=true
 kp:PySem.W.keepIn K (.ref C)=true
theorem Hx{pins:List (Addr×Obj)}{σ:St}{H:Hp}{s:Shared}{Q:VK}{us:List Value}{vs:List V}(M:Mk X.K C f)(F:bh X.prog X.w X.K X.mg X.base CX k f fd ps sp)(hr:dn (k+1) X.A)(hb:Binds X.K fd ps ds)(hd:Vals dvs ds)
 (hx:Passes CX X E) (I:Inv X pins σ H s) (r:Vals vs us)
 (h:∀x dx,H x=none->H dx=none->dx≠x->sp (.ref x::(vs++dvs)) (upd (upd H dx (.own x)) x (.ins C dx [])) (fun v H2=>v= .aE/\Q (.ref x) H2) E):
 wpAny (model X.prog X.w) X.A (call (.ref C) us) (EP X pins σ Q) X.xe s:=by
 have hq:=h (s.heap.objs.size+1) s.heap.objs.size (I.aP.fresh (Nat.le_succ _)) (I.aP.fresh (Nat.le_refl _)) (Nat.ne_of_lt (Nat.lt_succ_self _));have I2:=Inv.made (C:=C) I;have r2:Vals (V.ref (s.heap.objs.size+1)::(vs++dvs)) (Value.ref (s.heap.objs.size+1)::(us++ds)):= .cons rfl (r.append hd)
 have hl:(Value.ref (s.heap.objs.size+1)::us++ds).length=ps.length:=by
  have e:=r2.length;rw[F.len _ _ _ _ hq]at e;exact e.symm
 refine wpAny_call (HF (f:=f) I.iy M.makes M.init (beq_iff_eq.mp M.fn) (codeAny_mono (F.run _ X.stack _ _ ⟨Value.ref (s.heap.objs.size+1)::us,[]⟩ (Value.ref (s.heap.objs.size+1)::(us++ds)) _ _ E (hr.make C us [])
  (I2.Nr.make C us []) (hb _ (Value.ref (s.heap.objs.size+1)::us) I2.iy hl) r2 hq) fun r s' hq'=>?_))
 cases r with
 |error e=>exact hx pins σ _ _ e s' I2 hq'
 |ok fl=>
  cases fl with
  |ret u=>
   obtain⟨v,H',I3,rv,ev,q3⟩:=I2.after hq';subst ev;exact⟨rv,⟨V.ref (s.heap.objs.size+1),H',I3,rfl,q3⟩⟩
  |next=>exact False.elim hq'
  |brk=>exact False.elim hq'
  |cont=>exact False.elim hq'
theorem Lp(M:Mk X.K C f)(F:bh X.prog X.w X.K X.mg X.base CX k f fd ps sp)(hr:dn (k+1) X.A)(hg:Gl X x)(hm:X.mg x=some (.ref C))(hb:Binds X.K fd ps ds)(hd:Vals dvs ds)(hx:Passes CX X E)
 (ha:PA X (e::es) t) (hdb:(x==("__debug__":Str))=false:=by decide) (he:starEach (e::es) X.env=(false,eval e X.env)::starEach es X.env:=by rfl) (hpl:(backTo pos (starEach es X.env)).any (·.1)=false:=by rfl):
 PE X (.Call (.Name x p) (e::es) [] pos) (JQ C sp dvs E t):=by
 intro pins s σ H Q I h;refine wpAny_Call_Name_kw (Dx I hg hm ?_ hdb);refine PySem.W.callWith_K (h₀:=X.base) I.ok.mod.Gi M.kp (cp (ha pos pins s σ H _ I h) fun us s1 ⟨vs,H1,I1,r,q⟩=>⟨I1.iy,?_⟩) he hpl;exact Hx M F hr hb hd hx I1 r q
end
section
variable {X:Cx}{CX:wd}{k:Nat}{f C:Addr}{fd:FuncData}{ps ks:List Str}{sp:Sp}{E:XK}{x m:Str}{p pos apos kpos:Pos}{e o:Expr}{es:List Expr}{kws:List Keyword}{te ta:TE}{t tk:TA}{nm:Option Str}
variable {g:List Value->List Value->List Value}{gV:List V->List V->List V}
end
structure aO(N P:List Str)(sc:Scope):Prop where
 kind:sc.kind= .function
 co:sc.isCoroutine=false
 gen:sc.isGenerator=false
 nd:N.Nodup
 pre:N.take P.length=P
 par:∀x∈P,sc.names.lookup x=some .local\/sc.names.lookup x=some .cell
 Nm:∀y∈sc.names,y.2≠ .free
theorem zK{kindOf:Str->Option NameKind}{x:Str}:∀ {binds:List (Str×Value)} {m:Str->Option Value},(∀v,(x,v)∉binds)->bindL kindOf binds m x=m x
 | [],_,_=>rfl
 |(n,v)::r,m,h=>by
  unfold bindL;rw[zK fun w hw=>h w (List.mem_cons_of_mem _ hw)];split
  . have:x≠n:=by rintro rfl;exact h v List.mem_cons_self
    simp[this]
  . rfl
theorem zz{kindOf:Str->Option NameKind}{x:Str}:∀ {binds:List (Str×Value)} {m:Str->Option Value},(∀v,(x,v)∉binds)->bindC kindOf binds m x=m x
 | [],_,_=>rfl
 |(n,v)::r,m,h=>by
  unfold bindC;rw[zz fun w hw=>h w (List.mem_cons_of_mem _ hw)];split
  . rfl
  . have:x≠n:=by rintro rfl;exact h v List.mem_cons_self
    simp[this]
theorem zS{kindOf:Str->Option NameKind}{x:Str}{v:Value}:∀ {P:List Str} {vs:List Value} {i:Nat} {m:Str->Option Value},P.Nodup->P[i]?=some x->vs[i]?=some v->kindOf x=some .local->
 bindL kindOf (P.zip vs) m x=some v
 | [],_,_,_,_,h,_,_=>by simp at h
 |_::_,[],_,_,_,_,h,_=>by simp at h
 |p::P,w::vs,0,m,nd,h1,h2,hk=>by
  simp at h1 h2;subst h1;subst h2;show bindL kindOf ((p,w)::P.zip vs) m p=_;unfold bindL;rw[zK fun v hv=>(List.nodup_cons.mp nd).1 (List.of_mem_zip hv).1,if_pos hk];simp
 |p::P,w::vs,i+1,m,nd,h1,h2,hk=>by
  show bindL kindOf ((p,w)::P.zip vs) m x=_;unfold bindL;exact zS (i:=i) (List.nodup_cons.mp nd).2 (by simpa using h1) (by simpa using h2) hk
theorem zO{kindOf:Str->Option NameKind}{x:Str}{v:Value}:∀ {P:List Str} {vs:List Value} {i:Nat} {m:Str->Option Value},P.Nodup->P[i]?=some x->vs[i]?=some v->kindOf x≠some .local->
 bindC kindOf (P.zip vs) m x=some v
 | [],_,_,_,_,h,_,_=>by simp at h
 |_::_,[],_,_,_,_,h,_=>by simp at h
 |p::P,w::vs,0,m,nd,h1,h2,hk=>by
  simp at h1 h2;subst h1;subst h2;show bindC kindOf ((p,w)::P.zip vs) m p=_;unfold bindC;rw[zz fun v hv=>(List.nodup_cons.mp nd).1 (List.of_mem_zip hv).1,if_neg hk];simp
 |p::P,w::vs,i+1,m,nd,h1,h2,hk=>by
  show bindC kindOf ((p,w)::P.zip vs) m x=_;unfold bindC;exact zO (i:=i) (List.nodup_cons.mp nd).2 (by simpa using h1) (by simpa using h2) hk
def start(N:List Str)(vs:List V):St:=vs.map some++List.replicate (N.length-vs.length) none
def sv(CX:wd)(P:Program)(w:World)(K:PySem.W.Frag)(mg:Str->Option Value)(base:Heap)(N:List Str)(qual:Str)(scope:Scope)(f:Addr)(cd:Value)(A:Around)(outer:List Env)(s:Shared)(H:Hp)(E:XK):Cx where
 prog:=P
 w:=w
 K:=K
 mg:=mg
 base:=base
 A:=A.deeper (envOfC qual scope s.heap.objs.size f cd)
 N:=N
 s₀:=s
 H₀:=H
 env:=envOfC qual scope s.heap.objs.size f cd
 outer:=outer
 stack:=envOfC qual scope s.heap.objs.size f cd::outer
 ex:=[]
 calm:=true
 fn:=fun _=>true
 pn:=[]
 xe:=fun e s'=>wpAny (model P w) (A.deeper (envOfC qual scope s.heap.objs.size f cd)) (leaving (envOfC qual scope s.heap.objs.size f cd) e) (fun _ s''=>CX outer H s E e s'') (fun e' s''=>CX outer H s E e' s'') s'
theorem BZ{sc:Scope}{n:Nat}{x:Str}(h:sc.names.lookup x=some .cell):∃c,(cellsFrom n sc.names []).lookup x=some c:=by
 have q:=PySem.W.cellsFrom_some sc.names n [] (.inl h);exact Option.isSome_iff_exists.mp q
theorem Hg{CX:wd}{P:Program}{w:World}{K:PySem.W.Frag}{mg:Str->Option Value}{base:Heap}{N ps:List Str}{qual:Str}{scope:Scope}{f:Addr}{cd:Value}{A:Around}{outer:List Env}{s s1:Shared}{H:Hp}{E:XK}{us:List Value}{vs:List V}
 (S:aO N ps scope) (hd:A.handled=none) (e0:w4 P w K mg base A outer s H) (hl:vs.length=ps.length) (r:Vals vs us)
 (x:InCallC s s.heap.objs.size (bindL (envOfC qual scope s.heap.objs.size f cd).kindOf (ps.zip us) fun _=>none) (cellsFrom (s.heap.objs.size+1) scope.names []) (bindC (envOfC qual scope s.heap.objs.size f cd).kindOf (ps.zip us) fun _=>none) s1):
 Inv (sv CX P w K mg base N qual scope f cd A outer s H E) [] (start N vs) H s1:=by
 have hpl:ps.length<=N.length:=by have:=congrArg List.length S.pre;rw[List.length_take]at this;omega
 obtain⟨h1,tk,rfl,hk⟩:=x.done;have noA:∀b:Addr,b∉(sv CX P w K mg base N qual scope f cd A outer s H E).ex:=fun b z=>absurd (show b∈([]:List Addr)from z) (by simp)
 refine⟨⟨e0.mod,S.kind,rfl,rfl,Nat.le_refl _,fun y z c h1 h2=>?_,fun y hy=>?_,fun y c _ h=>?_,fun _=>hd,Around.frames_deeper e0.frames,.inr ⟨rfl,rfl⟩,fun b z=>absurd z (noA b),e0.bs,e0.um,fun b _ _=>noA b,fun b z=>absurd z (noA b),e0.lV,e0.yn,e0.gt⟩,
  rfl,e0.bare,Un.kept hk,⟨_,x.toInCall.ns,fun i y v h1 h2 h3=>?_⟩,fun y c h=>⟨_,x.cell y c h⟩,e0.aP.fresh (Nat.le_refl _),fun y c h=>?_,fun p hp=>absurd (show p∈([]:List (Addr×Obj))from hp) (by simp),e0.aP.kept hk,?_⟩
 . exact name_of_addr x.apart (PySem.mem_of_lookup h1) (PySem.mem_of_lookup h2)
 . have hy:scope.names.lookup y=some .cell\/scope.names.lookup y=some .free:=hy;rcases hy with hy|hy
   . exact BZ hy
   . exact absurd rfl (S.Nm _ (PySem.mem_of_lookup hy))
 . exact Nat.le_of_lt (x.above y c (PySem.mem_of_lookup h))
 . have hi:i<vs.length:=by
    unfold start at h2;by_cases hi:i<vs.length
    . exact hi
    . rw[List.getElem?_append_right (by simpa using hi)]at h2;rw[List.getElem?_replicate]at h2;split at h2<;>cases h2
   have ha:vs[i]?=some v:=by
    unfold start at h2;rw[List.getElem?_append_left (by simpa using hi),List.getElem?_map]at h2;cases e:vs[i]? with
    |none=>rw[e]at h2;cases h2
    |some a=>rw[e]at h2;cases h2;rfl
   obtain⟨u,hu,rv⟩:=r.get ha
   have hp:ps[i]?=some y:=by
    rw[<-S.pre,List.getElem?_take_of_lt (by omega)];exact h1
   have ndP:ps.Nodup:=by rw[<-S.pre];exact S.nd.sublist (List.take_sublist _ _)
   refine⟨u,rv,?_⟩;rcases S.par y (List.mem_of_getElem? hp)with k|k
   . exact .inl ⟨k,zS ndP hp hu k⟩
   . obtain⟨c,e⟩:=BZ (n:=s.heap.objs.size+1) k;refine .inr ⟨.inl k,c,e,?_⟩;have q:=x.cell y c e;rw[zO ndP hp hu (by show scope.names.lookup y≠_;rw[k];decide)]at q;exact q
 . exact e0.aP.fresh (Nat.le_of_lt (x.above y c (PySem.mem_of_lookup h)))
 . unfold start;show _=N.length;rw[List.length_append,List.length_map,List.length_replicate];omega
theorem Jy{CX:wd}{P:Program}{w:World}{K:PySem.W.Frag}{mg:Str->Option Value}{base:Heap}{k:Nat}{f:Addr}{name qual:Str}{params:Arguments}{body:List Stmt}{scope:Scope}{dV kV doc pm cdv ct oc:Value}{an od:Option Addr}
 {osl:Array (Option Value)} {N ps:List Str} {sp:Sp} (lk:K.lookup f=some ⟨oc,od,.func (PySem.W.fnOf name qual params body scope dV kV doc pm an cdv ct),osl⟩) (hcd:PySem.W.codeIn K cdv qual=true) (S:aO N ps scope)
 (len:∀vs H Q E,sp vs H Q E->vs.length=ps.length)
 (hbody:∀(A:Around) (outer:List Env) (s:Shared) (H:Hp) (vs:List V) (Q:VK) (E:XK),dn k (A.deeper (envOfC qual scope s.heap.objs.size f cdv))->sp vs H Q E->
   ∃t,iA (sv CX P w K mg base N qual scope f cdv A outer s H E) body t/\t {nx:=fun _ H'=>Q .aE H',rt:=Q} (start N vs) H):
 bh P w K mg base CX (k+1) f (PySem.W.fnOf name qual params body scope dV kV doc pm an cdv ct) ps sp:=by
 refine⟨len,fun A outer s H args us vs Q E hr e0 hb r hsp=>?_⟩;have hl:=len _ _ _ _ hsp;have KX:K.In s.heap:=e0.mod.Gi.keeps fun b o e=>(e0.bs b o e).1;have lim:s.heap.NoLimit:=e0.mod.nolimit.keeps fun b o e=>(e0.bs b o e).1
 have hkind:∀y∈ps.zip us,scope.names.lookup y.1=some .local\/(scope.names.lookup y.1=some .cell/\((cellsFrom (s.heap.objs.size+1) scope.names []).lookup y.1).isSome=true):=fun⟨n,v⟩ hy=>by
  rcases S.par n (List.of_mem_zip hy).1 with q|q
  . exact .inl q
  . exact .inr ⟨q,PySem.W.cellsFrom_some _ _ _ (.inl q)⟩
 refine codeAny_call_function hr.depth (KX _ _ lk) rfl S.co S.gen rfl (PySem.W.codeRec_of KX hcd) (hb _ _ _ _ ?_);refine wpAny_newFunctionEnv_cells S.kind hkind fun env he s1 x=>?_;subst he;refine⟨lim.keeps x.toInCall.keep,codeAny_func ?_⟩;obtain⟨t,ht,hq⟩:=hbody A outer s H vs Q E (hr.deeper _) hsp;have I:Inv (sv CX P w K mg base N qual scope f cdv A outer s H E) [] (start N vs) H s1:=Hg S hr.hd e0 hl r x;refine wpAny_mono (ht [] s1 (start N vs) H _ I hq) (fun fl s' hs=>?_) fun e s' hs=>hs
 have fin:∀ {σ':St} {H':Hp} {v:V} {u:Value},Inv (sv CX P w K mg base N qual scope f cdv A outer s H E) [] σ' H' s'->RelV v u->Q v H'->CE outer P w H s Q u s':=
  fun{σ' H' v u} J rv q=>⟨v,H',J.os,J.bare,J.base,J.aP,rv,q⟩
 cases fl with
 |ret u=>
  obtain⟨v,σ',H',J,rv,q⟩:=hs;exact fin J rv q
 |next=>
  obtain⟨σ',H',J,q⟩:=hs;exact fin (v:=V.aE) (u:=Value.none) J rfl q
 |brk=>
  obtain⟨_,_,_,q⟩:=hs;exact False.elim q
 |cont=>
  obtain⟨_,_,_,q⟩:=hs;exact False.elim q
section
variable {X:Cx}{x:Str}{p pos:Pos}{e:Expr}{es:List Expr}{t:TA}{id T:String}{r:List V->Hp->VK->Prop}
def M0(r:List V->Hp->VK->Prop)(t:TA):TE:=fun σ H Q=>t σ H fun vs H1=>r vs H1 Q
theorem Ip(hc:de X (.builtin id) r)(hg:Gl X x)(hm:X.mg x=none)(hv:bootBuiltins x=some (.builtin id))(ha:PA X (e::es) t)(hn:x≠"__name__":=by decide)(hdb:(x==("__debug__":Str))=false:=by decide)
 (he:starEach (e::es) X.env=(false,eval e X.env)::starEach es X.env:=by rfl) (hpl:(backTo pos (starEach es X.env)).any (·.1)=false:=by rfl):PE X (.Call (.Name x p) (e::es) [] pos) (M0 r t):=by
 intro pins s σ H Q I h;refine wpAny_Call_Name_kw (md I hg hm hv ?_ hn hdb);exact PyProof.Rows.callWith_builtin1 (cp (ha pos pins s σ H _ I h) fun us s1 ⟨vs,H1,I1,r1,q1⟩=>hc pins s1 σ H1 vs us Q I1 r1 q1) he hpl
theorem Gq(hc:de X (.type T) r)(hg:Gl X x)(hm:X.mg x=none)(hv:bootBuiltins x=some (.type T))(ha:PA X (e::es) t)(hn:x≠"__name__":=by decide)(hdb:(x==("__debug__":Str))=false:=by decide)
 (he:starEach (e::es) X.env=(false,eval e X.env)::starEach es X.env:=by rfl) (hpl:(backTo pos (starEach es X.env)).any (·.1)=false:=by rfl):PE X (.Call (.Name x p) (e::es) [] pos) (M0 r t):=by
 intro pins s σ H Q I h;refine wpAny_Call_Name_kw (md I hg hm hv ?_ hn hdb);exact PyProof.Rows.callWith_type1 (cp (ha pos pins s σ H _ I h) fun us s1 ⟨vs,H1,I1,r1,q1⟩=>hc pins s1 σ H1 vs us Q I1 r1 q1) he hpl
end
end L2
namespace HT
open PySem PyProof.Rows
section
open PySem.SeqAt
open PySem.AutoSeq1 (wpAny_loadPart')
open PySem.MeetsSeq PySem.MeetsSeq2 PySem.MeetsSeq3
end
section
variable {prog:Program}{w:World}{A:Around}{E:Value->Shared->Prop}{s:Shared}
theorem KS{t b:Addr}{vs ws:List Value}{Q:Value->Shared->Prop}(ht:IsTup s.heap t vs.toArray)(hb:IsTup s.heap b ws.toArray)(hv:vs≠ [])
 (h1:ws=[]->Q (.ref t) s) (h2:ws≠ []->Q (.ref s.heap.objs.size) {s with heap:=s.heap.push {cls:= .type "tuple",data:= .seq (vs++ws).toArray}})
 (hsz:vs.length+ws.length<=sizeLine):wpAny (model prog w) A (binaryOp .Add (.ref t) (.ref b)) Q E s:=by
 obtain⟨⟨cls,dd,data,sl⟩,ho,hc,n,hd⟩:=id ht;obtain⟨⟨cls2,dd2,data2,sl2⟩,ho2,hc2,n2,hd2⟩:=id hb;simp only at hc hd hc2 hd2;subst hc hd hc2 hd2;have e:vs.toArray++ws.toArray=(vs++ws).toArray:=by simp
 by_cases hw:ws=[]
 . exact concat_meets ⟨_,ho,rfl⟩ ⟨_,ho2,rfl⟩ noFill_tuple_add seq_tuple_add PySem.F.slot_tuple_add PySem.F.entry_tuple_add (PySem.F.args_tuple_add_2 _ _)
    (tuple_addW1 t b vs.toArray ws.toArray n n2 dd dd2 sl sl2 (by simpa using hv) (by simp[hw])) ⟨ho,ho2,h1 hw⟩
 . refine concat_meets ⟨_,ho,rfl⟩ ⟨_,ho2,rfl⟩ noFill_tuple_add seq_tuple_add PySem.F.slot_tuple_add PySem.F.entry_tuple_add (PySem.F.args_tuple_add_2 _ _)
    (tuple_addW2 t b vs.toArray ws.toArray n n2 dd dd2 sl sl2 (by simpa using hv) (by simpa using hw) (by rw[List.size_toArray,List.size_toArray];exact hsz)) ⟨ho,ho2,?_⟩
   rw[e];exact h2 hw
def cy(n d:Nat):Option Int->Nat
 |none=>d
 |some v=>if v<0 then(v+(n:Int)).toNat else min v.toNat n
theorem wB(n d:Nat):cy n d none=d:=rfl
theorem yP(n d k:Nat):cy n d (some (k:Int))=min k n:=by
 show(if(k:Int)<0 then((k:Int)+(n:Int)).toNat else min (k:Int).toNat n)=min k n;rw[if_neg (by omega),Int.toNat_natCast]
theorem NT(n d:Nat)(hd:d<=n)(o:Option Int):cy n d o<=n:=by
 cases o with
 |none=>exact hd
 |some v=>
  show(if v<0 then(v+(n:Int)).toNat else min v.toNat n)<=n;by_cases hv:v<0
  . rw[if_pos hv];omega
  . rw[if_neg hv];exact Nat.min_le_right _ _
theorem Dr(v:Int)(n d:Nat):(if v<0 then max (v+(n:Int)) 0 else min v (n:Int))=((cy n d (some v):Nat):Int):=by
 show(if v<0 then max (v+(n:Int)) 0 else min v (n:Int))=(((if v<0 then(v+(n:Int)).toNat else min v.toNat n):Nat):Int)
 by_cases hv:v<0
 . simp only[if_pos hv];omega
 . simp only[if_neg hv];omega
theorem EJ(lo hi:Option Int)(n:Nat):Builtin.Slice.sliceAdjust lo hi 1 (n:Int)=(((cy n 0 lo:Nat):Int),((cy n n hi:Nat):Int)):=by
 have h1:¬((1:Int)<0):=by omega
 unfold Builtin.Slice.sliceAdjust;simp only[h1,if_false];refine Prod.ext ?_ ?_
 . cases lo with
   |none=>rfl
   |some v=>exact Dr v n 0
 . cases hi with
   |none=>rfl
   |some v=>exact Dr v n n
theorem Es(i j:Nat):Builtin.Slice.slicePlaces (i:Int) (j:Int) 1=j-i:=by
 unfold Builtin.Slice.slicePlaces;have h1:(1:Int)>0:=by omega
 simp only[h1,if_true,Int.ediv_one];split<;>omega
theorem yu{v:Value}{o:Option Int}{Q:Option Int->Shared->Prop}(p:IsPart v o)(h:Q o s):wpAny (model prog w) A (Builtin.Slice.slicePartIndex v) Q E s:=by
 cases p with
 |none=>exact slicePart_none h
 |int i t=>exact slicePart_int h
theorem pN{sl:Addr}{vl vu:Value}{lo hi:Option Int}{n:Nat}{Q:Int×Int×Nat->Shared->Prop}(hs:s.heap.IsSliceOf sl vl vu .none)(pl:IsPart vl lo)(pu:IsPart vu hi)
 (h:Q (((cy n 0 lo:Nat):Int),1,cy n n hi-cy n 0 lo) s):wpAny (model prog w) A (Builtin.Slice.sliceApplied (.ref sl) (pure (n:Int))) Q E s:=by
 obtain⟨os,hos,hcs,hds⟩:=id hs;unfold Builtin.Slice.sliceApplied Builtin.Slice.sliceFields;refine wpAny_bind (wpAny_bind (wpAny_field hos hds (x:=vl) rfl (wpAny_bind (wpAny_field hos hds (x:=vu) rfl (wpAny_bind (wpAny_field hos hds (x:= .none) rfl (wpAny_pure ?_)))))));refine wpAny_bind (slicePart_none ?_);show wpAny _ _ (if((1:Int)==0)=true then _ else _) _ _ s;rw[if_neg (by decide)];refine wpAny_bind (yu pl (wpAny_bind (yu pu (wpAny_bind (wpAny_pure ?_)))));show wpAny _ _ (match Builtin.Slice.sliceAdjust lo hi 1 (n:Int)with|(lo,hi)=>pure (lo,(1:Int),Builtin.Slice.slicePlaces lo hi 1)) _ _ s;rw[EJ lo hi n];show wpAny _ _ (pure (((cy n 0 lo:Nat):Int),(1:Int),Builtin.Slice.slicePlaces ((cy n 0 lo:Nat):Int) ((cy n n hi:Nat):Int) 1)) _ _ s;rw[Es];exact wpAny_pure h
theorem II(xs:Array Value)(i k:Nat):((List.range k).filterMap fun(m:Nat)=>xs[((i:Int)+(m:Int)*1).toNat]?).toArray=((xs.toList.drop i).take k).toArray:=by
 have e:(fun(m:Nat)=>xs[((i:Int)+(m:Int)*1).toNat]?)=fun m=>xs[i+m]?:=by
  funext m;have:((i:Int)+(m:Int)*1).toNat=i+m:=by omega
  rw[this]
 rw[e];have:=pick_run xs i k;rw[List.filterMap_map]at this;have e2:((fun x=>xs[x]?)∘fun x=>i+x)=fun m=>xs[i+m]?:=rfl;rw[e2]at this;rw[this]
theorem vJ{t sl:Addr}{items:Array Value}{vl vu:Value}{lo hi:Option Int}{Q:Value->Shared->Prop}(ht:IsTup s.heap t items)(hs:s.heap.IsSliceOf sl vl vu .none)(pl:IsPart vl lo)(pu:IsPart vu hi)
 (hw:¬(cy items.size 0 lo=0/\cy items.size items.size hi=items.size))
 (h:Q (.ref s.heap.objs.size) {s with heap:=s.heap.push {cls:= .type "tuple",data:= .seq ((items.toList.drop (cy items.size 0 lo)).take (cy items.size items.size hi-cy items.size 0 lo)).toArray}})
 (hsz:items.size<=sizeLine):wpAny (model prog w) A (getItem (.ref t) (.ref sl)) Q E s:=by
 have htake:sizeOk (.seq ((items.toList.drop (cy items.size 0 lo)).take (cy items.size items.size hi-cy items.size 0 lo)).toArray):=by
  show((items.toList.drop (cy items.size 0 lo)).take (cy items.size items.size hi-cy items.size 0 lo)).toArray.size<=sizeLine;rw[List.size_toArray,List.length_take,List.length_drop,Array.length_toList];omega
 have hj:cy items.size items.size hi<=items.size:=NT _ _ (Nat.le_refl _) hi;obtain⟨os,hos,hcs,hds⟩:=id hs;have hTs:s.TypeIs (.ref sl) "slice":=⟨os,hos,hcs⟩
 unfold getItem;try with_reducible refine wpAny_holding ?_
 first|refine wpAny_bind (wpAny_pure ?_)|skip
 refine wpAny_bind (wpAny_sequenceKey ht.typeIs (by decide) ?_)
 refine wpAny_bind (wpAny_callSpecial?_slot (name:=Str.ofString "__getitem__") ht.typeIs PyProof.Rows.slot_tuple_getitem
  (wpAny_call_entry PyProof.Rows.slot_tuple_getitem ht.typeIs entry_tuple_getitem ?_ (args_tuple_getitem _ _)))
 show wpAny _ _ (Builtin.Tuple.tupleItemsOf (.ref t) >>= _) _ _ s;refine wpAny_bind (tupleItemsOf_ ht ?_);refine wpAny_bind (wpAny_typeOf hTs ?_);rw[if_pos (by decide)];refine wpAny_bind (pN hs pl pu ?_)
 have hno:¬((((cy items.size 0 lo:Nat):Int)==0&&(1:Int)==1&&(cy items.size items.size hi-cy items.size 0 lo)==items.size)=true):=by
  intro q;rw[Bool.and_eq_true,Bool.and_eq_true]at q;have q1:((cy items.size 0 lo:Nat):Int)=0:=eq_of_beq q.1.1;have q2:cy items.size items.size hi-cy items.size 0 lo=items.size:=eq_of_beq q.2;exact hw ⟨by omega,by omega⟩
 show wpAny _ _ (if(((cy items.size 0 lo:Nat):Int)==0&&(1:Int)==1&&(cy items.size items.size hi-cy items.size 0 lo)==items.size)=true then _ else _) _ _ s;rw[if_neg hno,II]
 first
  |exact wpAny_bind (m:=Builtin.Tuple.tupleExact _) (wpAny_newObj_type (wpAny_pure ⟨_,rfl,wpAny_pure h⟩) htake)
  |exact wpAny_bind (m:=Builtin.Tuple.tupleExact _) (wpAny_newObj_type (wpAny_bind (wpAny_pure (wpAny_pure ⟨_,rfl,wpAny_pure h⟩))) htake)
  |exact wpAny_bind (wpAny_bind (m:=Builtin.Tuple.tupleExact _) (wpAny_newObj_type (wpAny_pure (wpAny_pure ⟨_,rfl,wpAny_pure h⟩)) htake))
  |exact wpAny_bind (wpAny_bind (m:=Builtin.Tuple.tupleExact _) (wpAny_newObj_type (wpAny_pure ⟨_,rfl,wpAny_pure h⟩) htake))
end
end HT
namespace L2
open PySem PySem.Spec PyProof.Rows
abbrev TO:=St->Hp->(Option Int->Hp->Prop)->Prop
def PO(X:Cx)(e:Option Expr)(t:TO):Prop:=
 ∀(pins:List (Addr×Obj)) (s:Shared) (σ:St) (H:Hp) (Q:Option Int->Hp->Prop),Inv X pins σ H s->t σ H Q->
  wpAny (model X.prog X.w) X.A (evalPart e X.env) (fun u s'=>∃o H',Inv X pins σ H' s'/\IsPart u o/\Q o H') X.xe s
def L4:TO:=fun _ H Q=>Q none H
def PM(t:TE):TO:=fun σ H Q=>t σ H fun x H1=>∃i,x= .int i/\Q (some i) H1
section
variable {X:Cx}{e:Expr}{te:TE}{lo hi:Option Expr}{tl th:TO}{pos p2:Pos}
theorem KP:PO X none L4:=by
 intro pins s σ H Q I h;rw[evalPart_none];exact wpAny_pure ⟨none,H,I,.none,h⟩
theorem Lg(h:PE X e te):PO X (some e) (PM te):=by
 intro pins s σ H Q I hw;rw[evalPart_some];refine cp (h pins s σ H _ I hw) fun u s1 ⟨x,H1,I1,r1,q1⟩=>?_;obtain⟨i,rfl,q⟩:=q1;obtain⟨t,rfl⟩:=r1;exact⟨some i,H1,I1,.int i t,q⟩
def FI(X:Cx)(r:V->Option Int->Option Int->Hp->VK->Prop):Prop:=
 ∀(pins:List (Addr×Obj)) (s:Shared) (σ:St) (H:Hp) (x:V) (v vl vu:Value) (lo hi:Option Int) (sl:Addr) (Q:VK),Inv X pins σ H s->RelV x v->s.heap.IsSliceOf sl vl vu .none->IsPart vl lo->IsPart vu hi->r x lo hi H Q->
  ∃T id,typeLookup (.type T) "__getitem__"=pure (some (.builtin id))/\s.TypeIs v T/\wpAny (model X.prog X.w) X.A (getItem v (.ref sl)) (EP X pins σ Q) X.xe s
def Ss(r:V->Option Int->Option Int->Hp->VK->Prop)(te:TE)(tl th:TO):TE:=fun σ H Q=>te σ H fun x H1=>tl σ H1 fun l H2=>th σ H2 fun u H3=>r x l u H3 Q
theorem Jk{r:V->Option Int->Option Int->Hp->VK->Prop}(hr:FI X r)(he:PE X e te)(hl:PO X lo tl)(hu:PO X hi th):PE X (.Subscript e (.Slice lo hi none p2) pos) (Ss r te tl th):=by
 intro pins s σ H Q I h;refine Subscript_ (cp (he pins s σ H _ I h) fun v s1 ⟨x,H1,I1,r1,q1⟩=>?_);refine wpAny_Slice (cp (hl pins s1 σ H1 _ I1 q1) fun vl s2 ⟨l,H2,I2,pl,q2⟩=>cp (hu pins s2 σ H2 _ I2 q2) fun vu s3 ⟨u,H3,I3,pu,q3⟩=>?_);rw[evalPart_none];refine wpAny_pure ?_;have I4:Inv X pins σ H3 {s3 with heap:=s3.heap.push {cls:= .type "slice",data:= .fields #[vl,vu,.none]}}:=I3.kept (t':=s3.toks) fun b ob q=>Heap.get?_push_of_some _ q;obtain⟨T,id,hT,ht,hg⟩:=hr pins {s3 with heap:=s3.heap.push {cls:= .type "slice",data:= .fields #[vl,vu,.none]}} σ H3 x v vl vu l u s3.heap.objs.size Q I4 r1 (Heap.IsSliceOf.new ..) pl pu q3;show wpAny (model X.prog X.w) X.A (subscriptTail e (.Slice lo hi none p2) v (.ref s3.heap.objs.size)) (EP X pins σ Q) X.xe {s3 with heap:=s3.heap.push {cls:= .type "slice",data:= .fields #[vl,vu,.none]}};exact tail_any (ops:=[.ref s3.heap.objs.size,v]) ht hT hg (by with_unfolding_all rfl)
def tJ(xs:List V)(lo hi:Option Int):List V:=(xs.drop (HT.cy xs.length 0 lo)).take (HT.cy xs.length xs.length hi-HT.cy xs.length 0 lo)
theorem vS(xs:List V)(lo hi:Option Int):(tJ xs lo hi).length<=xs.length:=by
 unfold tJ;rw[List.length_take,List.length_drop];omega
def R7(K:PySem.W.Frag):V->Option Int->Option Int->Hp->VK->Prop:=fun x lo hi H Q=>∃a xs,x= .ref a/\jA K H a xs/\
 ¬(HT.cy xs.length 0 lo=0/\HT.cy xs.length xs.length hi=xs.length)/\∀p,H p=none->Q (.ref p) (upd H p (.tup (tJ xs lo hi)))
theorem NL:FI X (R7 X.K):=by
 intro pins s σ H x v vl vu lo hi sl Q I rx hs pl pu h;obtain⟨a,xs,rfl,hx,hw,q⟩:=h;cases rx;obtain⟨aw,r,ht,hz⟩:=I.tuple hx;have hlen:aw.toArray.size=xs.length:=by rw[List.size_toArray];exact r.length.symm
 refine⟨"tuple",_,PyProof.Rows.slot_tuple_getitem.lookup,ht.typeIs,?_⟩;refine HT.vJ ht hs pl pu (by rw[hlen];exact hw) ?_ (by rw[hlen];exact hz);rw[hlen];refine⟨.ref s.heap.objs.size,_,I.laid (t':=s.toks) (o:= .tup (tJ xs lo hi)) (fun b ob q=>Heap.get?_push_of_some _ q) (Nat.le_refl _) ?_,rfl,q _ (I.aP.fresh (Nat.le_refl _))⟩;exact⟨Nat.le_trans (vS xs lo hi) hz,_,(r.drop (HT.cy xs.length 0 lo)).take (HT.cy xs.length xs.length hi-HT.cy xs.length 0 lo),IsTup.new _ _⟩
def PB(K:PySem.W.Frag):R2:=fun x y H Q=>∃a b xs ys,x= .ref a/\y= .ref b/\jA K H a xs/\jA K H b ys/\xs≠ []/\xs.length+ys.length<=sizeLine/\
 (ys=[]->Q (.ref a) H)/\(ys≠ []->∀p,H p=none->Q (.ref p) (upd H p (.tup (xs++ys))))
theorem Vals.vg{xs:List V}{us:List Value}(r:Vals xs us):us=[]↔xs=[]:=by
 cases r with
 |nil=>simp
 |cons _ _=>simp
theorem LM:cn X (binaryOp .Add) (PB X.K):=by
 intro pins s σ H x y v u Q I rx ry h;obtain⟨a,b,xs,ys,rfl,rfl,ha,hb,hx,hz,q1,q2⟩:=h;cases rx;cases ry;obtain⟨aw,r1,p1,_⟩:=I.tuple ha;obtain⟨its2,r2,p2,_⟩:=I.tuple hb;refine HT.KS p1 p2 (fun z=>hx (r1.vg.mp z)) (fun z=>⟨.ref a,H,I,rfl,q1 (r2.vg.mp z)⟩) (fun z=>?_) (by rw[<-r1.length,<-r2.length];exact hz);refine⟨.ref s.heap.objs.size,_,I.laid (t':=s.toks) (o:= .tup (xs++ys)) (fun b ob q=>Heap.get?_push_of_some _ q) (Nat.le_refl _) ?_,rfl,q2 (fun w=>z (r2.vg.mpr w)) _ (I.aP.fresh (Nat.le_refl _))⟩;exact⟨by rw[List.length_append];exact hz,_,r1.append r2,IsTup.new _ _⟩
end
def mH(n:Nat)(i:Int):Option Nat:=if 0<=i then(if i<n then some i.toNat else none)else if-(n:Int)<=i then some (i+n).toNat else none
def e8{α:Type}(xs:List α)(i:Int):Option α:=(mH xs.length i).bind fun j=>xs[j]?
theorem Du{n:Nat}{i:Int}{j:Nat}(h:mH n i=some j):seqIndex? i n=some j/\j<n/\ -(n:Int)<=i/\i<n:=by
 unfold mH at h;by_cases h0:0<=i
 . rw[if_pos h0]at h;by_cases h1:i<n
   . rw[if_pos h1]at h;have e:i.toNat=j:=Option.some.inj h;exact⟨by rw[seqIndex_of h0 h1,e],by omega,by omega,h1⟩
   . rw[if_neg h1]at h;cases h
 . rw[if_neg h0]at h;by_cases h1: -(n:Int)<=i
   . rw[if_pos h1]at h;have e:(i+n).toNat=j:=Option.some.inj h;exact⟨by rw[seqIndex_neg (by omega) h1,e],by omega,h1,by omega⟩
   . rw[if_neg h1]at h;cases h
theorem yR{α:Type}{xs:List α}{i:Int}{v:α}(h:e8 xs i=some v):∃j,seqIndex? i xs.length=some j/\xs[j]?=some v/\j<xs.length/\ -(xs.length:Int)<=i/\i<xs.length:=by
 unfold e8 at h;cases e:mH xs.length i with
 |none=>rw[e]at h;cases h
 |some j=>
  rw[e]at h;obtain⟨h1,h2,h3,h4⟩:=Du e;exact⟨j,h1,h,h2,h3,h4⟩
theorem i5{α:Type}{xs:List α}{j:Nat}{v:α}(h:xs[j]?=some v):e8 xs (j:Int)=some v:=by
 have hj:j<xs.length:=(List.getElem?_eq_some_iff.mp h).1
 have e:mH xs.length (j:Int)=some j:=by
  unfold mH;rw[if_pos (by omega),if_pos (by omega)];simp
 unfold e8;rw[e];exact h
def vd(b:Expr):Prop:=∀o i,subscripted b false o i=operate [o,i] (getItem o i)
def J_(X:Cx)(r:R2):Prop:=
 ∀(value slice:Expr) (pins:List (Addr×Obj)) (s:Shared) (σ:St) (H:Hp) (x y:V) (v u:Value) (Q:VK),Inv X pins σ H s->RelV x v->RelV y u->r x y H Q->
  subscripted slice false v u=operate [v,u] (getItem v u)->wpAny (model X.prog X.w) X.A (subscriptTail value slice v u) (EP X pins σ Q) X.xe s
def N6(X:Cx)(id:String)(r:V->List V->Hp->VK->Prop):Prop:=
 ∀(pins:List (Addr×Obj)) (s:Shared) (σ:St) (H:Hp) (x:V) (xs:List V) (v:Value) (us:List Value) (Q:VK),Inv X pins σ H s->RelV x v->Vals xs us->r x xs H Q->
  wpAny (model X.prog X.w) X.A (call (.builtin id) (v::us)) (EP X pins σ Q) X.xe s
section
variable {X:Cx}{a b:Expr}{ta tb:TE}{pos:Pos}
theorem Qm{r:R2}(hr:J_ X r)(ha:PE X a ta)(hb:PE X b tb)(hs:vd b):PE X (.Subscript a b pos) (F7 r ta tb):=by
 intro pins s σ H Q I h;exact Subscript_ (HN ha hb I h fun v u s2 x y H2 I2 rx ry q=>hr a b pins s2 σ H2 x y v u Q I2 rx ry q (hs _ _))
def Rm(K:PySem.W.Frag):R2:=fun x y H Q=>∃p xs i v,x= .ref p/\y= .int i/\nN K H p xs/\e8 xs i=some v/\Q v H
def RU(K:PySem.W.Frag):R2:=fun x y H Q=>∃p xs i v,x= .ref p/\y= .int i/\jA K H p xs/\e8 xs i=some v/\Q v H
theorem D4:J_ X (Rm X.K):=by
 intro value slice pins s σ H x y v u Q I rx ry h hs;obtain⟨p,xs,i,z,rfl,rfl,hq,he,q⟩:=h;cases rx;obtain⟨t,rfl⟩:=ry;obtain⟨aw,r,pl,hz⟩:=I.list hq;obtain⟨j,h1,h2,h3,h4,h5⟩:=yR he;obtain⟨w,ew,rw'⟩:=r.get h2;have hl:=r.length;have hn:=uj;have fin:EP X pins σ Q w s:=⟨z,H,I,rw',q⟩
 by_cases h0:0<=i
 . have hj:i.toNat=j:=by
    rw[seqIndex_of h0 h5]at h1;exact Option.some.inj h1
   exact item_listR pl.isList h0 (by omega) (by rw[hj];simpa using ew) fin hs
 . have hj:(i+(aw.toArray.size:Int)).toNat=j:=by
    rw[seqIndex_neg (by omega) h4]at h1;rw[List.size_toArray,<-hl];exact Option.some.inj h1
   exact subscriptTail_builtinR (x:=w) pl.isList.typeIs slot_list_getitem.lookup
    (wpAny_getItem_list_neg (Q:=fun r s'=>r=w/\EP X pins σ Q r s') pl.isList (by omega) (by rw[List.size_toArray]<;>omega) (by omega) (by rw[hj];simpa using ew) ⟨rfl,fin⟩) hs
theorem Oj:J_ X (RU X.K):=by
 intro value slice pins s σ H x y v u Q I rx ry h hs;obtain⟨p,xs,i,z,rfl,rfl,hq,he,q⟩:=h;cases rx;obtain⟨t,rfl⟩:=ry;obtain⟨aw,r,pl,hz⟩:=I.tuple hq;obtain⟨j,h1,h2,h3,h4,h5⟩:=yR he;obtain⟨w,ew,rw'⟩:=r.get h2;have hl:=r.length;have hn:=uj;have fin:EP X pins σ Q w s:=⟨z,H,I,rw',q⟩
 exact subscriptTail_builtinR (x:=w) pl.typeIs slot_tuple_getitem.lookup
  (getItem_tuple (j:=j) (Q:=fun r s'=>r=w/\EP X pins σ Q r s') pl (by omega) (by omega) (by rw[List.size_toArray,<-hl];exact h1) (by simpa using ew) ⟨rfl,fin⟩) hs
theorem E5(aw:List Value)(n j:Nat)(u:Value):Obj.mapSeq (·.setIfInBounds j u) {cls:= .type "list",data:= .seq aw.toArray n}= {cls:= .type "list",data:= .seq (aw.set j u).toArray n}:=by
 simp[Obj.mapSeq]
theorem Inv.lst{pins:List (Addr×Obj)}{σ:St}{H:Hp}{s:Shared}{p:Addr}{xs:List V}(I:Inv X pins σ H s)(h:H p=some (.lst xs)):
 ∃(aw:List Value) (n:Nat),Vals xs aw/\s.heap.get? p=some {cls:= .type "list",data:= .seq aw.toArray n}/\xs.length<=sizeLine:=by
 obtain⟨z,aw,n,r,e⟩:=I.aP p _ h;exact⟨aw,n,r,e,z⟩
theorem Inv.MX{pins:List (Addr×Obj)}{σ:St}{H:Hp}{s:Shared}{p:Addr}{xs ys:List V}{aw its':List Value}{n n':Nat}{f:Obj->Obj}(I:Inv X pins σ H s)(h:H p=some (.lst xs))
 (ho:s.heap.get? p=some {cls:= .type "list",data:= .seq aw.toArray n}) (hf:f {cls:= .type "list",data:= .seq aw.toArray n}= {cls:= .type "list",data:= .seq its'.toArray n'}) (r:Vals ys its') (hz:ys.length<=sizeLine) (t:Nat):
 Inv X pins σ (upd H p (.lst ys)) {s with heap:=s.heap.update p f,toks:=t}:=by
 have e:(s.heap.update p f).get? p=some {cls:= .type "list",data:= .seq its'.toArray n'}:=by
  rw[Heap.get?_update_self f ho (by rw[hf]<;>rfl),hf]
 refine I.write (x:=p) (e:=p) (by rw[h];trivial) (.inl rfl) (fun b u hb q=>(Heap.get?_update_other _ _ (Ne.symm hb)).trans q) ⟨_,e⟩ ?_;exact⟨hz,its',n',r,e⟩
def vz:V->V->V->Hp->(Hp->Prop)->Prop:=fun o i v H Q=>∃p xs k j,o= .ref p/\i= .int k/\H p=some (.lst xs)/\mH xs.length k=some j/\Q (upd H p (.lst (xs.set j v)))
theorem set_list:ON X vz:=by
 intro pins s σ H o i v ov iv u Q I ro ri rv h;obtain⟨p,xs,k,j,rfl,rfl,hp,hj,q⟩:=h;cases ro;obtain⟨t,rfl⟩:=ri;obtain⟨aw,n,r,ho,hz⟩:=I.lst hp;obtain⟨h1,h2,h3,h4⟩:=Du hj;have hl:=r.length;have hn:=uj
 have I':Inv X pins σ (upd H p (.lst (xs.set j v))) {s with heap:=s.heap.update p (Obj.mapSeq (·.setIfInBounds j u))}:=
  I.MX hp ho (E5 aw n j u) (r.set rv j) (by rw[List.length_set];exact hz) s.toks
 by_cases h0:0<=k
 . have hk:k.toNat=j:=by
    rw[seqIndex_of h0 h4]at h1;exact Option.some.inj h1
   exact PySem.W.ki_setAt ho h0 (by omega) (by rw[List.size_toArray,<-hl];exact h4) (by rw[hk];exact⟨_,I',q⟩)
 . have hk:(k+(aw.toArray.size:Int)).toNat=j:=by
    rw[seqIndex_neg (by omega) h3]at h1;rw[List.size_toArray,<-hl];exact Option.some.inj h1
   exact PySem.W.ki_setBack ho (by omega) (by rw[List.size_toArray,<-hl];exact h3) (by omega) (by rw[hk];exact⟨_,I',q⟩)
theorem AQ(lo hi:Option Int)(n:Nat):(sliceBounds lo hi none n).1=((HT.cy n 0 lo:Nat):Int)/\(sliceBounds lo hi none n).2.1=((HT.cy n n hi:Nat):Int)/\(sliceBounds lo hi none n).2.2=1:=by
 refine⟨?_,?_,rfl⟩
 . cases lo with
   |none=>simp[sliceBounds,HT.cy]
   |some i=>
    simp only[sliceBounds,HT.cy,Option.getD_none,show(1:Int)>0 by decide,if_true];by_cases h:i<0
    . simp only[h,if_true]<;>omega
    . simp only[h,if_false]<;>omega
 . cases hi with
   |none=>simp[sliceBounds,HT.cy]
   |some i=>
    simp only[sliceBounds,HT.cy,Option.getD_none,show(1:Int)>0 by decide,if_true];by_cases h:i<0
    . simp only[h,if_true]<;>omega
    . simp only[h,if_false]<;>omega
theorem Ap(aw:List Value)(lo hi:Option Int):slicePick aw.toArray lo hi none=((aw.drop (HT.cy aw.length 0 lo)).take (HT.cy aw.length aw.length hi-HT.cy aw.length 0 lo)).toArray:=by
 obtain⟨h1,h2,h3⟩:=AQ lo hi aw.toArray.size;unfold slicePick;rw[h1,h2,h3];simp only[sliceRange_one,pick_run,List.size_toArray]<;>rfl
def RD(K:PySem.W.Frag):V->Option Int->Option Int->Hp->VK->Prop:=fun x lo hi H Q=>∃a xs,x= .ref a/\nN K H a xs/\∀p,H p=none->Q (.ref p) (upd H p (.lst (tJ xs lo hi)))
theorem DN:FI X (RD X.K):=by
 intro pins s σ H x v vl vu lo hi sl Q I rx hs pl pu h;obtain⟨a,xs,rfl,hx,q⟩:=h;cases rx;obtain⟨aw,r,ht,hz⟩:=I.list hx;have hlen:=r.length;refine⟨"list",_,slot_list_getitem.lookup,ht.isList.typeIs,?_⟩;refine wpAny_getItem_list_slice ht.isList hs pl pu .none (by simp) ?_ (by rw[List.size_toArray]<;>omega);rw[Ap,<-hlen];refine⟨.ref s.heap.objs.size,_,I.laid (t':=s.toks) (o:= .lst (tJ xs lo hi)) (fun b ob q=>Heap.get?_push_of_some _ q) (Nat.le_refl _) ?_,rfl,q _ (I.aP.fresh (Nat.le_refl _))⟩;exact⟨Nat.le_trans (vS xs lo hi) hz,_,0,(r.drop (HT.cy xs.length 0 lo)).take (HT.cy xs.length xs.length hi-HT.cy xs.length 0 lo),Heap.get?_push_size _ rfl⟩
theorem CM:de X (.builtin "len") (fun xs H Q=>∃p ys,xs=[.ref p]/\(nN X.K H p ys\/jA X.K H p ys)/\Q (.int ys.length) H):=by
 intro pins s σ H xs us Q I r h;obtain⟨p,ys,rfl,hq,q⟩:=h;obtain⟨u,rfl,rx⟩:=vals1 r;cases rx;have hn:=uj;rcases hq with hq|hq
 . obtain⟨aw,r',pl,hz⟩:=I.list hq;have hlen:=r'.length;exact Calls.call_len_list pl.isList (by simp only[List.size_toArray]<;>omega) ⟨.int ys.length,H,I.tok _,⟨s.toks+1,by rw[List.size_toArray,hlen]⟩,q⟩
 . obtain⟨aw,r',pl,hz⟩:=I.tuple hq;have hlen:=r'.length;exact len_tuple pl (by simp only[List.size_toArray]<;>omega) ⟨.int ys.length,H,I.tok _,⟨s.toks+1,by rw[List.size_toArray,hlen]⟩,q⟩
theorem BG:de X (.builtin "len") (fun xs H Q=>∃z,xs=[.str z]/\z.length<=sizeLine/\Q (.int z.length) H):=by
 intro pins s σ H xs us Q I r h;obtain⟨z,rfl,hz,q⟩:=h;obtain⟨u,rfl,t,rfl⟩:=vals1 r;have hn:=uj;exact len_str (by omega) ⟨.int z.length,H,I.tok _,⟨_,rfl⟩,q⟩
theorem va:de X (.type "list") (fun xs H Q=>∃p ys,xs=[.ref p]/\(nN X.K H p ys\/jA X.K H p ys)/\∀l,H l=none->Q (.ref l) (upd H l (.lst ys))):=by
 intro pins s σ H xs us Q I r h;obtain⟨p,ys,rfl,hq,q⟩:=h;obtain⟨u,rfl,rx⟩:=vals1 r;cases rx
 have fin:∀(aw:List Value),Vals ys aw->ys.length<=sizeLine->∀(h':Heap) (c':Nat),(∀b o',s.heap.get? b=some o'->h'.get? b=some o')->
  h'.get? s.heap.objs.size=some {cls:= .type "list",dict:=none,data:= .seq aw.toArray c',slots:= #[]}->EP X pins σ Q (.ref s.heap.objs.size) {s with heap:=h'}:=fun aw r' hz h' c' kp e=>
  ⟨.ref s.heap.objs.size,_,I.laid (t':=s.toks) kp (Nat.le_refl _) (show dY X.prog X.w _ h' _ (.lst ys)from⟨hz,aw,c',r',e⟩),rfl,q _ (I.aP.fresh (Nat.le_refl _))⟩
 rcases hq with hq|hq
 . obtain⟨aw,r',pl,hz⟩:=I.list hq;have hlen:=r'.length;obtain⟨o,ho,hc,n,hd⟩:=pl.isList;exact call_list_seq p (.inl rfl) ho hc hd (fun h' c' kp e=>fin aw r' hz h' c' kp e) (by simp only[List.size_toArray]<;>omega)
 . obtain⟨aw,r',pl,hz⟩:=I.tuple hq;have hlen:=r'.length;obtain⟨o,ho,hc,n,hd⟩:=pl;exact call_list_seq p (.inr rfl) ho hc hd (fun h' c' kp e=>fin aw r' hz h' c' kp e) (by simp only[List.size_toArray]<;>omega)
theorem Ag:de X (.type "tuple") (fun xs H Q=>∃p ys,xs=[.ref p]/\((nN X.K H p ys/\∀l,H l=none->Q (.ref l) (upd H l (.tup ys)))\/(jA X.K H p ys/\Q (.ref p) H))):=by
 intro pins s σ H xs us Q I r h;obtain⟨p,ys,rfl,h⟩:=h;obtain⟨u,rfl,rx⟩:=vals1 r;cases rx;rcases h with⟨hq,q⟩|⟨hq,q⟩
 . obtain⟨aw,r',pl,hz⟩:=I.list hq;have hlen:=r'.length;refine call_tuple_list pl.isList (fun h' kp=>?_) (by simp only[List.size_toArray]<;>omega);have I1:Inv X pins σ H {s with heap:=h'}:=I.kept (t':=s.toks) kp
   have I2:Inv X pins σ (upd H h'.objs.size (.tup ys)) {s with heap:=h'.push {cls:= .type "tuple",data:= .seq aw.toArray}}:=
    I1.laid (t':=s.toks) (fun b o e=>Heap.get?_push_of_some _ e) (Nat.le_refl _) (show dY X.prog X.w _ _ _ (.tup ys)from⟨hz,aw,r',IsTup.new _ _⟩)
   exact⟨.ref h'.objs.size,_,I2,rfl,q _ (I1.aP.fresh (Nat.le_refl _))⟩
 . obtain⟨aw,r',pl,hz⟩:=I.tuple hq;exact call_tuple_same pl ⟨.ref p,H,I,rfl,q⟩
def Q_(K:PySem.W.Frag)(T:String)(x:V)(H:Hp):Prop:=match x with
 | .str _=>T="str"
 | .int _=>T="int"
 | .ref p=>(T="list"/\∃xs,nN K H p xs)\/(T="tuple"/\∃o,K.lookup p=some o/\o.cls= .type "tuple"/\o.dict=none)\/
    (T="dict"/\((∃kvs,H p=some (.dK kvs))\/∃kvs,H p=some (.dT kvs)))\/(T="set"/\∃S n,H p=some (.set S n))
 |_=>False
theorem NF{pins:List (Addr×Obj)}{σ:St}{H:Hp}{s:Shared}{T:String}{x:V}{v:Value}(I:Inv X pins σ H s)(r:RelV x v)(ty:Q_ X.K T x H):
 s.TypeIs v T/\∀a,v= .ref a->∃ob,s.heap.get? a=some ob/\ob.dict=none:=by
 cases x with
 |str z=>
  obtain⟨t,rfl⟩:=r;cases (show T="str" from ty);exact⟨typeIs_str s z t,fun _ e=>nomatch e⟩
 |int i=>
  obtain⟨t,rfl⟩:=r;cases (show T="int" from ty);exact⟨typeIs_int s i t,fun _ e=>nomatch e⟩
 |ref p=>
  cases r;rcases ty with⟨rfl,xs,hq⟩|⟨rfl,o,hk,hc,hd⟩|⟨rfl,hk⟩|⟨rfl,S,n,hk⟩
  . obtain⟨aw,_,pl,_⟩:=I.list hq;refine⟨pl.isList.typeIs,fun a e=>?_⟩;cases e;obtain⟨o,n,e,c,hd,_⟩:=pl;exact⟨o,e,hd⟩
  . refine⟨⟨o,I.iy p o hk,hc⟩,fun a e=>?_⟩;cases e;exact⟨o,I.iy _ o hk,hd⟩
  . have z:∃o,s.heap.get? p=some o/\o.ExactDict:=by
     rcases hk with⟨kvs,hk⟩|⟨kvs,hk⟩
     . obtain⟨_,_,_,_,o,_,_,e,ex,_⟩:=I.aP p _ hk;exact⟨o,e,ex⟩
     . obtain⟨_,_,_,_,o,_,_,e,ex,_⟩:=I.aP p _ hk;exact⟨o,e,ex⟩
    obtain⟨o,e,ex⟩:=z;refine⟨⟨o,e,ex.1⟩,fun a e2=>?_⟩;cases e2;exact⟨o,e,ex.2.1⟩
  . obtain⟨o,_,_,_,e,ex,_⟩:=I.aP p _ hk;refine⟨⟨o,e,ex.1⟩,fun a e2=>?_⟩;cases e2;exact⟨o,e,ex.2.1⟩
 |_=>exact False.elim ty
def NC(K:PySem.W.Frag)(T:String)(r:V->List V->Hp->VK->Prop)(to:TE)(t:TA):TE:=fun σ H Q=>to σ H fun x H1=>Q_ K T x H1/\t σ H1 fun xs H2=>r x xs H2 Q
variable {o e:Expr}{es:List Expr}{to:TE}{t:TA}{name:Str}{apos cpos:Pos}{T id:String}{r:V->List V->Hp->VK->Prop}
theorem Kh(pa:PlainAttrs T)(slot:Slot T name id)(hty:typeOf (.builtin id)=pure (.type "method_descriptor"))(hm:N6 X id r)(ho:PE X o to)(ha:PA X (e::es) t)
 (hbase:attributeBase o name X.env (eval o X.env)=eval o X.env:=by rfl)
 (hfew:((backTo cpos (starEach (e::es) X.env)).all (fun x=> !x.1)&&(backToKw cpos (keywordEach [] X.env)).all (fun x=>x.1.isSome)
   &&decide ((e::es).length+([]:List Keyword).length+(if([]:List Keyword).isEmpty then 0 else 1)<30))=true:=by rfl)
 (hline:(apos.endLine==cpos.line)=true:=by rfl) (hs:starEach (e::es) X.env=(false,eval e X.env)::starEach es X.env:=by rfl) (hplain:(backTo cpos (starEach es X.env)).any (·.1)=false:=by rfl):
 PE X (.Call (.Attribute o name apos) (e::es) [] cpos) (NC X.K T r to t):=by
 intro pins s σ H Q I h;refine wpAny_Call_method_late hbase hfew hline rfl (cp (ho pins s σ H _ I h) fun v s1 ⟨x,H1,I1,r1,ty,q1⟩=>?_);obtain⟨h1,h2⟩:=NF I1 r1 ty;refine⟨T,id,pa,slot,hty,h1,h2,?_⟩;have hA:=ha cpos pins s1 σ H1 _ I1 q1;rw[hs]at hA⊢;refine Calls.callWith_builtin (by show(false||(backTo cpos (starEach es X.env)).any (·.1))=false;rw[hplain]<;>rfl) (Calls.evalArgs_plain ?_);exact cp hA fun us s2 ⟨vs,H2,I2,r2,q2⟩=>hm pins s2 σ H2 x vs v us Q I2 r1 r2 q2
/-xs.append(e),list.index on a module's tuple .. are N6 facts of 06m-/
end
def Q7(X:Cx)(id:String)(r:V->List V->Hp->VK->Prop):Prop:=
 ∀(pins:List (Addr×Obj)) (s:Shared) (σ:St) (H:Hp) (x:V) (xs:List V) (v:Value) (us:List Value) (Q:VK),Inv X pins σ H s->RelV x v->Vals xs us->r x xs H Q->
  wpAny (model X.prog X.w) X.A (call (.builtin id) (v::us)) (EP X pins σ Q) X.xe s
theorem Vals.one:∀ {x:V} {us:List Value},Vals [x] us->∃u,us=[u]/\RelV x u
 |_,_,.cons r .nil=>⟨_,rfl,r⟩
theorem Vals.rep{xs:List V}{us:List Value}(h:Vals xs us):∀k:Nat,Vals (List.replicate k xs).flatten (List.replicate k us).flatten
 |0=> .nil
 |k+1=>by
  rw[List.replicate_succ,List.replicate_succ,List.flatten_cons,List.flatten_cons];exact Vals.append h (Vals.rep h k)
theorem foldl_rep(aw:List Value):∀(k:Nat) (acc:List Value),
 List.foldl (fun x1 x2=>x1++x2) acc.toArray (List.replicate k aw.toArray)=(acc++(List.replicate k aw).flatten).toArray
 |0,acc=>by simp
 |k+1,acc=>by
  have e:acc.toArray++aw.toArray=(acc++aw).toArray:=by simp
  have e2:(acc++aw)++(List.replicate k aw).flatten=acc++(List.replicate (k+1) aw).flatten:=by
   rw[List.replicate_succ,List.flatten_cons,List.append_assoc]
  rw[<-e2,<-foldl_rep aw k (acc++aw),<-e,List.replicate_succ,List.foldl_cons]
section
variable {X:Cx}{pins:List (Addr×Obj)}{σ:St}{H:Hp}{s:Shared}{l b:Addr}{xs ys zs:List V}
theorem Inv.N9{aw its':List Value}{n:Nat}{f:Array Value->Array Value}{t':Nat}(I:Inv X pins σ H s)(hH:H l=some (.lst xs))
 (e:s.heap.get? l=some {cls:= .type "list",data:= .seq aw.toArray n}) (hf:f aw.toArray=its'.toArray) (hv:Vals ys its') (hz:ys.length<=sizeLine):
 Inv X pins σ (upd H l (.lst ys)) {s with heap:=s.heap.update l (Obj.mapSeq f),toks:=t'}:=by
 have q:=PySem.IsL.update e f;rw[hf]at q;refine I.write (x:=l) (e:=l) (by rw[hH];exact trivial) (.inl rfl) (fun b' u hb hu=>(Heap.get?_update_other s.heap (Obj.mapSeq f) (Ne.symm hb)).trans hu) ⟨_,q⟩ ?_;exact⟨hz,its',_,hv,q⟩
theorem Inv.Iw{aw:List Value}{t':Nat}(I:Inv X pins σ H s)(hv:Vals ys aw)(hz:ys.length<=sizeLine):
 Inv X pins σ (upd H s.heap.objs.size (.lst ys)) {s with heap:=s.heap.push {cls:= .type "list",data:= .seq aw.toArray},toks:=t'}:=
 I.laid (fun _ _ q=>Heap.get?_push_of_some _ q) (Nat.le_refl _) ⟨hz,aw,0,hv,Heap.get?_push_size _ rfl⟩
theorem Inv.fresh(I:Inv X pins σ H s):H s.heap.objs.size=none:=I.aP.fresh (Nat.le_refl _)
theorem Inv.Of(I:Inv X pins σ H s)(hH:H l=some (.lst xs)):xs.length<=sizeLine/\∃(aw:List Value) (n:Nat),Vals xs aw/\xs.length=aw.length/\s.heap.get? l=some {cls:= .type "list",data:= .seq aw.toArray n}:=by
 obtain⟨z,aw,n,r,e⟩:=I.aP l _ hH;exact⟨z,aw,n,r,r.length,e⟩
theorem Ih{n:Nat}(h:n<=sizeLine):Builtin.List.listTooLong n=false:=by
 unfold Builtin.List.listTooLong;exact decide_eq_false (by omega)
end
section
variable {X:Cx}
def DX:V->List V->Hp->VK->Prop:=fun x vs H Q=>∃l xs y,x= .ref l/\vs=[y]/\H l=some (.lst xs)/\xs.length<sizeLine/\Q .aE (upd H l (.lst (xs++[y])))
theorem zB:Q7 X "list.append" DX:=by
 intro pins s σ H x vs v us Q I rx rv h;obtain⟨l,xs,y,rfl,rfl,hH,hz,q⟩:=h;cases rx;obtain⟨u,rfl,ru⟩:=rv.one;obtain⟨z,aw,n,r,hl,e⟩:=I.Of hH;refine call_meets F.slot_list_append ⟨_,e,rfl⟩ F.entry_list_append (F.args_list_append_2 _ _) (PySem.list_append l aw.toArray n u (by rw[List.size_toArray];omega)) ⟨e,?_⟩;refine⟨.aE,_,I.N9 (its':=aw++[u]) hH e (by simp) (r.append (.cons ru .nil)) ?_,rfl,q⟩;rw[List.length_append,List.length_singleton];omega
theorem len_rep{α:Type}(xs:List α)(k:Nat):(List.replicate k xs).flatten.length=k*xs.length:=by
 induction k with
 |zero=>simp
 |succ k ih=>rw[List.replicate_succ,List.flatten_cons,List.length_append,ih,Nat.succ_mul,Nat.add_comm]
end
section
variable {prog:Program}{w:World}{A:Around}{E:Value->Shared->Prop}{s:Shared}
set_option maxRecDepth 100000 in
end
section
variable {X:Cx}
end
end L2
namespace Att
open PySem PySem.W PySem.Calls PyProof.Rows
theorem xQ{P:Params}{h:Heap}:∀(ns:List Int) (vs:List Value),WellAll P h vs (ns.map WData.int)->IntsAre vs ns:=by
 intro ns;induction ns with
 |nil=>
  intro vs w;rw[List.map_nil]at w;cases w;exact .nil
 |cons n ns ih=>
  intro vs w;rw[List.map_cons]at w;cases w with
  |cons a b=>
   cases a;exact .cons _ _ (ih _ b)
theorem Fy{l:OpenLaw}{n:Nat}(hn:l.most=some n){P:Params}{h:Heap}{args:List WData}{vals:List Value}
 (hpre:l.row.toRowW.claim.pre args=true) (hwl:WellAll P h vals args):
 ∃a vs ns,vals=[Value.ref a]/\args=[WData.list (ns.map WData.int)]/\h.get? a=some {cls:= .type "list",data:= .seq vs.toArray}/\IntsAre vs ns/\ns.length<=n:=by
 have hsh:WShape.hasAll [] args [.list .int]=true:=(pre_splitW hpre).1;have hc:l.pre.holds [] {args:=args}=true:=(pre_splitW hpre).2;obtain⟨d,r,rfl,h1,h2⟩:=hasAllW_cons hsh;obtain rfl:=hasAllW_nil h2;obtain⟨xs,rfl,h3⟩:=hasW_list h1;obtain⟨ns,rfl⟩:=items_int h3
 have hlen:ns.length<=n:=by
  unfold OpenLaw.pre at hc
  have h4:(WTm.not (.lt (.lit (.int (n:Int))) (.len (.arg 0)))).holds [] {args:=[.list (ns.map .int)]}=true:=by
   have h4:=(holds_andW hc).1;rw[hn]at h4;exact h4
  have h5:=condW_of h4 (w_not (w_lt w_lit (w_len_list (w_arg rfl))));rw[List.length_map]at h5;refine Nat.le_of_not_lt fun q=>?_;have q':(n:Int)<((ns.length:Nat):Int):=by omega
  first
   |(rw[decide_eq_true q']at h5;exact absurd h5 (by decide))
   |(simp at h5;omega)
 cases hwl with
 |cons w1 w2=>
  cases w2;cases w1 with
  |list ho hall=>exact⟨_,_,ns,rfl,rfl,ho,xQ ns _ hall,hlen⟩
theorem FA(l:OpenLaw)(args:List WData):l.row.toRowW.claim.post args (.bool true) args=true:=
 postW_of (r:=l.row.toRowW) (X:=(true==true))
  (show WShape.has [] (.bool true) .bool=true by first|rfl|decide|simp[WShape.has,WShape.arms,WShape.armsAll])
  (show(WTm.eq .res (.lit (.bool true))).value [] {args:=args,res:=some (.bool true),after:=args}=some (.bool (true==true))from w_eq_bool (w_res rfl) w_lit) rfl
theorem Dk{l:OpenLaw}{n:Nat}{q:Program}{loose:List Str}{XP:(Str->Option Value)->Heap->Prop}{YP:World->Heap->Prop}{d:DefRec}
 (hn:l.most=some n) (hdf:d.params.defaults=[])
 (call:∀(w:World) (s₀ s₁:Shared) (mg mb:Str->Option Value) (fa:Addr) (o:Obj) (pm cd doc:Value) (a:Addr) (vs:List Value) (ns:List Int),
   Ground q loose [] XP w s₀ mg mb s₁.heap->YP w s₁.heap->
   s₁.heap.get? fa=some o->o.data= .func (docDef d.name d.params d.body d.scope pm cd doc)->s₁.heap.CodeRec cd d.name->mg d.name=some (.ref fa)->
   s₁.heap.get? a=some {cls:= .type "list",data:= .seq vs.toArray}->IntsAre vs ns->ns.length<=n->s₁.gens= #[]->
   codeAny (model l.prog w) callerA (.call (.ref fa) ⟨[.ref a],[]⟩) (fun r s'=>r= .ok (.ret (.bool true))/\OldK s₁.heap s'.heap/\s'.os=s₁.os/\AllBare s'.gens) s₁):
 WalkO q loose XP YP l.row.toRowW d [] (fun f vs=>PySem.call f vs):=by
 intro w s₀ s₁ mg mb G Y fa o pm cd doc dV kV ho hd hcd hD hmg hg args vals as hpre hlay hrd hwl hlo;obtain rfl:dV= .none:=Dflts.none hD hdf;obtain rfl:kV= .none:=Dflts.noKw hD;obtain⟨a,vs,ns,rfl,rfl,hobj,hints,hlen⟩:=Fy hn hpre hwl;refine enter_call (codeAny_mono (call w s₀ s₁ mg mb fa o pm cd doc a vs ns G Y ho (fd_plain hd) hcd hmg hobj hints hlen hg) fun r s' hq=>?_);obtain⟨rfl,h2,h3,h4⟩:=hq;exact⟨.inl ⟨.bool true,.bool true,[],rfl,fun _=>rfl,.bool true,FA l _,fun _=>⟨List.Pairwise.nil,fun _ hm=>(nomatch hm)⟩⟩,h2,h3,h4⟩
section
variable {prog:Program}{w:World}{A:Around}{E:Value->Shared->Prop}{s:Shared}{K:Frag}
end
end Att
namespace L2
open PySem PySem.Spec PyProof.Rows
end L2
/-THE LAST THEOREM (shape;LID,My.*are yours):
 My.Adr:a structure of the addresses that your layer names (classes,functions);My.Txt K t:a structure (Prop) of the equations over K;
 My.txt_mk:{K} {implicit addresses ..} (e1:nsIn K mainGlobals "law"=some (some (.ref f))) (e2:K.lookup f=some ⟨oc,od,.func (fnOf "law" "law" params body scope dV kV doc pm an cdv ct),sl⟩) (e3:codeIn K cdv "law"=true) .. :∃t,My.Txt K t
set_option maxRecDepth 100000 in
set_option maxHeartbeats 0 in
(the tactic k_is has no namespace:write k_is)-/
namespace L2
open PySem PySem.Spec PyProof.Rows
def inClass(s:Stmt)(j:Nat):Stmt:=match s with
 | .ClassDef _ _ _ body _ _ _ _ _ _ _=>body.getD j (.Pass ⟨0,0,0,0⟩)
 |_=> .Pass ⟨0,0,0,0⟩
def jY(s:Stmt):Arguments:=match s with
 | .FunctionDef _ a _ _ _ _ _ _ _ _=>a
 |_=>{posonlyargs:=[],args:=[],vararg:=none,kwonlyargs:=[],kw_defaults:=[],kwarg:=none,defaults:=[]}
def gz(s:Stmt):List Stmt:=match s with
 | .FunctionDef _ _ b _ _ _ _ _ _ _=>b
 |_=>[]
def ai(s:Stmt):Scope:=match s with
 | .FunctionDef _ _ _ _ _ _ sc _ _ _=>sc
 |_=>{kind:= .function,names:=[],isGenerator:=false,isCoroutine:=false}
abbrev cz:wd:=fun _ _ _ _ _ _=>False
abbrev E0:XK:=fun _ _ _=>False
theorem Fd{X:Cx}:Passes cz X E0:=fun _ _ _ _ _ _ _ h=>h.elim
structure pA(K:PySem.W.Frag)(x qual:Str)(st:Stmt)(f:Addr)(fd:FuncData):Prop where
 ex:∃(oc:Value) (od:Option Addr) (kV doc pm:Value) (an:Option Addr) (cdv ct:Value) (osl:Array (Option Value)),
  fd=PySem.W.fnOf x qual (jY st) (gz st) (ai st) .none kV doc pm an cdv ct/\K.lookup f=some ⟨oc,od,.func fd,osl⟩/\PySem.W.codeIn K cdv qual=true
 kp:PySem.W.keepIn K (.ref f)=true
section
variable {P:Program}{w:World}{K:PySem.W.Frag}{mg:Str->Option Value}{base:Heap}
theorem pA.ok{x qual:Str}{st:Stmt}{f:Addr}{fd:FuncData}{N ps:List Str}{k:Nat}{sp:Sp}(F:pA K x qual st f fd)(S:aO N ps (ai st))(len:∀vs H Q E,sp vs H Q E->vs.length=ps.length)
 (hbody:∀(cdv:Value) (A:Around) (outer:List Env) (s:Shared) (H:Hp) (vs:List V) (Q:VK) (E:XK),dn k (A.deeper (envOfC qual (ai st) s.heap.objs.size f cdv))->sp vs H Q E->
   ∃t,iA (sv cz P w K mg base N qual (ai st) f cdv A outer s H E).ye (gz st) t/\t {nx:=fun _ H'=>Q .aE H',rt:=Q} (start N vs) H):bh P w K mg base cz (k+1) f fd ps sp:=by
 obtain⟨oc,od,kV,doc,pm,an,cdv,ct,osl,rfl,lk,hcd⟩:=F.ex;refine Jy lk hcd S len fun A outer s H vs Q E hr hsp=>?_;obtain⟨t,h,q⟩:=hbody cdv A outer s H vs Q E hr hsp;exact⟨t,h.ye,q⟩
theorem pA.binds{x qual:Str}{st:Stmt}{f:Addr}{fd:FuncData}{ps:List Str}(F:pA K x qual st f fd)
 (h:∀(kV doc pm:Value) (an:Option Addr) (cdv ct:Value) (us:List Value),us.length=ps.length->bindArgs (PySem.W.fnOf x qual (jY st) (gz st) (ai st) .none kV doc pm an cdv ct) ⟨us,[]⟩=pure (ps.zip us)):Binds K fd ps []:=by
 obtain⟨oc,od,kV,doc,pm,an,cdv,ct,osl,rfl,lk,hcd⟩:=F.ex;exact .all (h kV doc pm an cdv ct)
theorem Gw{x qual:Str}{st:Stmt}{f:Addr}{oc:Value}{od an:Option Addr}{osl:Array (Option Value)}{kV doc pm cdv ct:Value}(l:K.lookup f=some ⟨oc,od,.func (PySem.W.fnOf x qual (jY st) (gz st) (ai st) .none kV doc pm an cdv ct),osl⟩)
 (c:PySem.W.codeIn K cdv qual=true) (k:PySem.W.keepIn K (.ref f)=true):pA K x qual st f (PySem.W.fnOf x qual (jY st) (gz st) (ai st) .none kV doc pm an cdv ct):=⟨⟨oc,od,kV,doc,pm,an,cdv,ct,osl,rfl,l,c⟩,k⟩
end
section
variable {X:Cx}
end
theorem RZ{A B:Prop}(h:B):if false=true then A else B:=by
 rw[if_neg Bool.false_ne_true];exact h
theorem dM{A B:Prop}(h:A):if true=true then A else B:=by
 rw[if_pos rfl];exact h
def Iq(H H':Hp):Prop:=∀b o,H b=some o->H' b=some o
end L2
set_option maxHeartbeats 4000000
namespace Hd
open PySem PySem.W PySem.Calls PyProof.Rows
noncomputable def bt (P:Params):BT:=(.node (boot_o_0 P) (.node (boot_o_1 P) (.node (boot_o_3 P) (.node (boot_o_7 P) .nil .nil) .nil) (.node (boot_o_5 P) (.node (boot_o_9 P) .nil .nil) .nil)) (.node (boot_o_2 P) (.node (boot_o_4 P) (.node (boot_o_8 P) .nil .nil) .nil) (.node (boot_o_6 P) (.node (boot_o_10 P) .nil .nil) .nil)))
theorem N7(P:Params):absHeap (bt P) 11 (boot_heap P).life=boot_heap P:=by kernel_rfl
noncomputable def run (p:Program) (w:World) (n:Nat) (ann:Option Value):Nat->SharedT->Thread->Option SharedT
 |0,_,_=>none
 |k+1,s,t=>match through t with
  |true=>some s
  |false=>match Fast.tw6613529449190102663 n ann t with
   |false=>none
   |true=>match Fast.tw10156331382660048174 (Fast.tw11892475500146522536 Fast.tw14364793385576792824) p w s t with
    |some (s',t')=>run p w n ann k s' t'
    |none=>none
theorem Fu{p:Program}{w:World}{n:Nat}{ann:Option Value}:∀ {k:Nat} {s s':SharedT} {t:Thread},run p w n ann k s t=some s'->topRun treeTable p w n ann k s.abs t=some s'.abs
 |0,_,_,_,h=>by cases h
 |k+1,s,s',t,h=>by
  unfold run at h;unfold topRun;cases he:through t with
  |true=>rw[he]at h;cases h;rfl
  |false=>
   rw[he]at h;rw[<-Fast.te6613529449190102663,<-Fast.te10156331382660048174,<-Fast.te11892475500146522536,<-Fast.te14364793385576792824]at h;cases hk:stepOk n ann t with
   |false=>simp only[hk]at h;cases h
   |true=>
    simp only[hk]at h;cases hs:stepT (denote treeTable) p w s t with
    |none=>rw[hs]at h;cases h
    |some r=>obtain⟨s2,t2⟩:=r;rw[hs]at h;rw[stepT_spec hs];exact Fu h
noncomputable def b0 (w:World) (os:OsState):SharedT:=⟨bt w.params,11,(boot_heap w.params).life,⟨[]⟩,boot_drawn,boot_toks,os⟩
theorem Oz(w:World)(os:OsState):(b0 w os).abs=⟨boot_heap w.params,⟨[]⟩,boot_drawn,boot_toks,os⟩:=by
 unfold b0 SharedT.abs;dsimp only;rw[N7]
theorem left{p q:Program}{loose:List Str}{α:Type}{Yf:Shared->α}{Ya:World->α}{N:Nat}
 (e:opening p=plainProg p.main.scope.names) (f:∀s,fenceModules? p s=some s) (hN:Nat.ble 600 N=true)
 (h:∀(w:World) (os:OsState),(run p w 11 (some (.ref 6)) N (b0 w os) (topStub p)).bind (fun s=>match staticsOk (importedModules p.main.body) (boot_heap w.params) s.abs.heap&&namesBound p s.abs.heap&&gensDone s.abs&&laidKept (boot_heap w.params) s.abs.heap with
   |true=>some (Fast.tw4187177175401517315 q loose (importedModules p.main.body) (fun _=>true) true s.abs,Yf s.abs)
   |false=>none)=some (openGood q loose,Ya w)):LeftO p q loose (fun _=>true) Yf Ya N:=fun w=>by
 obtain⟨⟨hp,gs,d,k,os⟩,e1,e2⟩:=Option.map_eq_some_iff.mp (boot_open e hN f w);obtain⟨rfl,rfl,rfl,rfl⟩:hp=boot_heap w.params/\gs=⟨[]⟩/\d=boot_drawn/\k=boot_toks:=by simpa using e2
 obtain⟨s,r1,r2⟩:=Option.bind_eq_some_iff.mp (h w os);have r3:=Fu r1;rw[Oz]at r3;rw[<-Fast.te4187177175401517315]at r2;unfold openEnds;rw[e1];show(topFrom treeTable p w N _).map _=_;unfold topFrom;rw[show((boot_heap w.params).isNs mainGlobals&&(⟨[]⟩:Array GenState).size==0)=true from by kernel_rfl];dsimp only;rw[show(boot_heap w.params).objs.size=11 from by kernel_rfl,show(boot_heap w.params).nsMap mainGlobals "__annotations__"=some (.ref 6)from by kernel_rfl,r3];show((match staticsOk (importedModules p.main.body) (boot_heap w.params) s.abs.heap&&namesBound p s.abs.heap&&gensDone s.abs&&laidKept (boot_heap w.params) s.abs.heap with|true=>some s.abs|false=>none):Option Shared).map _=_;cases z:(staticsOk (importedModules p.main.body) (boot_heap w.params) s.abs.heap&&namesBound p s.abs.heap&&gensDone s.abs&&laidKept (boot_heap w.params) s.abs.heap)with
 |false=>rw[z]at r2;cases r2
 |true=>rw[z]at r2;exact r2
def fo(st:Stmt)(x q:Str)(pm cd:Value):Obj:=⟨.type "function",none,.func (fnOf x q (L2.jY st) (L2.gz st) (L2.ai st) .none .none .none pm none cd .none),#[]⟩
abbrev e(x:Str)(t:Nat)(v:Value):Str×Nat×Value:=(x,t,v)
abbrev k(a:Addr)(o:Obj):Addr×Obj:=(a,o)
def no(P:Params)(n:Nat)(l:List (Str×Nat×Value)):Obj:=⟨.type "dict",none,.dict (l.map fun e=>⟨PyData.keyHash P e.1,.str e.1 e.2.1,e.2.2⟩).toArray n,#[]⟩
def fd(st:Stmt)(x q:Str)(pm:Value)(c:Addr):FuncData:=fnOf x q (L2.jY st) (L2.gz st) (L2.ai st) .none .none .none pm none (.ref c) .none
def fq(st:Stmt)(x q:Str)(pm:Value)(c:Addr):Obj:=⟨.type "function",none,.func (fd st x q pm c),#[]⟩
def co(x q:Str)(t:Nat)(line argc:Int)(a b:Addr)(u v:Value)(d:Addr)(i:Int)(z:Nat):Obj:=⟨.type "code",none,.fields #[.str x t,.str q (t+1),.str "/claim/cut.py" (t+2),.int line 0,.int argc 0,.int 0 0,.int 0 0,.int 3 0,.ref a,.bool true,.int 181 0,.ref b,.none,u,v,.ref d,.int i 0,.int line 0,.str "/claim/cut.py" z],#[]⟩
end Hd
namespace Row
open PySem L2
open PySem.Spec hiding items?
open PyProof.Rows hiding St
def top(i:Nat):Stmt:=PySem.Challenge.pw_latticeworks_k19_whole_same_sums.main.body.getD i (.Pass ⟨0,0,0,0⟩)
abbrev PW:Program:=PySem.Challenge.pw_latticeworks_k19_whole_same_sums
abbrev ja:Stmt:=top 1
abbrev i7:Stmt:=top 2
abbrev fZ:Stmt:=top 3
abbrev fL:Stmt:=top 4
abbrev jP:Stmt:=top 6
abbrev mS:Stmt:=top 7
abbrev mJ:Stmt:=top 8
abbrev jR:Stmt:=top 9
abbrev kT:Stmt:=top 10
abbrev fM:Stmt:=top 11
abbrev iM:Stmt:=top 12
abbrev gO:Stmt:=top 13
abbrev gv:Stmt:=top 14
abbrev jS:Stmt:=top 15
abbrev j5:Stmt:=top 16
abbrev ia:Stmt:=top 17
abbrev lu:Stmt:=top 19
abbrev fK:Stmt:=top 20
abbrev eL:Stmt:=top 21
abbrev je:Stmt:=top 22
abbrev jT:Stmt:=top 23
abbrev dv:Stmt:=inClass (top 24) 0
abbrev iu:Stmt:=inClass (top 24) 1
abbrev fj:Stmt:=inClass (top 24) 2
abbrev eg:Stmt:=inClass (top 24) 3
abbrev dG:Stmt:=inClass (top 24) 4
abbrev gb:Stmt:=inClass (top 24) 5
abbrev eh:Stmt:=inClass (top 24) 6
abbrev jW:Stmt:=top 25
abbrev fh:Stmt:=top 26
abbrev lJ:Stmt:=top 27
abbrev mX:Stmt:=top 29
abbrev rW:Stmt:=top 30
abbrev rO:Stmt:=top 31
abbrev pk:Stmt:=top 32
abbrev pe:Stmt:=top 33
abbrev r_:Stmt:=top 34
abbrev o7:Stmt:=top 35
abbrev lQ:Stmt:=top 36
abbrev i8:Stmt:=top 38
abbrev i_:Stmt:=top 39
abbrev fF:Stmt:=top 40
abbrev mQ:Stmt:=top 41
abbrev gQ:Stmt:=top 42
abbrev j6:Stmt:=top 43
abbrev gj:Stmt:=top 44
abbrev f_:Stmt:=top 45
abbrev f9:Stmt:=top 46
abbrev iG:Stmt:=top 48
abbrev j7:Stmt:=top 49
abbrev h_:Stmt:=top 50
abbrev fS:Stmt:=top 51
abbrev i4:Stmt:=top 52
abbrev fG:Stmt:=top 53
abbrev df:Stmt:=top 54
abbrev kP:Stmt:=top 55
abbrev fI:Stmt:=top 56
abbrev eG:Stmt:=top 57
abbrev fe:Stmt:=top 58
abbrev nz:Stmt:=top 59
def tT:Value:=(.str "latticeworks.kinds" 187)
def fm:Value:=(.str "latticeworks.rows" 217)
def d5:Value:=(.str "latticeworks.standing" 305)
def jw:Value:=(.str "latticeworks.fractions" 466)
def g8:Value:=(.str "latticeworks.inside" 534)
def fb:Value:=(.str "law_latticeworks_k19_whole_same_sums" 618)
def KX(P:Params):PySem.W.Frag:=[Hd.k 3 (Hd.no P 63 [Hd.e "__name__" 165 (.str "law_latticeworks_k19_whole_same_sums" 618),Hd.e "__doc__" 166 .none,Hd.e "__package__" 167 .none,Hd.e "__loader__" 168 (.builtin "__main__.__loader__#opaque"),Hd.e "__spec__" 169 .none,Hd.e "__annotations__" 170 (.ref 6),Hd.e "__builtins__" 171 (.ref 4),Hd.e "__file__" 173 (.str "/claim/cut.py" 172),Hd.e "__cached__" 174 .none,Hd.e "is_number" 195 (.ref 21),Hd.e "is_listed" 202 (.ref 28),Hd.e "is_listed_of" 210 (.ref 35),Hd.e "are_numbers" 216 (.ref 40),Hd.e "as_rows" 224 (.ref 45),Hd.e "added" 230 (.ref 50),Hd.e "sum_by" 242 (.ref 57),Hd.e "product" 248 (.ref 62),Hd.e "column" 254 (.ref 67),Hd.e "turned_over" 260 (.ref 72),Hd.e "unit_row" 266 (.ref 77),Hd.e "unit_rows" 272 (.ref 82),Hd.e "nought_rows" 280 (.ref 89),Hd.e "is_rows" 286 (.ref 94),Hd.e "are_back" 295 (.ref 101),Hd.e "is_turn_of" 304 (.ref 108),Hd.e "lead_of" 315 (.ref 115),Hd.e "is_standing" 321 (.ref 120),Hd.e "nearest_quotient" 329 (.ref 127),Hd.e "exchanged" 339 (.ref 134),Hd.e "negated" 345 (.ref 139),Hd.e "Bench" 429 (.ref 194),Hd.e "standing" 440 (.ref 205),Hd.e "shows_standing" 452 (.ref 212),Hd.e "weighed" 465 (.ref 219),Hd.e "common" 478 (.ref 226),Hd.e "part" 487 (.ref 233),Hd.e "plus" 495 (.ref 240),Hd.e "minus" 503 (.ref 247),Hd.e "times" 511 (.ref 254),Hd.e "over" 519 (.ref 261),Hd.e "whole" 526 (.ref 268),Hd.e "is_part" 533 (.ref 275),Hd.e "parts_dot" 546 (.ref 282),Hd.e "bottom_at" 556 (.ref 289),Hd.e "parts_against" 569 (.ref 296),Hd.e "inside" 580 (.ref 303),Hd.e "are_parts" 586 (.ref 308),Hd.e "is_whole" 593 (.ref 315),Hd.e "parts_show" 599 (.ref 320),Hd.e "weights_show" 608 (.ref 327),Hd.e "shows_inside" 617 (.ref 334),Hd.e "_law_hand" 625 (.ref 339),Hd.e "_law_draw" 637 (.ref 346),Hd.e "_law_number" 646 (.ref 353),Hd.e "_law_rows" 652 (.ref 358),Hd.e "_law_sizes" 659 (.ref 365),Hd.e "_law_some_rows" 669 (.ref 372),Hd.e "_law_mixed_up" 675 (.ref 377),Hd.e "_law_by" 681 (.ref 382),Hd.e "_law_product" 687 (.ref 387),Hd.e "_law_other_rows" 693 (.ref 392),Hd.e "_law_all_inside" 704 (.ref 399),Hd.e "law" 721 (.ref 406)]),
 Hd.k 20 (Hd.co "is_number" "is_number" 189 2 1 15 16 (.ref 17) (.ref 18) 19 193 194),
 Hd.k 21 (Hd.fq ja "is_number" "is_number" tT 20),
 Hd.k 27 (Hd.co "is_listed" "is_listed" 196 4 1 22 23 (.ref 24) (.ref 25) 26 200 201),
 Hd.k 28 (Hd.fq i7 "is_listed" "is_listed" tT 27),
 Hd.k 34 (Hd.co "is_listed_of" "is_listed_of" 203 6 2 29 30 (.ref 31) (.ref 32) 33 208 209),
 Hd.k 35 (Hd.fq fZ "is_listed_of" "is_listed_of" tT 34),
 Hd.k 39 (Hd.co "are_numbers" "are_numbers" 211 8 2 36 37 .none .none 38 214 215),
 Hd.k 40 (Hd.fq fL "are_numbers" "are_numbers" tT 39),
 Hd.k 44 (Hd.co "as_rows" "as_rows" 219 11 1 41 42 .none .none 43 222 223),
 Hd.k 45 (Hd.fq jP "as_rows" "as_rows" fm 44),
 Hd.k 49 (Hd.co "added" "added" 225 13 3 46 47 .none .none 48 228 229),
 Hd.k 50 (Hd.fq mS "added" "added" fm 49),
 Hd.k 56 (Hd.co "sum_by" "sum_by" 231 15 3 51 52 (.ref 53) (.ref 54) 55 240 241),
 Hd.k 57 (Hd.fq mJ "sum_by" "sum_by" fm 56),
 Hd.k 61 (Hd.co "product" "product" 243 20 2 58 59 .none .none 60 246 247),
 Hd.k 62 (Hd.fq jR "product" "product" fm 61),
 Hd.k 66 (Hd.co "column" "column" 249 23 2 63 64 .none .none 65 252 253),
 Hd.k 67 (Hd.fq kT "column" "column" fm 66),
 Hd.k 71 (Hd.co "turned_over" "turned_over" 255 25 2 68 69 .none .none 70 258 259),
 Hd.k 72 (Hd.fq fM "turned_over" "turned_over" fm 71),
 Hd.k 76 (Hd.co "unit_row" "unit_row" 261 27 2 73 74 .none .none 75 264 265),
 Hd.k 77 (Hd.fq iM "unit_row" "unit_row" fm 76),
 Hd.k 81 (Hd.co "unit_rows" "unit_rows" 267 29 1 78 79 .none .none 80 270 271),
 Hd.k 82 (Hd.fq gO "unit_rows" "unit_rows" fm 81),
 Hd.k 88 (Hd.co "nought_rows" "nought_rows" 273 31 2 83 84 (.ref 85) (.ref 86) 87 278 279),
 Hd.k 89 (Hd.fq gv "nought_rows" "nought_rows" fm 88),
 Hd.k 93 (Hd.co "is_rows" "is_rows" 281 33 3 90 91 .none .none 92 284 285),
 Hd.k 94 (Hd.fq jS "is_rows" "is_rows" fm 93),
 Hd.k 100 (Hd.co "are_back" "are_back" 287 39 2 95 96 (.ref 97) (.ref 98) 99 293 294),
 Hd.k 101 (Hd.fq j5 "are_back" "are_back" fm 100),
 Hd.k 107 (Hd.co "is_turn_of" "is_turn_of" 296 46 3 102 103 (.ref 104) (.ref 105) 106 302 303),
 Hd.k 108 (Hd.fq ia "is_turn_of" "is_turn_of" fm 107),
 Hd.k 114 (Hd.co "lead_of" "lead_of" 307 49 1 109 110 (.ref 111) (.ref 112) 113 313 314),
 Hd.k 115 (Hd.fq lu "lead_of" "lead_of" d5 114),
 Hd.k 119 (Hd.co "is_standing" "is_standing" 316 54 1 116 117 .none .none 118 319 320),
 Hd.k 120 (Hd.fq fK "is_standing" "is_standing" d5 119),
 Hd.k 126 (Hd.co "nearest_quotient" "nearest_quotient" 322 64 2 121 122 (.ref 123) (.ref 124) 125 327 328),
 Hd.k 127 (Hd.fq eL "nearest_quotient" "nearest_quotient" d5 126),
 Hd.k 133 (Hd.co "exchanged" "exchanged" 330 66 3 128 129 (.ref 130) (.ref 131) 132 337 338),
 Hd.k 134 (Hd.fq je "exchanged" "exchanged" d5 133),
 Hd.k 138 (Hd.co "negated" "negated" 340 71 1 135 136 .none .none 137 343 344),
 Hd.k 139 (Hd.fq jT "negated" "negated" d5 138),
 Hd.k 150 (Hd.co "__init__" "Bench.__init__" 358 75 2 147 148 .none .none 149 361 362),
 Hd.k 151 (Hd.fq dv "__init__" "Bench.__init__" d5 150),
 Hd.k 157 (Hd.co "take" "Bench.take" 364 80 4 152 153 (.ref 154) (.ref 155) 156 371 372),
 Hd.k 158 (Hd.fq iu "take" "Bench.take" d5 157),
 Hd.k 164 (Hd.co "exchange" "Bench.exchange" 374 85 3 159 160 (.ref 161) (.ref 162) 163 380 381),
 Hd.k 165 (Hd.fq fj "exchange" "Bench.exchange" d5 164),
 Hd.k 171 (Hd.co "change_sign" "Bench.change_sign" 383 90 2 166 167 (.ref 168) (.ref 169) 170 388 389),
 Hd.k 172 (Hd.fq eg "change_sign" "Bench.change_sign" d5 171),
 Hd.k 176 (Hd.co "live_rows" "Bench.live_rows" 391 95 3 173 174 .none .none 175 394 395),
 Hd.k 177 (Hd.fq dG "live_rows" "Bench.live_rows" d5 176),
 Hd.k 183 (Hd.co "gather" "Bench.gather" 397 99 3 178 179 (.ref 180) (.ref 181) 182 406 407),
 Hd.k 184 (Hd.fq gb "gather" "Bench.gather" d5 183),
 Hd.k 190 (Hd.co "lower_above" "Bench.lower_above" 409 113 3 185 186 (.ref 187) (.ref 188) 189 416 417),
 Hd.k 191 (Hd.fq eh "lower_above" "Bench.lower_above" d5 190),
 Hd.k 193 (Hd.no P 4 [Hd.e "__module__" 353 (.str "latticeworks.standing" 305),Hd.e "__firstlineno__" 357 (.int (73) 356),Hd.e "__init__" 363 (.ref 151),Hd.e "take" 373 (.ref 158),Hd.e "exchange" 382 (.ref 165),Hd.e "change_sign" 390 (.ref 172),Hd.e "live_rows" 396 (.ref 177),Hd.e "gather" 408 (.ref 184),Hd.e "lower_above" 418 (.ref 191),Hd.e "__static_attributes__" 422 (.ref 192),Hd.e "__dict__" 424 (.ref 195),Hd.e "__weakref__" 426 (.ref 196),Hd.e "__doc__" 427 .none]),
 Hd.k 194 (⟨(.type "type"),none,.cls {name:="Bench",bases:=[(.type "object")],mro:=[(.ref 194),(.type "object")],ns:=193,qualname:="Bench",hasDict:=true,subclasses:=[],abstract:=false,hasDel:=false},#[none,none,(some (.str "Bench" 346)),(some (.str "Bench" 354)),(some (.builtin "object.__new__")),(some (.bool true))]⟩),
 Hd.k 204 (Hd.co "standing" "standing" 430 116 1 199 200 (.ref 201) (.ref 202) 203 438 439),
 Hd.k 205 (Hd.fq jW "standing" "standing" d5 204),
 Hd.k 211 (Hd.co "shows_standing" "shows_standing" 441 125 2 206 207 (.ref 208) (.ref 209) 210 450 451),
 Hd.k 212 (Hd.fq fh "shows_standing" "shows_standing" d5 211),
 Hd.k 218 (Hd.co "weighed" "weighed" 453 137 2 213 214 (.ref 215) (.ref 216) 217 463 464),
 Hd.k 219 (Hd.fq lJ "weighed" "weighed" d5 218),
 Hd.k 225 (Hd.co "common" "common" 468 147 2 220 221 (.ref 222) (.ref 223) 224 476 477),
 Hd.k 226 (Hd.fq mX "common" "common" jw 225),
 Hd.k 232 (Hd.co "part" "part" 479 155 2 227 228 (.ref 229) (.ref 230) 231 485 486),
 Hd.k 233 (Hd.fq rW "part" "part" jw 232),
 Hd.k 239 (Hd.co "plus" "plus" 488 160 2 234 235 (.ref 236) (.ref 237) 238 493 494),
 Hd.k 240 (Hd.fq rO "plus" "plus" jw 239),
 Hd.k 246 (Hd.co "minus" "minus" 496 162 2 241 242 (.ref 243) (.ref 244) 245 501 502),
 Hd.k 247 (Hd.fq pk "minus" "minus" jw 246),
 Hd.k 253 (Hd.co "times" "times" 504 164 2 248 249 (.ref 250) (.ref 251) 252 509 510),
 Hd.k 254 (Hd.fq pe "times" "times" jw 253),
 Hd.k 260 (Hd.co "over" "over" 512 166 2 255 256 (.ref 257) (.ref 258) 259 517 518),
 Hd.k 261 (Hd.fq r_ "over" "over" jw 260),
 Hd.k 267 (Hd.co "whole" "whole" 520 168 1 262 263 (.ref 264) (.ref 265) 266 524 525),
 Hd.k 268 (Hd.fq o7 "whole" "whole" jw 267),
 Hd.k 274 (Hd.co "is_part" "is_part" 527 170 1 269 270 (.ref 271) (.ref 272) 273 531 532),
 Hd.k 275 (Hd.fq lQ "is_part" "is_part" jw 274),
 Hd.k 281 (Hd.co "parts_dot" "parts_dot" 536 173 2 276 277 (.ref 278) (.ref 279) 280 544 545),
 Hd.k 282 (Hd.fq i8 "parts_dot" "parts_dot" g8 281),
 Hd.k 288 (Hd.co "bottom_at" "bottom_at" 547 178 3 283 284 (.ref 285) (.ref 286) 287 554 555),
 Hd.k 289 (Hd.fq i_ "bottom_at" "bottom_at" g8 288),
 Hd.k 295 (Hd.co "parts_against" "parts_against" 557 183 2 290 291 (.ref 292) (.ref 293) 294 567 568),
 Hd.k 296 (Hd.fq fF "parts_against" "parts_against" g8 295),
 Hd.k 302 (Hd.co "inside" "inside" 570 193 2 297 298 (.ref 299) (.ref 300) 301 578 579),
 Hd.k 303 (Hd.fq mQ "inside" "inside" g8 302),
 Hd.k 307 (Hd.co "are_parts" "are_parts" 581 200 2 304 305 .none .none 306 584 585),
 Hd.k 308 (Hd.fq gQ "are_parts" "are_parts" g8 307),
 Hd.k 314 (Hd.co "is_whole" "is_whole" 587 202 1 309 310 (.ref 311) (.ref 312) 313 591 592),
 Hd.k 315 (Hd.fq j6 "is_whole" "is_whole" g8 314),
 Hd.k 319 (Hd.co "parts_show" "parts_show" 594 204 3 316 317 .none .none 318 597 598),
 Hd.k 320 (Hd.fq gj "parts_show" "parts_show" g8 319),
 Hd.k 326 (Hd.co "weights_show" "weights_show" 600 208 3 321 322 (.ref 323) (.ref 324) 325 606 607),
 Hd.k 327 (Hd.fq f_ "weights_show" "weights_show" g8 326),
 Hd.k 333 (Hd.co "shows_inside" "shows_inside" 609 210 3 328 329 (.ref 330) (.ref 331) 332 615 616),
 Hd.k 334 (Hd.fq f9 "shows_inside" "shows_inside" g8 333),
 Hd.k 338 (Hd.co "_law_hand" "_law_hand" 620 217 1 335 336 .none .none 337 623 624),
 Hd.k 339 (Hd.fq iG "_law_hand" "_law_hand" fb 338),
 Hd.k 345 (Hd.co "_law_draw" "_law_draw" 626 219 2 340 341 (.ref 342) (.ref 343) 344 635 636),
 Hd.k 346 (Hd.fq j7 "_law_draw" "_law_draw" fb 345),
 Hd.k 352 (Hd.co "_law_number" "_law_number" 638 235 2 347 348 (.ref 349) (.ref 350) 351 644 645),
 Hd.k 353 (Hd.fq h_ "_law_number" "_law_number" fb 352),
 Hd.k 357 (Hd.co "_law_rows" "_law_rows" 647 240 4 354 355 .none .none 356 650 651),
 Hd.k 358 (Hd.fq fS "_law_rows" "_law_rows" fb 357),
 Hd.k 364 (Hd.co "_law_sizes" "_law_sizes" 653 255 1 359 360 (.ref 361) (.ref 362) 363 657 658),
 Hd.k 365 (Hd.fq i4 "_law_sizes" "_law_sizes" fb 364),
 Hd.k 371 (Hd.co "_law_some_rows" "_law_some_rows" 660 259 2 366 367 (.ref 368) (.ref 369) 370 667 668),
 Hd.k 372 (Hd.fq fG "_law_some_rows" "_law_some_rows" fb 371),
 Hd.k 376 (Hd.co "_law_mixed_up" "_law_mixed_up" 670 262 2 373 374 .none .none 375 673 674),
 Hd.k 377 (Hd.fq df "_law_mixed_up" "_law_mixed_up" fb 376),
 Hd.k 381 (Hd.co "_law_by" "_law_by" 676 278 3 378 379 .none .none 380 679 680),
 Hd.k 382 (Hd.fq kP "_law_by" "_law_by" fb 381),
 Hd.k 386 (Hd.co "_law_product" "_law_product" 682 283 3 383 384 .none .none 385 685 686),
 Hd.k 387 (Hd.fq fI "_law_product" "_law_product" fb 386),
 Hd.k 391 (Hd.co "_law_other_rows" "_law_other_rows" 688 285 2 388 389 .none .none 390 691 692),
 Hd.k 392 (Hd.fq eG "_law_other_rows" "_law_other_rows" fb 391),
 Hd.k 398 (Hd.co "_law_all_inside" "_law_all_inside" 694 297 2 393 394 (.ref 395) (.ref 396) 397 702 703),
 Hd.k 399 (Hd.fq fe "_law_all_inside" "_law_all_inside" fb 398),
 Hd.k 405 (Hd.co "law" "law" 705 305 1 400 401 (.ref 402) (.ref 403) 404 719 720),
 Hd.k 406 (Hd.fq nz "law" "law" fb 405)]
def KA:List Addr:=[3,20,21,27,28,34,35,39,40,44,45,49,50,56,57,61,62,66,67,71,72,76,77,81,82,88,89,93,94,100,101,107,108,114,115,119,120,126,127,133,134,138,139,150,151,157,158,164,165,171,172,176,177,183,184,190,191,193,194,204,205,211,212,218,219,225,226,232,233,239,240,246,247,253,254,260,261,267,268,274,275,281,282,288,289,295,296,302,303,307,308,314,315,319,320,326,327,333,334,338,339,345,346,352,353,357,358,364,365,371,372,376,377,381,382,386,387,391,392,398,399,405,406]
set_option maxHeartbeats 0 in
theorem left:PySem.W.LeftO PW (PySem.W.view PW [1,2,3,4,6,7,8,9,10,11,12,13,14,15,16,17,19,20,21,22,23,24,25,26,27,29,30,31,32,33,34,35,36,38,39,40,41,42,43,44,45,46,48,49,50,51,52,53,54,55,56,57,58,59]) [] (fun _=>true) (PySem.W.kmHook Row.KX Row.KA (fun _=>rfl) [174]).obs (PySem.W.kmHook Row.KX Row.KA (fun _=>rfl) [174]).val 4202:=
 Hd.left (by kernel_rfl) (fun s=>by kernel_rfl) rfl fun w os=>by kernel_rfl
end Row
namespace L3
open PySem PySem.Spec PyProof.Rows L2
section
variable {prog:Program}{w:World}{A:Around}{R:Result->Shared->Prop}{s:Shared}
theorem Dj{elt target iter:Expr}{ifs:List Expr}{scope:Scope}{pos:Pos}{it acc:Value}{env:Env}(I:Nat->Shared->Prop)
 (turn:∀n s,I n s->wpAny (model prog w) A (pyNext it) (fun r s₁=>match r with
   |none=>R (.ok .next) s₁
   |some v=>wpAny (model prog w) A (letOwnedTupleGo target it v) (fun _ s₀=>wpAny (model prog w) A (assign target env v) (fun _ s₂=>
     wpAny (model prog w) A (forIn ifs true fun c r=>if r=true then do let ok <-isTrue c env (eval c env);pure (ForInStep.yield ok)else pure (ForInStep.yield r)) (fun ok s₃=>
      if ok=true then wpAny (model prog w) A (eval elt env) (fun x s₄=>
       wpAny (model prog w) A (call (.builtin "list.append") [acc,x]) (fun _ s₅=>∃m,m<n/\I m s₅) (fun _ _=>False) s₄) (fun _ _=>False) s₃
      else∃m,m<n/\I m s₃) (fun _ _=>False) s₂) (fun _ _=>False) s₀) (fun _ _=>False) s₁) (fun _ _=>False) s)
 (n:Nat) (h:I n s):
 codeAny (model prog w) A (.compLoop (.ListComp elt [⟨target,iter,ifs,0⟩] scope pos) 0 it acc env) R s:=by
 refine codeAny_loop rfl I (fun n s hI=>?_) n h;show wpAny _ A ((compTurn (.ListComp elt [⟨target,iter,ifs,0⟩] scope pos) 0 it acc env).onRaise (fun x=>do noteFrame x env;theTreesLotGoes x)) _ _ s;refine wpAny_noted ?_;rw[compTurn_list];refine wpAny_bind (wpAny_standAt (wpAny_bind (wpAny_mono (turn n s hI) (fun r s₁ h₁=>?_) fun _ _ h'=>h'.elim)));cases r with
 |none=>exact wpAny_pure h₁
 |some v=>
  refine wpAny_bind (wpAny_mono h₁ (fun _ s₀ h₀=>?_) fun _ _ h'=>h'.elim);refine wpAny_bind (wpAny_mono h₀ (fun _ s₂ h₂=>wpAny_bind (wpAny_mono h₂ (fun ok s₃ h₃=>?_) fun _ _ h'=>h'.elim)) fun _ _ h'=>h'.elim);cases ok with
  |false=>exact wpAny_pure ⟨rfl,h₃⟩
  |true=>
   exact wpAny_bind (wpAny_bind (wpAny_mono h₃ (fun x s₄ h₄=>wpAny_bind (wpAny_mono h₄ (fun _ s₅ h₅=>wpAny_pure (wpAny_pure ⟨rfl,h₅⟩)) fun _ _ h'=>h'.elim)) fun _ _ h'=>h'.elim))
end
def dQ(cells:List (Str×Addr)):List (Str×NameKind)->List (Str×Addr)->List (Str×Addr)
 | [],acc=>acc
 |(n,k)::r,acc=>if k== .free then(match cells.lookup n with|some c=>dQ cells r ((n,c)::acc)|none=>dQ cells r acc)else dQ cells r acc
theorem du{cells:List (Str×Addr)}:∀(names:List (Str×NameKind)) (acc:List (Str×Addr)),(∀x c,acc.lookup x=some c->cells.lookup x=some c)->
 ∀x c,(dQ cells names acc).lookup x=some c->cells.lookup x=some c
 | [],acc,h,x,c,e=>h x c e
 |(n,k)::r,acc,h,x,c,e=>by
  unfold dQ at e;split at e
  . split at e
    . rename_i d q;refine du r _ (fun y b e'=>?_) x c e;rw[List.lookup_cons]at e';split at e'
      . rename_i z;cases e';have z':y=n:=by simpa using z
        rw[z'];exact q
      . exact h y b e'
    . exact du r _ h x c e
  . exact du r _ h x c e
theorem jN{cells:List (Str×Addr)}{x:Str}:∀(names:List (Str×NameKind)) (acc:List (Str×Addr)),(∃c,cells.lookup x=some c)->((x,NameKind.free)∈names\/∃c,acc.lookup x=some c)->
 ∃c,(dQ cells names acc).lookup x=some c
 | [],acc,_,h=>by
   rcases h with h|h
   . simp at h
   . exact h
 |(n,k)::r,acc,hc,h=>by
  unfold dQ;split
  . rename_i hk;split
    . rename_i d q;refine jN r _ hc ?_;rcases h with h|⟨c,h⟩
      . rcases List.mem_cons.mp h with e|e
        . cases e;exact .inr ⟨d,by simp[List.lookup_cons]⟩
        . exact .inl e
      . refine .inr ?_;rw[List.lookup_cons];split
        . exact⟨_,rfl⟩
        . exact⟨c,h⟩
    . rename_i q;refine jN r _ hc ?_;rcases h with h|h
      . rcases List.mem_cons.mp h with e|e
        . cases e;obtain⟨c,hc⟩:=hc;rw[hc]at q;cases q
        . exact .inl e
      . exact .inr h
  . rename_i hk;refine jN r _ hc ?_;rcases h with h|h
    . rcases List.mem_cons.mp h with e|e
      . cases e;exact absurd rfl hk
      . exact .inl e
    . exact .inr h
theorem oq{scope:Scope}{env:Env}(h:∀x∈scope.names,x.2= .free->∃c,env.cells.lookup x.1=some c):closureFor scope env=pure (dQ env.cells scope.names []):=by
 have key:∀(names:List (Str×NameKind)) (acc:List (Str×Addr)),(∀x∈names,x.2= .free->∃c,env.cells.lookup x.1=some c)->
  (forIn names acc (fun(x:Str×NameKind) (cs:List (Str×Addr))=>if(x.2==NameKind.free)=true then(do let a <-cellOf env x.1;pure (ForInStep.yield ((x.1,a)::cs)):Sem (ForInStep (List (Str×Addr))))else pure (ForInStep.yield cs)))=(pure (dQ env.cells names acc):Sem (List (Str×Addr))):=by
  intro names;induction names with
  |nil=>intro acc _;rfl
  |cons p r ih=>
   intro acc hh;obtain⟨n,k⟩:=p;rw[List.forIn_cons];have ih':=ih;by_cases hk:(k==NameKind.free)=true
   . obtain⟨c,e⟩:=hh (n,k) List.mem_cons_self (by simpa using hk);simp only[hk,if_true]
     have e1:cellOf env n=pure c:=by
      unfold cellOf;rw[e]
     rw[e1];simp only[pure_bind];rw[ih _ fun x hx=>hh x (List.mem_cons_of_mem _ hx)];conv=>rhs;unfold dQ
     simp only[hk,if_true];rw[show env.cells.lookup n=some c from e]
   . have hk':(k==NameKind.free)=false:=by simpa using hk
     simp only[hk',Bool.false_eq_true,if_false,pure_bind];rw[ih _ fun x hx=>hh x (List.mem_cons_of_mem _ hx)];conv=>rhs;unfold dQ
     simp only[hk',Bool.false_eq_true,if_false]
 unfold closureFor;have:=key scope.names [] h;rw[bind_pure]
 first
  |exact this
  |(simp only[bind_pure]at this⊢;exact this)
end L3
namespace L3
open PySem PySem.Spec L2
open PyProof.Rows hiding St
theorem jV(env:Env):∀(names:List (Str×NameKind)) (x:Str),
 (names.map fun(n,k)=>if(k==NameKind.free&&env.scope.kind== .function&&env.kindOf n==some .cell)then(n,NameKind.cell)else(n,k)).lookup x=
   (names.lookup x).map fun k=>if(k==NameKind.free&&env.scope.kind== .function&&env.kindOf x==some .cell)then NameKind.cell else k
 | [],_=>rfl
 |(n,k)::r,x=>by
  show List.lookup x ((if(k==NameKind.free&&env.scope.kind== .function&&env.kindOf n==some .cell)=true then(n,NameKind.cell)else(n,k))::_)=_;cases hx:x==n with
  |true=>
   have e:x=n:=by simpa using hx
   subst e;by_cases hc:(k==NameKind.free&&env.scope.kind== .function&&env.kindOf x==some .cell)=true
   . rw[if_pos hc];simp only[List.lookup_cons,beq_self_eq_true,Option.map_some];rw[if_pos hc]
   . rw[if_neg hc];simp only[List.lookup_cons,beq_self_eq_true,Option.map_some];rw[if_neg hc]
  |false=>
   by_cases hc:(k==NameKind.free&&env.scope.kind== .function&&env.kindOf n==some .cell)=true
   . rw[if_pos hc];simp only[List.lookup_cons,hx];exact jV env r x
   . rw[if_neg hc];simp only[List.lookup_cons,hx];exact jV env r x
theorem Cw{env:Env}{scope:Scope}{x:Str}(h:scope.names.lookup x=some .free):(relabel scope env).names.lookup x=some .cell\/(relabel scope env).names.lookup x=some .free:=by
 have e:(relabel scope env).names.lookup x=_:=jV env scope.names x;rw[e,h];simp only[Option.map_some];split
 . exact .inl rfl
 . exact .inr rfl
theorem Bd{env:Env}{scope:Scope}{x:Str}(h:(relabel scope env).names.lookup x=some .cell\/(relabel scope env).names.lookup x=some .free):(x,NameKind.free)∈scope.names\/scope.names.lookup x=some .cell:=by
 have e:(relabel scope env).names.lookup x=_:=jV env scope.names x;rw[e]at h;cases q:scope.names.lookup x with
 |none=>rw[q]at h;rcases h with h|h<;>cases h
 |some k=>
  rw[q]at h;simp only[Option.map_some]at h;have m:=PySem.mem_of_lookup q;by_cases hc:(k==NameKind.free&&env.scope.kind== .function&&env.kindOf x==some .cell)=true
  . have:k= .free:=by
     simp only[Bool.and_eq_true]at hc;simpa using hc.1.1
    subst this;exact .inl m
  . rw[if_neg hc]at h;rcases h with h|h
    . cases h;exact .inr rfl
    . cases h;exact .inl m
theorem gE:∀(names:List (Str×NameKind)) (L:Nat) (acc:List (Str×Addr)),cellsFrom L names acc=cellsFrom L names []++acc
 | [],_,_=>rfl
 |(n,k)::r,L,acc=>by
  unfold cellsFrom;by_cases hk:(k==NameKind.cell)=true
  . rw[if_pos hk,if_pos hk,gE r (L+1) ((n,L)::acc),gE r (L+1) [(n,L)],List.append_assoc];rfl
  . rw[if_neg hk,if_neg hk];exact gE r L acc
theorem uD:∀ {names:List (Str×NameKind)} {L:Nat} {x:Str} {c:Addr},(x,c)∈cellsFrom L names []->(x,NameKind.cell)∈names
 | [],_,_,_,h=>by unfold cellsFrom at h;cases h
 |(n,k)::r,L,x,c,h=>by
  unfold cellsFrom at h;by_cases hk:(k==NameKind.cell)=true
  . rw[if_pos hk,gE]at h;have hk':k= .cell:=by simpa using hk
    subst hk';rcases List.mem_append.mp h with h|h
    . exact List.mem_cons_of_mem _ (uD h)
    . have:(x,c)=(n,L):=by simpa using h
      cases this;exact List.mem_cons_self
  . rw[if_neg hk]at h;exact List.mem_cons_of_mem _ (uD h)
theorem tF:∀ {l1 l2:List (Str×Addr)} {x:Str} {c:Addr},(l1++l2).lookup x=some c->l1.lookup x=some c\/(l1.lookup x=none/\l2.lookup x=some c)
 | [],_,_,_,h=> .inr ⟨rfl,h⟩
 |(n,d)::l1,l2,x,c,h=>by
  rw[List.cons_append,List.lookup_cons]at h;rw[List.lookup_cons];cases hx:x==n with
  |true=>rw[hx]at h;exact .inl h
  |false=>rw[hx]at h;exact tF h
theorem wb:∀ {l1 l2:List (Str×Addr)} {x:Str},l1.lookup x=none->(l1++l2).lookup x=l2.lookup x
 | [],_,_,_=>rfl
 |(n,d)::l1,l2,x,h=>by
  rw[List.lookup_cons]at h;rw[List.cons_append,List.lookup_cons];cases hx:x==n with
  |true=>rw[hx]at h;cases h
  |false=>rw[hx]at h;exact wb h
def nU(scope:Scope)(C:Addr)(cl:List (Str×Addr)):List (Str×Addr):=cellsFrom (C+1) scope.names cl
theorem jD{scope:Scope}{C:Addr}{cl:List (Str×Addr)}{x:Str}{c:Addr}(h:(nU scope C cl).lookup x=some c):(x,c)∈cellsFrom (C+1) scope.names []\/cl.lookup x=some c:=by
 unfold nU at h;rw[gE]at h;rcases tF h with h|h
 . exact .inl (PySem.mem_of_lookup h)
 . exact .inr h.2
theorem O6(names:List (Str×NameKind))(h:Heap){C:Addr}(e:h.objs.size=C+1):CellsOk (pushCells h names) (C+1) (cellsFrom (C+1) names []):=by
 have:=cellsFrom_ok names h (C+1) [] ⟨fun _ _ hm=>(nomatch hm),List.Pairwise.nil⟩ (by rw[e];exact Nat.le_refl _);rw[e]at this;exact this
theorem pY{names:List (Str×NameKind)}{C:Addr}{x:Str}{c:Addr}:∀ {L:Nat},C<=L->(x,c)∈cellsFrom L names []->C<=c:=by
 induction names with
 |nil=>intro L _ h;unfold cellsFrom at h;cases h
 |cons p r ih=>
  obtain⟨n,k⟩:=p;intro L hL h;unfold cellsFrom at h;by_cases hk:(k==NameKind.cell)=true
  . rw[if_pos hk,gE]at h;rcases List.mem_append.mp h with h|h
    . exact ih (Nat.le_trans hL (Nat.le_succ L)) h
    . have:(x,c)=(n,L):=by simpa using h
      cases this;exact hL
  . rw[if_neg hk]at h;exact ih hL h
theorem own_apart{names:List (Str×NameKind)}{x y:Str}{c:Addr}:∀ {L:Nat},(x,c)∈cellsFrom L names []->(y,c)∈cellsFrom L names []->x=y:=by
 induction names with
 |nil=>intro L h;unfold cellsFrom at h;cases h
 |cons p r ih=>
  obtain⟨n,k⟩:=p;intro L h1 h2;unfold cellsFrom at h1 h2;by_cases hk:(k==NameKind.cell)=true
  . rw[if_pos hk,gE]at h1 h2;rcases List.mem_append.mp h1 with g1|g1<;>rcases List.mem_append.mp h2 with g2|g2
    . exact ih g1 g2
    . have e2:(y,c)=(n,L):=by simpa using g2
      have ec:c=L:=(Prod.mk.inj e2).2;have:=pY (C:=L+1) (Nat.le_refl _) g1;rw[ec]at this;exact absurd this (Nat.not_succ_le_self _)
    . have e1:(x,c)=(n,L):=by simpa using g1
      have ec:c=L:=(Prod.mk.inj e1).2;have:=pY (C:=L+1) (Nat.le_refl _) g2;rw[ec]at this;exact absurd this (Nat.not_succ_le_self _)
    . have e1:(x,c)=(n,L):=by simpa using g1
      have e2:(y,c)=(n,L):=by simpa using g2
      exact(Prod.mk.inj e1).1.trans (Prod.mk.inj e2).1.symm
  . rw[if_neg hk]at h1 h2;exact ih h1 h2
theorem wG{M:Model}{A:Around}{E:Value->Shared->Prop}{s:Shared}{scope:Scope}{globals:Addr}{cl:List (Str×Addr)}{qual:Str}{env:Env}{Q:Env->Shared->Prop}
 (hQ:Q (newEnv scope s.heap.objs.size globals (nU scope s.heap.objs.size cl) qual none .none (some env) builtinsNs) {s with heap:=pushCells (s.heap.push {cls:= .type "dict",data:= .dict #[]}) scope.names}):
 wpAny M A (newFunctionEnv scope globals cl [] qual none .none (some env)) Q E s:=by
 simp only[newFunctionEnv,Option.isSome_some,if_true];refine wpAny_bind (wpAny_alloc ?_);refine wpAny_bind (wpAny_layCells _ (fun name kind cells=>by cases hkc:kind==NameKind.cell<;>simp[hkc]) _ _ _ _ ?_);rw[show({s with heap:=s.heap.push {cls:= .type "dict",data:= .dict #[]}}:Shared).heap.objs.size=s.heap.objs.size+1 from Heap.size_push ..];rw[List.forIn_nil];exact wpAny_bind (wpAny_pure (wpAny_pure hQ))
structure bK(X:Cx)(scope:Scope)(Nc:List Str)(fr:List (Option Nat)):Prop where
 kind:scope.kind= .function
 cells:∀x∈scope.names,x.2= .cell->scope.names.lookup x.1=some .cell
 names:∀x∈scope.names,x.2= .local->scope.names.lookup x.1=some .local
 free:∀x∈scope.names,x.2= .free->X.env.kindOf x.1=some .cell\/X.env.kindOf x.1=some .free
 len:fr.length=Nc.length
 map:∀(i j:Nat) (x:Str),Nc[i]?=some x->fr[i]?=some (some j)->X.N[j]?=some x/\scope.names.lookup x=some .free/\(X.env.kindOf x=some .cell\/X.env.kindOf x=some .free)
def σC(fr:List (Option Nat))(σ:St):St:=fr.map fun o=>o.bind fun j=>(σ[j]?).join
def fQ(X:Cx)(scope:Scope)(Nc:List Str)(C:Addr)(s:Shared)(H:Hp)(ex:List Addr):Cx:=
 {X with N:=Nc,s₀:=s,H₀:=H,env:=compEnvC scope (nU scope C (dQ X.env.cells scope.names [])) C X.env,outer:=X.stack,stack:=X.stack,ex:=ex,fn:=fun x=>scope.names.lookup x==some .cell,pn:=[],xe:=fun _ _=>False}
def vD(wi:TI)(fr:List (Option Nat))(g:TG)(c:TT)(te:TE):TE:=fun σ H Q=>wi σ H fun J H1=>∀l,H1 l=none->
 ∃W:Nat->Nat->L2.St->Hp->Prop,(∃m,W 0 m (σC fr σ) (upd H1 l (.lst [])))/\∀i m σ H,W i m σ H->
  (J.stop i H/\Q (.ref l) H)\/(J.go i H/\∃N:L2.St->Hp->Prop,(∀σ' H',N σ' H'->∃m',m'<m/\W (i+1) m' σ' H')/\∀x H',J.qx i H x H'->
    g x σ H' fun σ2 H2=>c σ2 H2 fun b H3=>if b=true then te σ2 H3 fun y H4=>∃ys,H4 l=some (.lst ys)/\ys.length<sizeLine/\N σ2 (upd H4 l (.lst (ys++[y])))else N σ2 H3)
def ug(X:Cx)(ifs:List Expr)(t:TT):Prop:=
 ∀(pins:List (Addr×Obj)) (s:Shared) (σ:St) (H:Hp) (Q:Bool->Hp->Prop),Inv X pins σ H s->t σ H Q->
  wpAny (model X.prog X.w) X.A (forIn ifs true fun c r=>if r=true then do let ok <-isTrue c X.env (eval c X.env);pure (ForInStep.yield ok)else pure (ForInStep.yield r)) (TP X pins σ Q) X.xe s
def Pc:TT:=fun _ H Q=>Q true H
theorem Mb{X:Cx}:ug X [] Pc:=fun _ _ _ H _ I h=>wpAny_tests_nil ⟨H,I,h⟩
theorem Mw{X:Cx}{c:Expr}{t:TT}(h:PT X c t):ug X [c] t:=fun pins s σ H Q I q=>wpAny_tests_one (h pins s σ H Q I q)
section
variable {X:Cx}{scope:Scope}{Nc:List Str}{fr:List (Option Nat)}{pins:List (Addr×Obj)}{σ:St}{H:Hp}{s:Shared}
theorem Oe{C:Addr}{fp:List Addr}(S:bK X scope Nc fr)(I:Inv X pins σ H s)(hC:C=s.heap.objs.size)(hf:∀b∈fp,m4 X pins H b)(hlt:∀b∈fp,b<s.heap.objs.size)(hnc:∀b∈fp,∀x c,X.env.cells.lookup x=some c->c≠b):
 (fQ X scope Nc C s H fp).Ok where
 mod:=I.ok.mod
 kind:=S.kind
 glob:=I.ok.glob
 blt:=I.ok.blt
 above:=Nat.le_of_eq hC.symm
 inj:=fun x y c h1 h2=>by
  have low:∀ {z},(dQ X.env.cells scope.names []).lookup z=some c->c<s.heap.objs.size:=fun{z} hz=>by
   obtain⟨v,q⟩:=I.cell z c (du _ [] (fun _ _ e=>by cases e) z c hz);exact q.lt
  rcases jD h1 with h1|h1<;>rcases jD h2 with h2|h2
  . exact own_apart h1 h2
  . have a:=pY (C:=C+1) (Nat.le_refl _) h1;have b:c<C:=by rw[hC];exact low h2
    exact absurd a (Nat.not_le_of_gt (Nat.lt_succ_of_lt b))
  . have a:=pY (C:=C+1) (Nat.le_refl _) h2;have b:c<C:=by rw[hC];exact low h1
    exact absurd a (Nat.not_le_of_gt (Nat.lt_succ_of_lt b))
  . exact I.ok.inj x y c (du _ [] (fun _ _ e=>by cases e) x c h1) (du _ [] (fun _ _ e=>by cases e) y c h2)
 has:=fun x hx=>by
  rcases Bd hx with m|m
  . obtain⟨c,e⟩:=jN scope.names [] (I.ok.has x (S.free _ m rfl)) (.inl m);exact Option.isSome_iff_exists.mp (PySem.W.cellsFrom_some _ _ _ (.inr (by rw[e];rfl)))
  . exact Option.isSome_iff_exists.mp (PySem.W.cellsFrom_some _ _ _ (.inl m))
 BP:=fun x c hf h=>by
  have hl:scope.names.lookup x=some .cell:=by
   have:(scope.names.lookup x==some .cell)=true:=hf;simpa using this
  obtain⟨c',e⟩:=Option.isSome_iff_exists.mp (PySem.W.cellsFrom_some (x:=x) scope.names (C+1) [] (.inl hl))
  have h':(cellsFrom (C+1) scope.names []++dQ X.env.cells scope.names []).lookup x=some c:=by
   rw[<-gE];exact h
  rcases tF h' with q|q
  . have:=pY (C:=C+1) (Nat.le_refl _) (PySem.mem_of_lookup q);show s.heap.objs.size<=c;rw[<-hC];exact Nat.le_of_succ_le this
  . rw[q.1]at e;cases e
 hd:=I.ok.hd
 frames:=I.ok.frames
 Dq:= .inl rfl
 FW:=fun b hb=>⟨by rw[show(fQ X scope Nc C s H fp).env.locals=s.heap.objs.size from hC];exact Nat.ne_of_lt (hlt b hb),fun x c h=>by
  rcases jD h with h|h
  . have a:=pY (C:=C+1) (Nat.le_refl _) h;have b':b<C:=by rw[hC];exact hlt b hb
    exact Nat.ne_of_gt (Nat.lt_of_lt_of_le b' (Nat.le_of_succ_le a))
  . exact hnc b hb x c (du _ [] (fun _ _ e=>by cases e) x c h)⟩
 bs:=I.bs
 um:=Nat.le_trans I.ok.um I.sz
 w6:=fun b o e hb=>by
  have hn:=(hf b hb).2.2.2.1;rcases hn with hn|hn
  . exact I.ok.w6 b o e hn
  . exact absurd (Heap.lt_size (I.ok.bs b o e).1) (Nat.not_lt.mpr hn)
 wu:=fun b hb z=>by
  have q:=I.BU b z;rcases List.mem_cons.mp q with q|q
  . exact(hf b hb).2.1 q
  . exact(hf b hb).2.2.1 q
 lV:=I.stack
 yn:=fun b hb=>I.zj b hb
 gt:=I.ok.gt
theorem DH{i:Nat}{v:V}(h:(σC fr σ)[i]?=some (some v)):∃j,fr[i]?=some (some j)/\σ[j]?=some (some v):=by
 unfold σC at h;rw[List.getElem?_map]at h;cases q:fr[i]? with
 |none=>rw[q]at h;cases h
 |some o=>
  rw[q]at h;cases o with
  |none=>simp at h
  |some j=>
   simp only[Option.map_some,Option.some.injEq,Option.bind_some]at h;refine⟨j,rfl,?_⟩;cases r:σ[j]? with
   |none=>rw[r]at h;cases h
   |some u=>rw[r]at h;simp at h;rw[h]
theorem Ia{s':Shared}{h':Heap}{C:Addr}{fp:List Addr}{t':Nat}(S:bK X scope Nc fr)(I:Inv X pins σ H s)(hC:C=s.heap.objs.size)(ok:(fQ X scope Nc C s H fp).Ok)(hfr:∀b∈fp,H b=none)
 (k:∀b o,s.heap.get? b=some o->h'.get? b=some o) (hn:h'.Ns C (fun _=>none)) (hcs:∀x c,(x,c)∈cellsFrom (C+1) scope.names []->h'.IsCell c none):Inv (fQ X scope Nc C s H fp) [] (σC fr σ) H {s with heap:=h',toks:=t'} where
 ok:=ok
 os:=rfl
 bare:=I.bare
 base:=Un.kept k
 loc:=⟨_,hn,fun i x v h1 h2 h3=>by
  obtain⟨j,q1,q2⟩:=DH h2;obtain⟨n1,n2,n3⟩:=S.map i j x h1 q1;obtain⟨m,hm,hl⟩:=I.loc
  have vis:Bb X.env.scope x:=by
   rcases n3 with z|z
   . exact .inr (.inl z)
   . exact .inr (.inr z)
  obtain⟨u,r,lk⟩:=hl j x v n1 q2 vis;refine⟨u,r,?_⟩;rcases lk with⟨z,_⟩|⟨z,c,e,ic⟩
  . rcases n3 with y|y
    . rw[y]at z;cases z
    . rw[y]at z;cases z
  . refine .inr ⟨Cw n2,?_⟩;obtain⟨c',e'⟩:=jN scope.names [] ⟨c,e⟩ (.inl (PySem.mem_of_lookup n2));have e2:=du _ [] (fun _ _ e=>by cases e) x c' e';rw[e]at e2;cases e2;refine⟨c,?_,ic.keeps k⟩;show(nU scope C (dQ X.env.cells scope.names [])).lookup x=some c;unfold nU;rw[gE,wb ?_]
    . exact e'
    . cases q:(cellsFrom (C+1) scope.names []).lookup x with
      |none=>rfl
      |some c2=>
       have:=S.cells _ (uD (PySem.mem_of_lookup q)) rfl;rw[n2]at this;cases this⟩
 cell:=fun x c h=>by
  rcases jD h with h|h
  . exact⟨_,hcs x c h⟩
  obtain⟨v,q⟩:=I.cell x c (du _ [] (fun _ _ e=>by cases e) x c h);exact⟨v,q.keeps k⟩
 free:=by show H C=none;rw[hC];exact I.aP.fresh (Nat.le_refl _)
 jv:=fun x c h=>by
  rcases jD h with h|h
  . have a:=pY (C:=C+1) (Nat.le_refl _) h;exact I.aP.fresh (by rw[<-hC];exact Nat.le_of_succ_le a)
  . exact I.jv x c (du _ [] (fun _ _ e=>by cases e) x c h)
 pin:=fun p hp=>by cases hp
 aP:=I.aP.kept k
 len:=by unfold σC;rw[List.length_map];exact S.len
theorem Inv.forget{C:Addr}{h':Heap}(I:Inv X pins σ H s)(f:m4 X pins H C)(hs:Heap.SameBut C s.heap h'):Inv X pins σ H {s with heap:=h'}:=by
 refine I.Ex (s':={s with heap:=h'}) (ch:=[C]) rfl ?_ ?_ I.bare fun b hb=>?_
 . have ne:∀b,b∉[C]->b≠C:=fun b hb z=>hb (by simp[z]);exact{keep:=fun b o q _ _ hx=>(hs.2 b (ne b hx)).trans q,slot:=fun b o q _ _ hx=>⟨o.slots,(hs.2 b (ne b hx)).trans q⟩,free:=fun b o q n _=>n,there:=fun b o q hx=>⟨o,(hs.2 b (ne b hx)).trans q⟩,qS:=fun _ _ e=>e,pW:=fun _ _ _ e=>e,pv:=fun b ps e=>⟨#[],by rw[e];simp⟩}
 . intro a o q;have na:∀b u,H b=some u->b≠C:=fun b u q z=>by rw[z,f.1]at q;cases q
   refine(I.aP a o q).mW (fun b u hb e=>?_) (fun _ q=>q) fun _ _ q=>q;rw[hs.2 b ?_]
   . exact e
   . rcases hb with rfl|hb
     . exact na _ _ q
     . exact na _ _ hb
 . have:b=C:=by simpa using hb
   subst this;exact⟨f.2.2.2.1,f.2.1,f.2.2.2.2.1,f.2.2.2.2.2⟩
theorem yw{elt tg iter:Expr}{ifs:List Expr}{wi:TI}{g:TG}{c:TT}{te:TE}{pos:Pos}{Q:VK}{RR:Value->Addr->Result->Shared->Prop}(hx:X.xe=fun _ _=>False)(hc:X.calm=true)(S:bK X scope Nc fr)(hi:PI X tg iter wi)
 (hg:∀C s H ex,PG (fQ X scope Nc C s H ex) tg g) (ht:∀C s H ex,ug (fQ X scope Nc C s H ex) ifs c) (he:∀C s H ex,PE (fQ X scope Nc C s H ex) elt te) (I:Inv X pins σ H s) (h:vD wi fr g c te σ H Q)
 (fin:∀(l C:Addr) (s6:Shared) (H5:Hp) (m:Str->Option Value),s6.heap.Ns C m->m4 X pins H5 C->Inv X pins σ H5 s6->Q (.ref l) H5->RR (.ref l) C (.ok .next) s6):
 wpAny (model X.prog X.w) X.A (eval iter X.env) (fun x s₁=>wpAny (model X.prog X.w) X.A (pyIter x) (fun it s₂=>wpAny (model X.prog X.w) X.A (newList []) (fun acc s₃=>
  wpAny (model X.prog X.w) X.A (newFunctionEnv scope X.env.globals (dQ X.env.cells scope.names []) [] X.env.qual none .none (some X.env)) (fun cenv s₄=>
   codeAny (model X.prog X.w) X.A (.compStart (.ListComp elt [⟨tg,iter,ifs,0⟩] scope pos) 0 it acc {cenv with scope:=relabel scope X.env}) (RR acc cenv.locals) s₄) X.xe s₃) X.xe s₂) X.xe s₁) X.xe s:=by
 refine cp (hi pins s σ H _ I h) fun v s1 h1=>cp h1 fun itv s2 h2=>?_;obtain⟨it,fp,tn,J,H2,e,I2,T,st2,f2,hR⟩:=h2;subst e;refine wpAny_newList ?_ (Nat.zero_le _);have I3:=I2.Iw (t':=s2.toks) (aw:=[]) (ys:=[]) .nil (Nat.zero_le _);generalize e3:({s2 with heap:=s2.heap.push {cls:= .type "list",data:= .seq ([]:List Value).toArray}}:Shared)=s3;have I3:Inv X pins σ (upd H2 s2.heap.objs.size (.lst [])) s3:=by rw[<-e3];exact I3
 have ml:s2.heap.objs.size<s3.heap.objs.size:=by rw[<-e3];show _<(s2.heap.push _).objs.size;rw[Heap.size_push];omega
 have k3:∀b o,s2.heap.get? b=some o->s3.heap.get? b=some o:=fun b o q=>by rw[<-e3];exact Heap.get?_push_of_some _ q
 obtain⟨W,⟨m0,w0⟩,turn⟩:=hR s2.heap.objs.size (I2.aP.fresh (Nat.le_refl _));refine wG ?_;have hn:(pushCells (s3.heap.push {cls:= .type "dict",data:= .dict #[]}) scope.names).Ns s3.heap.objs.size (fun _=>none):=(Heap.Ns.new s3.heap (.type "dict")).keeps (pushCells_keeps _ _);have hcs:∀x c,(x,c)∈cellsFrom (s3.heap.objs.size+1) scope.names []->(pushCells (s3.heap.push {cls:= .type "dict",data:= .dict #[]}) scope.names).IsCell c none:=fun x c h=>((O6 scope.names _ (Heap.size_push ..)).empty x c h).1;have k4:∀b o,s3.heap.get? b=some o->(pushCells (s3.heap.push {cls:= .type "dict",data:= .dict #[]}) scope.names).get? b=some o:=fun b o q=>pushCells_keeps _ _ b o (Heap.get?_push_of_some _ q);generalize(pushCells (s3.heap.push {cls:= .type "dict",data:= .dict #[]}) scope.names)=h' at hn hcs k4⊢;have hobj:∀b∈fp,∃o,s2.heap.get? b=some o/\∀v,o.data≠ .cell v:=T.obj _ _ st2;have hlt2:∀b∈fp,b<s3.heap.objs.size:=fun b hb=>let⟨o,q,_⟩:=hobj b hb;Heap.lt_size (k3 b o q)
 have hnl:∀b∈fp,b≠s2.heap.objs.size:=fun b hb=>by
  obtain⟨o,q,_⟩:=hobj b hb;exact Nat.ne_of_lt (Heap.lt_size q)
 have f3:∀b∈fp,m4 X pins (upd H2 s2.heap.objs.size (.lst [])) b:=fun b hb=>⟨by rw[aH (hnl b hb)];exact(f2 b hb).1,(f2 b hb).2⟩
 have ok:=Oe (C:=s3.heap.objs.size) (fp:=fp) S I3 rfl f3 hlt2 fun b hb=>(f2 b hb).2.2.2.2.1
 have I4:Inv (fQ X scope Nc s3.heap.objs.size s3 (upd H2 s2.heap.objs.size (.lst [])) fp) [] (σC fr σ) (upd H2 s2.heap.objs.size (.lst [])) {s3 with heap:=h',toks:=s3.toks}:=
  Ia (s':=s3) S I3 rfl ok (fun b hb=>(f3 b hb).1) k4 hn hcs
 have st4:tn 0 h':=T.keep _ _ _ st2 fun b _ o q=>k4 b o (k3 b o q);generalize hXc:fQ X scope Nc s3.heap.objs.size s3 (upd H2 s2.heap.objs.size (.lst [])) fp=Xc at I4;have hgc:PG Xc tg g:=by rw[<-hXc];exact hg _ _ _ _
 have htc:ug Xc ifs c:=by rw[<-hXc];exact ht _ _ _ _
 have hec:PE Xc elt te:=by rw[<-hXc];exact he _ _ _ _
 have xP:Xc.prog=X.prog:=by rw[<-hXc];rfl
 have xW:Xc.w=X.w:=by rw[<-hXc];rfl
 have xK:Xc.K=X.K:=by rw[<-hXc];rfl
 have xc:Xc.calm=true:=by rw[<-hXc];exact hc
 have xA:Xc.A=X.A:=by rw[<-hXc];rfl
 have xE:Xc.env=compEnvC scope (nU scope s3.heap.objs.size (dQ X.env.cells scope.names [])) s3.heap.objs.size X.env:=by rw[<-hXc];rfl
 have xx:Xc.xe=fun _ _=>False:=by rw[<-hXc];rfl
 have fpc:∀ {H':Hp},(∀b∈fp,H' b=none)->∀b∈fp,m4 Xc [] H' b:=fun{H'} hn b hb=>by
  rw[<-hXc];refine⟨hn b hb,Nat.ne_of_lt (hlt2 b hb),ok.wu b hb,.inl hb,(ok.FW b hb).2,fun p hp=>by cases hp⟩
 have loop:codeAny (model X.prog X.w) X.A (.compLoop (.ListComp elt [⟨tg,iter,ifs,0⟩] scope pos) 0 (.ref it) (.ref s2.heap.objs.size) (compEnvC scope (nU scope s3.heap.objs.size (dQ X.env.cells scope.names [])) s3.heap.objs.size X.env))
  (RR (.ref s2.heap.objs.size) s3.heap.objs.size) {s3 with heap:=h',toks:=s3.toks}:=by
  refine Dj (fun n s'=>∃i σ' H',Inv Xc [] σ' H' s'/\tn i s'.heap/\(∀b∈fp,H' b=none)/\W i n σ' H') ?_ m0 ⟨0,_,_,I4,st4,fun b hb=>(f3 b hb).1,w0⟩;rintro n s5 ⟨i,σ5,H5,I5,st5,fr5,w5⟩;rcases turn i n σ5 H5 w5 with⟨stop,qn⟩|⟨go,N,hN,step⟩
  . have q:=T.done Xc xP xW xK xc i [] s5 σ5 H5 (fun _ _=>False) I5 (fpc fr5) st5 stop;rw[xA]at q;refine cp q fun r s6 ⟨hr,I6⟩=>?_;subst hr;obtain⟨m,hm,_⟩:=I6.loc;rw[xE]at hm;have free6:H5 s3.heap.objs.size=none:=by have:=I6.free;rw[xE]at this;exact this
    have un6:Un (rZ X.stack) fp (upd H2 s2.heap.objs.size (.lst [])) H5 s3.heap s6.heap:=by have:=I6.base;rw[<-hXc]at this;exact this
    have os6:s6.os=s3.os:=by have:=I6.os;rw[<-hXc]at this;exact this
    have hok6:iZ X.prog X.w H5 s6.heap:=by have:=I6.aP;rw[xP,xW]at this;exact this
    have J:=I3.Ex (s':=s6) (ch:=fp) os6 un6 hok6 I6.bare fun b hb=>⟨(f3 b hb).2.2.2.1,(f3 b hb).2.1,(f3 b hb).2.2.2.2.1,(f3 b hb).2.2.2.2.2⟩
    exact fin _ _ s6 H5 m hm (I3.wI (Nat.le_refl _) free6) J qn
  . have q:=T.item Xc xP xW xK xc i [] s5 σ5 H5 (fun _ _=>False) I5 (fpc fr5) st5 go;rw[xA]at q;refine cp q fun r s6 ⟨u,hr,h6⟩=>?_;subst hr;refine cp h6 fun _ s7 ⟨x,H7,I7,r7,y7,st7,fr7⟩=>?_;have I7':=I7.pinned (fpc fr7) (T.obj _ _ st7);have q8:=hgc _ s7 σ5 H7 x u _ I7' r7 (step x H7 y7);rw[xP,xW,xA,xE,xx]at q8;refine cp q8 fun _ s8 ⟨σ8,H8,I8,q8⟩=>?_;have q9:=htc _ s8 σ8 H8 _ I8 q8;rw[xP,xW,xA,xE,xx]at q9;refine cp q9 fun b s9 ⟨H9,I9,q9⟩=>?_
    have again:∀ {H':Hp} {s':Shared},Inv Xc ([]++u0 fp s7.heap) σ8 H' s'->N σ8 H'->∃m,m<n/\∃i σ' H',Inv Xc [] σ' H' s'/\tn i s'.heap/\(∀b∈fp,H' b=none)/\W i m σ' H':=fun{H' s'} J nn=>by
     obtain⟨m',hm,w7⟩:=hN σ8 H' nn;refine⟨m',hm,i+1,σ8,H',J.iI,T.keep _ _ _ st7 fun b hb o e=>(J.pin (b,o) (List.mem_append_right _ (List.mem_append_right _ (oN hb e)))).1,fun b hb=>?_,w7⟩;obtain⟨o,e,d⟩:=T.obj _ _ st7 b hb;exact(J.pin (b,o) (List.mem_append_right _ (List.mem_append_right _ (oN hb e)))).2.1
    cases b with
    |false=>exact again I9 q9
    |true=>
     have qe:=hec _ s9 σ8 H9 _ I9 q9;rw[xP,xW,xA,xE,xx]at qe;refine cp qe fun y s10 ⟨vy,H10,I10,ry,ys,hy,hlt,qN⟩=>?_;have qa:=zB (X:=Xc) _ s10 σ8 H10 (.ref s2.heap.objs.size) [vy] (.ref s2.heap.objs.size) [y] (fun _ H'=>N σ8 H') I10 rfl (.cons ry .nil) ⟨_,ys,vy,rfl,rfl,hy,hlt,qN⟩;rw[xP,xW,xA,xx]at qa;exact cp qa fun _ s11 ⟨_,H11,I11,_,q11⟩=>again I11 q11
 refine codeAny_compStart_list ?_ ?_
 . exact loop
 . exact T.self _ 0 _ _ _ st4 loop
theorem D_{elt tg iter:Expr}{ifs:List Expr}{wi:TI}{g:TG}{c:TT}{te:TE}{pos:Pos}(hx:X.xe=fun _ _=>False)(hc:X.calm=true)(S:bK X scope Nc fr)(hi:PI X tg iter wi)
 (hg:∀C s H ex,PG (fQ X scope Nc C s H ex) tg g) (ht:∀C s H ex,ug (fQ X scope Nc C s H ex) ifs c) (he:∀C s H ex,PE (fQ X scope Nc C s H ex) elt te)
 (hs:∀x,foldedSetIterable iter X.env x=pure x:=by intro _;rfl):PE X (.ListComp elt [⟨tg,iter,ifs,0⟩] scope pos) (vD wi fr g c te):=by
 intro pins s σ H Q I h;rw[eval_ListComp];have hcl:closureFor scope X.env=pure (dQ X.env.cells scope.names []):=oq fun x hx hk=>I.ok.has x.1 (S.free x hx hk);refine wpAny_comprehension_free rfl hs hcl S.kind S.names ?_;exact yw (RR:=fun acc C=>compPost (model X.prog X.w) X.A X.xe none (EP X pins σ Q) acc C) hx hc S hi hg ht he I h fun l C s6 H5 m hm f J q=>⟨m,hm,fun h'' hs''=>⟨.ref l,H5,Inv.forget J f hs'',rfl,q⟩⟩
theorem D0{elt tg iter:Expr}{ifs:List Expr}{wi:TI}{g:TG}{c:TT}{te:TE}{pos pos' spos:Pos}{i:Nat}{x:Str}(hx:X.xe=fun _ _=>False)(hc:X.calm=true)(S:bK X scope Nc fr)(hi:PI X tg iter wi)
 (hg:∀C s H ex,PG (fQ X scope Nc C s H ex) tg g) (ht:∀C s H ex,ug (fQ X scope Nc C s H ex) ifs c) (he:∀C s H ex,PE (fQ X scope Nc C s H ex) elt te) (hN:X.N.Nodup) (hni:X.N[i]?=some x) (hl:Loc X.env.scope x) (hf:X.fn x=true\/X.env.scope.names.lookup x=some .local)
 (hsw:swapsWith (.ListComp elt [⟨tg,iter,ifs,0⟩] scope pos) (some (.Name x pos')) spos.line X.env=pure true)
 (hs:∀x,foldedSetIterable iter X.env x=pure x:=by intro _;rfl):PS X (.Assign [.Name x pos'] (.ListComp elt [⟨tg,iter,ifs,0⟩] scope pos) spos) (m9 (vD wi fr g c te) (nt i)):=by
 intro pins s σ H D I h;have hcl:closureFor scope X.env=pure (dQ X.env.cells scope.names []):=oq fun x hx hk=>I.ok.has x.1 (S.free x hx hk);rw[exec_Assign_Name_used _ _ _ _ hsw];refine wpAny_bind (wpAny_standAt (wpAny_bind ?_));show wpAny _ X.A (do let _ <-comprehension (.ListComp elt [⟨tg,iter,ifs,0⟩] scope pos) scope X.env _ (newList []) false (eval iter X.env) (some (assign (.Name x pos') X.env))) _ _ s
 refine wpAny_bind (wpAny_mono (wpAny_comprehension_free (use:=some (assign (.Name x pos') X.env)) (Q:=fun _ s'=>SP X pins D .next s') rfl hs hcl S.kind S.names
  (yw (RR:=fun acc C=>compPost (model X.prog X.w) X.A X.xe (some (assign (.Name x pos') X.env)) (fun _ s'=>SP X pins D .next s') acc C) hx hc S hi hg ht he I h fun l C s6 H5 m hm f J q=>?_)) (fun _ s' hq=>wpAny_pure (wpAny_pure hq)) fun _ _ e=>e)
 show wpAny _ X.A (assign (.Name x pos') X.env (.ref l)) _ _ _;refine wpAny_assign_Name (zI J hN hni hl (show RelV (.ref l) (.ref l)from rfl) (fun s7 J7 hch=>?_) hf);obtain⟨a,hsame,ha⟩:=hch
 have hCa:C≠a:=by
  rcases ha with rfl|ha
  . exact f.2.1
  . exact fun z=>f.2.2.2.2.1 x a ha z.symm
 refine⟨m,hm.sameBut hsame hCa,fun h'' hs''=>⟨σ.set i (some (.ref l)),H5,Inv.forget J7 f hs'',q⟩⟩
end
inductive D where
 |aE|bl (b:Bool)|int (i:Int)|str (x:Str)|ty (n:String)|ref (n:Nat)|lst (xs:List D)|tup (xs:List D)
inductive Cell where
 |lst (xs:List D)|ins (C:Addr) (fs:List (Str×D))|dead
  |tab (P:Addr) (pos:Pos) (qual:Str) (b:Bool)
abbrev ag:=List Cell
abbrev cu:=List (Option D)
mutual
def Rep(α:List (Option Addr))(H:Hp):D->V->Prop
 | .aE,v=>v= .aE
 | .bl b,v=>v= .bl b
 | .int i,v=>v= .int i
 | .str x,v=>v= .str x
 | .ty n,v=>v= .ty n
 | .ref n,v=>α[n]?=some none\/∃a,α[n]?=some (some a)/\v= .ref a
 | .lst xs,v=>∃a vs,v= .ref a/\some a∉α/\Rd H a (.lst vs)/\aT α H xs vs
 | .tup xs,v=>∃a vs,v= .ref a/\some a∉α/\H a=some (.tup vs)/\aT α H xs vs
def aT(α:List (Option Addr))(H:Hp):List D->List V->Prop
 | [],vs=>vs=[]
 |d::ds,vs=>∃v r,vs=v::r/\Rep α H d v/\aT α H ds r
end
theorem bC{α:List (Option Addr)}{H:Hp}:∀ {ds:List D} {vs:List V},aT α H ds vs↔Paired (Rep α H) ds vs
 | [],vs=>by
   unfold aT;constructor
   . rintro rfl;exact .nil
   . intro h;cases h;rfl
 |d::ds,vs=>by
  unfold aT;constructor
  . rintro⟨v,r,rfl,h1,h2⟩;exact .cons h1 (bC.mp h2)
  . intro h;cases h with|cons h1 h2=>exact⟨_,_,rfl,h1,bC.mpr h2⟩
section
variable {α:List (Option Addr)}{H:Hp}
theorem aT.length{ds:List D}{vs:List V}(h:aT α H ds vs):ds.length=vs.length:=Paired.length (bC.mp h)
theorem xr{A B:Type}{F:A->B->Prop}:∀ {xs:List A} {ys:List B} {i:Nat} {x:A},Paired F xs ys->xs[i]?=some x->∃y,ys[i]?=some y/\F x y
 |_,_,_,_,.nil,e=>by simp at e
 |_,_,0,_,.cons r _,e=>by simp at e;subst e;exact⟨_,rfl,r⟩
 |_,_,i+1,x,.cons _ t,e=>by
  obtain⟨u,h1,h2⟩:=xr (i:=i) (x:=x) t (by simpa using e);exact⟨u,by simpa using h1,h2⟩
theorem gy{A B:Type}{F:A->B->Prop}:∀ {xs xs':List A} {ys ys':List B},Paired F xs ys->Paired F xs' ys'->Paired F (xs++xs') (ys++ys')
 |_,_,_,_,.nil,s=>s
 |_,_,_,_,.cons r t,s=> .cons r (gy t s)
theorem vT{A B:Type}{F:A->B->Prop}:∀ {xs:List A} {ys:List B} (n:Nat),Paired F xs ys->Paired F (xs.take n) (ys.take n)
 |_,_,0,_=> .nil
 |_,_,_+1,.nil=> .nil
 |_,_,n+1,.cons r t=> .cons r (vT n t)
theorem v_{A B:Type}{F:A->B->Prop}:∀ {xs:List A} {ys:List B} (n:Nat),Paired F xs ys->Paired F (xs.drop n) (ys.drop n)
 |_,_,0,r=>r
 |_,_,_+1,.nil=> .nil
 |_,_,n+1,.cons _ t=>v_ n t
theorem sT{A B:Type}{F:A->B->Prop}{x:A}{y:B}(r:F x y):∀ {xs:List A} {ys:List B} (i:Nat),Paired F xs ys->Paired F (xs.set i x) (ys.set i y)
 |_,_,_,.nil=> .nil
 |_,_,0,.cons _ t=> .cons r t
 |_,_,i+1,.cons q t=> .cons q (sT r i t)
theorem nr{A B:Type}{F:A->B->Prop}{xs:List A}{ys:List B}(h:Paired F xs ys):∀k:Nat,Paired F (List.replicate k xs).flatten (List.replicate k ys).flatten
 |0=> .nil
 |k+1=>by
  rw[List.replicate_succ,List.replicate_succ,List.flatten_cons,List.flatten_cons];exact gy h (nr h k)
theorem aT.get{ds:List D}{vs:List V}{i:Nat}{d:D}(h:aT α H ds vs)(e:ds[i]?=some d):∃v,vs[i]?=some v/\Rep α H d v:=xr (bC.mp h) e
end
structure Step(α:List (Option Addr))(H:Hp)(α':List (Option Addr))(H':Hp):Prop where
 ext:∀b o,some b∉α->H b=some o->H' b=some o
 pre:∀(n:Nat) (x:Option Addr),α[n]?=some x->α'[n]?=some x\/α'[n]?=some none
 new:∀b,some b∈α'->some b∉α->H b=none
theorem Step.refl{α:List (Option Addr)}{H:Hp}:Step α H α H:=⟨fun _ _ _ h=>h,fun _ _ h=> .inl h,fun _ h n=>absurd h n⟩
theorem Step.trans{α α1 α2:List (Option Addr)}{H H1 H2:Hp}(a:Step α H α1 H1)(b:Step α1 H1 α2 H2):Step α H α2 H2 where
 ext:=fun c o hc e=>b.ext c o (fun z=>by rw[a.new c z hc]at e;cases e) (a.ext c o hc e)
 pre:=fun n x e=>by
  rcases a.pre n x e with h|h
  . exact b.pre n x h
  . rcases b.pre n none h with h'|h'
    . exact .inr h'
    . exact .inr h'
 new:=fun c hc n=>by
  by_cases h1:some c∈α1
  . exact a.new c h1 n
  . have:=b.new c hc h1;cases q:H c with
    |none=>rfl
    |some o=>rw[a.ext c o n q]at this;cases this
theorem Step.laid{α:List (Option Addr)}{H:Hp}{p:Addr}{o:HO}(h:H p=none):Step α H α (upd H p o):=
 ⟨fun b u _ e=>by rw[aH (d3 e h)];exact e,fun _ _ h=> .inl h,fun _ h n=>absurd h n⟩
theorem Step.cell{α:List (Option Addr)}{H:Hp}{p:Addr}{o:HO}(h:H p=none):Step α H (α++[some p]) (upd H p o):=
 ⟨fun b u _ e=>by rw[aH (d3 e h)];exact e,fun n x e=> .inl (by rw[List.getElem?_append_left (List.getElem?_eq_some_iff.mp e).1];exact e),fun b hb n=>by
  rcases List.mem_append.mp hb with z|z
  . exact absurd z n
  . have:b=p:=by simpa using z
    subst this;exact h⟩
theorem Step.write{α:List (Option Addr)}{H:Hp}{p:Addr}{o:HO}(h:some p∈α):Step α H α (upd H p o):=
 ⟨fun b u n e=>by rw[aH (fun z=>by subst z;exact n h)];exact e,fun _ _ h=> .inl h,fun _ h n=>absurd h n⟩
mutual
theorem Rep.step{α α':List (Option Addr)}{H H':Hp}(s:Step α H α' H'):∀ {d:D} {v:V},Rep α H d v->Rep α' H' d v
 | .aE,_,h=>by unfold Rep at h⊢;exact h
 | .bl _,_,h=>by unfold Rep at h⊢;exact h
 | .int _,_,h=>by unfold Rep at h⊢;exact h
 | .str _,_,h=>by unfold Rep at h⊢;exact h
 | .ty _,_,h=>by unfold Rep at h⊢;exact h
 | .ref n,_,h=>by
   unfold Rep at h⊢;rcases h with h|⟨a,e,r⟩
   . rcases s.pre _ _ h with z|z<;>exact .inl z
   . rcases s.pre _ _ e with z|z
     . exact .inr ⟨a,z,r⟩
     . exact .inl z
 | .lst xs,_,h=>by
   unfold Rep at h⊢;obtain⟨a,vs,e,n,r,q⟩:=h;refine⟨a,vs,e,fun z=>?_,?_,aT.step s q⟩
   . have:=s.new a z n;rcases r with r|⟨o,r⟩<;>(rw[this]at r;cases r)
   . rcases r with r|⟨o,r⟩
     . exact .inl (s.ext _ _ n r)
     . exact .inr ⟨o,s.ext _ _ n r⟩
 | .tup xs,_,h=>by
   unfold Rep at h⊢;obtain⟨a,vs,e,n,r,q⟩:=h;exact⟨a,vs,e,(fun z=>by rw[s.new a z n]at r;exact nomatch r),s.ext _ _ n r,aT.step s q⟩
theorem aT.step{α α':List (Option Addr)}{H H':Hp}(s:Step α H α' H'):∀ {ds:List D} {vs:List V},aT α H ds vs->aT α' H' ds vs
 | [],_,h=>by unfold aT at h⊢;exact h
 |d::ds,_,h=>by
  unfold aT at h⊢;obtain⟨v,r,e,h1,h2⟩:=h;exact⟨v,r,e,Rep.step s h1,aT.step s h2⟩
end
structure cL(G F H:Hp):Prop where
 eq:∀b,H b=(G b).or (F b)
 BK:∀b o,G b=some o->F b=none
section
variable {G F H:Hp}
theorem cL.get(P:cL G F H){b:Addr}{o:HO}(h:G b=some o):H b=some o:=by rw[P.eq b,h];rfl
theorem cL.same(P:cL G F H):Iq G H:=fun _ _ h=>P.get h
theorem cL.none(P:cL G F H){b:Addr}(h:H b=none):G b=none/\F b=none:=by
 have e:=P.eq b;rw[h]at e;cases q:G b with
 |none=>rw[q]at e;exact⟨rfl,e.symm⟩
 |some o=>rw[q]at e;cases e
theorem cL.frame(P:cL G F H){b:Addr}{o:HO}(h:F b=some o):H b=some o/\G b=Option.none:=by
 have hn:G b=Option.none:=by
  cases q:G b with
  |none=>rfl
  |some u=>rw[P.BK b u q]at h;cases h
 exact⟨by rw[P.eq b,hn,h];rfl,hn⟩
theorem cL.laid(P:cL G F H){p:Addr}{o:HO}(h:H p=Option.none):cL (upd G p o) F (upd H p o):=by
 obtain⟨h1,h2⟩:=P.none h;refine⟨fun b=>?_,fun b u e=>?_⟩
 . by_cases hb:b=p
   . subst hb;rw[a9,a9];rfl
   . rw[aH hb,aH hb];exact P.eq b
 . by_cases hb:b=p
   . subst hb;exact h2
   . rw[aH hb]at e;exact P.BK b u e
theorem cL.write(P:cL G F H){p:Addr}{o o':HO}(h:G p=some o):cL (upd G p o') F (upd H p o'):=by
 refine⟨fun b=>?_,fun b u e=>?_⟩
 . by_cases hb:b=p
   . subst hb;rw[a9,a9];rfl
   . rw[aH hb,aH hb];exact P.eq b
 . by_cases hb:b=p
   . subst hb;exact P.BK b o h
   . rw[aH hb]at e;exact P.BK b u e
theorem cL.hide(P:cL G F H){p:Addr}{o:HO}(h:H p=Option.none):cL G (upd F p o) (upd H p o):=by
 obtain⟨h1,h2⟩:=P.none h;refine⟨fun b=>?_,fun b u e=>?_⟩
 . by_cases hb:b=p
   . subst hb;rw[a9,a9,h1];rfl
   . rw[aH hb,aH hb];exact P.eq b
 . by_cases hb:b=p
   . subst hb;rw[h1]at e;cases e
   . rw[aH hb];exact P.BK b u e
theorem cL.Sd(P:cL G F H){p:Addr}{o o':HO}(h:F p=some o):cL G (upd F p o') (upd H p o'):=by
 have h1:=(P.frame h).2;refine⟨fun b=>?_,fun b u e=>?_⟩
 . by_cases hb:b=p
   . subst hb;rw[a9,a9,h1];rfl
   . rw[aH hb,aH hb];exact P.eq b
 . by_cases hb:b=p
   . subst hb;rw[h1]at e;cases e
   . rw[aH hb];exact P.BK b u e
theorem cL.show{p:Addr}{o:HO}(P:cL G (upd F p o) H)(h:F p=Option.none):cL (upd G p o) F H:=by
 have h1:=(P.frame (b:=p) a9)
 refine⟨fun b=>?_,fun b u e=>?_⟩
 . by_cases hb:b=p
   . subst hb;rw[a9,h1.1];rfl
   . rw[aH hb,P.eq b,aH hb]
 . by_cases hb:b=p
   . subst hb;exact h
   . rw[aH hb]at e;have:=P.BK b u e;rw[aH hb]at this;exact this
end
mutual
theorem Rep.mono{α:List (Option Addr)}{G H:Hp}(s:Iq G H):∀ {d:D} {v:V},Rep α G d v->Rep α H d v
 | .aE,_,h=>by unfold Rep at h⊢;exact h
 | .bl _,_,h=>by unfold Rep at h⊢;exact h
 | .int _,_,h=>by unfold Rep at h⊢;exact h
 | .str _,_,h=>by unfold Rep at h⊢;exact h
 | .ty _,_,h=>by unfold Rep at h⊢;exact h
 | .ref n,_,h=>by unfold Rep at h⊢;exact h
 | .lst xs,_,h=>by
   unfold Rep at h⊢;obtain⟨a,vs,e,n,r,q⟩:=h;refine⟨a,vs,e,n,?_,aT.mono s q⟩;rcases r with r|⟨o,r⟩
   . exact .inl (s _ _ r)
   . exact .inr ⟨o,s _ _ r⟩
 | .tup xs,_,h=>by
   unfold Rep at h⊢;obtain⟨a,vs,e,n,r,q⟩:=h;exact⟨a,vs,e,n,s _ _ r,aT.mono s q⟩
theorem aT.mono{α:List (Option Addr)}{G H:Hp}(s:Iq G H):∀ {ds:List D} {vs:List V},aT α G ds vs->aT α H ds vs
 | [],_,h=>by unfold aT at h⊢;exact h
 |d::ds,_,h=>by
  unfold aT at h⊢;obtain⟨v,r,e,h1,h2⟩:=h;exact⟨v,r,e,Rep.mono s h1,aT.mono s h2⟩
end
def kW(α:List (Option Addr))(H:Hp):List (Str×D)->List (Str×V)->Prop:=Paired fun p q=>p.1=q.1/\Rep α H p.2 q.2
def mj(α:List (Option Addr))(H:Hp)(a:Addr):Cell->Prop
 | .lst xs=>∃vs,H a=some (.lst vs)/\aT α H xs vs
 | .ins C fs=>∃dx vs,H a=some (.ins C dx vs)/\kW α H fs vs
 | .dead=>False
 | .tab P pos qual b=>a=P/\∃ps:Array Value,H a=some (.ll ps)/\TriplesOk ps.toList/\
    ((b=false/\codeAmong pos ps.toList=none)\/(b=true/\∃c o vs t,codeAmong pos ps.toList=some (.ref c)/\some c∉α/\H c=some (.gW o (.own c))/\o.data= .fields vs/\vs[1]?=some (.str qual t)))
structure a7(α:List (Option Addr))(st:ag)(H:Hp):Prop where
 len:α.length=st.length
 nd:∀(i j:Nat) (a:Addr),α[i]?=some (some a)->α[j]?=some (some a)->i=j
 at':∀(n:Nat) (c:Cell),st[n]?=some c->(c= .dead/\α[n]?=some none)\/∃a,α[n]?=some (some a)/\mj α H a c
theorem kW.step{α α':List (Option Addr)}{H H':Hp}(s:Step α H α' H'){ds:List (Str×D)}{vs:List (Str×V)}(h:kW α H ds vs):kW α' H' ds vs:=Paired.Jj h fun _ _ z=>⟨z.1,z.2.step s⟩
theorem mj.same{α α':List (Option Addr)}{H H':Hp}{a:Addr}{c:Cell}(s:Step α H α' H')(e:H' a=H a)(h:mj α H a c):mj α' H' a c:=by
 cases c with
 |lst xs=>obtain⟨vs,h1,h2⟩:=h;exact⟨vs,e.trans h1,h2.step s⟩
 |ins C fs=>obtain⟨dx,vs,h1,h2⟩:=h;exact⟨dx,vs,e.trans h1,h2.step s⟩
 |dead=>exact h.elim
 |tab P pos qual b=>
  obtain⟨z,ps,h1,h2,h3⟩:=h;refine⟨z,ps,e.trans h1,h2,?_⟩;rcases h3 with h3|⟨hb,c,o,vs,t,q1,q2,q3,q4⟩
  . exact .inl h3
  . exact .inr ⟨hb,c,o,vs,t,q1,(fun y=>by rw[s.new c y q2]at q3;cases q3),s.ext c _ q2 q3,q4⟩
theorem mj.some{α:List (Option Addr)}{H:Hp}{a:Addr}{c:Cell}(h:mj α H a c):∃o,H a=some o:=by
 cases c with
 |lst xs=>obtain⟨vs,h1,h2⟩:=h;exact⟨_,h1⟩
 |ins C fs=>obtain⟨dx,vs,h1,h2⟩:=h;exact⟨_,h1⟩
 |dead=>exact h.elim
 |tab P pos qual b=>obtain⟨_,ps,h1,_⟩:=h;exact⟨_,h1⟩
theorem eF{α:List (Option Addr)}{H:Hp}{n:Nat}{v:V}{a:Addr}(e:α[n]?=Option.some (Option.some a))(r:Rep α H (.ref n) v):v= .ref a:=by
 unfold Rep at r;rcases r with r|⟨b,eb,rfl⟩
 . rw[e]at r;cases r
 . rw[e]at eb;cases eb;rfl
section
variable {α:List (Option Addr)}{st:ag}{H:Hp}
theorem a7.g0(S:a7 α st H){n:Nat}{xs:List D}(e:st[n]?=Option.some (.lst xs)):∃a,α[n]?=Option.some (Option.some a)/\∃vs,H a=Option.some (.lst vs)/\aT α H xs vs:=by
 rcases S.at' n _ e with⟨z,_⟩|z
 . cases z
 . exact z
theorem a7.AA(S:a7 α st H){n:Nat}{C:Addr}{fs:List (Str×D)}(e:st[n]?=Option.some (.ins C fs)):∃a,α[n]?=Option.some (Option.some a)/\∃dx vs,H a=Option.some (.ins C dx vs)/\kW α H fs vs:=by
 rcases S.at' n _ e with⟨z,_⟩|z
 . cases z
 . exact z
theorem a7.mem(S:a7 α st H){a:Addr}(h:Option.some a∈α):∃(n:Nat) (c:Cell),α[n]?=Option.some (Option.some a)/\st[n]?=Option.some c/\mj α H a c:=by
 obtain⟨n,hn,e⟩:=List.mem_iff_getElem.mp h;have hl:n<st.length:=by rw[<-S.len];exact hn
 have e':α[n]?=Option.some (Option.some a):=by rw[List.getElem?_eq_getElem hn,e]
 rcases S.at' n st[n] (by simp[hl])with⟨_,q⟩|⟨a',q,ca⟩
 . rw[e']at q;cases q
 . rw[e']at q;cases q;exact⟨n,_,e',by simp[hl],ca⟩
theorem a7.mh(S:a7 α st H){p:Addr}(h:H p=none):Option.some p∉α:=fun z=>by
 obtain⟨n,c,_,_,ca⟩:=S.mem z;obtain⟨o,e⟩:=ca.some;rw[h]at e;cases e
theorem a7.laid(S:a7 α st H){p:Addr}{o:HO}(h:H p=none):a7 α st (upd H p o):=
 ⟨S.len,S.nd,fun n c e=>by
  rcases S.at' n c e with z|⟨a,q,ca⟩
  . exact .inl z
  . exact .inr ⟨a,q,ca.same (Step.laid h) (aH (by obtain⟨u,z⟩:=ca.some;exact d3 z h))⟩⟩
theorem a7.cell(S:a7 α st H){p:Addr}{o:HO}{c:Cell}(h:H p=none)(hc:mj (α++[Option.some p]) (upd H p o) p c):a7 (α++[Option.some p]) (st++[c]) (upd H p o) where
 len:=by rw[List.length_append,List.length_append,S.len];rfl
 nd:=fun i j a ei ej=>by
  have key:∀(i:Nat) (a:Addr),(α++[Option.some p])[i]?=Option.some (Option.some a)->(i<α.length/\α[i]?=Option.some (Option.some a))\/(i=α.length/\a=p):=by
   intro i a e;by_cases hi:i<α.length
   . rw[List.getElem?_append_left hi]at e;exact .inl ⟨hi,e⟩
   . rw[List.getElem?_append_right (Nat.le_of_not_lt hi)]at e
     have h0:i-α.length=0:=by
      cases q:i-α.length with
      |zero=>rfl
      |succ k=>rw[q]at e;simp at e
     rw[h0]at e;have:p=a:=by simpa using e
     exact .inr ⟨by omega,this.symm⟩
  rcases key i a ei with⟨h1,e1⟩|⟨h1,e1⟩<;>rcases key j a ej with⟨h2,e2⟩|⟨h2,e2⟩
  . exact S.nd i j a e1 e2
  . subst e2;exact absurd (List.mem_of_getElem? e1) (S.mh h)
  . subst e1;exact absurd (List.mem_of_getElem? e2) (S.mh h)
  . omega
 at':=fun n d e=>by
  by_cases hn:n<st.length
  . rw[List.getElem?_append_left hn]at e;have hl:n<α.length:=by rw[S.len];exact hn
    rcases S.at' n d e with⟨z,q⟩|⟨a,q,ca⟩
    . exact .inl ⟨z,by rw[List.getElem?_append_left hl];exact q⟩
    . exact .inr ⟨a,by rw[List.getElem?_append_left hl];exact q,ca.same (Step.cell h) (aH (by obtain⟨u,z⟩:=ca.some;exact d3 z h))⟩
  . rw[List.getElem?_append_right (Nat.le_of_not_lt hn)]at e
    have h0:n-st.length=0:=by
     cases q:n-st.length with
     |zero=>rfl
     |succ k=>rw[q]at e;simp at e
    rw[h0]at e;have hd:c=d:=by simpa using e
    subst hd;refine .inr ⟨p,?_,hc⟩;rw[List.getElem?_append_right (by rw[S.len];exact Nat.le_of_not_lt hn),S.len,h0];rfl
theorem a7.write(S:a7 α st H){p:Addr}{o:HO}{c:Cell}{n:Nat}(e:α[n]?=Option.some (Option.some p))(hc:mj α (upd H p o) p c):a7 α (st.set n c) (upd H p o) where
 len:=by rw[List.length_set];exact S.len
 nd:=S.nd
 at':=fun m d q=>by
  have hp:Option.some p∈α:=List.mem_of_getElem? e;by_cases hm:m=n
  . subst hm
    have hl:m<st.length:=by
     have:=(List.getElem?_eq_some_iff.mp q).1;rw[List.length_set]at this;exact this
    rw[List.getElem?_set_self hl]at q;cases q;exact .inr ⟨p,e,hc⟩
  . rw[List.getElem?_set_ne (Ne.symm hm)]at q;rcases S.at' m d q with z|⟨a,r,ca⟩
    . exact .inl z
    . refine .inr ⟨a,r,ca.same (Step.write hp) (aH fun z=>?_)⟩;subst z;exact hm (S.nd m n _ r e)
end
abbrev DK:=D->ag->Prop
abbrev DE:=cu->ag->DK->Prop
abbrev DT:=cu->ag->(Bool->ag->Prop)->Prop
abbrev DA:=cu->ag->(List D->ag->Prop)->Prop
structure oK where
 nx:cu->ag->Prop
 rt:DK
 bk:cu->ag->Prop:=fun _ _=>False
 ct:cu->ag->Prop:=fun _ _=>False
abbrev DS:=oK->cu->ag->Prop
structure eJ(α:List (Option Addr))(H:Hp)(σd:cu)(σ:L2.St):Prop where
 len:σd.length=σ.length
 at':∀(i:Nat) (d:D),σd[i]?=some (some d)->∃v,σ[i]?=some (some v)/\Rep α H d v
theorem eJ.step{α α':List (Option Addr)}{H H':Hp}{σd:cu}{σ:L2.St}(s:Step α H α' H')(h:eJ α H σd σ):eJ α' H' σd σ:=
 ⟨h.len,fun i d e=>let⟨v,q,r⟩:=h.at' i d e;⟨v,q,r.step s⟩⟩
theorem eJ.set{α:List (Option Addr)}{H:Hp}{σd:cu}{σ:L2.St}(h:eJ α H σd σ)(i:Nat){d:D}{v:V}(r:Rep α H d v):eJ α H (σd.set i (some d)) (σ.set i (some v)):=by
 refine⟨by rw[List.length_set,List.length_set,h.len],fun j e q=>?_⟩;have hl:=h.len;by_cases hj:j=i
 . subst hj
   have hlt:j<σd.length:=by
    have:=(List.getElem?_eq_some_iff.mp q).1;rw[List.length_set]at this;exact this
   rw[List.getElem?_set_self hlt]at q;cases q;exact⟨v,List.getElem?_set_self (by omega),r⟩
 . rw[List.getElem?_set_ne (Ne.symm hj)]at q;rw[List.getElem?_set_ne (Ne.symm hj)];exact h.at' j e q
def LK(α:List (Option Addr))(G F:Hp)(K:DK)(Q:VK):Prop:=∀d st',K d st'->∀α' G' H' v,Step α G α' G'->cL G' F H'->a7 α' st' G'->Rep α' G' d v->Q v H'
def Kn(α:List (Option Addr))(G F:Hp)(K:Bool->ag->Prop)(Q:Bool->Hp->Prop):Prop:=∀b st',K b st'->∀α' G' H',Step α G α' G'->cL G' F H'->a7 α' st' G'->Q b H'
def Sh(α:List (Option Addr))(G F:Hp)(K:List D->ag->Prop)(Q:List V->Hp->Prop):Prop:=∀ds st',K ds st'->∀α' G' H' vs,Step α G α' G'->cL G' F H'->a7 α' st' G'->aT α' G' ds vs->Q vs H'
inductive Rb(t:DE)(σ:L2.St)(H:Hp)(Q:VK):Prop
 |mk (α:List (Option Addr)) (σd:cu) (st:ag) (K:DK) (G F:Hp) (P:cL G F H) (R:eJ α G σd σ) (S:a7 α st G) (h:t σd st K) (k:LK α G F K Q):Rb t σ H Q
def LE(t:DE):TE:=Rb t
inductive QV(t:DT)(σ:L2.St)(H:Hp)(Q:Bool->Hp->Prop):Prop
 |mk (α:List (Option Addr)) (σd:cu) (st:ag) (K:Bool->ag->Prop) (G F:Hp) (P:cL G F H) (R:eJ α G σd σ) (S:a7 α st G) (h:t σd st K) (k:Kn α G F K Q):QV t σ H Q
def LT(t:DT):TT:=QV t
inductive Ra(t:DA)(σ:L2.St)(H:Hp)(Q:List V->Hp->Prop):Prop
 |mk (α:List (Option Addr)) (σd:cu) (st:ag) (K:List D->ag->Prop) (G F:Hp) (P:cL G F H) (R:eJ α G σd σ) (S:a7 α st G) (h:t σd st K) (k:Sh α G F K Q):Ra t σ H Q
def LA(t:DA):TA:=Ra t
theorem LK.here{α:List (Option Addr)}{G F H:Hp}{K:DK}{Q:VK}(h:LK α G F K Q)(P:cL G F H){d:D}{st:ag}{v:V}(k:K d st)(S:a7 α st G)(r:Rep α G d v):Q v H:=h d st k α G H v Step.refl P S r
theorem LK.at{α α1:List (Option Addr)}{G F G1:Hp}{K:DK}{Q:VK}(h:LK α G F K Q)(s:Step α G α1 G1):LK α1 G1 F K Q:=fun d st' k α' G' H' v s' P S r=>h d st' k α' G' H' v (s.trans s') P S r
theorem Kn.at{α α1:List (Option Addr)}{G F G1:Hp}{K:Bool->ag->Prop}{Q:Bool->Hp->Prop}(h:Kn α G F K Q)(s:Step α G α1 G1):Kn α1 G1 F K Q:=fun d st' k α' G' H' s' P S=>h d st' k α' G' H' (s.trans s') P S
section
variable {X:Cx}{a b c e:Expr}{es:List Expr}{ta tb tc te:DE}{pos:Pos}
theorem PE.imp{t t':TE}(h:PE X e t)(f:∀σ H Q,t' σ H Q->t σ H Q):PE X e t':=fun pins s σ H Q I q=>h pins s σ H Q I (f σ H Q q)
theorem PT.imp{t t':TT}(h:PT X e t)(f:∀σ H Q,t' σ H Q->t σ H Q):PT X e t':=fun pins s σ H Q I q=>h pins s σ H Q I (f σ H Q q)
theorem PW.imp{t t':TT}(h:PW X e t)(f:∀σ H Q,t' σ H Q->t σ H Q):PW X e t':=fun w pins s σ H Q I q=>h w pins s σ H Q I (f σ H Q q)
theorem PA.imp{t t':TA}(h:PA X es t)(f:∀σ H Q,t' σ H Q->t σ H Q):PA X es t':=fun p pins s σ H Q I q=>h p pins s σ H Q I (f σ H Q q)
def ae(i:Nat):DE:=fun σ st K=>match σ[i]? with|some (some d)=>K d st|_=>False
def dC(d:D):DE:=fun _ st K=>K d st
theorem Pj{i:Nat}{x:Str}(h:PE X (.Name x pos) (MR i)):PE X (.Name x pos) (LE (ae i)):=PE.imp h fun σ H Q ⟨α,σd,st,K,G,F,P,R,S,t,k⟩=>by
 unfold ae at t;split at t
 . rename_i d q;obtain⟨v,e,r⟩:=R.at' i d q;exact⟨v,e,k.here P t S r⟩
 . exact t.elim
theorem r9{v:V}{d:D}(h:PE X e (tC v))(r:∀α H,Rep α H d v):PE X e (LE (dC d)):=PE.imp h fun σ H Q ⟨α,σd,st,K,G,F,P,R,S,t,k⟩=>k.here P t S (r α G)
theorem Qg{i:Int}{j:Nat}:PE X (.Constant (.int i) j pos) (LE (dC (.int i))):=r9 NK fun _ _=>by unfold Rep;rfl
theorem RI{i:Bool}{j:Nat}:PE X (.Constant (.bool i) j pos) (LE (dC (.bl i))):=r9 Pw fun _ _=>by unfold Rep;rfl
theorem Qn{i:Str}{j:Nat}:PE X (.Constant (.str i) j pos) (LE (dC (.str i))):=r9 NV fun _ _=>by unfold Rep;rfl
theorem PD{j:Nat}:PE X (.Constant .none j pos) (LE (dC .aE)):=r9 M3 fun _ _=>by unfold Rep;rfl
abbrev dz:=D->D->ag->DK->Prop
abbrev Bx:=D->ag->DK->Prop
abbrev iW:=List D->ag->DK->Prop
inductive Q3(r:dz)(x y:V)(H:Hp)(Q:VK):Prop
 |mk (α:List (Option Addr)) (d e:D) (st:ag) (K:DK) (G F:Hp) (P:cL G F H) (rx:Rep α G d x) (ry:Rep α G e y) (S:a7 α st G) (h:r d e st K) (k:LK α G F K Q):Q3 r x y H Q
def LR(r:dz):R2:=Q3 r
inductive MK(r:Bx)(x:V)(H:Hp)(Q:VK):Prop
 |mk (α:List (Option Addr)) (d:D) (st:ag) (K:DK) (G F:Hp) (P:cL G F H) (rx:Rep α G d x) (S:a7 α st G) (h:r d st K) (k:LK α G F K Q):MK r x H Q
def JN(r:Bx):V->Hp->VK->Prop:=MK r
inductive Og(r:iW)(xs:List V)(H:Hp)(Q:VK):Prop
 |mk (α:List (Option Addr)) (ds:List D) (st:ag) (K:DK) (G F:Hp) (P:cL G F H) (rx:aT α G ds xs) (S:a7 α st G) (h:r ds st K) (k:LK α G F K Q):Og r xs H Q
def kj(r:iW):List V->Hp->VK->Prop:=Og r
def av(r:dz)(ta tb:DE):DE:=fun σ st K=>ta σ st fun x st1=>tb σ st1 fun y st2=>r x y st2 K
def mG(r:Bx)(ta:DE):DE:=fun σ st K=>ta σ st fun x st1=>r x st1 K
theorem LE.op{r:dz}{σ:L2.St}{H:Hp}{Q:VK}(h:LE (av r ta tb) σ H Q):F7 (LR r) (LE ta) (LE tb) σ H Q:=by
 obtain⟨α,σd,st,K,G,F,P,R,S,t,k⟩:=h;refine⟨α,σd,st,_,G,F,P,R,S,t,fun d st1 q α1 G1 H1 v s1 P1 S1 r1=>?_⟩;refine⟨α1,σd,st1,_,G1,F,P1,R.step s1,S1,q,fun d2 st2 q2 α2 G2 H2 v2 s2 P2 S2 r2=>?_⟩;exact⟨α2,d,d2,st2,K,G2,F,P2,r1.step s2,r2,S2,q2,(k.at s1).at s2⟩
theorem LE.un{r:Bx}{σ:L2.St}{H:Hp}{Q:VK}(h:LE (mG r ta) σ H Q):QM (JN r) (LE ta) σ H Q:=by
 obtain⟨α,σd,st,K,G,F,P,R,S,t,k⟩:=h;refine⟨α,σd,st,_,G,F,P,R,S,t,fun d st1 q α1 G1 H1 v s1 P1 S1 r1=>?_⟩;exact⟨α1,d,st1,K,G1,F,P1,r1,S1,q,k.at s1⟩
theorem Rr{op:Operator}{r:dz}(ho:cn X (binaryOp op) (LR r))(ha:PE X a (LE ta))(hb:PE X b (LE tb)):PE X (.BinOp a op b pos) (LE (av r ta tb)):=PE.imp (Pu ho ha hb) fun _ _ _ h=>LE.op h
theorem Ri{op:UnaryOp}{r:Bx}(ho:Dl X (unaryOp op) (JN r))(ha:PE X a (LE ta)):PE X (.UnaryOp op a pos) (LE (mG r ta)):=PE.imp (PF ho ha) fun _ _ _ h=>LE.un h
theorem Qy{op:CmpOp}{r:dz}(ho:cn X (compareOp op) (LR r))(ha:PE X a (LE ta))(hb:PE X b (LE tb))(hm:behindInMarks op b=false:=by first|exact aZ _|rfl):PE X (.Compare a [op] [b] pos) (LE (av r ta tb)):=PE.imp (Lc ho ha hb hm) fun _ _ _ h=>LE.op h
def ba(t:DE):DT:=fun σ st K=>t σ st fun d st1=>match d with| .bl b=>K b st1|_=>False
theorem LT.test{σ:L2.St}{H:Hp}{Q:Bool->Hp->Prop}(h:LT (ba te) σ H Q):LE te σ H fun x H'=>∃k,x= .bl k/\Q k H':=by
 obtain⟨α,σd,st,K,G,F,P,R,S,t,k⟩:=h;refine⟨α,σd,st,_,G,F,P,R,S,t,fun d st1 q α1 G1 H1 v s1 P1 S1 r1=>?_⟩;cases d with
 |bl b=>
  unfold Rep at r1;exact⟨b,r1,k b st1 q α1 G1 H1 s1 P1 S1⟩
 |_=>exact q.elim
theorem MU{op:CmpOp}{r:dz}(ho:cn X (compareOp op) (LR r))(ha:PE X a (LE ta))(hb:PE X b (LE tb))(hm:behindInMarks op b=false:=by first|exact aZ _|rfl):PT X (.Compare a [op] [b] pos) (LT (ba (av r ta tb))):=PT.imp (Kv ho ha hb hm) fun σ H Q h=>by
 have q:=LT.test h;exact LE.op (Q:=fun x H'=>∃k,x= .bl k/\Q k H') q
theorem OE(he:PE X e (LE te))(hv:∀whole,isTrue e X.env whole=(do let v <-whole;standAt e.pos;holding [v] (truthy v)):=by intro _;rfl):PT X e (LT (ba te)):=PT.imp (MM he hv) fun σ H Q h=>LT.test h
def jx(t:DT):DT:=fun σ st K=>t σ st fun b st1=>K (!b) st1
def l_(t u:DT):DT:=fun σ st K=>t σ st fun b st1=>if b=true then u σ st1 K else K false st1
def qL(t u:DT):DT:=fun σ st K=>t σ st fun b st1=>if b=true then K true st1 else u σ st1 K
theorem Om{t:DT}(ha:PT X a (LT t)):PT X (.UnaryOp .Not a pos) (LT (jx t)):=PT.imp (MD ha) fun σ H Q ⟨α,σd,st,K,G,F,P,R,S,t,k⟩=>
 ⟨α,σd,st,_,G,F,P,R,S,t,fun b st1 q α1 G1 H1 s1 P1 S1=>k _ st1 q α1 G1 H1 s1 P1 S1⟩
theorem LT.and{t u:DT}{σ:L2.St}{H:Hp}{Q:Bool->Hp->Prop}(h:LT (l_ t u) σ H Q):Na (LT t) (LT u) σ H Q:=by
 obtain⟨α,σd,st,K,G,F,P,R,S,t,k⟩:=h;refine⟨α,σd,st,_,G,F,P,R,S,t,fun b st1 q α1 G1 H1 s1 P1 S1=>?_⟩;cases b with
 |true=>exact⟨α1,σd,st1,K,G1,F,P1,R.step s1,S1,q,k.at s1⟩
 |false=>exact k _ st1 q α1 G1 H1 s1 P1 S1
theorem LT.or{t u:DT}{σ:L2.St}{H:Hp}{Q:Bool->Hp->Prop}(h:LT (qL t u) σ H Q):QT (LT t) (LT u) σ H Q:=by
 obtain⟨α,σd,st,K,G,F,P,R,S,t,k⟩:=h;refine⟨α,σd,st,_,G,F,P,R,S,t,fun b st1 q α1 G1 H1 s1 P1 S1=>?_⟩;cases b with
 |false=>exact⟨α1,σd,st1,K,G1,F,P1,R.step s1,S1,q,k.at s1⟩
 |true=>exact k _ st1 q α1 G1 H1 s1 P1 S1
theorem L6{t:DT}(ha:PT X a (LT t)):PW X (.BoolOp .And [a] pos) (LT t):=pw_and1 ha
theorem ND{t:DT}(ha:PT X a (LT t)):PW X (.BoolOp .Or [a] pos) (LT t):=pw_or1 ha
theorem OH{t u:DT}(ha:PT X a (LT t))(hb:PW X (.BoolOp .And (b::es) pos) (LT u)):PW X (.BoolOp .And (a::b::es) pos) (LT (l_ t u)):=PW.imp (pw_and ha hb) fun _ _ _ h=>LT.and h
theorem Qs{t u:DT}(ha:PT X a (LT t))(hb:PW X (.BoolOp .Or (b::es) pos) (LT u)):PW X (.BoolOp .Or (a::b::es) pos) (LT (qL t u)):=PW.imp (pw_or ha hb) fun _ _ _ h=>LT.or h
def jz(ta tb:DE):DE:=fun σ st K=>ta σ st fun d st1=>match d with| .bl b=>if b=true then tb σ st1 K else K (.bl false) st1|_=>False
def Je(ta tb:DE):DE:=fun σ st K=>ta σ st fun d st1=>match d with| .bl b=>if b=true then K (.bl true) st1 else tb σ st1 K|_=>False
def E6(t:DT):DE:=fun σ st K=>t σ st fun b st1=>K (.bl (!b)) st1
theorem Pe{op:BoolOp}(ha:PE X a (LE ta)):PE X (.BoolOp op [a] pos) (LE ta):=NJ ha
theorem P7(ha:PE X a (LE ta))(hb:PE X (.BoolOp .And (b::es) pos) (LE tb)):PE X (.BoolOp .And (a::b::es) pos) (LE (jz ta tb)):=PE.imp (N8 ha hb) fun σ H Q ⟨α,σd,st,K,G,F,P,R,S,t,k⟩=>by
 refine⟨α,σd,st,_,G,F,P,R,S,t,fun d st1 q α1 G1 H1 v s1 P1 S1 r1=>?_⟩;cases d with
 |bl b=>
  unfold Rep at r1;refine⟨b,r1,?_⟩;cases b with
  |true=>exact⟨α1,σd,st1,K,G1,F,P1,R.step s1,S1,q,k.at s1⟩
  |false=>exact k _ st1 q α1 G1 H1 _ s1 P1 S1 (by unfold Rep;rfl)
 |_=>exact q.elim
theorem Ru(ha:PE X a (LE ta))(hb:PE X (.BoolOp .Or (b::es) pos) (LE tb)):PE X (.BoolOp .Or (a::b::es) pos) (LE (Je ta tb)):=PE.imp (Pz ha hb) fun σ H Q ⟨α,σd,st,K,G,F,P,R,S,t,k⟩=>by
 refine⟨α,σd,st,_,G,F,P,R,S,t,fun d st1 q α1 G1 H1 v s1 P1 S1 r1=>?_⟩;cases d with
 |bl b=>
  unfold Rep at r1;refine⟨b,r1,?_⟩;cases b with
  |false=>exact⟨α1,σd,st1,K,G1,F,P1,R.step s1,S1,q,k.at s1⟩
  |true=>exact k _ st1 q α1 G1 H1 _ s1 P1 S1 (by unfold Rep;rfl)
 |_=>exact q.elim
theorem Qi(ha:PE X a (LE ta)):PE X (.UnaryOp .Not a pos) (LE (E6 (ba ta))):=PE.imp (MJ ha) fun σ H Q ⟨α,σd,st,K,G,F,P,R,S,t,k⟩=>by
 refine⟨α,σd,st,_,G,F,P,R,S,t,fun d st1 q α1 G1 H1 v s1 P1 S1 r1=>?_⟩;cases d with
 |bl b=>
  unfold Rep at r1;exact⟨b,r1,k _ st1 q α1 G1 H1 _ s1 P1 S1 (by unfold Rep;rfl)⟩
 |_=>exact q.elim
def OZ(t:DT)(ta tb:DE):DE:=fun σ st K=>t σ st fun b st1=>if b=true then ta σ st1 K else tb σ st1 K
theorem QA{t:DT}(hc:PT X c (LT t))(ha:PE X a (LE ta))(hb:PE X b (LE tb)):PE X (.IfExp c a b pos) (LE (OZ t ta tb)):=PE.imp (Iy hc ha hb) fun σ H Q ⟨α,σd,st,K,G,F,P,R,S,t,k⟩=>by
 refine⟨α,σd,st,_,G,F,P,R,S,t,fun b st1 q α1 G1 H1 s1 P1 S1=>?_⟩;cases b with
 |true=>exact⟨α1,σd,st1,K,G1,F,P1,R.step s1,S1,q,k.at s1⟩
 |false=>exact⟨α1,σd,st1,K,G1,F,P1,R.step s1,S1,q,k.at s1⟩
def ak:DA:=fun _ st K=>K [] st
def af(ta:DE)(tr:DA):DA:=fun σ st K=>ta σ st fun x st1=>tr σ st1 fun xs st2=>K (x::xs) st2
theorem xF:PA X [] (LA ak):=PA.imp N3 fun σ H Q ⟨α,σd,st,K,G,F,P,R,S,t,k⟩=>k [] st t α G H [] Step.refl P S (by unfold aT;rfl)
theorem rE{tr:DA}(ha:PE X e (LE te))(hr:PA X es (LA tr))(hs:starEach (e::es) X.env=(false,eval e X.env)::starEach es X.env:=by rfl):PA X (e::es) (LA (af te tr)):=PA.imp (Mo ha hr hs) fun σ H Q ⟨α,σd,st,K,G,F,P,R,S,t,k⟩=>by
 refine⟨α,σd,st,_,G,F,P,R,S,t,fun d st1 q α1 G1 H1 v s1 P1 S1 r1=>?_⟩;refine⟨α1,σd,st1,_,G1,F,P1,R.step s1,S1,q,fun ds st2 q2 α2 G2 H2 vs s2 P2 S2 r2=>?_⟩;exact k _ st2 q2 α2 G2 H2 (v::vs) (s1.trans s2) P2 S2 (by unfold aT;exact⟨v,vs,rfl,r1.step s2,r2⟩)
def ji(t:DA):DE:=fun σ st K=>t σ st fun ds st1=>ds.length<=sizeLine/\K (.tup ds) st1
def sP(t:DA):DE:=fun σ st K=>t σ st fun ds st1=>ds.length<=sizeLine/\K (.lst ds) st1
def BS(t:DA):DE:=fun σ st K=>t σ st fun ds st1=>ds.length<=sizeLine/\K (.ref st1.length) (st1++[.lst ds])
theorem LK.tup{α:List (Option Addr)}{G F H:Hp}{K:DK}{Q:VK}{ds:List D}{vs:List V}{st:ag}{p:Addr}(k:LK α G F K Q)(P:cL G F H)(q:K (.tup ds) st)(S:a7 α st G)(r:aT α G ds vs)(hp:H p=none):Q (.ref p) (upd H p (.tup vs)):=
 have hg:=(P.none hp).1
 k _ st q α _ _ _ (Step.laid hg) (P.laid hp) (S.laid hg) (by unfold Rep;exact⟨p,vs,rfl,S.mh hg,a9,r.step (Step.laid hg)⟩)
theorem LK.lst{α:List (Option Addr)}{G F H:Hp}{K:DK}{Q:VK}{ds:List D}{vs:List V}{st:ag}{p:Addr}(k:LK α G F K Q)(P:cL G F H)(q:K (.lst ds) st)(S:a7 α st G)(r:aT α G ds vs)(hp:H p=none):Q (.ref p) (upd H p (.lst vs)):=
 have hg:=(P.none hp).1
 k _ st q α _ _ _ (Step.laid hg) (P.laid hp) (S.laid hg) (by unfold Rep;exact⟨p,vs,rfl,S.mh hg,.of a9,r.step (Step.laid hg)⟩)
theorem LK.new{α:List (Option Addr)}{G F H:Hp}{K:DK}{Q:VK}{ds:List D}{vs:List V}{st:ag}{p:Addr}(k:LK α G F K Q)(P:cL G F H)(q:K (.ref st.length) (st++[.lst ds]))(S:a7 α st G)(r:aT α G ds vs)(hp:H p=none):Q (.ref p) (upd H p (.lst vs)):=
 have hg:=(P.none hp).1
 k _ _ q (α++[some p]) _ _ _ (Step.cell hg) (P.laid hp) (S.cell hg ⟨vs,a9,r.step (Step.cell hg)⟩) (by
  unfold Rep;refine .inr ⟨p,?_,rfl⟩;rw[List.getElem?_append_right (by rw[S.len];exact Nat.le_refl _),S.len,Nat.sub_self];rfl)
theorem Qz{n:Nat}{t:DA}(h:PA X es (LA t)):PE X (.Tuple es n pos) (LE (ji t)):=PE.imp (NU h) fun σ H Q ⟨α,σd,st,K,G,F,P,R,S,t,k⟩=>
 ⟨α,σd,st,_,G,F,P,R,S,t,fun ds st1 q α1 G1 H1 vs s1 P1 S1 r1=>⟨by rw[<-r1.length];exact q.1,fun p hp=>(k.at s1).tup P1 q.2 S1 r1 hp⟩⟩
theorem Px{t:DA}(h:PA X es (LA t)):PE X (.List es pos) (LE (sP t)):=PE.imp (F1 h) fun σ H Q ⟨α,σd,st,K,G,F,P,R,S,t,k⟩=>
 ⟨α,σd,st,_,G,F,P,R,S,t,fun ds st1 q α1 G1 H1 vs s1 P1 S1 r1=>⟨by rw[<-r1.length];exact q.1,fun p hp=>(k.at s1).lst P1 q.2 S1 r1 hp⟩⟩
theorem PC{t:DA}(h:PA X es (LA t)):PE X (.List es pos) (LE (BS t)):=PE.imp (F1 h) fun σ H Q ⟨α,σd,st,K,G,F,P,R,S,t,k⟩=>
 ⟨α,σd,st,_,G,F,P,R,S,t,fun ds st1 q α1 G1 H1 vs s1 P1 S1 r1=>⟨by rw[<-r1.length];exact q.1,fun p hp=>(k.at s1).new P1 q.2 S1 r1 hp⟩⟩
abbrev cw:=List D->ag->DK->Prop
inductive NR(T:cw)(vs:List V)(H:Hp)(Q:VK):Prop
 |mk (α:List (Option Addr)) (ds:List D) (st:ag) (K:DK) (G F:Hp) (P:cL G F H) (rx:aT α G ds vs) (S:a7 α st G) (h:T ds st K) (k:LK α G F K Q):NR T vs H Q
def cG(S:cw):Sp:=fun vs H Q _=>NR S vs H Q
def aC(S:cw)(t:DA):DE:=fun σ st K=>t σ st fun ds st1=>S ds st1 K
theorem LE.call{S:cw}{t:DA}{σ:L2.St}{H:Hp}{Q:VK}(h:LE (aC S t) σ H Q):JF (cG S) [] E0 (LA t) σ H Q:=by
 obtain⟨α,σd,st,K,G,F,P,R,S,t,k⟩:=h;refine⟨α,σd,st,_,G,F,P,R,S,t,fun ds st1 q α1 G1 H1 vs s1 P1 S1 r1=>?_⟩;try dsimp only
 rw[List.append_nil];exact⟨α1,ds,st1,K,G1,F,P1,r1,S1,q,k.at s1⟩
theorem Nl{S:cw}{k:Nat}{f:Addr}{fd:FuncData}{ps:List Str}{x:Str}{p:Pos}{t:DA}(F:bh X.prog X.w X.K X.mg X.base cz k f fd ps (cG S))(hr:dn k X.A)(hg:Gl X x)(hm:X.mg x=some (.ref f))(hk:PySem.W.keepIn X.K (.ref f)=true)(hb:Binds X.K fd ps [])
 (ha:PA X (e::es) (LA t)) (hdb:(x==("__debug__":Str))=false:=by decide) (he:starEach (e::es) X.env=(false,eval e X.env)::starEach es X.env:=by rfl) (hpl:(backTo pos (starEach es X.env)).any (·.1)=false:=by rfl):
 PE X (.Call (.Name x p) (e::es) [] pos) (LE (aC S t)):=PE.imp (Lu F hr hg hm hk hb .nil Fd ha hdb he hpl) fun _ _ _ h=>LE.call h
def bY(r:iW)(t:DA):DE:=fun σ st K=>t σ st fun ds st1=>r ds st1 K
theorem LE.cb{r:iW}{t:DA}{σ:L2.St}{H:Hp}{Q:VK}(h:LE (bY r t) σ H Q):M0 (kj r) (LA t) σ H Q:=by
 obtain⟨α,σd,st,K,G,F,P,R,S,t,k⟩:=h;refine⟨α,σd,st,_,G,F,P,R,S,t,fun ds st1 q α1 G1 H1 vs s1 P1 S1 r1=>?_⟩;exact⟨α1,ds,st1,K,G1,F,P1,r1,S1,q,k.at s1⟩
end
section
variable {X:Cx}
theorem cn.imp{f:Value->Value->Sem Value}{r r':R2}(h:cn X f r)(k:∀x y H Q,r' x y H Q->r x y H Q):cn X f r':=fun pins s σ H x y v u Q I rx ry q=>h pins s σ H x y v u Q I rx ry (k x y H Q q)
theorem de.imp{f:Value}{r r':List V->Hp->VK->Prop}(h:de X f r)(k:∀xs H Q,r' xs H Q->r xs H Q):de X f r':=fun pins s σ H xs us Q I rs q=>h pins s σ H xs us Q I rs (k xs H Q q)
def yk(C:Int->Int->Prop)(g:Int->Int->D):dz:=fun x y st K=>match x,y with| .int i,.int j=>C i j/\K (g i j) st|_,_=>False
theorem nR{f:Value->Value->Sem Value}{C:Int->Int->Prop}{g:Int->Int->D}{g':Int->Int->V}(hg:∀i j α H,Rep α H (g i j) (g' i j))(h:cn X f (rI C g')):cn X f (LR (yk C g)):=cn.imp h fun x y H Q ⟨α,d,e,st,K,G,F',P,r1,r2,S,q,k⟩=>by
 cases d<;>cases e<;>first
  |exact q.elim
  |(unfold Rep at r1 r2;exact⟨_,_,r1,r2,q.1,k.here P q.2 S (hg _ _ _ _)⟩)
abbrev T2:Int->Int->Prop:=fun _ _=>True
theorem AH{g:Int->Int->V}{f:Value->Value->Sem Value}(h:cn X f (Aa g)):cn X f (rI T2 g):=cn.imp h fun x y H Q ⟨i,j,e1,e2,_,q⟩=>⟨i,j,e1,e2,q⟩
abbrev Jq:dz:=yk T2 fun i j=> .int (i-j)
abbrev FO:dz:=yk (fun _ j=>j≠0/\j.natAbs.log2<9000) fun i j=> .int (i.fdiv j)
abbrev Jr:dz:=yk (fun _ j=>j≠0) fun i j=> .int (i.fmod j)
abbrev Km:dz:=yk IZ fun i j=> .int (i^j.toNat)
abbrev N0:dz:=yk T2 fun i j=> .bl (decide (i<j))
abbrev NW:dz:=yk T2 fun i j=> .bl (decide (i<=j))
abbrev Nk:dz:=yk T2 fun i j=> .bl (decide (j<i))
theorem Qc:cn X (binaryOp .Sub) (LR Jq):=nR (fun _ _ _ _=>by unfold Rep;rfl) (AH OX)
theorem O0:cn X (binaryOp .FloorDiv) (LR FO):=nR (fun _ _ _ _=>by unfold Rep;rfl) (JY fun i j _ _ _ _ _ hc q=>floordiv_int hc.1 q (.inl (PyProof.noPylong_of_log2 hc.2)))
theorem QB:cn X (binaryOp .Mod) (LR Jr):=nR (fun _ _ _ _=>by unfold Rep;rfl) LY
theorem QC:cn X (binaryOp .Pow) (LR Km):=nR (fun _ _ _ _=>by unfold Rep;rfl) Nu
theorem RK:cn X (compareOp .Lt) (LR N0):=nR (fun _ _ _ _=>by unfold Rep;rfl) (AH PY)
theorem Rw:cn X (compareOp .LtE) (LR NW):=nR (fun _ _ _ _=>by unfold Rep;rfl) (AH Pk)
theorem Rv:cn X (compareOp .Gt) (LR Nk):=nR (fun _ _ _ _=>by unfold Rep;rfl) (AH Po)
def Ju:Bx:=fun x st K=>match x with| .int i=>K (.int (-i)) st|_=>False
theorem Qu:Dl X (unaryOp .USub) (JN Ju):=fun pins s σ H x v Q I rx ⟨α,d,st,K,G,F',P,r,S,q,k⟩=>by
 cases d<;>first
  |exact q.elim
  |(unfold Rep at r;exact OG pins s σ H x v Q I rx ⟨_,r,k.here P q S (by unfold Rep;rfl)⟩)
theorem Inv.CF{pins:List (Addr×Obj)}{σ:L2.St}{H:Hp}{s:Shared}{l:Addr}{xs:List V}(I:Inv X pins σ H s)(h:Rd H l (.lst xs)):
 xs.length<=sizeLine/\∃(aw:List Value) (n:Nat),Vals xs aw/\xs.length=aw.length/\s.heap.get? l=some {cls:= .type "list",data:= .seq aw.toArray n}:=by
 obtain⟨z,aw,n,r,e⟩:=h.ok I.aP;exact⟨z,aw,n,r,r.length,e⟩
theorem iJ{G F H:Hp}(P:cL G F H){a:Addr}{u:HO}(h:Rd G a u):Rd H a u:=by
 rcases h with h|⟨o,h⟩
 . exact .inl (P.get h)
 . exact .inr ⟨o,P.get h⟩
theorem KQ:cn X (binaryOp .Add) (fun x y H Q=>∃l b xs zs,x= .ref l/\y= .ref b/\Rd H l (.lst xs)/\Rd H b (.lst zs)/\xs.length+zs.length<=sizeLine/\∀p,H p=none->Q (.ref p) (upd H p (.lst (xs++zs)))):=by
 intro pins s σ H x y v u Q I rx ry h;obtain⟨l,b,xs,zs,rfl,rfl,hH,hB,hz,q⟩:=h;cases rx;cases ry;obtain⟨z,aw,n,r,hl,e⟩:=Inv.CF I hH;obtain⟨z2,its2,n2,r2,hl2,e2⟩:=Inv.CF I hB;refine PySem.P.add_list e e2 ?_ (by rw[List.size_toArray,List.size_toArray];omega);have ea:aw.toArray++its2.toArray=(aw++its2).toArray:=by simp
 rw[ea];exact⟨.ref _,_,I.Iw (t':=s.toks) (r.append r2) (by rw[List.length_append];omega),rfl,q _ I.fresh⟩
theorem Dp:cn X (binaryOp .Mult) (fun x y H Q=>∃l k xs,x= .ref l/\y= .int k/\Rd H l (.lst xs)/\ -(2^63)<=k/\k<2^63/\xs.length*k.toNat<=sizeLine/\
 ∀p,H p=none->Q (.ref p) (upd H p (.lst (List.replicate k.toNat xs).flatten))):=by
 intro pins s σ H x y v u Q I rx ry h;obtain⟨l,k,xs,rfl,rfl,hH,h1,h2,hz,q⟩:=h;cases rx;obtain⟨t,rfl⟩:=ry;obtain⟨z,aw,n,r,hl,e⟩:=Inv.CF I hH;have hlen:aw.toArray.size*k.toNat<=sizeLine:=by rw[List.size_toArray,<-hl];exact hz
 have hcap:¬aw.toArray.size*k.toNat>(2^63-1)/8:=by
  have:(sizeLine:Nat)<=(2^63-1)/8:=by decide
  omega
 have hfit:¬(!Builtin.List.listFitsIndex k)=true:=by
  rw[fitsIndex_both h1 h2];exact Bool.false_ne_true
 have hlong:¬Builtin.List.listTooLong (aw.toArray.size*k.toNat)=true:=by
  rw[Ih hlen];exact Bool.false_ne_true
 have hnew:List.foldl (fun x1 x2=>x1++x2) #[] (List.replicate (if aw.toArray.isEmpty=true then 0 else k.toNat) aw.toArray)=(List.replicate k.toNat aw).flatten.toArray:=by
  have f0:∀m:Nat,List.foldl (fun x1 x2=>x1++x2) #[] (List.replicate m aw.toArray)=(List.replicate m aw).flatten.toArray:=fun m=>by
   have:=foldl_rep aw m [];rw[List.nil_append]at this;exact this
  rw[f0];cases aw with
  |nil=>simp
  |cons a r'=>rw[if_neg (by simp)]
 refine wpAny_binaryOp_repeat_ref (T:="list") (U:="int") (by decide) ⟨_,e,rfl⟩ (fun s'=>typeIs_int s' k t) noFill_list_mul F.fills_int_mul F.slot_int_rmul repeat_list F.slot_int_index.lookup
  (call_meets F.slot_int_rmul (typeIs_int s k t) F.entry_int_rmul (F.args_int_rmul_2 _ _) (int___rmul___int_list k t l aw.toArray n)
    ⟨e,rfl,⟨_,e,rfl⟩,call_meets F.slot_list_mul ⟨_,e,rfl⟩ F.entry_list_mul (F.args_list_mul_2 _ _) (AutoListH.list___mul___list_int_3 l aw.toArray n k t hfit hcap hlong) ⟨e,?_⟩⟩)
 rw[hnew];exact⟨.ref _,_,I.Iw (t':=s.toks) (r.rep k.toNat) (by rw[len_rep,Nat.mul_comm];exact hz),rfl,q _ I.fresh⟩
theorem Ic:cn X (binaryOp .Add) (fun x y H Q=>∃a b xs ys,x= .ref a/\y= .ref b/\H a=some (.tup xs)/\H b=some (.tup ys)/\xs.length+ys.length<=sizeLine/\
 (xs=[]->Q (.ref b) H)/\(xs≠ []->ys=[]->Q (.ref a) H)/\(xs≠ []->ys≠ []->∀p,H p=none->Q (.ref p) (upd H p (.tup (xs++ys))))):=by
 intro pins s σ H x y v u Q I rx ry h;obtain⟨a,b,xs,ys,rfl,rfl,ha,hb,hz,q0,q1,q2⟩:=h;by_cases hx:xs=[]
 . cases rx;cases ry;obtain⟨aw,r1,p1,_⟩:=I.tuple (.of ha);obtain⟨its2,r2,p2,_⟩:=I.tuple (.of hb);obtain⟨⟨cls,dd,data,sl⟩,ho,hc,n,hd⟩:=id p1;obtain⟨⟨cls2,dd2,data2,sl2⟩,ho2,hc2,n2,hd2⟩:=id p2;simp only at hc hd hc2 hd2;subst hc hd hc2 hd2;have hi:aw=[]:=(L2.Vals.vg r1).mpr hx
   exact concat_meets ⟨_,ho,rfl⟩ ⟨_,ho2,rfl⟩ noFill_tuple_add seq_tuple_add PySem.F.slot_tuple_add PySem.F.entry_tuple_add (PySem.F.args_tuple_add_2 _ _)
    (tuple_addW0 a b aw.toArray its2.toArray n n2 dd dd2 sl sl2 (by simp[hi])) ⟨ho,ho2,⟨.ref b,H,I,rfl,q0 hx⟩⟩
 . exact LM pins s σ H _ _ v u Q I rx ry ⟨a,b,xs,ys,rfl,rfl,.of ha,.of hb,hx,hz,q1 hx,q2 hx⟩
theorem yO:fillsNumberSlot (.type "tuple") "mul"=pure false:=
 PySem.fillsNumberSlot_seq (id:="tuple.__mul__") (r:=some (.builtin "tuple.__rmul__")) F.slot_tuple_mul.lookup (by decide+kernel) F.slot_tuple_rmul.lookup (by decide+kernel)
theorem Fc:seqRepeat? (.type "tuple")=pure (some (.builtin "tuple.__mul__")):=by
 unfold seqRepeat?;rw[PySem.seqSlot_of (T:="tuple") (name:="__mul__") (id:="tuple.__mul__") F.slot_tuple_mul.lookup (by decide+kernel),PySem.seqSlot_of (T:="tuple") (name:="__rmul__") (id:="tuple.__rmul__") F.slot_tuple_rmul.lookup (by decide+kernel)];rfl
theorem Bs(a:Int)(t:Tok)(l:Addr)(aw:Array Value)(n:Nat)(dd:Option Addr)(sl:Array (Option Value)):Meets (Builtin.«int.__rmul__» ⟨[.int a t,.ref l],[]⟩) (fun _ R s=>s.heap.get? l=some {cls:= .type "tuple",dict:=dd,data:= .seq aw n,slots:=sl}/\R (.ok (.ret Value.notImplemented)) s):=
 .of_wp fun P w A R s h=>by
  obtain⟨hp,g,d,tk,os⟩:=s;obtain⟨hl,h⟩:=h
  wp_walk
  exact⟨_,rfl,h⟩
theorem BW(l:Addr)(aw:Array Value)(n:Nat)(dd:Option Addr)(sl:Array (Option Value))(x:Int)(u:Tok)(h0:(decide (x< -(2^63))||decide (x>=2^63))=false)(h1:(aw.isEmpty||x==1)=true):
 Meets (Builtin.«tuple.__mul__» ⟨[.ref l,.int x u],[]⟩) (fun _ R s=>s.heap.get? l=some {cls:= .type "tuple",dict:=dd,data:= .seq aw n,slots:=sl}/\R (.ok (.ret (.ref l))) s):=
 .of_wp fun P w A R s h=>by
  obtain⟨hp,g,d,tk,os⟩:=s;obtain⟨hl,h⟩:=h
  wp_walk
  refine wpAny_ite_false (by rw[h0];rfl) ?_
  wp_walk
  exact⟨_,rfl,h⟩
theorem Bm(l:Addr)(aw:Array Value)(n:Nat)(dd:Option Addr)(sl:Array (Option Value))(x:Int)(u:Tok)(h0:(decide (x< -(2^63))||decide (x>=2^63))=false)(h1:(aw.isEmpty||x==1)=false)(h2:(decide (x<=0)||aw.isEmpty)=true):
 Meets (Builtin.«tuple.__mul__» ⟨[.ref l,.int x u],[]⟩) (fun _ R s=>s.heap.get? l=some {cls:= .type "tuple",dict:=dd,data:= .seq aw n,slots:=sl}/\R (.ok (.ret (.ref s.heap.objs.size))) {s with heap:=s.heap.push {cls:= .type "tuple",data:= .seq #[]}}):=
 .of_wp fun P w A R s h=>by
  obtain⟨hp,g,d,tk,os⟩:=s;obtain⟨hl,h⟩:=h
  wp_walk
  refine wpAny_ite_false (by rw[h0];rfl) ?_
  wp_walk
  exact⟨_,rfl,h⟩
theorem BE(l:Addr)(aw:Array Value)(n:Nat)(dd:Option Addr)(sl:Array (Option Value))(x:Int)(u:Tok)(h0:(decide (x< -(2^63))||decide (x>=2^63))=false)(h1:(aw.isEmpty||x==1)=false)(h2:(decide (x<=0)||aw.isEmpty)=false)(h3:¬((aw.size:Int)*x>(2^63-1)/8))(h4:Builtin.Tuple.tupleTooMany (aw.size*x)=false)
 (hz:(List.foldl (fun x1 x2=>x1++x2) #[] (List.replicate x.toNat aw)).size<=sizeLine):
 Meets (Builtin.«tuple.__mul__» ⟨[.ref l,.int x u],[]⟩) (fun _ R s=>s.heap.get? l=some {cls:= .type "tuple",dict:=dd,data:= .seq aw n,slots:=sl}/\R (.ok (.ret (.ref s.heap.objs.size))) {s with heap:=s.heap.push {cls:= .type "tuple",data:= .seq (List.foldl (fun x1 x2=>x1++x2) #[] (List.replicate x.toNat aw))}}):=
 .of_wp fun P w A R s h=>by
  obtain⟨hp,g,d,tk,os⟩:=s;obtain⟨hl,h⟩:=h
  wp_walk
  refine wpAny_ite_false (by rw[h0];rfl) ?_
  wp_walk
  refine wpAny_ite_false (decide_eq_false h3) ?_
  wp_walk
  exact⟨_,rfl,h⟩
theorem Lw:cn X (binaryOp .Mult) (fun x y H Q=>∃l k xs,x= .ref l/\y= .int k/\H l=some (.tup xs)/\ -(2^63)<=k/\k<2^63/\xs.length*k.toNat<=sizeLine/\
 ((xs=[]\/k=1)->Q (.ref l) H)/\(¬(xs=[]\/k=1)->∀p,H p=none->Q (.ref p) (upd H p (.tup (List.replicate k.toNat xs).flatten)))):=by
 intro pins s σ H x y v u Q I rx ry h;obtain⟨l,k,xs,rfl,rfl,hH,h1,h2,hz,q1,q2⟩:=h;cases rx;obtain⟨t,rfl⟩:=ry;obtain⟨aw,r,p1,_⟩:=I.tuple (.of hH);obtain⟨⟨cls,dd,data,sl⟩,ho,hc,n,hd⟩:=id p1;simp only at hc hd;subst hc hd;have hl:xs.length=aw.length:=r.length
 have f0:(decide (k< -(2^63))||decide (k>=2^63))=false:=by
  rw[decide_eq_false (by omega),decide_eq_false (by omega)];rfl
 refine wpAny_binaryOp_repeat_ref (T:="tuple") (U:="int") (by decide) ⟨_,ho,rfl⟩ (fun s'=>typeIs_int s' k t) yO F.fills_int_mul F.slot_int_rmul Fc F.slot_int_index.lookup
  (call_meets F.slot_int_rmul (typeIs_int s k t) F.entry_int_rmul (F.args_int_rmul_2 _ _) (Bs k t l aw.toArray n dd sl) ⟨ho,rfl,⟨_,ho,rfl⟩,?_⟩)
 by_cases hs:xs=[]\/k=1
 . have f1:(aw.toArray.isEmpty||k==1)=true:=by
    rcases hs with z|z
    . have:aw=[]:=List.length_eq_zero_iff.mp (by rw[<-hl,z];rfl);rw[this];rfl
    . rw[z];simp
   exact call_meets F.slot_tuple_mul ⟨_,ho,rfl⟩ F.entry_tuple_mul (F.args_tuple_mul_2 _ _) (BW l aw.toArray n dd sl k t f0 f1) ⟨ho,⟨.ref l,H,I,rfl,q1 hs⟩⟩
 . have hne:aw≠ []:=fun z=>hs (.inl (List.length_eq_zero_iff.mp (by rw[hl,z];rfl)));have hk1:k≠1:=fun z=>hs (.inr z);have e1:aw.toArray.isEmpty=false:=by simpa using hne
   have f1:(aw.toArray.isEmpty||k==1)=false:=by rw[e1];simpa using hk1
   have new:∀(us:List Value) (ys:List V),Vals ys us->ys.length<=sizeLine->Inv X pins σ (upd H s.heap.objs.size (.tup ys)) {s with heap:=s.heap.push {cls:= .type "tuple",data:= .seq us.toArray}}:=fun us ys hv hy=>
    I.laid (t':=s.toks) (fun _ _ q=>Heap.get?_push_of_some _ q) (Nat.le_refl _) ⟨hy,us,hv,⟨_,Heap.get?_push_size _ rfl,rfl,_,rfl⟩⟩
   by_cases h0:k<=0
   . have f2:(decide (k<=0)||aw.toArray.isEmpty)=true:=by rw[decide_eq_true h0];rfl
     refine call_meets F.slot_tuple_mul ⟨_,ho,rfl⟩ F.entry_tuple_mul (F.args_tuple_mul_2 _ _) (Bm l aw.toArray n dd sl k t f0 f1 f2) ⟨ho,?_⟩;have ez:k.toNat=0:=by omega
     rw[ez]at q2;exact⟨.ref _,_,new [] [] .nil (Nat.zero_le _),rfl,q2 hs _ I.fresh⟩
   . have f2:(decide (k<=0)||aw.toArray.isEmpty)=false:=by rw[decide_eq_false h0,e1];rfl
     have hk:(k.toNat:Int)=k:=by omega
     have hlen:aw.toArray.size*k.toNat<=sizeLine:=by rw[List.size_toArray,<-hl];exact hz
     have hsz:((aw.toArray.size:Nat):Int)*k<=(sizeLine:Int):=by
      rw[<-hk]
      exact_mod_cast hlen
     have f3:¬(((aw.toArray.size:Nat):Int)*k>(2^63-1)/8):=by
      have:((sizeLine:Nat):Int)<=(2^63-1)/8:=by decide
      omega
     have f4:Builtin.Tuple.tupleTooMany (((aw.toArray.size:Nat):Int)*k)=false:=by
      unfold Builtin.Tuple.tupleTooMany;exact decide_eq_false (by omega)
     have hnew:List.foldl (fun x1 x2=>x1++x2) #[] (List.replicate k.toNat aw.toArray)=(List.replicate k.toNat aw).flatten.toArray:=by
      have:=foldl_rep aw k.toNat [];rw[List.nil_append]at this;exact this
     have hfl:(List.replicate k.toNat aw).flatten.length=aw.length*k.toNat:=by rw[len_rep,Nat.mul_comm]
     refine call_meets F.slot_tuple_mul ⟨_,ho,rfl⟩ F.entry_tuple_mul (F.args_tuple_mul_2 _ _) (BE l aw.toArray n dd sl k t f0 f1 f2 f3 f4 (by rw[hnew,List.size_toArray,hfl];exact hlen)) ⟨ho,?_⟩;rw[hnew];exact⟨.ref _,_,new _ _ (r.rep k.toNat) (by rw[len_rep,Nat.mul_comm];exact hz),rfl,q2 hs _ I.fresh⟩
def Kp:dz:=fun x y st K=>match x,y with
 | .int i,.int j=>K (.int (i+j)) st
 | .tup xs,.tup ys=>xs.length+ys.length<=sizeLine/\K (.tup (xs++ys)) st
 | .lst xs,.lst ys=>xs.length+ys.length<=sizeLine/\K (.lst (xs++ys)) st
 | .str x,.str y=>x.length+y.length<=sizeLine/\K (.str (x++y)) st
 |_,_=>False
theorem Qv:cn X (binaryOp .Add) (LR Kp):=fun pins s σ H x y v u Q I rx ry ⟨α,d,e,st,K,G,F',P,r1,r2,S,q,k⟩=>by
 cases d<;>cases e<;>try exact q.elim
 . unfold Rep at r1 r2;exact Ou pins s σ H x y v u Q I rx ry ⟨_,_,r1,r2,k.here P q S (by unfold Rep;rfl)⟩
 . unfold Rep at r1 r2;exact Ei pins s σ H x y v u Q I rx ry ⟨_,_,r1,r2,q.1,k.here P q.2 S (by unfold Rep;rfl)⟩
 . unfold Rep at r1 r2;obtain⟨a,vs,rfl,na,ha,ra⟩:=r1;obtain⟨b,ws,rfl,nb,hb,rb⟩:=r2;refine KQ pins s σ H _ _ v u Q I rx ry ⟨a,b,vs,ws,rfl,rfl,iJ P ha,iJ P hb,by rw[<-ra.length,<-rb.length];exact q.1,fun p hp=>?_⟩;exact k.lst P q.2 S (bC.mpr (gy (bC.mp ra) (bC.mp rb))) hp
 . rename_i xs ys;unfold Rep at r1 r2;obtain⟨a,vs,rfl,na,ha,ra⟩:=r1;obtain⟨b,ws,rfl,nb,hb,rb⟩:=r2;have hl1:=ra.length;have hl2:=rb.length;refine Ic pins s σ H _ _ v u Q I rx ry ⟨a,b,vs,ws,rfl,rfl,P.get ha,P.get hb,by rw[<-hl1,<-hl2];exact q.1,fun z=>?_,fun _ z=>?_,fun _ _ p hp=>?_⟩
   . refine k.here P q.2 S ?_;unfold Rep;have:xs=[]:=by rw[z]at hl1;exact List.length_eq_zero_iff.mp hl1
     subst this;exact⟨b,ws,rfl,nb,hb,rb⟩
   . refine k.here P q.2 S ?_;unfold Rep;have:ys=[]:=by rw[z]at hl2;exact List.length_eq_zero_iff.mp hl2
     subst this;rw[List.append_nil];exact⟨a,vs,rfl,na,ha,ra⟩
   . exact k.tup P q.2 S (bC.mpr (gy (bC.mp ra) (bC.mp rb))) hp
def JJ:dz:=fun x y st K=>match x,y with
 | .int i,.int j=>IntMulOk i j/\K (.int (i*j)) st
 | .lst xs,.int k=>(-(2^63)<=k/\k<2^63/\xs.length*k.toNat<=sizeLine)/\K (.lst (List.replicate k.toNat xs).flatten) st
 | .tup xs,.int k=>(-(2^63)<=k/\k<2^63/\xs.length*k.toNat<=sizeLine)/\K (.tup (List.replicate k.toNat xs).flatten) st
 |_,_=>False
theorem Qk:cn X (binaryOp .Mult) (LR JJ):=fun pins s σ H x y v u Q I rx ry ⟨α,d,e,st,K,G,F',P,r1,r2,S,q,k⟩=>by
 cases d<;>cases e<;>try exact q.elim
 . unfold Rep at r1 r2;have h:cn X (binaryOp .Mult) (rI IntMulOk fun i j=> .int (i*j)):=JY fun _ _ _ _ _ _ _ hc q=>mul_int q hc;exact h pins s σ H x y v u Q I rx ry ⟨_,_,r1,r2,q.1,k.here P q.2 S (by unfold Rep;rfl)⟩
 . unfold Rep at r1 r2;obtain⟨a,vs,rfl,na,ha,ra⟩:=r1;refine Dp pins s σ H _ _ v u Q I rx ry ⟨a,_,vs,rfl,r2,iJ P ha,q.1.1,q.1.2.1,by rw[<-ra.length];exact q.1.2.2,fun p hp=>?_⟩;exact k.lst P q.2 S (bC.mpr (nr (bC.mp ra) _)) hp
 . rename_i xs m;have r1':=r1;unfold Rep at r1 r2;obtain⟨a,vs,rfl,na,ha,ra⟩:=r1;refine Lw pins s σ H _ _ v u Q I rx ry ⟨a,_,vs,rfl,r2,P.get ha,q.1.1,q.1.2.1,by rw[<-ra.length];exact q.1.2.2,fun hs=>?_,fun _ p hp=>k.tup P q.2 S (bC.mpr (nr (bC.mp ra) _)) hp⟩
   have e:(List.replicate m.toNat xs).flatten=xs:=by
    rcases hs with z|z
    . have:xs=[]:=List.length_eq_zero_iff.mp (by rw[ra.length,z];rfl);rw[this];simp
    . rw[z];simp
   have q2:=q.2;rw[e]at q2;exact k.here P q2 S r1'
def live(st:ag):D->Bool
 | .ref n=>(match st[n]? with|some (.lst _)=>true|some (.ins _ _)=>true|_=>false)
 |_=>true
theorem wJ{α:List (Option Addr)}{H:Hp}{st:ag}{n:Nat}{v:V}(S:a7 α st H)(h:live st (.ref n)=true)(r:Rep α H (.ref n) v):∃a,v= .ref a:=by
 unfold live at h;simp only at h;split at h
 . rename_i e;obtain⟨a,ea,_⟩:=S.g0 e;exact⟨a,eF ea r⟩
 . rename_i e;obtain⟨a,ea,_⟩:=S.AA e;exact⟨a,eF ea r⟩
 . cases h
def Mq:dz:=fun x y st K=>match y with| .aE=>live st x=true/\K (.bl (match x with| .aE=>false|_=>true)) st|_=>False
theorem MB:cn X (compareOp .IsNot) (LR Mq):=cn.imp Lk fun x y H Q ⟨α,d,e,st,K,G,F',P,r1,r2,S,q,k⟩=>by
 cases e<;>try exact q.elim
 unfold Rep at r2;refine⟨r2,k.here P q.2 S ?_⟩;unfold Rep;cases d
 case ref n=>
  obtain⟨a,rfl⟩:=wJ S q.1 r1;rfl
 all_goals(unfold Rep at r1;first|(rw[r1];rfl)|(obtain⟨a,vs,rfl,_⟩:=r1;rfl))
def s_:dz:=fun x y st K=>match y with
 | .int i=>(match x with
   | .lst xs=>(match e8 xs i with|some d=>K d st|none=>False)
   | .tup xs=>(match e8 xs i with|some d=>K d st|none=>False)
   | .ref n=>(match st[n]? with|some (.lst xs)=>(match e8 xs i with|some d=>K d st|none=>False)|_=>False)
   |_=>False)
 |_=>False
theorem aT.e8{α:List (Option Addr)}{H:Hp}{ds:List D}{vs:List V}{i:Int}{d:D}(h:aT α H ds vs)(e:L2.e8 ds i=some d):∃v,L2.e8 vs i=some v/\Rep α H d v:=by
 unfold L2.e8 at e⊢;rw[<-h.length];cases q:mH ds.length i with
 |none=>rw[q]at e;cases e
 |some j=>rw[q]at e;exact h.get e
theorem Rx:J_ X (LR s_):=fun value slice pins s σ H x y v u Q I rx ry ⟨α,d,e,st,K,G,F',P,r1,r2,S,q,k⟩ hs=>by
 cases e<;>try exact q.elim
 unfold Rep at r2;cases d<;>try exact q.elim
 . rename_i i n;unfold s_ at q;simp only at q;split at q
   . split at q
     . rename_i xs e1 _ d' e2;obtain⟨a,ea,vs,hv,rv⟩:=S.g0 e1;have r1':=eF ea r1;subst r1';obtain⟨z,ez,rz⟩:=rv.e8 e2;exact D4 value slice pins s σ H _ _ v u Q I rx ry ⟨a,vs,_,z,rfl,r2,.of (P.get hv),ez,k.here P q S rz⟩ hs
     . exact q.elim
   . exact q.elim
 . unfold s_ at q;simp only at q;split at q
   . rename_i xs d' e2;unfold Rep at r1;obtain⟨a,vs,rfl,na,ha,ra⟩:=r1;obtain⟨z,ez,rz⟩:=ra.e8 e2;exact D4 value slice pins s σ H _ _ v u Q I rx ry ⟨a,vs,_,z,rfl,r2,.inl (iJ P ha),ez,k.here P q S rz⟩ hs
   . exact q.elim
 . unfold s_ at q;simp only at q;split at q
   . rename_i xs d' e2;unfold Rep at r1;obtain⟨a,vs,rfl,na,ha,ra⟩:=r1;obtain⟨z,ez,rz⟩:=ra.e8 e2;exact Oj value slice pins s σ H _ _ v u Q I rx ry ⟨a,vs,_,z,rfl,r2,.of (P.get ha),ez,k.here P q S rz⟩ hs
   . exact q.elim
theorem RJ{a b:Expr}{ta tb:DE}{pos:Pos}(ha:PE X a (LE ta))(hb:PE X b (LE tb))(hs:vd b:=by intro _ _;rfl):PE X (.Subscript a b pos) (LE (av s_ ta tb)):=PE.imp (Qm Rx ha hb hs) fun _ _ _ h=>LE.op h
def items?(st:ag):D->Option (List D)
 | .lst xs=>some xs
 | .tup xs=>some xs
 | .ref n=>(match st[n]? with|some (.lst xs)=>some xs|_=>none)
 |_=>none
@[simp] theorem QZ(st:ag)(xs:List D):items? st (.lst xs)=some xs:=rfl
@[simp] theorem QX(st:ag)(xs:List D):items? st (.tup xs)=some xs:=rfl
@[simp] theorem items_int(st:ag)(i:Int):items? st (.int i)=none:=rfl
@[simp] theorem R8(st:ag)(i:Bool):items? st (.bl i)=none:=rfl
@[simp] theorem items_str(st:ag)(i:Str):items? st (.str i)=none:=rfl
@[simp] theorem QP(st:ag):items? st .aE=none:=rfl
theorem aJ{st:ag}{n:Nat}{xs:List D}(h:st[n]?=some (.lst xs)):items? st (.ref n)=some xs:=by unfold items?;simp only[h]
theorem qp{α:List (Option Addr)}{H:Hp}{st:ag}{d:D}{v:V}{xs:List D}(S:a7 α st H)(r:Rep α H d v)(e:items? st d=some xs):
 ∃p vs,v= .ref p/\aT α H xs vs/\(Rd H p (.lst vs)\/H p=some (.tup vs)):=by
 cases d<;>try(cases e;done)
 . unfold items? at e;simp only at e;split at e
   . rename_i ys q;cases e;obtain⟨a,ea,vs,h1,h2⟩:=S.g0 q;have r':=eF ea r;subst r';exact⟨a,vs,rfl,h2,.inl (.of h1)⟩
   . cases e
 . cases e;unfold Rep at r;obtain⟨a,vs,rfl,_,h1,h2⟩:=r;exact⟨a,vs,rfl,h2,.inl h1⟩
 . cases e;unfold Rep at r;obtain⟨a,vs,rfl,_,h1,h2⟩:=r;exact⟨a,vs,rfl,h2,.inr h1⟩
theorem Eo{K:PySem.W.Frag}{G F H:Hp}(P:cL G F H){p:Addr}{vs:List V}(h:Rd G p (.lst vs)\/G p=some (.tup vs)):nN K H p vs\/jA K H p vs:=h.elim (fun z=> .inl (.inl (iJ P z))) fun z=> .inr (.of (P.get z))
theorem l9{α:List (Option Addr)}{H:Hp}{ds:List D}{xs:List V}{d:D}(r:aT α H ds xs)(e:ds=[d]):∃v,xs=[v]/\Rep α H d v:=by
 subst e;unfold aT at r;obtain⟨v,q,rfl,h1,h2⟩:=r;unfold aT at h2;subst h2;exact⟨v,rfl,h1⟩
theorem oM{α:List (Option Addr)}{H:Hp}{ds:List D}{xs:List V}{d e:D}(r:aT α H ds xs)(q:ds=[d,e]):∃v u,xs=[v,u]/\Rep α H d v/\Rep α H e u:=by
 subst q;unfold aT at r;obtain⟨v,q,rfl,h1,h2⟩:=r;obtain⟨u,rfl,h3⟩:=l9 h2 rfl;exact⟨v,u,rfl,h1,h3⟩
def AG:iW:=fun ds st K=>match ds with
 | [.str x]=>x.length<=sizeLine/\K (.int x.length) st
 | [d]=>(match items? st d with|some xs=>K (.int xs.length) st|none=>False)
 |_=>False
theorem QJ:de X (.builtin "len") (kj AG):=fun pins s σ H xs us Q I rs ⟨α,ds,st,K,G,F',P,r,S,q,k⟩=>by
 unfold AG at q;split at q
 . rename_i x;obtain⟨v,rfl,r1⟩:=l9 r rfl;unfold Rep at r1;subst r1;exact BG pins s σ H _ us Q I rs ⟨x,rfl,q.1,k.here P q.2 S (by unfold Rep;rfl)⟩
 . rename_i d _;split at q
   . rename_i ys e;obtain⟨v,rfl,r1⟩:=l9 r rfl;obtain⟨p,vs,rfl,r2,h⟩:=qp S r1 e;refine CM pins s σ H _ us Q I rs ⟨p,vs,rfl,Eo P h,k.here P q S (by unfold Rep;rw[r2.length])⟩
   . exact q.elim
 . exact q.elim
def QU(g:Int->Int):iW:=fun ds st K=>match ds with| [.int i]=>K (.int (g i)) st|_=>False
abbrev E9:iW:=QU fun i=>if i<0 then-i else i
theorem QD:de X (.builtin "abs") (kj E9):=de.imp Jn fun xs H Q ⟨α,ds,st,K,G,F',P,r,S,q,k⟩=>by
 unfold E9 QU at q;split at q
 . obtain⟨v,rfl,r1⟩:=l9 r rfl;unfold Rep at r1;subst r1;exact⟨_,rfl,k.here P q S (by unfold Rep;rfl)⟩
 . exact q.elim
def vc:iW:=fun ds st K=>match ds with| [d]=>(match items? st d with|some xs=>K (.tup xs) st|none=>False)|_=>False
theorem Ml:de X (.type "tuple") (kj vc):=de.imp Ag fun xs H Q ⟨α,ds,st,K,G,F',P,r,S,q,k⟩=>by
 unfold vc at q;split at q
 . rename_i d;split at q
   . rename_i ys e;obtain⟨v,rfl,r1⟩:=l9 r rfl;cases d with
     |tup zs=>
      cases e;have r0:=r1;unfold Rep at r1;obtain⟨a,vs,rfl,na,h1,h2⟩:=r1;exact⟨a,vs,rfl,.inr ⟨.of (P.get h1),k.here P q S r0⟩⟩
     |_=>
      obtain⟨p,vs,rfl,r2,h⟩:=qp S r1 e;refine⟨p,vs,rfl,?_⟩;rcases h with h|h
      . exact .inl ⟨.inl (iJ P h),fun l hl=>k.tup P q S r2 hl⟩
      . first
         |(cases e;done)
         |(exfalso
           unfold items? at e;simp only at e
           first
            |(split at e
              . rename_i z;obtain⟨a,ea,vs',h1,h2⟩:=S.g0 z;have e':=eF ea r1;cases e';rw[h]at h1;cases h1
              . cases e)
            |(unfold Rep at r1
              obtain⟨a,vs',e',_,h1,_⟩:=r1;cases e';rcases h1 with h1|⟨o,h1⟩<;>(rw[h]at h1;cases h1)))
   . exact q.elim
 . exact q.elim
def ya:iW:=fun ds st K=>match ds with| [d]=>(match items? st d with|some xs=>K (.lst xs) st|none=>False)|_=>False
theorem O8:de X (.type "list") (kj ya):=de.imp va fun xs H Q ⟨α,ds,st,K,G,F',P,r,S,q,k⟩=>by
 unfold ya at q;split at q
 . split at q
   . rename_i ys e;obtain⟨v,rfl,r1⟩:=l9 r rfl;obtain⟨p,vs,rfl,r2,h⟩:=qp S r1 e;exact⟨p,vs,rfl,Eo P h,fun l hl=>k.lst P q S r2 hl⟩
   . exact q.elim
 . exact q.elim
def vb:iW:=fun ds st K=>match ds with| [d]=>(match items? st d with|some xs=>K (.ref st.length) (st++[.lst xs])|none=>False)|_=>False
theorem LH:de X (.type "list") (kj vb):=de.imp va fun xs H Q ⟨α,ds,st,K,G,F',P,r,S,q,k⟩=>by
 unfold vb at q;split at q
 . split at q
   . rename_i ys e;obtain⟨v,rfl,r1⟩:=l9 r rfl;obtain⟨p,vs,rfl,r2,h⟩:=qp S r1 e;exact⟨p,vs,rfl,Eo P h,fun l hl=>k.new P q S r2 hl⟩
   . exact q.elim
 . exact q.elim
def iS:List D->Option (List Bool)
 | []=>some []
 | .bl b::r=>(iS r).map (b:: ·)
 |_::_=>none
theorem yy{α:List (Option Addr)}{H:Hp}:∀ {ds:List D} {vs:List V} {bs:List Bool},aT α H ds vs->iS ds=some bs->vs=bs.map V.bl
 | [],vs,bs,r,e=>by
   unfold aT at r;cases e;exact r
 |d::ds,vs,bs,r,e=>by
  unfold aT at r;obtain⟨v,q,rfl,h1,h2⟩:=r;cases d<;>try(cases e;done)
  unfold iS at e;cases z:iS ds with
  |none=>rw[z]at e;cases e
  |some cs=>
   rw[z]at e;cases e;unfold Rep at h1;rw[h1,yy h2 z];rfl
theorem x9:∀ {bs:List Bool} {us:List Value},Vals (bs.map V.bl) us->us=bs.map Value.bool
 | [],_,.nil=>rfl
 |b::bs,_,.cons h t=>by
  have h:_=Value.bool b:=h;rw[h,x9 t];rfl
def AJ:iW:=fun ds st K=>match ds with| [.lst xs]=>(match iS xs with|some bs=>K (.bl (bs.all id)) st|none=>False)|_=>False
theorem range_all{α:Type}(l:List α)(f:α->Bool)(tr:Nat->Bool)(h:∀i x,l[i]?=some x->tr i=f x):(List.range l.length).all tr=l.all f:=by
 induction l generalizing tr with
 |nil=>rfl
 |cons a l ih=>
  rw[List.length_cons,List.range_succ_eq_map,List.all_cons,List.all_cons,List.all_map,h 0 a rfl];congr 1;exact ih (tr∘Nat.succ) fun i x e=>h (i+1) x (by simpa using e)
theorem PZ(hc:X.calm=true):de X (.builtin "all") (kj AJ):=fun pins s σ H xs us Q I rs ⟨α,ds,st,K,G,F',P,r,S,q,k⟩=>by
 unfold AJ at q;split at q
 . rename_i ys;split at q
   . rename_i bs e;obtain⟨v,rfl,r1⟩:=l9 r rfl;unfold Rep at r1;obtain⟨a,vs,rfl,na,h1,h2⟩:=r1;obtain⟨u,rfl,ru⟩:=vals1 rs;cases ru;have hv:=yy h2 e;subst hv;obtain⟨z,aw,n,rv,hl,eo⟩:=Inv.CF I (iJ P h1);have hits:=x9 rv;subst hits;have isL:s.heap.IsList a (bs.map Value.bool).toArray:=⟨_,eo,rfl,n,rfl⟩
     refine call_all_walk (wpAny_pyIter_list isL ?_);have hne:a≠s.heap.objs.size:=Nat.ne_of_lt (Heap.lt_size eo);refine⟨s.heap.objs.size,_,_,_,_,_,fun i=>(bs[i]?).getD true,rfl,Walks.list (A:=X.A.in1) (I.ok.hd hc) _ a hne (bs.map Value.bool).toArray,⟨⟨_,Heap.get?_push_size _ rfl,rfl,rfl⟩,⟨_,Heap.get?_push_of_some _ eo,rfl,n,rfl⟩⟩,?_,?_⟩
     . intro i w s' Q' E' hP hQ;rw[List.getElem?_toArray,List.getElem?_map]at hP;cases zb:bs[i]? with
       |none=>rw[zb]at hP;cases hP
       |some b=>
        rw[zb]at hP;cases hP;simp only[zb]at hQ;exact wpAny_truthy_bool hQ
     . intro h' tk hk
       have kp:∀b o,s.heap.get? b=some o->h'.get? b=some o:=fun b o q=>hk b o (by
        intro hb;have:b=s.heap.objs.size:=by simpa using hb
        exact absurd (Heap.lt_size q) (by rw[this];exact Nat.lt_irrefl _)) (Heap.get?_push_of_some _ q)
       have ea:(List.range (bs.map Value.bool).toArray.size).all (fun i=>(bs[i]?).getD true)=bs.all id:=by
        rw[List.size_toArray,List.length_map];exact range_all bs id _ fun i x e=>by rw[e];rfl
       rw[ea];exact⟨.bl (bs.all id),H,I.kept (t':=tk) kp,rfl,k.here P q S (by unfold Rep;rfl)⟩
   . exact q.elim
 . exact q.elim
def ft(st:ag):D->Option String
 | .aE=>some "NoneType"
 | .bl _=>some "bool"
 | .int _=>some "int"
 | .str _=>some "str"
 | .lst _=>some "list"
 | .tup _=>some "tuple"
 | .ref n=>(match st[n]? with|some (.lst _)=>some "list"|_=>none)
 | .ty _=>none
@[simp] theorem So(st:ag)(xs:List D):ft st (.lst xs)=some "list":=rfl
@[simp] theorem Sl(st:ag)(xs:List D):ft st (.tup xs)=some "tuple":=rfl
@[simp] theorem ty_int(st:ag)(i:Int):ft st (.int i)=some "int":=rfl
@[simp] theorem SE(st:ag)(i:Bool):ft st (.bl i)=some "bool":=rfl
@[simp] theorem ty_str(st:ag)(i:Str):ft st (.str i)=some "str":=rfl
@[simp] theorem Sg(st:ag):ft st .aE=some "NoneType":=rfl
theorem MO{st:ag}{n:Nat}{xs:List D}(h:st[n]?=some (.lst xs)):ft st (.ref n)=some "list":=by unfold ft;simp only[h]
def uZ(t c:String):Bool:=t==c||(t=="bool"&&c=="int")
theorem BF{α:List (Option Addr)}{H:Hp}{st:ag}{K:PySem.W.Frag}{d:D}{v:V}{t:String}(S:a7 α st H)(r:Rep α H d v)(e:ft st d=some t):kg K H v (.type t):=by
 cases d<;>unfold ft at e<;>try(cases e;done)
 . unfold Rep at r;cases e;subst r;exact .aE
 . unfold Rep at r;cases e;subst r;exact .bl _
 . unfold Rep at r;cases e;subst r;exact .int _
 . unfold Rep at r;cases e;subst r;exact .str _
 . simp only at e;split at e
   . rename_i z;cases e;obtain⟨a,ea,vs',h1,h2⟩:=S.g0 z;have r':=eF ea r;subst r';exact .lst h1
   . cases e
 . cases e;unfold Rep at r;obtain⟨a,vs,rfl,na,h1,h2⟩:=r;rcases h1 with h1|⟨o,h1⟩
   . exact .lst h1
   . exact .gW h1
 . cases e;unfold Rep at r;obtain⟨a,vs,rfl,na,h1,h2⟩:=r;exact .tup h1
theorem DB{G F H:Hp}{K:PySem.W.Frag}(P:cL G F H){x:V}{t:Value}(h:kg K G x t):kg K H x t:=by
 cases h with
 |aE=>exact .aE
 |bl x=>exact .bl x
 |int x=>exact .int x
 |str x=>exact .str x
 |vY x=>exact .vY x
 |lst e=>exact .lst (P.get e)
 |gW e=>exact .gW (P.get e)
 |tup e=>exact .tup (P.get e)
 |dK e=>exact .dK (P.get e)
 |dT e=>exact .dT (P.get e)
 |ins e a b c d f=>exact .ins (P.get e) a b c d f
def o5:List String:=["NoneType","bool","int","str","list","tuple"]
def mI:List String:=["bool","int","str","list","tuple"]
theorem DG(K:PySem.W.Frag){t c:String}(ht:t∈o5)(hc:c∈mI):PySem.W.kitOne K (.type t) (.type c)=some (uZ t c):=by
 simp only[o5,mI,List.mem_cons,List.not_mem_nil,or_false]at ht hc;rcases ht with rfl|rfl|rfl|rfl|rfl|rfl<;>rcases hc with rfl|rfl|rfl|rfl|rfl<;>with_unfolding_all rfl
theorem sE{st:ag}{d:D}{t:String}(e:ft st d=some t):t∈o5:=by
 cases d<;>unfold ft at e<;>first
  |(cases e;done)
  |(cases e;decide)
  |(simp only at e;split at e<;>cases e;decide)
theorem kitx_of{pins:List (Addr×Obj)}{σ:L2.St}{H:Hp}{s:Shared}{x:V}{u:Value}{t:String}(I:Inv X pins σ H s)(rx:RelV x u)(ty:kg X.K H x (.type t)):
 ∃Hh:Heap->Prop,PySem.W.KitX X.K u (.type t) Hh/\Hh s.heap/\u≠ .builtin "__main__.__loader__#opaque":=by
 cases ty with
 |aE=>cases (show u=Value.none from rx);exact⟨_,PySem.W.kitx_none,True.intro,fun z=>nomatch z⟩
 |bl y=>cases (show u=Value.bool y from rx);exact⟨_,PySem.W.kitx_bool,True.intro,fun z=>nomatch z⟩
 |int i=>obtain⟨t,q⟩:=(show∃t,u=Value.int i t from rx);cases q;exact⟨_,PySem.W.kitx_int,True.intro,fun z=>nomatch z⟩
 |str y=>obtain⟨t,q⟩:=(show∃t,u=Value.str y t from rx);cases q;exact⟨_,PySem.W.kitx_str,True.intro,fun z=>nomatch z⟩
 |vY y=>obtain⟨t,q⟩:=(show∃t,u=Value.float y t from rx);cases q;exact⟨_,PySem.W.kitx_float,True.intro,fun z=>nomatch z⟩
 | @lst a xs ea=>
   cases (show u=Value.ref a from rx);obtain⟨_,_,n,_,h1⟩:=(show dY X.prog X.w H s.heap a (.lst xs)from I.aP a _ ea)
   exact⟨_,PySem.W.kitx_list,⟨_,h1,rfl⟩,fun z=>nomatch z⟩
 | @gW a ob xs ea=>
   cases (show u=Value.ref a from rx);obtain⟨_,_,_,n,_,h1⟩:=(show dY X.prog X.w H s.heap a (.gW ob (.lst xs))from I.aP a _ ea)
   exact⟨_,PySem.W.kitx_list,⟨_,h1,rfl⟩,fun z=>nomatch z⟩
 | @tup a xs ea=>
   cases (show u=Value.ref a from rx);obtain⟨_,_,_,p⟩:=(show dY X.prog X.w H s.heap a (.tup xs)from I.aP a _ ea)
   obtain⟨o,h1,h2,_⟩:=p;exact⟨_,PySem.W.kitx_tuple,⟨o,h1,h2⟩,fun z=>nomatch z⟩
 | @dK a kvs ea=>
   cases (show u=Value.ref a from rx);obtain⟨_,_,vs,_,p⟩:=(show dY X.prog X.w H s.heap a (.dK kvs)from I.aP a _ ea)
   obtain⟨o,es,ep,h1,h2,_⟩:=p;exact⟨_,PySem.W.kitx_dict,⟨o,h1,h2.1⟩,fun z=>nomatch z⟩
 | @dT a kvs ea=>
   cases (show u=Value.ref a from rx);obtain⟨_,_,xs,_,o,es,ep,h1,h2,_⟩:=(show dY X.prog X.w H s.heap a (.dT kvs)from I.aP a _ ea)
   exact⟨_,PySem.W.kitx_dict,⟨o,h1,h2.1⟩,fun z=>nomatch z⟩
def oY:List D->Option (List String)
 | []=>some []
 | .ty b::r=>(oY r).map (b:: ·)
 |_::_=>none
theorem BA{α:List (Option Addr)}{H:Hp}:∀ {ds:List D} {vs:List V} {bs:List String},aT α H ds vs->oY ds=some bs->vs=bs.map V.ty
 | [],vs,bs,r,e=>by
   unfold aT at r;cases e;exact r
 |d::ds,vs,bs,r,e=>by
  unfold aT at r;obtain⟨v,q,rfl,h1,h2⟩:=r;cases d<;>try(cases e;done)
  unfold oY at e;cases z:oY ds with
  |none=>rw[z]at e;cases e
  |some cs=>
   rw[z]at e;cases e;unfold Rep at h1;rw[h1,BA h2 z];rfl
theorem A8:∀ {bs:List String} {us:List Value},Vals (bs.map V.ty) us->us=bs.map Value.type
 | [],_,.nil=>rfl
 |b::bs,_,.cons h t=>by
  have h:_=Value.type b:=h;rw[h,A8 t];rfl
theorem DV(K:PySem.W.Frag){t:String}(ht:t∈o5):∀cs:List String,(∀c∈cs,c∈mI)->PySem.W.kitAny K (.type t) (cs.map Value.type)=some (cs.any (uZ t))
 | [],_=>rfl
 |c::cs,h=>by
  show(match PySem.W.kitOne K (.type t) (.type c)with|some true=>some true|some false=>PySem.W.kitAny K (.type t) (cs.map Value.type)|none=>none)=_;rw[DG K ht (h c List.mem_cons_self),List.any_cons];cases uZ t c with
  |true=>rfl
  |false=>exact DV K ht cs fun c hc=>h c (List.mem_cons_of_mem _ hc)
def x6:iW:=fun ds st K=>match ds with
 | [d,.ty c]=>(match ft st d with|some t=>c∈mI/\K (.bl (uZ t c)) st|none=>False)
 | [d,.tup cs]=>(match ft st d,oY cs with|some t,some cl=>(∀c∈cl,c∈mI)/\K (.bl (cl.any (uZ t))) st|_,_=>False)
 |_=>False
theorem Qq:de X (.builtin "isinstance") (kj x6):=fun pins s σ H xs us Q I rs ⟨α,ds,st,K,G,F',P,r,S,q,k⟩=>by
 unfold x6 at q;split at q
 . rename_i d c;split at q
   . rename_i t e;obtain⟨v,v2,rfl,r1,r2⟩:=oM r rfl;obtain⟨u,u2,rfl,ru,ru2⟩:=vals2 rs;unfold Rep at r2;subst r2;cases (show u2=Value.type c from ru2);exact Gf I ru (DB P (BF S r1 e)) (DG _ (sE e) q.1) fun tk=>⟨.bl (uZ t c),H,I.tok tk,rfl,k.here P q.2 S (by unfold Rep;rfl)⟩
   . exact q.elim
 . rename_i d cs;split at q
   . rename_i t cl e ec;obtain⟨v,v2,rfl,r1,r2⟩:=oM r rfl;obtain⟨u,u2,rfl,ru,ru2⟩:=vals2 rs;unfold Rep at r2;obtain⟨a,vs,rfl,na,h1,h2⟩:=r2;cases (show u2=Value.ref a from ru2);have hv:=BA h2 ec;subst hv;obtain⟨Hh,Z,hh,hne⟩:=kitx_of I ru (DB P (BF S r1 e));obtain⟨aw,r',pl,hz⟩:=I.tuple (jA.of (P.get h1));have hi:=A8 r';subst hi;obtain⟨⟨cls,dd,data,sl⟩,ho,hc,n,hd⟩:=pl;simp only at hc hd;subst hc hd;exact PySem.W.kia_tup Z I.iy hh ho (DV _ (sE e) cl q.1) hne fun tk=>⟨.bl _,H,I.tok tk,rfl,k.here P q.2 S (by unfold Rep;rfl)⟩
   . exact q.elim
 . exact q.elim
end
end L3
namespace L3
open PySem PySem.Spec L2 PySem.SeqAt
open PyProof.Rows hiding St
mutual
def c9:D->D->Bool
 | .aE,.aE=>true
 | .bl a,.bl b=>a==b
 | .bl a,.int b=>(if a then 1 else 0)==b
 | .int a,.bl b=>a==(if b then 1 else 0)
 | .int a,.int b=>a==b
 | .str a,.str b=>a==b
 | .lst xs,.lst ys=>gc xs ys
 | .tup xs,.tup ys=>gc xs ys
 |_,_=>false
def gc:List D->List D->Bool
 | [],[]=>true
 |x::xs,y::ys=>c9 x y&&gc xs ys
 |_,_=>false
end
def pl:Nat->D->Bool
 |_,.aE=>true
 |_,.bl _=>true
 |_,.int _=>true
 |_,.str _=>true
 |n+1,.lst xs=>xs.all (pl n)
 |n+1,.tup xs=>xs.all (pl n)
 |_,_=>false
mutual
theorem pq:∀(n:Nat) (d:D),pl n d=true->c9 d d=true
 |_,.aE,_=>rfl
 |_,.bl _,_=>by simp[c9]
 |_,.int _,_=>by simp[c9]
 |_,.str _,_=>by simp[c9]
 |n+1,.lst xs,h=>by unfold c9;exact uM n xs (by unfold pl at h;exact h)
 |n+1,.tup xs,h=>by unfold c9;exact uM n xs (by unfold pl at h;exact h)
 |0,.lst xs,h=>by cases h
 |0,.tup xs,h=>by cases h
 |_,.ref _,h=>by unfold pl at h;cases h
 |_,.ty _,h=>by unfold pl at h;cases h
theorem uM:∀(n:Nat) (xs:List D),xs.all (pl n)=true->gc xs xs=true
 |_,[],_=>by unfold gc;rfl
 |n,x::xs,h=>by
  rw[List.all_cons,Bool.and_eq_true]at h;unfold gc;rw[pq n x h.1,uM n xs h.2];rfl
end
mutual
theorem Rep.inj{α:List (Option Addr)}{H:Hp}:∀ {d e:D} {v:V} (n:Nat),pl n d=true->pl n e=true->Rep α H d v->Rep α H e v->d=e
 | .aE,e,v,n,_,he,h1,h2=>by
   unfold Rep at h1;subst h1;cases e<;>first|(unfold pl at he;cases he;done)|(unfold Rep at h2;cases h2;rfl)|(unfold Rep at h2;cases h2;done)|(unfold Rep at h2;obtain⟨_,_,h2,_⟩:=h2;cases h2)|rfl|(cases h2;done)|(obtain⟨_,_,h2,_⟩:=h2;cases h2)|(obtain⟨_,_,h2⟩:=h2;cases h2)
 | .bl b,e,v,n,_,he,h1,h2=>by
   unfold Rep at h1;subst h1;cases e<;>first|(unfold pl at he;cases he;done)|(unfold Rep at h2;cases h2;rfl)|(unfold Rep at h2;cases h2;done)|(unfold Rep at h2;obtain⟨_,_,h2,_⟩:=h2;cases h2)|(cases h2;rfl)|(cases h2;done)|(obtain⟨_,_,h2,_⟩:=h2;cases h2)|(obtain⟨_,_,h2⟩:=h2;cases h2)
 | .int b,e,v,n,_,he,h1,h2=>by
   unfold Rep at h1;subst h1;cases e<;>first|(unfold pl at he;cases he;done)|(unfold Rep at h2;cases h2;rfl)|(unfold Rep at h2;cases h2;done)|(unfold Rep at h2;obtain⟨_,_,h2,_⟩:=h2;cases h2)|(cases h2;rfl)|(cases h2;done)|(obtain⟨_,_,h2,_⟩:=h2;cases h2)|(obtain⟨_,_,h2⟩:=h2;cases h2)
 | .str b,e,v,n,_,he,h1,h2=>by
   unfold Rep at h1;subst h1;cases e<;>first|(unfold pl at he;cases he;done)|(unfold Rep at h2;cases h2;rfl)|(unfold Rep at h2;cases h2;done)|(unfold Rep at h2;obtain⟨_,_,h2,_⟩:=h2;cases h2)|(cases h2;rfl)|(cases h2;done)|(obtain⟨_,_,h2,_⟩:=h2;cases h2)|(obtain⟨_,_,h2⟩:=h2;cases h2)
 | .ty b,e,v,n,hd,he,h1,h2=>by unfold pl at hd;cases hd
 | .ref b,e,v,n,hd,he,h1,h2=>by unfold pl at hd;cases hd
 | .lst xs,e,v,0,hd,he,h1,h2=>by cases hd
 | .tup xs,e,v,0,hd,he,h1,h2=>by cases hd
 | .lst xs,e,v,n+1,hd,he,h1,h2=>by
   unfold Rep at h1;obtain⟨a,vs,rfl,na,ha,ra⟩:=h1;cases e<;>unfold Rep at h2<;>try(cases h2;done)
   . unfold pl at he;cases he
   . obtain⟨a',vs',e',na',ha',ra'⟩:=h2;cases e'
     have:vs=vs':=by
      rcases ha with ha|⟨o,ha⟩<;>rcases ha' with ha'|⟨o',ha'⟩<;>(rw[ha]at ha';first|(cases ha';rfl)|(cases ha';done))
     subst this;rw[aT.inj n (by unfold pl at hd;exact hd) (by unfold pl at he;exact he) ra ra']
   . obtain⟨a',vs',e',na',ha',ra'⟩:=h2;cases e';rcases ha with ha|⟨o,ha⟩<;>(rw[ha]at ha';cases ha')
 | .tup xs,e,v,n+1,hd,he,h1,h2=>by
   unfold Rep at h1;obtain⟨a,vs,rfl,na,ha,ra⟩:=h1;cases e<;>unfold Rep at h2<;>try(cases h2;done)
   . unfold pl at he;cases he
   . obtain⟨a',vs',e',na',ha',ra'⟩:=h2;cases e';rcases ha' with ha'|⟨o,ha'⟩<;>(rw[ha]at ha';cases ha')
   . obtain⟨a',vs',e',na',ha',ra'⟩:=h2;cases e';rw[ha]at ha';cases ha';rw[aT.inj n (by unfold pl at hd;exact hd) (by unfold pl at he;exact he) ra ra']
theorem aT.inj{α:List (Option Addr)}{H:Hp}:∀ {ds es:List D} {vs:List V} (n:Nat),ds.all (pl n)=true->es.all (pl n)=true->aT α H ds vs->aT α H es vs->ds=es
 | [],es,vs,n,_,_,h1,h2=>by
   unfold aT at h1;subst h1;cases es with
   |nil=>rfl
   |cons e es=>unfold aT at h2;obtain⟨_,_,h,_⟩:=h2;cases h
 |d::ds,es,vs,n,hd,he,h1,h2=>by
  unfold aT at h1;obtain⟨v,r,rfl,r1,r2⟩:=h1;cases es with
  |nil=>unfold aT at h2;cases h2
  |cons e es=>
   unfold aT at h2;obtain⟨v',r',h,q1,q2⟩:=h2;cases h;rw[List.all_cons,Bool.and_eq_true]at hd he;rw[Rep.inj n hd.1 he.1 r1 q1,aT.inj n hd.2 he.2 r2 q2]
end
theorem qb:∀ {xs ys:List D},xs.length≠ys.length->gc xs ys=false
 | [],[],h=>absurd rfl h
 | [],_::_,_=>by unfold gc;rfl
 |_::_,[],_=>by unfold gc;rfl
 |x::xs,y::ys,h=>by
  unfold gc;rw[qb (by simpa using h),Bool.and_false]
theorem pL:∀ {xs ys:List D},xs.length=ys.length->gc xs ys=(List.range xs.length).all fun j=>c9 (xs.getD j .aE) (ys.getD j .aE)
 | [],[],_=>by unfold gc;rfl
 | [],_::_,h=>by cases h
 |_::_,[],h=>by cases h
 |x::xs,y::ys,h=>by
  unfold gc;rw[List.length_cons,List.range_succ_eq_map,List.all_cons,List.all_map,pL (by simpa using h)];rfl
section
variable {X:Cx}{pins:List (Addr×Obj)}{σ:L2.St}{H:Hp}{s:Shared}{α:List (Option Addr)}
theorem lh{xs:List D}{vs:List V}{aw:List Value}(r:aT α H xs vs)(v:Vals vs aw)(j:Nat)(hj:j<aw.length):∃x,xs[j]?=some (xs.getD j .aE)/\Rep α H (xs.getD j .aE) x/\RelV x aw[j]:=by
 have h1:=r.length;have h2:=v.length;have hx:j<xs.length:=by omega
 have e:xs[j]?=some (xs.getD j .aE):=by rw[List.getElem?_eq_getElem hx,List.getD_eq_getElem?_getD,List.getElem?_eq_getElem hx];rfl
 obtain⟨x,q,rr⟩:=r.get e;obtain⟨u,q2,rv⟩:=v.get q;rw[List.getElem?_eq_getElem hj]at q2;cases q2;exact⟨x,e,rr,rv⟩
theorem jO{xs:List D}{n:Nat}(h:xs.all (pl n)=true)(j:Nat):pl n (xs.getD j .aE)=true:=by
 rw[List.getD_eq_getElem?_getD];cases e:xs[j]? with
 |none=>cases n<;>rfl
 |some d=>exact List.all_eq_true.mp h d (List.mem_of_getElem? e)
def zM:D->Bool
 | .aE=>true
 | .bl _=>true
 | .int _=>true
 | .str _=>true
 |_=>false
theorem DF{A:Around}{d e:D}{x y:V}{u v:Value}(hd:zM d=true)(he:zM e=true)(rd:Rep α H d x)(re:Rep α H e y)(rx:RelV x u)(ry:RelV y v):RcAt A s u v (c9 d e)/\EqAt A s u v (c9 d e):=by
 cases d<;>cases e<;>try(first|(cases hd;done)|(cases he;done))
 all_goals(unfold Rep at rd re;subst rd re)
 all_goals(first|(obtain⟨t,rfl⟩:=rx;obtain⟨t',rfl⟩:=ry)|(obtain⟨t,rfl⟩:=rx;cases ry)|(cases rx;obtain⟨t,rfl⟩:=ry)|(cases rx;cases ry))
 all_goals unfold c9
 . exact⟨RcAt.none_none,EqAt.same _⟩
 . exact⟨RcAt.none_bool _,EqAt.none_bool _⟩
 . exact⟨RcAt.none_int _ _,EqAt.none_int _ _⟩
 . exact⟨RcAt.none_str _ _,EqAt.none_str _ _⟩
 . exact⟨RcAt.bool_none _,EqAt.bool_none _⟩
 . exact⟨RcAt.bool_bool _ _,EqAt.bool_bool _ _⟩
 . exact⟨RcAt.bool_int _ _ _,EqAt.bool_int _ _ _⟩
 . exact⟨RcAt.bool_str _ _ _,EqAt.bool_str _ _ _⟩
 . exact⟨RcAt.int_none _ _,EqAt.int_none _ _⟩
 . exact⟨RcAt.int_bool _ _ _,EqAt.int_bool _ _ _⟩
 . exact⟨RcAt.int_int _ _ _ _,EqAt.int_int _ _ _ _⟩
 . exact⟨RcAt.int_str _ _ _ _,EqAt.int_str _ _ _ _⟩
 . exact⟨RcAt.str_none _ _,EqAt.str_none _ _⟩
 . exact⟨RcAt.str_bool _ _ _,EqAt.str_bool _ _ _⟩
 . exact⟨RcAt.str_int _ _ _ _,EqAt.str_int _ _ _ _⟩
 . exact⟨RcAt.str_str _ _ _ _,EqAt.str_str _ _ _ _⟩
theorem lst_is(I:Inv X pins σ H s){xs:List D}{x:V}{u:Value}(r:Rep α H (.lst xs) x)(rx:RelV x u):∃a vs aw,u= .ref a/\aT α H xs vs/\Vals vs aw/\s.heap.IsList a aw.toArray:=by
 unfold Rep at r;obtain⟨a,vs,rfl,na,ha,ra⟩:=r;cases rx;obtain⟨z,aw,n,rv,hl,eo⟩:=Inv.CF I ha;exact⟨a,vs,aw,rfl,ra,rv,⟨_,eo,rfl,n,rfl⟩⟩
theorem tup_is(I:Inv X pins σ H s){xs:List D}{x:V}{u:Value}(r:Rep α H (.tup xs) x)(rx:RelV x u):∃a vs aw,u= .ref a/\aT α H xs vs/\Vals vs aw/\s.heap.IsTuple a aw.toArray:=by
 unfold Rep at r;obtain⟨a,vs,rfl,na,ha,ra⟩:=r;cases rx;obtain⟨aw,r',p,hz⟩:=I.tuple (jA.of ha);exact⟨a,vs,aw,rfl,ra,r',p⟩
theorem zT(I:Inv X pins σ H s){A:Around}{xs:List D}{e:D}{x y:V}{u v:Value}(he:zM e=true)(rd:Rep α H (.lst xs) x)(re:Rep α H e y)(rx:RelV x u)(ry:RelV y v)(hu:A.units<cLine):
 (RcAt A s u v (c9 (.lst xs) e)/\EqAt A s u v (c9 (.lst xs) e))/\RcAt A s v u (c9 e (.lst xs))/\EqAt A s v u (c9 e (.lst xs)):=by
 obtain⟨a,vs,aw,rfl,_,_,hl⟩:=lst_is I rd rx;cases e<;>try(cases he;done)
 all_goals(unfold Rep at re;subst re)
 all_goals(first|(obtain⟨t,rfl⟩:=ry)|(cases ry))
 all_goals unfold c9
 . exact⟨⟨RcAt.list_none hl hu,EqAt.list_none hl hu⟩,RcAt.none_list hl hu,EqAt.none_list hl hu⟩
 . exact⟨⟨RcAt.list_bool _ hl hu,EqAt.list_bool _ hl hu⟩,RcAt.bool_list _ hl hu,EqAt.bool_list _ hl hu⟩
 . exact⟨⟨RcAt.list_int _ _ hl hu,EqAt.list_int _ _ hl hu⟩,RcAt.int_list _ _ hl hu,EqAt.int_list _ _ hl hu⟩
 . exact⟨⟨RcAt.list_str _ _ hl hu,EqAt.list_str _ _ hl hu⟩,RcAt.str_list _ _ hl hu,EqAt.str_list _ _ hl hu⟩
theorem z9(I:Inv X pins σ H s){A:Around}{xs:List D}{e:D}{x y:V}{u v:Value}(he:zM e=true)(rd:Rep α H (.tup xs) x)(re:Rep α H e y)(rx:RelV x u)(ry:RelV y v)(hu:A.units<cLine):
 (RcAt A s u v (c9 (.tup xs) e)/\EqAt A s u v (c9 (.tup xs) e))/\RcAt A s v u (c9 e (.tup xs))/\EqAt A s v u (c9 e (.tup xs)):=by
 obtain⟨a,vs,aw,rfl,_,_,hl⟩:=tup_is I rd rx;cases e<;>try(cases he;done)
 all_goals(unfold Rep at re;subst re)
 all_goals(first|(obtain⟨t,rfl⟩:=ry)|(cases ry))
 all_goals unfold c9
 . exact⟨⟨RcAt.tuple_none hl hu,EqAt.tuple_none hl hu⟩,RcAt.none_tuple hl hu,EqAt.none_tuple hl hu⟩
 . exact⟨⟨RcAt.tuple_bool _ hl hu,EqAt.tuple_bool _ hl hu⟩,RcAt.bool_tuple _ hl hu,EqAt.bool_tuple _ hl hu⟩
 . exact⟨⟨RcAt.tuple_int _ _ hl hu,EqAt.tuple_int _ _ hl hu⟩,RcAt.int_tuple _ _ hl hu,EqAt.int_tuple _ _ hl hu⟩
 . exact⟨⟨RcAt.tuple_str _ _ hl hu,EqAt.tuple_str _ _ hl hu⟩,RcAt.str_tuple _ _ hl hu,EqAt.str_tuple _ _ hl hu⟩
theorem Ds{A:Around}{n:Nat}{d e:D}{x y:V}{a b:Addr}(hd:pl n d=true)(he:pl n e=true)(rd:Rep α H d x)(re:Rep α H e y)(rx:RelV x (.ref a))(ry:RelV y (.ref b))(h:RcAt A s (.ref a) (.ref b) (c9 d e)):
 RcAt A s (.ref a) (.ref b) (c9 d e)/\EqAt A s (.ref a) (.ref b) (c9 d e):=by
 refine⟨h,?_⟩;by_cases hab:a=b
 . subst hab;have hx:x=y:=RelV.inj rx ry;subst hx;have:=Rep.inj n hd he rd re;subst this;rw[pq n d hd];exact EqAt.same _
 . exact EqAt.of_refs hab h
theorem EO(I:Inv X pins σ H s):∀(n:Nat) (A:Around) (d e:D) (x y:V) (u v:Value),pl n d=true->pl n e=true->Rep α H d x->Rep α H e y->RelV x u->RelV y v->A.units+n<cLine->
 RcAt A s u v (c9 d e)/\EqAt A s u v (c9 d e):=by
 intro n;induction n with
 |zero=>
  intro A d e x y u v hd he rd re rx ry hu;refine DF ?_ ?_ rd re rx ry
  . cases d<;>first|rfl|(cases hd)
  . cases e<;>first|rfl|(cases he)
 |succ n ih=>
  intro A d e x y u v hd he rd re rx ry hu;have hu0:A.units<cLine:=by omega
  have hin:A.in1.units+n<cLine:=by rw[Around.in1_units];omega
  cases d<;>try(cases hd;done)
  case lst xs=>
   cases e<;>try(cases he;done)
   case lst ys=>
    have rd0:=rd;have re0:=re;have rx0:=rx;have ry0:=ry;obtain⟨a,vs,aw,rfl,r1,v1,l1⟩:=lst_is I rd rx;obtain⟨b,ws,jts,rfl,r2,v2,l2⟩:=lst_is I re ry;have e1:=r1.length;have e2:=v1.length;have e3:=r2.length;have e4:=v2.length;refine Ds hd he rd0 re0 rx0 ry0 ?_;unfold c9;by_cases hlen:xs.length=ys.length
    . rw[pL hlen];have hsz:aw.toArray.size=jts.toArray.size:=by simp only[List.size_toArray];omega
      have hx:xs.length=aw.toArray.size:=by simp only[List.size_toArray];omega
      rw[hx];refine RcAt.lists l1 l2 hsz hu0 fun j h1 h2=>?_;have h1':j<aw.length:=by simpa using h1
      have h2':j<jts.length:=by simpa using h2
      obtain⟨p,_,q1,q2⟩:=lh r1 v1 j h1';obtain⟨p',_,q1',q2'⟩:=lh r2 v2 j h2';exact(ih A.in1 _ _ p p' _ _ (jO (by unfold pl at hd;exact hd) j) (jO (by unfold pl at he;exact he) j) q1 q1' (by simpa using q2) (by simpa using q2') hin).2
    . rw[qb hlen];exact RcAt.lists_lengths l1 l2 (by simp only[List.size_toArray,bne_iff_ne,ne_eq];omega) hu0
   case tup ys=>
    obtain⟨a,vs,aw,rfl,r1,v1,l1⟩:=lst_is I rd rx;obtain⟨b,ws,jts,rfl,r2,v2,l2⟩:=tup_is I re ry;unfold c9;exact⟨RcAt.list_tuple l1 l2 hu0,EqAt.list_tuple l1 l2 hu0⟩
   all_goals exact(zT I rfl rd re rx ry hu0).1
  case tup xs=>
   cases e<;>try(cases he;done)
   case tup ys=>
    have rd0:=rd;have re0:=re;have rx0:=rx;have ry0:=ry;obtain⟨a,vs,aw,rfl,r1,v1,l1⟩:=tup_is I rd rx;obtain⟨b,ws,jts,rfl,r2,v2,l2⟩:=tup_is I re ry;have e1:=r1.length;have e2:=v1.length;have e3:=r2.length;have e4:=v2.length;refine Ds hd he rd0 re0 rx0 ry0 ?_;unfold c9
    have key:=RcAt.tuples (e:=fun j=>c9 (xs.getD j .aE) (ys.getD j .aE)) l1 l2 hu0 fun j h1 h2=>by
     have h1':j<aw.length:=by simpa using h1
     have h2':j<jts.length:=by simpa using h2
     obtain⟨p,_,q1,q2⟩:=lh r1 v1 j h1';obtain⟨p',_,q1',q2'⟩:=lh r2 v2 j h2';exact(ih A.in1 _ _ p p' _ _ (jO (by unfold pl at hd;exact hd) j) (jO (by unfold pl at he;exact he) j) q1 q1' (by simpa using q2) (by simpa using q2') hin).2
    by_cases hlen:xs.length=ys.length
    . rw[pL hlen];have hsz:aw.toArray.size=jts.toArray.size:=by simp only[List.size_toArray];omega
      have hx:xs.length=aw.toArray.size:=by simp only[List.size_toArray];omega
      rw[hsz,Nat.min_self,beq_self_eq_true,Bool.and_true,<-hsz,<-hx]at key;exact key
    . rw[qb hlen];have hne:(aw.toArray.size==jts.toArray.size)=false:=by simp only[List.size_toArray,beq_eq_false_iff_ne,ne_eq];omega
      rw[hne,Bool.and_false]at key;exact key
   case lst ys=>
    obtain⟨a,vs,aw,rfl,r1,v1,l1⟩:=tup_is I rd rx;obtain⟨b,ws,jts,rfl,r2,v2,l2⟩:=lst_is I re ry;unfold c9;exact⟨RcAt.tuple_list l1 l2 hu0,EqAt.tuple_list l1 l2 hu0⟩
   all_goals exact(z9 I rfl rd re rx ry hu0).1
  all_goals
   cases e<;>try(cases he;done)
   case lst ys=>exact(zT I rfl re rd ry rx hu0).2
   case tup ys=>exact(z9 I rfl re rd ry rx hu0).2
   all_goals exact DF rfl rfl rd re rx ry
def Nn:dz:=fun x y st K=>pl 40 x=true/\pl 40 y=true/\K (.bl (c9 x y)) st
theorem RO{k:Nat}(hr:dn k X.A):cn X (compareOp .Eq) (LR Nn):=fun pins s σ H x y v u Q I rx ry ⟨α,d,e,st,K,G,F',P,r1,r2,S,q,k⟩=>by
 have hu:=hr.units;exact(EO I 40 X.A d e x y v u q.1 q.2.1 (r1.mono P.same) (r2.mono P.same) rx ry (by omega)).1 _ _ _ _ ⟨.bl (c9 d e),H,I,rfl,k.here P q.2.2 S (by unfold Rep;rfl)⟩
def OR:dz:=fun x y st K=>match x,y with
 | .int i,.int j=>K (.bl (!decide (i=j))) st
 | .bl i,.bl j=>K (.bl (!decide (i=j))) st
 | .str i,.str j=>K (.bl (!decide (i=j))) st
 |_,_=>False
theorem Rq:cn X (compareOp .NotEq) (LR OR):=cn.imp P0 fun x y H Q ⟨α,d,e,st,K,G,F',P,r1,r2,S,q,k⟩=>by
 cases d<;>cases e<;>try exact q.elim
 all_goals(unfold Rep at r1 r2;subst r1 r2)
 . exact⟨rfl,k.here P q S (by unfold Rep;congr 2;exact decide_eq_decide.mpr ⟨fun h=>by cases h;rfl,fun h=>by rw[h]⟩)⟩
 . exact⟨rfl,k.here P q S (by unfold Rep;congr 2;exact decide_eq_decide.mpr ⟨fun h=>by cases h;rfl,fun h=>by rw[h]⟩)⟩
 . exact⟨rfl,k.here P q S (by unfold Rep;congr 2;exact decide_eq_decide.mpr ⟨fun h=>by cases h;rfl,fun h=>by rw[h]⟩)⟩
end
end L3
namespace L3
open PySem PySem.Spec L2
open PyProof.Rows hiding St
def LC(α:List (Option Addr))(G F:Hp)(K:cu->ag->Prop)(Q:L2.St->Hp->Prop):Prop:=∀σd' st',K σd' st'->∀α' G' H' σ',Step α G α' G'->cL G' F H'->eJ α' G' σd' σ'->a7 α' st' G'->Q σ' H'
structure AK(α:List (Option Addr))(G F:Hp)(DD:oK)(D:Ends):Prop where
 nx:LC α G F DD.nx D.nx
 rt:LK α G F DD.rt D.rt
 bk:LC α G F DD.bk D.bk
 ct:LC α G F DD.ct D.ct
inductive QW(t:DS)(D:Ends)(σ:L2.St)(H:Hp):Prop
 |mk (α:List (Option Addr)) (σd:cu) (st:ag) (DD:oK) (G F:Hp) (P:cL G F H) (R:eJ α G σd σ) (S:a7 α st G) (h:t DD σd st) (k:AK α G F DD D):QW t D σ H
def LS(t:DS):TS:=QW t
theorem LC.at{α α1:List (Option Addr)}{G F G1:Hp}{K:cu->ag->Prop}{Q:L2.St->Hp->Prop}(h:LC α G F K Q)(s:Step α G α1 G1):LC α1 G1 F K Q:=fun d st' k α' G' H' v s' P R S=>h d st' k α' G' H' v (s.trans s') P R S
theorem LC.here{α:List (Option Addr)}{G F H:Hp}{K:cu->ag->Prop}{Q:L2.St->Hp->Prop}(h:LC α G F K Q)(P:cL G F H){σd:cu}{st:ag}{σ:L2.St}(k:K σd st)(R:eJ α G σd σ)(S:a7 α st G):Q σ H:=h σd st k α G H σ Step.refl P R S
theorem AK.at{α α1:List (Option Addr)}{G F G1:Hp}{DD:oK}{D:Ends}(h:AK α G F DD D)(s:Step α G α1 G1):AK α1 G1 F DD D:=⟨h.nx.at s,h.rt.at s,h.bk.at s,h.ct.at s⟩
section
variable {X:Cx}{a b c e o i:Expr}{es:List Expr}{ta tb tc te:DE}{pos:Pos}{st:Stmt}{sts:List Stmt}{t u:DS}
theorem PS.imp{t t':TS}(h:PS X st t)(f:∀D σ H,t' D σ H->t D σ H):PS X st t':=fun pins s σ H D I q=>h pins s σ H D I (f D σ H q)
theorem iA.imp{t t':TS}(h:iA X sts t)(f:∀D σ H,t' D σ H->t D σ H):iA X sts t':=fun pins s σ H D I q=>h pins s σ H D I (f D σ H q)
def cK:DS:=fun D σ st=>D.nx σ st
def aF(t u:DS):DS:=fun D σ st=>t {D with nx:=u D} σ st
theorem L8:iA X [] (LS cK):=iA.imp Ld fun D σ H ⟨α,σd,st,DD,G,F,P,R,S,t,k⟩=>k.nx.here P t R S
theorem KI(h:PS X st (LS t)):iA X [st] (LS t):=KY h
theorem Ir(h:PS X st (LS t))(h2:iA X sts (LS u)):iA X (st::sts) (LS (aF t u)):=iA.imp (HI h h2) fun D σ H ⟨α,σd,st,DD,G,F,P,R,S,t,k⟩=>
 ⟨α,σd,st,_,G,F,P,R,S,t,fun σd' st' q α' G' H' σ' s' P' R' S'=>⟨α',σd',st',DD,G',F,P',R',S',q,k.at s'⟩,k.rt,k.bk,k.ct⟩
def a_(te:DE):DS:=fun D σ st=>te σ st D.rt
theorem OK(h:PE X e (LE te)):PS X (.Return (some e) pos) (LS (a_ te)):=PS.imp (NI h) fun D σ H ⟨α,σd,st,DD,G,F,P,R,S,t,k⟩=>⟨α,σd,st,_,G,F,P,R,S,t,k.rt⟩
def mq(te:DE):DS:=fun D σ st=>te σ st fun _ st1=>D.nx σ st1
theorem Li(h:PE X e (LE te))(hs:swapsWith e none pos.line X.env=pure false:=by rfl):PS X (.Expr e pos) (LS (mq te)):=PS.imp (Lm h hs) fun D σ H ⟨α,σd,st,DD,G,F,P,R,S,t,k⟩=>
 ⟨α,σd,st,_,G,F,P,R,S,t,fun d st1 q α1 G1 H1 v s1 P1 S1 r1=>(k.nx.at s1).here P1 q (R.step s1) S1⟩
def cY(c:DT)(t u:DS):DS:=fun D σ st=>c σ st fun b st1=>if b=true then t D σ st1 else u D σ st1
theorem Pd{x y:List Stmt}{tc:DT}(hc:PT X c (LT tc))(ha:iA X x (LS t))(hb:iA X y (LS u)):PS X (.If c x y pos) (LS (cY tc t u)):=PS.imp (Py hc ha hb) fun D σ H ⟨α,σd,st,DD,G,F,P,R,S,t,k⟩=>by
 refine⟨α,σd,st,_,G,F,P,R,S,t,fun b st1 q α1 G1 H1 s1 P1 S1=>?_⟩;cases b with
 |true=>exact⟨α1,σd,st1,DD,G1,F,P1,R.step s1,S1,q,k.at s1⟩
 |false=>exact⟨α1,σd,st1,DD,G1,F,P1,R.step s1,S1,q,k.at s1⟩
abbrev fE:=D->cu->Option cu
def cB(i:Nat):fE:=fun d σ=>some (σ.set i (some d))
def g4(i j:Nat):fE:=fun d σ=>match d with| .tup [x,y]=>some ((σ.set i (some x)).set j (some y))|_=>none
inductive Q5(t:fE)(v:V)(σ:L2.St)(H:Hp)(Q:L2.St->Hp->Prop):Prop
 |mk (α:List (Option Addr)) (σd:cu) (st:ag) (d:D) (K:cu->ag->Prop) (G F:Hp) (P:cL G F H) (R:eJ α G σd σ) (S:a7 α st G) (r:Rep α G d v) (h:∃σ',t d σd=some σ'/\K σ' st) (k:LC α G F K Q):Q5 t v σ H Q
def LG(t:fE):TG:=Q5 t
theorem PG.imp{tg:Expr}{t t':TG}(h:PG X tg t)(f:∀v σ H Q,t' v σ H Q->t v σ H Q):PG X tg t':=fun pins s σ H v u Q I r q=>h pins s σ H v u Q I r (f v σ H Q q)
theorem LQ{tg:Expr}{i:Nat}(h:PG X tg (nt i)):PG X tg (LG (cB i)):=PG.imp h fun v σ H Q ⟨α,σd,st,d,K,G,F,P,R,S,r,⟨σ',e,q⟩,k⟩=>by
 cases e;exact k.here P q (R.set i r) S
theorem OC{tg:Expr}{i j:Nat}(h:PG X tg (Nt X.K 2 (yd (nt i) (yd (nt j) ID)))):PG X tg (LG (g4 i j)):=PG.imp h fun v σ H Q ⟨α,σd,st,d,K,G,F,P,R,S,r,⟨σ',e,q⟩,k⟩=>by
 unfold g4 at e;split at e
 . rename_i x y;cases e;unfold Rep at r;obtain⟨a,vs,rfl,na,h1,h2⟩:=r;obtain⟨v1,v2,rfl,r1,r2⟩:=oM h2 rfl;exact⟨a,_,rfl,.of (P.get h1),rfl,v1,_,rfl,v2,_,rfl,rfl,k.here P q ((R.set i r1).set j r2) S⟩
 . cases e
def a8(i:Nat)(te:DE):DS:=fun D σ st=>te σ st fun d st1=>D.nx (σ.set i (some d)) st1
theorem MP{i:Nat}(h:PS X st (m9 (LE te) (nt i))):PS X st (LS (a8 i te)):=PS.imp h fun D σ H ⟨α,σd,st,DD,G,F,P,R,S,t,k⟩=>
 ⟨α,σd,st,_,G,F,P,R,S,t,fun d st1 q α1 G1 H1 v s1 P1 S1 r1=>(k.nx.at s1).here P1 q ((R.step s1).set i r1) S1⟩
def Iz(tg:fE)(te:DE):DS:=fun D σ st=>te σ st fun d st1=>∃σ',tg d σ=some σ'/\D.nx σ' st1
theorem OA{tg:fE}(h:PS X st (m9 (LE te) (LG tg))):PS X st (LS (Iz tg te)):=PS.imp h fun D σ H ⟨α,σd,st,DD,G,F,P,R,S,t,k⟩=>
 ⟨α,σd,st,_,G,F,P,R,S,t,fun d st1 q α1 G1 H1 v s1 P1 S1 r1=>⟨α1,σd,st1,d,DD.nx,G1,F,P1,R.step s1,S1,r1,q,k.nx.at s1⟩⟩
def Ie(i j:Nat)(ta:DA):DS:=fun D σ st=>ta σ st fun ds st1=>match ds with| [x,y]=>D.nx ((σ.set i (some x)).set j (some y)) st1|_=>False
theorem Nb{i j:Nat}{ta:DA}(h:PS X st (Np i j (LA ta))):PS X st (LS (Ie i j ta)):=PS.imp h fun D σ H ⟨α,σd,st,DD,G,F,P,R,S,t,k⟩=>by
 refine⟨α,σd,st,_,G,F,P,R,S,t,fun ds st1 q α1 G1 H1 vs s1 P1 S1 r1=>?_⟩;match ds,q,r1 with
 | [x,y],q,r1=>
   obtain⟨v1,v2,rfl,q1,q2⟩:=oM r1 rfl;exact⟨v1,v2,rfl,(k.nx.at s1).here P1 q (((R.step s1).set i q1).set j q2) S1⟩
def EH(i:Nat)(r:dz)(te:DE):DS:=fun D σ st=>match σ[i]? with|some (some x)=>te σ st fun y st1=>r x y st1 fun z st2=>D.nx (σ.set i (some z)) st2|_=>False
def Bh(f:Int->Int->Int):dz:=fun x y st K=>match x,y with| .int i,.int j=>K (.int (f i j)) st|_,_=>False
theorem MN{i:Nat}{f:Int->Int->Int}(h:PS X st (NY i (LE te) (Nq f))):PS X st (LS (EH i (Bh f) te)):=PS.imp h fun D σ H ⟨α,σd,st,DD,G,F,P,R,S,t,k⟩=>by
 unfold EH at t;split at t
 . rename_i x e;obtain⟨v,ev,rv⟩:=R.at' i x e;refine⟨v,ev,α,σd,st,_,G,F,P,R,S,t,fun y st1 q α1 G1 H1 w s1 P1 S1 r1=>?_⟩;cases x<;>cases y<;>try exact q.elim
   have rv':=rv;unfold Rep at rv r1;exact⟨_,_,rv,r1,(k.nx.at s1).here P1 q ((R.step s1).set i (by unfold Rep;rfl)) S1⟩
 . exact t.elim
def Bi(x y d:D)(st:ag)(K:ag->Prop):Prop:=match x,y with
 | .ref n,.int k=>(match st[n]? with
   |some (.lst xs)=>(match mH xs.length k with|some j=>K (st.set n (.lst (xs.set j d)))|none=>False)
   |_=>False)
 |_,_=>False
def NS(to ti te:DE):DS:=fun D σ st=>te σ st fun d st1=>to σ st1 fun x st2=>ti σ st2 fun y st3=>Bi x y d st3 fun st4=>D.nx σ st4
theorem IC{to ti:DE}(h:PS X st (m9 (LE te) (zk (LE to) (LE ti) vz))):PS X st (LS (NS to ti te)):=PS.imp h fun D σ H ⟨α,σd,st,DD,G,F,P,R,S,t,k⟩=>by
 refine⟨α,σd,st,_,G,F,P,R,S,t,fun d st1 q α1 G1 H1 v s1 P1 S1 r1=>?_⟩;refine⟨α1,σd,st1,_,G1,F,P1,R.step s1,S1,q,fun x st2 q2 α2 G2 H2 v2 s2 P2 S2 r2=>?_⟩;refine⟨α2,σd,st2,_,G2,F,P2,(R.step s1).step s2,S2,q2,fun y st3 q3 α3 G3 H3 v3 s3 P3 S3 r3=>?_⟩;cases x<;>cases y<;>try exact q3.elim
 rename_i n kk;unfold Bi at q3;simp only at q3;split at q3
 . rename_i xs e;split at q3
   . rename_i j ej;obtain⟨p,ep,vs,hv,rv⟩:=S3.g0 e;have r2':=eF ep (r2.step s3);subst r2';unfold Rep at r3;have hm:some p∈α3:=List.mem_of_getElem? ep;have rd:=(r1.step s2).step s3;refine⟨p,vs,kk,j,rfl,r3,P3.get hv,by rw[<-rv.length];exact ej,?_⟩;refine(((k.nx.at s1).at s2).at s3) σd _ q3 α3 (upd G3 p (.lst (vs.set j v))) _ σ (Step.write hm) (P3.write hv) ((((R.step s1).step s2).step s3).step (Step.write hm)) ?_;exact S3.write ep ⟨vs.set j v,a9,(bC.mpr (sT rd j (bC.mp rv))).step (Step.write hm)⟩
   . exact q3.elim
 . exact q3.elim
def xn(c:DT)(tb:DS):DS:=fun D σ st=>∃W:Nat->cu->ag->Prop,(∃m,W m σ st)/\∀m σ st,W m σ st->
 c σ st fun b st1=>if b=true then tb {D with nx:=fun σ' st'=>∃m',m'<m/\W m' σ' st',ct:=fun σ' st'=>∃m',m'<m/\W m' σ' st',bk:=D.nx} σ st1 else D.nx σ st1
theorem HJ{tc:DT}(h:PS X st (FU (LT tc) (LS t))):PS X st (LS (xn tc t)):=PS.imp h fun D σ H ⟨α,σd,st,DD,G,F,P,R,S,⟨W,⟨m0,w0⟩,turn⟩,k⟩=>by
 refine⟨fun m σ' H'=>∃α' σd' st' G',Step α G α' G'/\cL G' F H'/\eJ α' G' σd' σ'/\a7 α' st' G'/\W m σd' st',⟨m0,α,σd,st,G,Step.refl,P,R,S,w0⟩,?_⟩;rintro m σ1 H1 ⟨α1,σd1,st1,G1,s1,P1,R1,S1,w1⟩;refine⟨α1,σd1,st1,_,G1,F,P1,R1,S1,turn m σd1 st1 w1,fun b st2 q α2 G2 H2 s2 P2 S2=>?_⟩;cases b with
 |false=>exact((k.nx.at s1).at s2).here P2 q (R1.step s2) S2
 |true=>
  refine⟨fun σ' H'=>∃m',m'<m/\∃α' σd' st' G',Step α G α' G'/\cL G' F H'/\eJ α' G' σd' σ'/\a7 α' st' G'/\W m' σd' st',fun σ' H' z=>z,?_⟩;refine⟨α2,σd1,st2,_,G2,F,P2,R1.step s2,S2,q,?_⟩;refine⟨?_,(k.rt.at s1).at s2,(k.nx.at s1).at s2,?_⟩
  . rintro σd3 st3 ⟨m',hm,w3⟩ α3 G3 H3 σ3 s3 P3 R3 S3;exact⟨m',hm,α3,σd3,st3,G3,(s1.trans s2).trans s3,P3,R3,S3,w3⟩
  . rintro σd3 st3 ⟨m',hm,w3⟩ α3 G3 H3 σ3 s3 P3 R3 S3;exact⟨m',hm,α3,σd3,st3,G3,(s1.trans s2).trans s3,P3,R3,S3,w3⟩
abbrev DI:=cu->ag->(List D->(ag->Prop)->ag->Prop)->Prop
structure wZ(J:It)(α:List (Option Addr))(G:Hp)(ok:ag->Prop)(xs:List D):Prop where
 stop:∀(n:Nat) α' G' F' H' st',Step α G α' G'->cL G' F' H'->a7 α' st' G'->ok st'->xs.length<=n->J.stop n H'
 go:∀(n:Nat) d α' G' F' H' st',Step α G α' G'->cL G' F' H'->a7 α' st' G'->ok st'->xs[n]?=some d->J.go n H'
 qx:∀(n:Nat) d α' G' F' H' st' x H'',Step α G α' G'->cL G' F' H'->a7 α' st' G'->ok st'->xs[n]?=some d->J.qx n H' x H''->∃G'',Step α' G' α' G''/\cL G'' F' H''/\a7 α' st' G''/\Rep α' G'' d x
def LI(t:DI):TI:=fun σ H R=>∃α σd st K G F,cL G F H/\eJ α G σd σ/\a7 α st G/\t σd st K/\∀xs ok st1,K xs ok st1->∀J α1 G1 H1,Step α G α1 G1->cL G1 F H1->a7 α1 st1 G1->wZ J α1 G1 ok xs->R J H1
def CG(d:D)(st1:ag)(K:List D->(ag->Prop)->ag->Prop):Prop:=match d with
 | .lst xs=>K xs (fun _=>True) st1
 | .tup xs=>K xs (fun _=>True) st1
 | .ref n=>(match st1[n]? with|some (.lst xs)=>K xs (fun st'=>st'[n]?=some (.lst xs)) st1|_=>False)
 |_=>False
def P8(t:DE):DI:=fun σ st K=>t σ st fun d st1=>CG d st1 K
theorem Dv{K:PySem.W.Frag}{a:Addr}{α:List (Option Addr)}{G:Hp}{ok:ag->Prop}{xs:List D}
 (h:∀α' G' st',Step α G α' G'->a7 α' st' G'->ok st'->∃vs,Rd G' a (.lst vs)/\aT α' G' xs vs):wZ (NM K a) α G ok xs where
 stop:=fun n α' G' F' H' st' s P S o hn=>by
  obtain⟨vs,h1,h2⟩:=h α' G' st' s S o;exact⟨vs,.inl (iJ P h1),by rw[<-h2.length];exact hn⟩
 go:=fun n d α' G' F' H' st' s P S o hn=>by
  obtain⟨vs,h1,h2⟩:=h α' G' st' s S o;obtain⟨v,e,_⟩:=h2.get hn;exact⟨vs,v,.inl (iJ P h1),e⟩
 qx:=fun n d α' G' F' H' st' x H'' s P S o hn y=>by
  obtain⟨vs,h1,h2⟩:=h α' G' st' s S o;obtain⟨v,e,r⟩:=h2.get hn;obtain⟨rfl,y⟩:=y;have:=y vs (.inl (iJ P h1));rw[e]at this;cases this;exact⟨G',Step.refl,P,S,r⟩
theorem MI{K:PySem.W.Frag}{a:Addr}{α:List (Option Addr)}{G:Hp}{ok:ag->Prop}{xs:List D}
 (h:∀α' G' st',Step α G α' G'->a7 α' st' G'->ok st'->∃vs,G' a=some (.tup vs)/\aT α' G' xs vs):wZ (Ot K a) α G ok xs where
 stop:=fun n α' G' F' H' st' s P S o hn=>by
  obtain⟨vs,h1,h2⟩:=h α' G' st' s S o;exact⟨vs,.of (P.get h1),by rw[<-h2.length];exact hn⟩
 go:=fun n d α' G' F' H' st' s P S o hn=>by
  obtain⟨vs,h1,h2⟩:=h α' G' st' s S o;obtain⟨v,e,_⟩:=h2.get hn;exact⟨vs,v,.of (P.get h1),e⟩
 qx:=fun n d α' G' F' H' st' x H'' s P S o hn y=>by
  obtain⟨vs,h1,h2⟩:=h α' G' st' s S o;obtain⟨v,e,r⟩:=h2.get hn;obtain⟨rfl,y⟩:=y;have:=y vs (.of (P.get h1));rw[e]at this;cases this;exact⟨G',Step.refl,P,S,r⟩
theorem HK{α α':List (Option Addr)}{G G':Hp}{a:Addr}{vs:List V}{xs:List D}(s:Step α G α' G')(na:some a∉α)(h1:Rd G a (.lst vs))(h2:aT α G xs vs):Rd G' a (.lst vs)/\aT α' G' xs vs:=by
 refine⟨?_,h2.step s⟩;rcases h1 with h|⟨o,h⟩
 . exact .inl (s.ext _ _ na h)
 . exact .inr ⟨o,s.ext _ _ na h⟩
theorem Ol{l tg:Expr}{tl:DE}(hl:PE X l (LE tl)):PI X tg l (LI (P8 tl)):=by
 intro pins s σ H R I h;obtain⟨α,σd,st,K,G,F,P,RS,S,t,k⟩:=h;refine cp (hl pins s σ H (fun x H1=>∃d α1 G1 st1,Step α G α1 G1/\cL G1 F H1/\a7 α1 st1 G1/\Rep α1 G1 d x/\CG d st1 K) I ⟨α,σd,st,_,G,F,P,RS,S,t,fun d st1 q α1 G1 H1 v s1 P1 S1 r1=>⟨d,α1,G1,st1,s1,P1,S1,r1,q⟩⟩) fun v s1 ⟨x,H1,I1,rx,d,α1,G1,st1,s1',P1,S1,r1,q⟩=>?_;unfold CG at q
 have viaL:∀ {a:Addr} {vs:List V},x= .ref a->Rd H1 a (.lst vs)->R (NM X.K a) H1->wpAny (model X.prog X.w) X.A (pyIter v) (J6 X pins σ tg R) X.xe s1:=by
  intro a vs ex hr hR;subst ex;cases rx;obtain⟨aw,rv,p,hz⟩:=I1.list (.inl hr);refine wpAny_pyIter_list p.isList ?_;refine⟨s1.heap.objs.size,[s1.heap.objs.size],_,_,H1,rfl,I1.kept (t':=s1.toks) fun b o e=>Heap.get?_push_of_some _ e,Gk a _,⟨_,Heap.get?_push_size _ rfl,rfl,rfl⟩,fun b hb=>?_,hR⟩;have e:b=s1.heap.objs.size:=by simpa using hb
  subst e;exact I1.wI (Nat.le_refl _) (I1.aP.fresh (Nat.le_refl _))
 have viaT:∀ {a:Addr} {vs:List V},x= .ref a->H1 a=some (.tup vs)->R (Ot X.K a) H1->wpAny (model X.prog X.w) X.A (pyIter v) (J6 X pins σ tg R) X.xe s1:=by
  intro a vs ex hr hR;subst ex;cases rx;obtain⟨aw,rv,p,hz⟩:=I1.tuple (jA.of hr);refine wpAny_pyIter_tuple (show s1.heap.IsTuple a aw.toArray from p) ?_;refine⟨s1.heap.objs.size,[s1.heap.objs.size],_,_,H1,rfl,I1.kept (t':=s1.toks) fun b o e=>Heap.get?_push_of_some _ e,ES a _,⟨_,Heap.get?_push_size _ rfl,rfl,rfl⟩,fun b hb=>?_,hR⟩;have e:b=s1.heap.objs.size:=by simpa using hb
  subst e;exact I1.wI (Nat.le_refl _) (I1.aP.fresh (Nat.le_refl _))
 cases d<;>try exact q.elim
 . rename_i n;simp only at q;split at q
   . rename_i xs e;obtain⟨a,ea,vs,h1,h2⟩:=S1.g0 e;have r1':=eF ea r1;subst r1';refine viaL rfl (iJ P1 (.of h1)) (k _ _ st1 q _ α1 G1 H1 s1' P1 S1 (Dv fun α' G' st' s S o=>?_));obtain⟨b,eb,ws,g1,g2⟩:=S.g0 o
     have hb:b=a:=by
      rcases s.pre _ _ ea with z|z<;>(rw[z]at eb;cases eb)
      rfl
     subst hb;exact⟨ws,.of g1,g2⟩
   . exact q.elim
 . unfold Rep at r1;obtain⟨a,vs,rfl,na,ha,ra⟩:=r1;exact viaL rfl (iJ P1 ha) (k _ _ st1 q _ α1 G1 H1 s1' P1 S1 (Dv fun α' G' st' s S o=>⟨vs,HK s na ha ra⟩))
 . unfold Rep at r1;obtain⟨a,vs,rfl,na,ha,ra⟩:=r1;exact viaT rfl (P1.get ha) (k _ _ st1 q _ α1 G1 H1 s1' P1 S1 (MI fun α' G' st' s S o=>⟨vs,s.ext _ _ na ha,ra.step s⟩))
def eV(lo:Int)(n:Nat):List D:=(List.range n).map fun(k:Nat)=>D.int (lo+(k:Int))
theorem yC{lo:Int}{n k:Nat}:(eV lo n)[k]?=if k<n then some (.int (lo+(k:Int)))else none:=by
 unfold eV;rw[List.getElem?_map];by_cases h:k<n
 . rw[List.getElem?_range h,if_pos h];rfl
 . rw[List.getElem?_eq_none (by simpa using h),if_neg h];rfl
theorem j_{lo:Int}{n:Nat}:(eV lo n).length=n:=by unfold eV;simp
theorem AX{α:List (Option Addr)}{G:Hp}{lo:Int}{n:Nat}:wZ (zC lo n) α G (fun _=>True) (eV lo n) where
 stop:=fun m α' G' F' H' st' s P S o hn=>by rw[j_]at hn;exact hn
 go:=fun m d α' G' F' H' st' s P S o hn=>by
  rw[yC]at hn;split at hn
  . assumption
  . cases hn
 qx:=fun m d α' G' F' H' st' x H'' s P S o hn y=>by
  obtain⟨rfl,rfl⟩:=y;rw[yC]at hn;split at hn
  . cases hn;exact⟨G',Step.refl,P,S,by unfold Rep;rfl⟩
  . cases hn
theorem PI.imp{tg iter:Expr}{t t':TI}(h:PI X tg iter t)(f:∀σ H R,t' σ H R->t σ H R):PI X tg iter t':=fun pins s σ H R I q=>h pins s σ H R I (f σ H R q)
def Ks(ds:List D)(st1:ag)(K:List D->(ag->Prop)->ag->Prop):Prop:=match ds with
 | [.int j]=>(-(2^62)<=j/\j<2^62)/\K (eV 0 j.toNat) (fun _=>True) st1
 |_=>False
def JX(ds:List D)(st1:ag)(K:List D->(ag->Prop)->ag->Prop):Prop:=match ds with
 | [.int i,.int j]=>(-(2^62)<=i/\i<2^62/\ -(2^62)<=j/\j<2^62)/\K (eV i (j-i).toNat) (fun _=>True) st1
 |_=>False
def KO(t:DA):DI:=fun σ st K=>t σ st fun ds st1=>Ks ds st1 K
def Ma(t:DA):DI:=fun σ st K=>t σ st fun ds st1=>JX ds st1 K
theorem GJ{tg iter:Expr}{t:DA}(h:PI X tg iter (EI (LA t))):PI X tg iter (LI (KO t)):=PI.imp h fun σ H R ⟨α,σd,st,K,G,F,P,RS,S,t,k⟩=>by
 refine⟨α,σd,st,_,G,F,P,RS,S,t,fun ds st1 q α1 G1 H1 vs s1 P1 S1 r1=>?_⟩;match ds,q,r1 with
 | [.int j],q,r1=>
   obtain⟨v,rfl,r2⟩:=l9 r1 rfl;unfold Rep at r2;subst r2;exact⟨j,rfl,q.1.1,q.1.2,k _ _ st1 q.2 _ α1 G1 H1 s1 P1 S1 AX⟩
theorem Hc{tg iter:Expr}{t:DA}(h:PI X tg iter (EF (LA t))):PI X tg iter (LI (Ma t)):=PI.imp h fun σ H R ⟨α,σd,st,K,G,F,P,RS,S,t,k⟩=>by
 refine⟨α,σd,st,_,G,F,P,RS,S,t,fun ds st1 q α1 G1 H1 vs s1 P1 S1 r1=>?_⟩;match ds,q,r1 with
 | [.int i,.int j],q,r1=>
   obtain⟨v,u,rfl,r2,r3⟩:=oM r1 rfl;unfold Rep at r2 r3;subst r2 r3;exact⟨i,j,rfl,q.1,k _ _ st1 q.2 _ α1 G1 H1 s1 P1 S1 AX⟩
def jH(tg:fE)(body:DS)(ok:ag->Prop)(E:oK):List D->cu->ag->Prop
 | [],σ,st=>ok st/\E.nx σ st
 |x::xs,σ,st=>ok st/\∃σ1,tg x σ=some σ1/\body {E with nx:=jH tg body ok E xs,ct:=jH tg body ok E xs,bk:=E.nx} σ1 st
def kh(src:DI)(tg:fE)(body:DS):DS:=fun D σ st=>src σ st fun xs ok st1=>jH tg body ok D xs σ st1
theorem M4{src:DI}{tg:fE}(h:PS X st (M8 (LI src) (LG tg) (LS t))):PS X st (LS (kh src tg t)):=PS.imp h fun D σ H ⟨α,σd,st,DD,G,F,P,R,S,tt,k⟩=>by
 refine⟨α,σd,st,_,G,F,P,R,S,tt,fun xs ok st1 q J α1 G1 H1 s1 P1 S1 it=>?_⟩;refine⟨fun i m σ' H'=>∃α' σd' st' G',Step α1 G1 α' G'/\cL G' F H'/\eJ α' G' σd' σ'/\a7 α' st' G'/\jH tg t ok DD (xs.drop i) σd' st'/\m=xs.length-i,⟨xs.length,α1,σd,st1,G1,Step.refl,P1,R.step s1,S1,q,rfl⟩,?_⟩;rintro i m σ2 H2 ⟨α2,σd2,st2,G2,s2,P2,R2,S2,q2,rfl⟩;cases e:xs[i]? with
 |none=>
  have hl:xs.length<=i:=List.getElem?_eq_none_iff.mp e;rw[List.drop_eq_nil_of_le hl]at q2;unfold jH at q2;exact .inl ⟨it.stop i α2 G2 F H2 st2 s2 P2 S2 q2.1 hl,((k.nx.at s1).at s2).here P2 q2.2 R2 S2⟩
 |some d=>
  have hl:i<xs.length:=(List.getElem?_eq_some_iff.mp e).1
  have ed:xs.drop i=d::xs.drop (i+1):=by
   rw[List.drop_eq_getElem_cons hl];congr 1;rw[List.getElem?_eq_getElem hl]at e;exact Option.some.inj e
  rw[ed]at q2;unfold jH at q2;obtain⟨aP,σ3,e3,q3⟩:=q2;refine .inr ⟨it.go i d α2 G2 F H2 st2 s2 P2 S2 aP e,fun σ' H'=>∃α' σd' st' G',Step α1 G1 α' G'/\cL G' F H'/\eJ α' G' σd' σ'/\a7 α' st' G'/\jH tg t ok DD (xs.drop (i+1)) σd' st',?_,?_⟩
  . rintro σ' H' ⟨α',σd',st',G',z1,z2,z3,z4,z5⟩;exact⟨xs.length-(i+1),by omega,α',σd',st',G',z1,z2,z3,z4,z5,rfl⟩
  . intro x H' y;obtain⟨G3,s3,P3,S3,r3⟩:=it.qx i d α2 G2 F H2 st2 x H' s2 P2 S2 aP e y;refine⟨α2,σd2,st2,d,fun σ' st'=>σ'=σ3/\st'=st2,G3,F,P3,R2.step s3,S3,r3,⟨σ3,e3,rfl,rfl⟩,?_⟩;rintro σ' st' ⟨rfl,rfl⟩ α4 G4 H4 σ4 s4 P4 R4 S4;have s24:=(s2.trans s3).trans s4;refine⟨α4,σ',st',_,G4,F,P4,R4,S4,q3,?_,((k.rt.at s1).at s24),(k.nx.at s1).at s24,?_⟩
    . intro σd5 st5 q5 α5 G5 H5 σ5 s5 P5 R5 S5;exact⟨α5,σd5,st5,G5,s24.trans s5,P5,R5,S5,q5⟩
    . intro σd5 st5 q5 α5 G5 H5 σ5 s5 P5 R5 S5;exact⟨α5,σd5,st5,G5,s24.trans s5,P5,R5,S5,q5⟩
end
def g9(fr:List (Option Nat))(σ:cu):cu:=fr.map fun o=>o.bind fun j=>(σ[j]?).join
theorem eJ.comp{α:List (Option Addr)}{G:Hp}{σd:cu}{σ:L2.St}{fr:List (Option Nat)}(h:eJ α G σd σ):eJ α G (g9 fr σd) (σC fr σ):=by
 refine⟨by unfold g9 σC;simp,fun i d e=>?_⟩;unfold g9 at e;rw[List.getElem?_map]at e;cases q:fr[i]? with
 |none=>rw[q]at e;cases e
 |some o=>
  rw[q]at e;cases o with
  |none=>simp at e
  |some j=>
   simp only[Option.map_some,Option.some.injEq,Option.bind_some]at e
   have ej:σd[j]?=some (some d):=by
    cases r:σd[j]? with
    |none=>rw[r]at e;cases e
    |some u=>rw[r]at e;simp at e;rw[e]
   obtain⟨v,ev,rv⟩:=h.at' j d ej;refine⟨v,?_,rv⟩;unfold σC;rw[List.getElem?_map,q];simp[ev]
def dB(tg:fE)(c:DT)(te:DE)(ok:ag->Prop)(σc:cu):List D->List D->ag->(List D->ag->Prop)->Prop
 | [],acc,st,K=>ok st/\K acc st
 |x::xs,acc,st,K=>ok st/\∃σ2,tg x σc=some σ2/\c σ2 st fun b st1=>if b=true then te σ2 st1 fun y st2=>dB tg c te ok σc xs (acc++[y]) st2 K else dB tg c te ok σc xs acc st1 K
def dA(src:DI)(fr:List (Option Nat))(tg:fE)(c:DT)(te:DE):DE:=fun σ st K=>src σ st fun xs ok st1=>xs.length<=sizeLine/\dB tg c te ok (g9 fr σ) xs [] st1 fun ys st2=>K (.lst ys) st2
def nL(src:DI)(fr:List (Option Nat))(tg:fE)(c:DT)(te:DE):DE:=fun σ st K=>src σ st fun xs ok st1=>xs.length<=sizeLine/\dB tg c te ok (g9 fr σ) xs [] st1 fun ys st2=>K (.ref st2.length) (st2++[.lst ys])
def cH:DT:=fun _ st K=>K true st
def tP(fr:List (Option Nat))(tg:fE):Prop:=∀(σ:cu) (d:D) (σ2:cu),tg d (g9 fr σ)=some σ2->σ2.length=(g9 fr σ).length/\∀(i:Nat) (e:D),(g9 fr σ)[i]?=some (some e)->σ2[i]?=some (some e)
theorem uA{fr:List (Option Nat)}{σ:cu}{k:Nat}(h:fr[k]?=some none){e:D}(q:(g9 fr σ)[k]?=some (some e)):False:=by
 unfold g9 at q;rw[List.getElem?_map,h]at q;simp at q
theorem cS{fr:List (Option Nat)}{k:Nat}(h:fr[k]?=some none:=by rfl):tP fr (cB k):=fun σ d σ2 e=>by
 cases e;refine⟨List.length_set,fun i x q=>?_⟩;by_cases hi:i=k
 . subst hi;exact(uA h q).elim
 . rw[List.getElem?_set_ne (Ne.symm hi)];exact q
theorem rh{fr:List (Option Nat)}{k j:Nat}(h:fr[k]?=some none:=by rfl)(h':fr[j]?=some none:=by rfl):tP fr (g4 k j):=fun σ d σ2 e=>by
 unfold g4 at e;split at e
 . cases e;refine⟨by rw[List.length_set,List.length_set],fun i x q=>?_⟩;by_cases hi:i=k
   . subst hi;exact(uA h q).elim
   . by_cases hj:i=j
     . subst hj;exact(uA h' q).elim
     . rw[List.getElem?_set_ne (Ne.symm hj),List.getElem?_set_ne (Ne.symm hi)];exact q
 . cases e
section
variable {X:Cx}
theorem NZ{c:Expr}{t:DT}(h:PT X c (LT t)):ug X [c] (LT t):=Mw h
theorem IL:ug X [] (LT cH):=fun pins s σ H Q I ⟨α,σd,st,K,G,F,P,R,S,t,k⟩=>Mb pins s σ H Q I (k true st t α G H Step.refl P S)
theorem LE.comp{src:DI}{fr:List (Option Nat)}{tg:fE}{c:DT}{te:DE}(fit:tP fr tg){σ:L2.St}{H:Hp}{Q:VK}{α:List (Option Addr)}{σd:cu}{st:ag}{KE:List D->ag->Prop}{G F:Hp}(P:cL G F H)(R:eJ α G σd σ)(S:a7 α st G)
 (t:src σd st fun xs ok st1=>xs.length<=sizeLine/\dB tg c te ok (g9 fr σd) xs [] st1 KE)
 (fin:∀ys st2 α2 G2 H2 l vs,KE ys st2->Step α G α2 G2->cL G2 (upd F l (.lst vs)) H2->F l=none->a7 α2 st2 G2->aT α2 G2 ys vs->Q (.ref l) H2):
 vD (LI src) fr (LG tg) (LT c) (LE te) σ H Q:=by
 refine⟨α,σd,st,_,G,F,P,R,S,t,fun xs ok st1 q J α1 G1 H1 s1 P1 S1 it l hl=>?_⟩;obtain⟨hsz,q⟩:=q;obtain⟨hG,hF⟩:=P1.none hl
 refine⟨fun i m σ' H'=>∃α' st' G' acc vs,Step α1 G1 α' G'/\cL G' (upd F l (.lst vs)) H'/\eJ α' G' (g9 fr σd) σ'/\a7 α' st' G'/\aT α' G' acc vs/\acc.length<=i/\i<=xs.length/\dB tg c te ok (g9 fr σd) (xs.drop i) acc st' KE/\m=xs.length-i,
  ⟨xs.length,α1,st1,G1,[],[],Step.refl,P1.hide hl,(R.step s1).comp,S1,by unfold aT;rfl,Nat.le_refl _,Nat.zero_le _,q,rfl⟩,?_⟩
 rintro i m σ2 H2 ⟨α2,st2,G2,acc,vs,s2,P2,R2,S2,ra,hacc,hi,q2,rfl⟩;cases e:xs[i]? with
 |none=>
  have hl2:xs.length<=i:=List.getElem?_eq_none_iff.mp e;rw[List.drop_eq_nil_of_le hl2]at q2;unfold dB at q2;exact .inl ⟨it.stop i α2 G2 _ H2 st2 s2 P2 S2 q2.1 hl2,fin acc st2 α2 G2 H2 l vs q2.2 (s1.trans s2) P2 hF S2 ra⟩
 |some d=>
  have hl2:i<xs.length:=(List.getElem?_eq_some_iff.mp e).1
  have ed:xs.drop i=d::xs.drop (i+1):=by
   rw[List.drop_eq_getElem_cons hl2];congr 1;rw[List.getElem?_eq_getElem hl2]at e;exact Option.some.inj e
  rw[ed]at q2;unfold dB at q2;obtain⟨aP,σ3,e3,q3⟩:=q2;refine .inr ⟨it.go i d α2 G2 _ H2 st2 s2 P2 S2 aP e,fun σ' H'=>∃α' st' G' acc vs,Step α1 G1 α' G'/\cL G' (upd F l (.lst vs)) H'/\eJ α' G' (g9 fr σd) σ'/\a7 α' st' G'/\aT α' G' acc vs/\acc.length<=i+1/\dB tg c te ok (g9 fr σd) (xs.drop (i+1)) acc st' KE,?_,?_⟩
  . rintro σ' H' ⟨α',st',G',acc',vs',z1,z2,z3,z4,z5,z6,z7⟩;exact⟨xs.length-(i+1),by omega,α',st',G',acc',vs',z1,z2,z3,z4,z5,z6,hl2,z7,rfl⟩
  . intro x H' y;obtain⟨G3,s3,P3,S3,r3⟩:=it.qx i d α2 G2 _ H2 st2 x H' s2 P2 S2 aP e y;refine⟨α2,g9 fr σd,st2,d,fun σ' st'=>σ'=σ3/\st'=st2,G3,_,P3,R2.step s3,S3,r3,⟨σ3,e3,rfl,rfl⟩,?_⟩;rintro σ' st' ⟨rfl,rfl⟩ α4 G4 H4 σ4 s4 P4 R4 S4;have s24:=(s2.trans s3).trans s4;have Rc:eJ α4 G4 (g9 fr σd) σ4:=⟨by rw[<-(fit σd d σ' e3).1];exact R4.len,fun j z hz=>R4.at' j z ((fit σd d σ' e3).2 j z hz)⟩
    refine⟨α4,σ',st',_,G4,_,P4,R4,S4,q3,fun b st5 q5 α5 G5 H5 s5 P5 S5=>?_⟩;cases b with
    |false=>exact⟨α5,st5,G5,acc,vs,s24.trans s5,P5,Rc.step s5,S5,((ra.step s3).step s4).step s5,by omega,q5⟩
    |true=>
     refine⟨α5,σ',st5,_,G5,_,P5,R4.step s5,S5,q5,fun z st6 q6 α6 G6 H6 v6 s6 P6 S6 r6=>?_⟩;have hr:=(((ra.step s3).step s4).step s5).step s6;refine⟨vs,(P6.frame a9).1,by rw[<-hr.length];omega,α6,st6,G6,acc++[z],vs++[v6],(s24.trans s5).trans s6,?_,(Rc.step s5).step s6,S6,bC.mpr (gy (bC.mp hr) (.cons r6 .nil)),by rw[List.length_append,List.length_singleton];omega,q6⟩;have:=P6.Sd (p:=l) (o':= .lst (vs++[v6])) a9;rw[Mf]at this;exact this
theorem NG{scope:Scope}{Nc:List Str}{elt tg iter:Expr}{ifs:List Expr}{pos:Pos}{src:DI}{fr:List (Option Nat)}{dtg:fE}{c:DT}{te:DE}(S:bK X scope Nc fr)(hi:PI X tg iter (LI src))
 (hg:∀C s H ex,PG (fQ X scope Nc C s H ex) tg (LG dtg)) (ht:∀C s H ex,ug (fQ X scope Nc C s H ex) ifs (LT c)) (he:∀C s H ex,PE (fQ X scope Nc C s H ex) elt (LE te)) (fit:tP fr dtg)
 (hx:X.xe=fun _ _=>False:=by rfl) (hc:X.calm=true:=by rfl) (hs:∀x,foldedSetIterable iter X.env x=pure x:=by intro _;rfl):PE X (.ListComp elt [⟨tg,iter,ifs,0⟩] scope pos) (LE (dA src fr dtg c te)):=
 PE.imp (D_ hx hc S hi hg ht he hs) fun σ H Q ⟨α,σd,st,K,G,F,P,R,S,t,k⟩=>LE.comp fit P R S t fun ys st2 α2 G2 H2 l vs q s2 P2 hl S2 r=>by
  have hg:G2 l=none:=(P2.frame a9).2;refine k _ st2 q α2 (upd G2 l (.lst vs)) H2 (.ref l) (s2.trans (Step.laid hg)) (P2.show hl) (S2.laid hg) ?_;unfold Rep;exact⟨l,vs,rfl,S2.mh hg,.of a9,r.step (Step.laid hg)⟩
theorem Ly{scope:Scope}{Nc:List Str}{elt tg iter:Expr}{ifs:List Expr}{pos:Pos}{src:DI}{fr:List (Option Nat)}{dtg:fE}{c:DT}{te:DE}(S:bK X scope Nc fr)(hi:PI X tg iter (LI src))
 (hg:∀C s H ex,PG (fQ X scope Nc C s H ex) tg (LG dtg)) (ht:∀C s H ex,ug (fQ X scope Nc C s H ex) ifs (LT c)) (he:∀C s H ex,PE (fQ X scope Nc C s H ex) elt (LE te)) (fit:tP fr dtg)
 (hx:X.xe=fun _ _=>False:=by rfl) (hc:X.calm=true:=by rfl) (hs:∀x,foldedSetIterable iter X.env x=pure x:=by intro _;rfl):PE X (.ListComp elt [⟨tg,iter,ifs,0⟩] scope pos) (LE (nL src fr dtg c te)):=
 PE.imp (D_ hx hc S hi hg ht he hs) fun σ H Q ⟨α,σd,st,K,G,F,P,R,S,t,k⟩=>LE.comp fit P R S t fun ys st2 α2 G2 H2 l vs q s2 P2 hl S2 r=>by
  have hg:G2 l=none:=(P2.frame a9).2;refine k _ _ q (α2++[some l]) (upd G2 l (.lst vs)) H2 (.ref l) (s2.trans (Step.cell hg)) (P2.show hl) (S2.cell hg ⟨vs,a9,r.step (Step.cell hg)⟩) ?_;unfold Rep;refine .inr ⟨l,?_,rfl⟩;rw[List.getElem?_append_right (by rw[S2.len];exact Nat.le_refl _),S2.len,Nat.sub_self];rfl
theorem Me{st:Stmt}{k:Nat}{src:DI}{fr:List (Option Nat)}{dtg:fE}{c:DT}{te:DE}(fit:tP fr dtg)(h:PS X st (m9 (vD (LI src) fr (LG dtg) (LT c) (LE te)) (nt k))):PS X st (LS (a8 k (dA src fr dtg c te))):=
 PS.imp h fun D σ H ⟨α,σd,st,DD,G,F,P,R,S,t,q⟩=>LE.comp fit P R S t fun ys st2 α2 G2 H2 l vs qq s2 P2 hl S2 r=>by
  have hg:G2 l=none:=(P2.frame a9).2;have s3:=s2.trans (Step.laid (o:= .lst vs) hg);refine q.nx _ st2 qq α2 (upd G2 l (.lst vs)) H2 _ s3 (P2.show hl) ((R.step s3).set k ?_) (S2.laid hg);unfold Rep;exact⟨l,vs,rfl,S2.mh hg,.of a9,r.step (Step.laid hg)⟩
theorem IB{st:Stmt}{k:Nat}{src:DI}{fr:List (Option Nat)}{dtg:fE}{c:DT}{te:DE}(fit:tP fr dtg)(h:PS X st (m9 (vD (LI src) fr (LG dtg) (LT c) (LE te)) (nt k))):PS X st (LS (a8 k (nL src fr dtg c te))):=
 PS.imp h fun D σ H ⟨α,σd,st,DD,G,F,P,R,S,t,q⟩=>LE.comp fit P R S t fun ys st2 α2 G2 H2 l vs qq s2 P2 hl S2 r=>by
  have hg:G2 l=none:=(P2.frame a9).2;have s3:=s2.trans (Step.cell (o:= .lst vs) hg);refine q.nx _ _ qq (α2++[some l]) (upd G2 l (.lst vs)) H2 _ s3 (P2.show hl) ((R.step s3).set k ?_) (S2.cell hg ⟨vs,a9,r.step (Step.cell hg)⟩);unfold Rep;refine .inr ⟨l,?_,rfl⟩;rw[List.getElem?_append_right (by rw[S2.len];exact Nat.le_refl _),S2.len,Nat.sub_self];rfl
def aU(N:List Str)(ds:List D):cu:=ds.map some++List.replicate (N.length-ds.length) none
theorem eJ.start{α:List (Option Addr)}{G:Hp}{N:List Str}{ds:List D}{vs:List V}(r:aT α G ds vs):eJ α G (aU N ds) (L2.start N vs):=by
 have hl:=r.length;refine⟨by unfold aU L2.start;simp[hl],fun i d e=>?_⟩;unfold aU at e;by_cases hi:i<ds.length
 . rw[List.getElem?_append_left (by simpa using hi),List.getElem?_map]at e;cases q:ds[i]? with
   |none=>rw[q]at e;cases e
   |some x=>
    rw[q]at e;cases e;obtain⟨v,ev,rv⟩:=r.get q;refine⟨v,?_,rv⟩;unfold L2.start;rw[List.getElem?_append_left (by rw[List.length_map];omega),List.getElem?_map,ev];rfl
 . rw[List.getElem?_append_right (by simpa using hi),List.getElem?_replicate]at e;split at e<;>cases e
theorem Ph{P:Program}{w:World}{K:PySem.W.Frag}{mg:Str->Option Value}{base:Heap}{x qual:Str}{st:Stmt}{f:Addr}{fd:FuncData}{N ps:List Str}{k:Nat}{sp:cw}{t:DS}(F:pA K x qual st f fd)(S:aO N ps (ai st))
 (hbody:∀(cdv:Value) (A:Around) (outer:List Env) (s:Shared) (H:Hp) (E:XK),dn k (A.deeper (envOfC qual (ai st) s.heap.objs.size f cdv))->iA (sv cz P w K mg base N qual (ai st) f cdv A outer s H E).ye (gz st) (LS t))
 (hsp:∀ds st K,sp ds st K->ds.length=ps.length/\t {nx:=fun _ st'=>K .aE st',rt:=K} (aU N ds) st):bh P w K mg base cz (k+1) f fd ps (cG sp):=by
 refine F.ok S (fun vs H Q E h=>?_) fun cdv A outer s H vs Q E hr h=>⟨_,hbody cdv A outer s H E hr,?_⟩
 . obtain⟨α,ds,st,K,G,F,P,r,S,q,k⟩:=h;rw[<-r.length];exact(hsp ds st K q).1
 . obtain⟨α,ds,st,K,G,F,P,r,S,q,k⟩:=h;refine⟨α,aU N ds,st,_,G,F,P,eJ.start r,S,(hsp ds st K q).2,?_,k,?_,?_⟩
   . intro σd' st' kk α' G' H' σ' s' P' R' S';exact k .aE st' kk α' G' H' .aE s' P' S' (by unfold Rep;rfl)
   . intro σd' st' kk;exact kk.elim
   . intro σd' st' kk;exact kk.elim
def rq(to te:DE):DE:=fun σ st K=>to σ st fun x st1=>match x with
 | .ref n=>(match st1[n]? with
   |some (.lst _)=>te σ st1 fun y st2=>∃y',[y]=[y']/\(match st2[n]? with|some (.lst xs)=>xs.length<sizeLine/\K .aE (st2.set n (.lst (xs++[y'])))|_=>False)
   |_=>False)
 |_=>False
end
structure bD(K:PySem.W.Frag)(mg:Str->Option Value)(x qual:Str)(st:Stmt)(ps:List Str)(f:Addr)(fd:FuncData):Prop where
 fn:pA K x qual st f fd
 mg:mg x=some (.ref f)
 bd:Binds K fd ps []
def GB(sc:Scope)(N:List Str)(scope:Scope)(Nc:List Str)(fr:List (Option Nat)):Bool:=
 (scope.kind== .function)&&scope.names.all (fun x=>x.2 != .cell||scope.names.lookup x.1==some .cell)&&scope.names.all (fun x=>x.2 != .local||scope.names.lookup x.1==some .local)&&
 scope.names.all (fun x=>x.2 != .free||sc.names.lookup x.1==some .cell||sc.names.lookup x.1==some .free)&&(fr.length==Nc.length)&&
 (List.range fr.length).all fun i=>match fr[i]?,Nc[i]? with
   |some (some j),some x=>(N[j]?==some x)&&(scope.names.lookup x==some .free)&&(sc.names.lookup x==some .cell||sc.names.lookup x==some .free)
   |_,_=>true
theorem bK.look{X:Cx}{scope:Scope}{Nc:List Str}{fr:List (Option Nat)}(sc:Scope)(N:List Str)(h:GB sc N scope Nc fr=true)(hsc:X.env.scope=sc:=by rfl)(hN:X.N=N:=by rfl):bK X scope Nc fr:=by
 unfold GB at h;simp only[Bool.and_eq_true]at h;obtain⟨⟨⟨⟨⟨h1,h2⟩,h3⟩,h4⟩,h5⟩,h6⟩:=h;subst hsc hN;refine⟨by simpa using h1,fun x hx hk=>?_,fun x hx hk=>?_,fun x hx hk=>?_,by simpa using h5,fun i j x e1 e2=>?_⟩
 . have:=List.all_eq_true.mp h2 x hx;rw[hk]at this;simpa using this
 . have:=List.all_eq_true.mp h3 x hx;rw[hk]at this;simpa using this
 . have:=List.all_eq_true.mp h4 x hx;rw[hk]at this;have z:X.env.scope.names.lookup x.1=some .cell\/X.env.scope.names.lookup x.1=some .free:=by simpa using this
   exact z
 . have hi:i<fr.length:=(List.getElem?_eq_some_iff.mp e2).1;have:=List.all_eq_true.mp h6 i (List.mem_range.mpr hi);rw[e1,e2]at this;simp only[Bool.and_eq_true,Bool.or_eq_true,beq_iff_eq]at this;exact⟨this.1.1,this.1.2,this.2⟩
section
variable {X:Cx}
theorem R9{e:Expr}{es:List Expr}{pos p:Pos}{x:Str}{id:String}{r:iW}{t:DA}(hc:de X (.builtin id) (kj r))(ha:PA X (e::es) (LA t))(hm:X.mg x=none)(hv:bootBuiltins x=some (.builtin id))(hg:Gl X x:=by rfl)(hn:x≠"__name__":=by decide)(hdb:(x==("__debug__":Str))=false:=by decide)
 (he:starEach (e::es) X.env=(false,eval e X.env)::starEach es X.env:=by rfl) (hpl:(backTo pos (starEach es X.env)).any (·.1)=false:=by rfl):PE X (.Call (.Name x p) (e::es) [] pos) (LE (bY r t)):=PE.imp (Ip hc hg hm hv ha hn hdb he hpl) fun _ _ _ h=>LE.cb h
theorem RH{e:Expr}{es:List Expr}{pos p:Pos}{x:Str}{T:String}{r:iW}{t:DA}(hc:de X (.type T) (kj r))(ha:PA X (e::es) (LA t))(hm:X.mg x=none)(hv:bootBuiltins x=some (.type T))(hg:Gl X x:=by rfl)(hn:x≠"__name__":=by decide)(hdb:(x==("__debug__":Str))=false:=by decide)
 (he:starEach (e::es) X.env=(false,eval e X.env)::starEach es X.env:=by rfl) (hpl:(backTo pos (starEach es X.env)).any (·.1)=false:=by rfl):PE X (.Call (.Name x p) (e::es) [] pos) (LE (bY r t)):=PE.imp (Gq hc hg hm hv ha hn hdb he hpl) fun _ _ _ h=>LE.cb h
theorem R6{pos:Pos}{x:Str}{T:String}(hm:X.mg x=none)(hv:bootBuiltins x=some (.type T))(hg:Gl X x:=by rfl)(hn:x≠"__name__":=by decide)(hdb:(x==("__debug__":Str))=false:=by decide):PE X (.Name x pos) (LE (dC (.ty T))):=
 r9 (v:= .ty T) (Lb hg hm hv rfl hn hdb) fun _ _=>by unfold Rep;rfl
theorem Rg{e:Expr}{es:List Expr}{pos p:Pos}{x qual:Str}{st:Stmt}{ps:List Str}{f:Addr}{fd:FuncData}{k:Nat}{S:cw}{t:DA}(A:bD X.K X.mg x qual st ps f fd)(F:bh X.prog X.w X.K X.mg X.base cz k f fd ps (cG S))(hr:dn k X.A)
 (ha:PA X (e::es) (LA t)) (hg:Gl X x:=by rfl) (hdb:(x==("__debug__":Str))=false:=by decide) (he:starEach (e::es) X.env=(false,eval e X.env)::starEach es X.env:=by rfl) (hpl:(backTo pos (starEach es X.env)).any (·.1)=false:=by rfl):
 PE X (.Call (.Name x p) (e::es) [] pos) (LE (aC S t)):=Nl F hr hg A.mg A.fn.kp A.bd ha hdb he hpl
theorem CV{M:Model}{A:Around}{E:Value->Shared->Prop}{s:Shared}{Q:Value->Shared->Prop}{x:V}{v:Value}{b:Bool}(r:RelV x v)(h:Q (.bool (v== .bool b)) s):wpAny M A (compareOp .Is v (.bool b)) Q E s:=by
 cases x
 case bl c=>
  cases r;have e:(Value.bool c==Value.bool b)=(c==b):=by cases c<;>cases b<;>rfl
  rw[e]at h;exact is_bool h
 all_goals first
  |(cases r;exact wpAny_pure h)
  |(obtain⟨t,rfl⟩:=r;exact wpAny_pure h)
def DZ(d:D)(b:Bool):Bool:=match d with| .bl c=>c==b|_=>false
def Kd(d:D):Bool:=match d with| .aE=>true|_=>false
def Kj:dz:=fun x y st K=>match y with| .aE=>live st x=true/\K (.bl (Kd x)) st| .bl b=>live st x=true/\K (.bl (DZ x b)) st|_=>False
theorem D3{α:List (Option Addr)}{H:Hp}{st:ag}{d:D}{v:V}{u:Value}{b:Bool}(S:a7 α st H)(hl:live st d=true)(r:Rep α H d v)(ru:RelV v u):(u==Value.bool b)=DZ d b:=by
 cases d
 case ref n=>
  obtain⟨a,rfl⟩:=wJ S hl r;cases ru;rfl
 all_goals unfold Rep at r
 case bl c=>
  subst r;cases ru;cases c<;>cases b<;>rfl
 all_goals first
  |(subst r;first|(cases ru;rfl)|(obtain⟨t,rfl⟩:=ru;rfl))
  |(obtain⟨a,vs,rfl,_⟩:=r;cases ru;rfl)
theorem Qf:cn X (compareOp .Is) (LR Kj):=fun pins s σ H x y v u Q I rx ry ⟨α,d,e,st,K,G,F',P,r1,r2,S,q,k⟩=>by
 cases e<;>try exact q.elim
 . unfold Rep at r2;refine N2 pins s σ H x y v u Q I rx ry ⟨r2,k.here P q.2 S ?_⟩;unfold Rep;cases d
   case ref n=>
    obtain⟨a,rfl⟩:=wJ S q.1 r1;rfl
   all_goals(unfold Rep at r1;first|(rw[r1];rfl)|(obtain⟨a,vs,rfl,_⟩:=r1;rfl))
 . rename_i b;unfold Rep at r2;subst r2;cases ry;refine CV rx ?_;rw[D3 S q.1 r1 rx];exact⟨.bl (DZ d b),H,I,rfl,k.here P q.2 S (by unfold Rep;rfl)⟩
def yc(r r':dz)(ta tb tc:DE):DE:=fun σ st K=>ta σ st fun x st1=>tb σ st1 fun y st2=>r x y st2 fun z st3=>match z with
 | .bl b=>if b=true then tc σ st3 fun w st4=>r' y w st4 K else K (.bl false) st3
 |_=>False
theorem LE.chain{r r':dz}{ta tb tc:DE}{σ:L2.St}{H:Hp}{Q:VK}(h:LE (yc r r' ta tb tc) σ H Q):Hb (LR r) (LR r') (LE ta) (LE tb) (LE tc) σ H Q:=by
 obtain⟨α,σd,st,K,G,F,P,R,S,t,k⟩:=h;refine⟨α,σd,st,_,G,F,P,R,S,t,fun d st1 q α1 G1 H1 v s1 P1 S1 r1=>?_⟩;refine⟨α1,σd,st1,_,G1,F,P1,R.step s1,S1,q,fun d2 st2 q2 α2 G2 H2 v2 s2 P2 S2 r2=>?_⟩;refine⟨α2,d,d2,st2,_,G2,F,P2,r1.step s2,r2,S2,q2,fun z st3 q3 α3 G3 H3 v3 s3 P3 S3 r3=>?_⟩;cases z<;>try exact q3.elim
 rename_i b;unfold Rep at r3;refine⟨b,r3,?_⟩;cases b with
 |false=>exact((k.at s1).at s2).at s3 _ st3 q3 α3 G3 H3 _ Step.refl P3 S3 (by unfold Rep;rfl)
 |true=>exact⟨α3,σd,st3,_,G3,F,P3,((R.step s1).step s2).step s3,S3,q3,fun d4 st4 q4 α4 G4 H4 v4 s4 P4 S4 r4=>⟨α4,d2,d4,st4,K,G4,F,P4,(r2.step s3).step s4,r4,S4,q4,(((k.at s1).at s2).at s3).at s4⟩⟩
theorem Mi{a b c:Expr}{ta tb tc:DE}{pos:Pos}{op op':CmpOp}{r r':dz}(ho:cn X (compareOp op) (LR r))(ho':cn X (compareOp op') (LR r'))(ha:PE X a (LE ta))(hb:PE X b (LE tb))(hc:PE X c (LE tc))
 (hm:lastMarks [op,op'] [b,c]=false:=by with_unfolding_all rfl):PE X (.Compare a [op,op'] [b,c] pos) (LE (yc r r' ta tb tc)):=PE.imp (HD ho ho' ha hb hc hm) fun _ _ _ h=>LE.chain h
theorem LE.append{to te:DE}{σ:L2.St}{H:Hp}{Q:VK}(h:LE (rq to te) σ H Q):NC X.K "list" DX (LE to) (LA (af te ak)) σ H Q:=by
 obtain⟨α,σd,st,K,G,F,P,R,S,t,k⟩:=h;refine⟨α,σd,st,_,G,F,P,R,S,t,fun x st1 q α1 G1 H1 v s1 P1 S1 r1=>?_⟩;cases x<;>try exact q.elim
 rename_i n;simp only at q;split at q
 . rename_i ys e;obtain⟨p,ep,vs,h1,h2⟩:=S1.g0 e;have r1':=eF ep r1;subst r1';refine⟨.inl ⟨rfl,vs,.inl (.of (P1.get h1))⟩,α1,σd,st1,fun ds st2=>∃y,ds=[y]/\(match st2[n]? with|some (.lst xs)=>xs.length<sizeLine/\K .aE (st2.set n (.lst (xs++[y])))|_=>False),G1,F,P1,R.step s1,S1,?_,?_⟩
   . refine Eq.mp ?_ q;rfl
   . rintro ds st2 ⟨y,rfl,q2⟩ α2 G2 H2 ws s2 P2 S2 r2;obtain⟨w,rfl,rw'⟩:=l9 r2 rfl;split at q2
     . rename_i xs e2;obtain⟨p2,ep2,us,g1,g2⟩:=S2.g0 e2
       have:p2=p:=by
        rcases s2.pre _ _ ep with z|z<;>(rw[z]at ep2;cases ep2)
        rfl
       subst this;have hm:some p2∈α2:=List.mem_of_getElem? ep2;refine⟨p2,us,w,rfl,rfl,P2.get g1,by rw[<-g2.length];exact q2.1,?_⟩;refine((k.at s1).at s2) _ _ q2.2 α2 (upd G2 p2 (.lst (us++[w]))) _ .aE (Step.write hm) (P2.write g1) ?_ (by unfold Rep;rfl);exact S2.write ep2 ⟨us++[w],a9,(bC.mpr (gy (bC.mp g2) (.cons rw' .nil))).step (Step.write hm)⟩
     . exact q2.elim
 . exact q.elim
theorem Hz{o e:Expr}{to te:DE}{apos cpos:Pos}(ho:PE X o (LE to))(he:PE X e (LE te))(hbase:attributeBase o "append" X.env (eval o X.env)=eval o X.env:=by rfl)
 (hfew:((backTo cpos (starEach [e] X.env)).all (fun x=> !x.1)&&(backToKw cpos (keywordEach [] X.env)).all (fun x=>x.1.isSome)
   &&decide (([e]:List Expr).length+([]:List Keyword).length+(if([]:List Keyword).isEmpty then 0 else 1)<30))=true:=by rfl)
 (hline:(apos.endLine==cpos.line)=true:=by rfl) (hs:starEach [e] X.env=(false,eval e X.env)::starEach [] X.env:=by rfl) (hplain:(backTo cpos (starEach [] X.env)).any (·.1)=false:=by rfl):PE X (.Call (.Attribute o "append" apos) [e] [] cpos) (LE (rq to te)):=
 PE.imp (Kh PySem.F.plainAttrs_list PySem.F.slot_list_append PySem.F.type_list_append zB ho (rE he xF hs) hbase hfew hline hs hplain) fun _ _ _ h=>LE.append h
end
end L3
namespace L3
open PySem L2
open PySem.Spec hiding items?
open PyProof.Rows hiding St
section
variable {X:Cx}
@[irreducible] def dm:dz:=Kp
theorem dP:cn X (binaryOp .Add) (LR dm):=by unfold dm;exact Qv
@[irreducible] def mK:dz:=Jq
theorem oW:cn X (binaryOp .Sub) (LR mK):=by unfold mK;exact Qc
@[irreducible] def cZ:dz:=JJ
theorem dh:cn X (binaryOp .Mult) (LR cZ):=by unfold cZ;exact Qk
@[irreducible] def qE:dz:=FO
theorem AZ:cn X (binaryOp .FloorDiv) (LR qE):=by unfold qE;exact O0
@[irreducible] def jr:dz:=Jr
theorem oU:cn X (binaryOp .Mod) (LR jr):=by unfold jr;exact QB
@[irreducible] def uN:dz:=Km
theorem AD:cn X (binaryOp .Pow) (LR uN):=by unfold uN;exact QC
@[irreducible] def oA:dz:=N0
theorem tH:cn X (compareOp .Lt) (LR oA):=by unfold oA;exact RK
@[irreducible] def DQ:dz:=NW
theorem Nd:cn X (compareOp .LtE) (LR DQ):=by unfold DQ;exact Rw
@[irreducible] def qk:dz:=Nk
theorem wC:cn X (compareOp .Gt) (LR qk):=by unfold qk;exact Rv
@[irreducible] def pX:dz:=OR
theorem yQ:cn X (compareOp .NotEq) (LR pX):=by unfold pX;exact Rq
@[irreducible] def BX:dz:=Kj
theorem HE:cn X (compareOp .Is) (LR BX):=by unfold BX;exact Qf
@[irreducible] def e9:dz:=Nn
theorem eQ{k:Nat}(hr:dn k X.A):cn X (compareOp .Eq) (LR e9):=by unfold e9;exact RO hr
@[irreducible] def ir:Bx:=Ju
theorem Qj:Dl X (unaryOp .USub) (JN ir):=by unfold ir;exact Qu
@[irreducible] def aX:dz:=s_
theorem RQ{a b:Expr}{ta tb:DE}{pos:Pos}(ha:PE X a (LE ta))(hb:PE X b (LE tb))(hs:vd b:=by intro _ _;rfl):PE X (.Subscript a b pos) (LE (av aX ta tb)):=by unfold aX;exact RJ ha hb hs
@[irreducible] def di:iW:=AG
theorem c6:de X (.builtin "len") (kj di):=by unfold di;exact QJ
@[irreducible] def tE:iW:=E9
theorem yg:de X (.builtin "abs") (kj tE):=by unfold tE;exact QD
@[irreducible] def dU:iW:=vc
theorem dZ:de X (.type "tuple") (kj dU):=by unfold dU;exact Ml
@[irreducible] def nk:iW:=ya
theorem rQ:de X (.type "list") (kj nk):=by unfold nk;exact O8
@[irreducible] def uX:iW:=vb
theorem L5:de X (.type "list") (kj uX):=by unfold uX;exact LH
@[irreducible] def qZ:iW:=AJ
theorem xy(hc:X.calm=true):de X (.builtin "all") (kj qZ):=by unfold qZ;exact PZ hc
@[irreducible] def tx:iW:=x6
theorem Fe:de X (.builtin "isinstance") (kj tx):=by unfold tx;exact Qq
@[irreducible] def u9:D->ag->(List D->(ag->Prop)->ag->Prop)->Prop:=CG
def d9(t:DE):DI:=fun σ st K=>t σ st fun d st1=>u9 d st1 K
theorem Nh{l tg:Expr}{tl:DE}(hl:PE X l (LE tl)):PI X tg l (LI (d9 tl)):=by unfold d9 u9;exact Ol hl
@[irreducible] def AB:List D->ag->(List D->(ag->Prop)->ag->Prop)->Prop:=Ks
@[irreducible] def AI:List D->ag->(List D->(ag->Prop)->ag->Prop)->Prop:=JX
def ip(t:DA):DI:=fun σ st K=>t σ st fun ds st1=>AB ds st1 K
def vn(t:DA):DI:=fun σ st K=>t σ st fun ds st1=>AI ds st1 K
theorem Gg{tg iter:Expr}{t:DA}(h:PI X tg iter (EI (LA t))):PI X tg iter (LI (ip t)):=by unfold ip AB;exact GJ h
theorem GU{tg iter:Expr}{t:DA}(h:PI X tg iter (EF (LA t))):PI X tg iter (LI (vn t)):=by unfold vn AI;exact Hc h
@[irreducible] def wj:D->D->D->ag->(ag->Prop)->Prop:=Bi
def eO(to ti te:DE):DS:=fun D σ st=>te σ st fun d st1=>to σ st1 fun x st2=>ti σ st2 fun y st3=>wj x y d st3 fun st4=>D.nx σ st4
theorem AV{st:Stmt}{to ti te:DE}(h:PS X st (m9 (LE te) (zk (LE to) (LE ti) vz))):PS X st (LS (eO to ti te)):=by unfold eO wj;exact IC h
end
section
variable {st:ag}{K:DK}{i j:Int}{b c:Bool}{xs ys:List D}{d e:D}{n:Nat}
theorem d6(k:K (.int (i+j)) st):dm (.int i) (.int j) st K:=by unfold dm;exact k
theorem rV(h:xs.length+ys.length<=sizeLine)(k:K (.tup (xs++ys)) st):dm (.tup xs) (.tup ys) st K:=by unfold dm;exact⟨h,k⟩
theorem my(k:K (.int (i-j)) st):mK (.int i) (.int j) st K:=by unfold mK;exact⟨trivial,k⟩
theorem dW(h:IntMulOk i j)(k:K (.int (i*j)) st):cZ (.int i) (.int j) st K:=by unfold cZ;exact⟨h,k⟩
theorem y8(h: -(2^63)<=i/\i<2^63/\xs.length*i.toNat<=sizeLine)(k:K (.lst (List.replicate i.toNat xs).flatten) st):cZ (.lst xs) (.int i) st K:=by unfold cZ;exact⟨h,k⟩
theorem vi(h: -(2^63)<=i/\i<2^63/\xs.length*i.toNat<=sizeLine)(k:K (.tup (List.replicate i.toNat xs).flatten) st):cZ (.tup xs) (.int i) st K:=by unfold cZ;exact⟨h,k⟩
theorem zp(h0:j≠0)(h:j.natAbs.log2<9000)(k:K (.int (i.fdiv j)) st):qE (.int i) (.int j) st K:=by unfold qE;exact⟨⟨h0,h⟩,k⟩
theorem oa(h0:j≠0)(k:K (.int (i.fmod j)) st):jr (.int i) (.int j) st K:=by unfold jr;exact⟨h0,k⟩
theorem OO(h:IZ i j)(k:K (.int (i^j.toNat)) st):uN (.int i) (.int j) st K:=by unfold uN;exact⟨h,k⟩
theorem yb(k:K (.bl (decide (i<j))) st):oA (.int i) (.int j) st K:=by unfold oA;exact⟨trivial,k⟩
theorem Jo(k:K (.bl (decide (i<=j))) st):DQ (.int i) (.int j) st K:=by unfold DQ;exact⟨trivial,k⟩
theorem vA(k:K (.bl (decide (j<i))) st):qk (.int i) (.int j) st K:=by unfold qk;exact⟨trivial,k⟩
theorem Kb(k:K (.bl (!decide (i=j))) st):pX (.int i) (.int j) st K:=by unfold pX;exact k
theorem NO(k:K (.bl (!decide (b=c))) st):pX (.bl b) (.bl c) st K:=by unfold pX;exact k
theorem xh(h:live st d=true)(k:K (.bl (Kd d)) st):BX d .aE st K:=by unfold BX;exact⟨h,k⟩
theorem kK(h1:pl 40 d=true)(h2:pl 40 e=true)(k:K (.bl (c9 d e)) st):e9 d e st K:=by unfold e9;exact⟨h1,h2,k⟩
theorem KR(a b:Int):(a==b)=decide (a=b):=by
 by_cases h:a=b
 . subst h;simp
 . simp[h]
theorem Bu(k:K (.bl (decide (i=j))) st):e9 (.int i) (.int j) st K:=by
 refine kK rfl rfl ?_;have:c9 (.int i) (.int j)=decide (i=j):=by unfold c9;exact KR i j
 rw[this];exact k
theorem gI(k:K (.int (-i)) st):ir (.int i) st K:=by unfold ir;exact k
theorem HR(h:items? st d=some xs)(a:e8 xs i=some e)(k:K e st):s_ d (.int i) st K:=by
 cases d<;>unfold items? at h<;>first
  |(cases h;done)
  |(cases h;simp only[s_,a];exact k)
  |(simp only at h
    split at h
    . rename_i q;cases h;simp only[s_,q,a];exact k
    . cases h)
theorem aD(h:items? st d=some xs)(a:e8 xs i=some e)(k:K e st):aX d (.int i) st K:=by unfold aX;exact HR h a k
theorem cN(h:items? st d=some xs)(k:K (.int xs.length) st):di [d] st K:=by
 unfold di AG;split
 . rename_i z;cases z;cases h
 . rename_i z;cases z;rw[h];exact k
 . rename_i z1 z2;exact absurd rfl (z2 d)
theorem Mz(i:Int):(if i<0 then-i else i)=((i.natAbs:Nat):Int):=by split<;>omega
theorem uS(k:K (.int ((i.natAbs:Nat):Int)) st):tE [.int i] st K:=by unfold tE;show K (.int (if i<0 then-i else i)) st;rw[Mz];exact k
theorem dw(h:items? st d=some xs)(k:K (.tup xs) st):dU [d] st K:=by unfold dU vc;simp only[h];exact k
theorem oZ(h:items? st d=some xs)(k:K (.lst xs) st):nk [d] st K:=by unfold nk ya;simp only[h];exact k
theorem Ja(h:items? st d=some xs)(k:K (.ref st.length) (st++[.lst xs])):uX [d] st K:=by unfold uX vb;simp only[h];exact k
theorem uR{bs:List Bool}(h:iS xs=some bs)(k:K (.bl (bs.all id)) st):qZ [.lst xs] st K:=by unfold qZ AJ;simp only[h];exact k
theorem A7{t c:String}(h:ft st d=some t)(hc:c∈mI)(k:K (.bl (uZ t c)) st):tx [d,.ty c] st K:=by unfold tx x6;simp only[h];exact⟨hc,k⟩
theorem L0{t:String}{cs:List D}{cl:List String}(h:ft st d=some t)(h2:oY cs=some cl)(hc:∀c∈cl,c∈mI)(k:K (.bl (cl.any (uZ t))) st):tx [d,.tup cs] st K:=by unfold tx x6;simp only[h,h2];exact⟨hc,k⟩
theorem kv{K:List D->(ag->Prop)->ag->Prop}(h:items? st d=some xs)(k:∀ok:ag->Prop,ok st->K xs ok st):u9 d st K:=by
 unfold u9 CG
 cases d<;>unfold items? at h<;>first
  |(cases h;done)
  |(cases h;exact k _ trivial)
  |(simp only at h
    split at h
    . rename_i q;cases h;simp only[q];exact k _ q
    . cases h)
theorem D5{K:List D->(ag->Prop)->ag->Prop}(k:K xs (fun _=>True) st):u9 (.lst xs) st K:=by unfold u9;exact k
theorem j0{K:List D->(ag->Prop)->ag->Prop}(k:K xs (fun _=>True) st):u9 (.tup xs) st K:=by unfold u9;exact k
theorem lj{K:List D->(ag->Prop)->ag->Prop}(h: -(2^62)<=j/\j<2^62)(k:K (eV 0 j.toNat) (fun _=>True) st):AB [.int j] st K:=by unfold AB;exact⟨h,k⟩
theorem LW{K:List D->(ag->Prop)->ag->Prop}(h: -(2^62)<=i/\i<2^62/\ -(2^62)<=j/\j<2^62)(k:K (eV i (j-i).toNat) (fun _=>True) st):AI [.int i,.int j] st K:=by unfold AI;exact⟨h,k⟩
theorem gf{K:ag->Prop}{m:Nat}(h:st[n]?=some (.lst xs))(e:mH xs.length i=some m)(k:K (st.set n (.lst (xs.set m d)))):wj (.ref n) (.int i) d st K:=by unfold wj Bi;simp only[h,e];exact k
end
def GQ(K:PySem.W.Frag):Bool:=K.all fun p=>p.2.cls != .type "list"
theorem vR{a:Addr}{o:Obj}:∀ {l:List (Addr×Obj)},l.lookup a=some o->(a,o)∈l
 | [],h=>by cases h
 |(b,u)::r,h=>by
  rw[List.lookup_cons]at h;split at h
  . rename_i z;cases h;have:a=b:=by simpa using z
    subst this;exact List.mem_cons_self
  . exact List.mem_cons_of_mem _ (vR h)
theorem Aw{K:PySem.W.Frag}(h:GQ K=true){a:Addr}{o:Obj}(e:K.lookup a=some o):o.cls≠ .type "list":=by
 have:=List.all_eq_true.mp h (a,o) (vR e);simpa using this
theorem zP{α:List (Option Addr)}{G:Hp}:∀ns:List Int,aT α G (ns.map D.int) (ns.map V.int)
 | []=>by unfold aT;rfl
 |n::ns=>by
  rw[List.map_cons,List.map_cons];unfold aT;exact⟨_,_,rfl,by unfold Rep;rfl,zP ns⟩
def notStar:Expr->Bool
 | .Starred .. =>false
 |_=>true
theorem cD{e:Expr}{es:List Expr}{env:Env}(h:notStar e=true):starEach (e::es) env=(false,eval e env)::starEach es env:=by
 cases e<;>first|rfl|cases h
def gq:List Expr->Bool
 | []=>true
 |e::es=>notStar e&&gq es
theorem kQ{pos:Pos}{env:Env}:∀ {es:List Expr},gq es=true->(backTo pos (starEach es env)).any (·.1)=false
 | [],_=>rfl
 |e::es,h=>by
  unfold gq at h;rw[Bool.and_eq_true]at h;rw[cD h.1];have ih:=kQ (pos:=pos) (env:=env) h.2;unfold backTo at ih⊢;rw[List.map_cons,List.any_cons,ih];rfl
def kX:Expr->Bool
 | .Slice .. =>false
 |_=>true
def ur:Expr->Bool
 | .Name .. =>true
 | .Call .. =>true
 | .Subscript .. =>true
 | .Attribute .. =>true
 |_=>false
def mO:Expr->Bool
 | .ListComp .. =>false
 | .SetComp .. =>false
 | .DictComp .. =>false
 |_=>true
section
variable {X:Cx}
theorem HV{b:Expr}(h:kX b=true):vd b:=by
 intro o i;cases b<;>first|rfl|cases h
theorem Eg{e:Expr}(h:ur e=true):∀whole,isTrue e X.env whole=(do let v <-whole;standAt e.pos;holding [v] (truthy v)):=by
 intro whole;cases e<;>first|(cases h;done)|rfl
theorem zf{e:Expr}{tg:Option Expr}{n:Nat}{env:Env}(h:mO e=true):swapsWith e tg n env=pure false:=by
 cases e<;>first|(cases h;done)|rfl
theorem Jf{e:Expr}{es:List Expr}{te:DE}{tr:DA}(ha:PE X e (LE te))(hr:PA X es (LA tr))(hs:notStar e=true:=by rfl):PA X (e::es) (LA (af te tr)):=rE ha hr (cD hs)
theorem Qe{e:Expr}{es:List Expr}{pos p:Pos}{x:Str}{id:String}{r:iW}{t:DA}(hc:de X (.builtin id) (kj r))(ha:PA X (e::es) (LA t))(hm:X.mg x=none)(hv:bootBuiltins x=some (.builtin id))(hn:x≠"__name__")(hdb:(x==("__debug__":Str))=false)(hg:Gl X x:=by rfl)(hs:notStar e=true:=by rfl)(hs2:gq es=true:=by rfl):
 PE X (.Call (.Name x p) (e::es) [] pos) (LE (bY r t)):=R9 hc ha hm hv hg hn hdb (cD hs) (kQ hs2)
theorem QK{e:Expr}{es:List Expr}{pos p:Pos}{x:Str}{T:String}{r:iW}{t:DA}(hc:de X (.type T) (kj r))(ha:PA X (e::es) (LA t))(hm:X.mg x=none)(hv:bootBuiltins x=some (.type T))(hn:x≠"__name__")(hdb:(x==("__debug__":Str))=false)(hg:Gl X x:=by rfl)(hs:notStar e=true:=by rfl)(hs2:gq es=true:=by rfl):
 PE X (.Call (.Name x p) (e::es) [] pos) (LE (bY r t)):=RH hc ha hm hv hg hn hdb (cD hs) (kQ hs2)
theorem Qr{e:Expr}{es:List Expr}{pos p:Pos}{x qual:Str}{st:Stmt}{ps:List Str}{f:Addr}{fd:FuncData}{k:Nat}{S:cw}{t:DA}(A:bD X.K X.mg x qual st ps f fd)(F:bh X.prog X.w X.K X.mg X.base cz k f fd ps (cG S))(hr:dn k X.A)
 (ha:PA X (e::es) (LA t)) (hdb:(x==("__debug__":Str))=false) (hg:Gl X x:=by rfl) (hs:notStar e=true:=by rfl) (hs2:gq es=true:=by rfl):
 PE X (.Call (.Name x p) (e::es) [] pos) (LE (aC S t)):=Rg A F hr ha hg hdb (cD hs) (kQ hs2)
theorem P9{a b:Expr}{ta tb:DE}{pos:Pos}(ha:PE X a (LE ta))(hb:PE X b (LE tb))(hs:kX b=true:=by rfl):PE X (.Subscript a b pos) (LE (av aX ta tb)):=RQ ha hb (HV hs)
theorem Ky{e:Expr}{te:DE}(he:PE X e (LE te))(h:ur e=true:=by rfl):PT X e (LT (ba te)):=OE he (Eg h)
theorem HX{e:Expr}{te:DE}{pos:Pos}(he:PE X e (LE te))(h:mO e=true:=by rfl):PS X (.Expr e pos) (LS (mq te)):=Li he (zf h)
theorem KZ{i:Nat}{x:Str}{e:Expr}{te:TE}{pos pos':Pos}(hN:X.N.Nodup)(hi:X.N[i]?=some x)(hx:Loc X.env.scope x)(he:PE X e te)(hf:X.fn x=true\/X.env.scope.names.lookup x=some .local:=by first|exact .inl rfl|exact .inr rfl)(h:mO e=true:=by rfl):
 PS X (.Assign [.Name x pos'] e pos) (m9 te (nt i)):=OU hN hi hx he (zf h) hf
theorem Lr{i:Nat}{x:Str}{pos:Pos}(hd:(x==("__debug__":Str))=false)(hcd:(x==("__classdict__":Str))=false)(hv:Bb X.env.scope x)(hN:X.N[i]?=some x:=by rfl):PE X (.Name x pos) (LE (ae i)):=Pj (OP hN hv hd hcd)
theorem MG{o i e:Expr}{to ti te:TE}{pos pos':Pos}(he:PE X e te)(ho:PE X o to)(hi:PE X i ti)(h1:mO e=true:=by rfl)(h2:kX i=true:=by rfl):PS X (.Assign [.Subscript o i pos'] e pos) (m9 te (zk to ti vz)):=
 xl he (xk ho hi set_list (by intro v;cases i<;>first|rfl|cases h2)) (by unfold swapsWithSole;exact zf h1) (by cases e<;>rfl) rfl
end
@[irreducible] def JE(X:Cx)(e:Expr)(t:DE):Prop:=PE X e (LE t)
@[irreducible] def JT(X:Cx)(e:Expr)(t:DT):Prop:=PT X e (LT t)
@[irreducible] def JW(X:Cx)(e:Expr)(t:DT):Prop:=PW X e (LT t)
@[irreducible] def JA(X:Cx)(es:List Expr)(t:DA):Prop:=PA X es (LA t)
@[irreducible] def JS(X:Cx)(s:Stmt)(t:DS):Prop:=PS X s (LS t)
@[irreducible] def JB(X:Cx)(s:List Stmt)(t:DS):Prop:=iA X s (LS t)
@[irreducible] def JG(X:Cx)(e:Expr)(t:fE):Prop:=PG X e (LG t)
@[irreducible] def JI(X:Cx)(tg e:Expr)(t:DI):Prop:=PI X tg e (LI t)
@[irreducible] def JC(X:Cx)(es:List Expr)(t:DT):Prop:=ug X es (LT t)
section
variable {X:Cx}{a b c e o i:Expr}{es:List Expr}{ta tb tc te to ti:DE}{t u:DT}{ar:DA}{pos p pos':Pos}{s:Stmt}{ss:List Stmt}{T U:DS}
theorem Ga{n:Nat}{x:Str}(hd:(x==("__debug__":Str))=false)(hcd:(x==("__classdict__":Str))=false)(hv:Bb X.env.scope x)(hN:X.N[n]?=some x:=by rfl):JE X (.Name x pos) (ae n):=by unfold JE;exact Lr hd hcd hv hN
theorem Fh{x:Str}{T:String}(hm:X.mg x=none)(hv:bootBuiltins x=some (.type T))(hn:x≠"__name__")(hdb:(x==("__debug__":Str))=false)(hg:Gl X x):JE X (.Name x pos) (dC (.ty T)):=by unfold JE;exact R6 hm hv hg hn hdb
theorem ao{k:Int}{j:Nat}:JE X (.Constant (.int k) j pos) (dC (.int k)):=by unfold JE;exact Qg
theorem gM{k:Bool}{j:Nat}:JE X (.Constant (.bool k) j pos) (dC (.bl k)):=by unfold JE;exact RI
theorem xH{k:Str}{j:Nat}:JE X (.Constant (.str k) j pos) (dC (.str k)):=by unfold JE;exact Qn
theorem qF{j:Nat}:JE X (.Constant .none j pos) (dC .aE):=by unfold JE;exact PD
theorem a5{op:Operator}{r:dz}(ho:cn X (binaryOp op) (LR r))(ha:JE X a ta)(hb:JE X b tb):JE X (.BinOp a op b pos) (av r ta tb):=by unfold JE at*;exact Rr ho ha hb
theorem iD(ha:JE X a ta):JE X (.UnaryOp .USub a pos) (mG ir ta):=by unfold JE at*;exact Ri Qj ha
theorem Qb(ha:JE X a ta):JE X (.UnaryOp .Not a pos) (E6 (ba ta)):=by unfold JE at*;exact Qi ha
theorem kD{op:BoolOp}(ha:JE X a ta):JE X (.BoolOp op [a] pos) ta:=by unfold JE at*;exact Pe ha
theorem kI(ha:JE X a ta)(hb:JE X (.BoolOp .And (b::es) pos) tb):JE X (.BoolOp .And (a::b::es) pos) (jz ta tb):=by unfold JE at*;exact P7 ha hb
theorem R0(ha:JE X a ta)(hb:JE X (.BoolOp .Or (b::es) pos) tb):JE X (.BoolOp .Or (a::b::es) pos) (Je ta tb):=by unfold JE at*;exact Ru ha hb
theorem jt{op:CmpOp}{r:dz}(ho:cn X (compareOp op) (LR r))(hm:behindInMarks op b=false)(ha:JE X a ta)(hb:JE X b tb):JE X (.Compare a [op] [b] pos) (av r ta tb):=by unfold JE at*;exact Qy ho ha hb hm
theorem Mn{op op':CmpOp}{r r':dz}(ho:cn X (compareOp op) (LR r))(ho':cn X (compareOp op') (LR r'))(ha:JE X a ta)(hb:JE X b tb)(hc:JE X c tc)(hm:lastMarks [op,op'] [b,c]=false:=by with_unfolding_all rfl):JE X (.Compare a [op,op'] [b,c] pos) (yc r r' ta tb tc):=by unfold JE at*;exact Mi ho ho' ha hb hc hm
theorem P_(hc:JT X c t)(ha:JE X a ta)(hb:JE X b tb):JE X (.IfExp c a b pos) (OZ t ta tb):=by unfold JE at*;unfold JT at hc;exact QA hc ha hb
theorem gY{n:Nat}(h:JA X es ar):JE X (.Tuple es n pos) (ji ar):=by unfold JE;unfold JA at h;exact Qz h
theorem tw(h:JA X es ar):JE X (.List es pos) (sP ar):=by unfold JE;unfold JA at h;exact Px h
theorem EE(h:JA X es ar):JE X (.List es pos) (BS ar):=by unfold JE;unfold JA at h;exact PC h
theorem aj:JA X [] ak:=by unfold JA;exact xF
theorem aa(ha:JE X e te)(hr:JA X es ar)(hs:notStar e=true:=by rfl):JA X (e::es) (af te ar):=by unfold JA at*;unfold JE at ha;exact Jf ha hr hs
theorem aM(ha:JE X a ta)(hb:JE X b tb)(hs:kX b=true:=by rfl):JE X (.Subscript a b pos) (av aX ta tb):=by unfold JE at*;exact P9 ha hb hs
theorem cV{x:Str}{id:String}{r:iW}(hc:de X (.builtin id) (kj r))(ha:JA X (e::es) ar)(hm:X.mg x=none)(hv:bootBuiltins x=some (.builtin id))(hn:x≠"__name__")(hdb:(x==("__debug__":Str))=false)(hg:Gl X x)(hs:notStar e=true:=by rfl)(hs2:gq es=true:=by rfl):JE X (.Call (.Name x p) (e::es) [] pos) (bY r ar):=by
 unfold JE;unfold JA at ha;exact Qe hc ha hm hv hn hdb hg hs hs2
theorem fA{x:Str}{T:String}{r:iW}(hc:de X (.type T) (kj r))(ha:JA X (e::es) ar)(hm:X.mg x=none)(hv:bootBuiltins x=some (.type T))(hn:x≠"__name__")(hdb:(x==("__debug__":Str))=false)(hg:Gl X x)(hs:notStar e=true:=by rfl)(hs2:gq es=true:=by rfl):JE X (.Call (.Name x p) (e::es) [] pos) (bY r ar):=by
 unfold JE;unfold JA at ha;exact QK hc ha hm hv hn hdb hg hs hs2
theorem aN{x qual:Str}{st:Stmt}{ps:List Str}{f:Addr}{fd:FuncData}{k:Nat}{S:cw}(A:bD X.K X.mg x qual st ps f fd)(F:bh X.prog X.w X.K X.mg X.base cz k f fd ps (cG S))(hr:dn k X.A)(ha:JA X (e::es) ar)(hdb:(x==("__debug__":Str))=false)(hg:Gl X x)(hs:notStar e=true:=by rfl)(hs2:gq es=true:=by rfl):
 JE X (.Call (.Name x p) (e::es) [] pos) (aC S ar):=by unfold JE;unfold JA at ha;exact Qr A F hr ha hdb hg hs hs2
theorem IA{apos cpos:Pos}(ho:JE X o to)(he:JE X e te)(hbase:attributeBase o "append" X.env (eval o X.env)=eval o X.env:=by rfl)(hline:(apos.endLine==cpos.line)=true:=by rfl)(hs:notStar e=true:=by rfl):JE X (.Call (.Attribute o "append" apos) [e] [] cpos) (rq to te):=by
 unfold JE at*;refine Hz ho he hbase ?_ hline (cD hs) rfl;rw[cD hs];rfl
theorem bJ{op:CmpOp}{r:dz}(ho:cn X (compareOp op) (LR r))(hm:behindInMarks op b=false)(ha:JE X a ta)(hb:JE X b tb):JT X (.Compare a [op] [b] pos) (ba (av r ta tb)):=by unfold JE at*;unfold JT;exact MU ho ha hb hm
theorem i3(ha:JT X a t):JT X (.UnaryOp .Not a pos) (jx t):=by unfold JT at*;exact Om ha
theorem gF(he:JE X e te)(h:ur e=true:=by rfl):JT X e (ba te):=by unfold JT;unfold JE at he;exact Ky he h
theorem lg(ha:JT X a t):JW X (.BoolOp .And [a] pos) t:=by unfold JW;unfold JT at ha;exact L6 ha
theorem rJ(ha:JT X a t):JW X (.BoolOp .Or [a] pos) t:=by unfold JW;unfold JT at ha;exact ND ha
theorem nS(ha:JT X a t)(hb:JW X (.BoolOp .And (b::es) pos) u):JW X (.BoolOp .And (a::b::es) pos) (l_ t u):=by unfold JW at*;unfold JT at ha;exact OH ha hb
theorem sZ(ha:JT X a t)(hb:JW X (.BoolOp .Or (b::es) pos) u):JW X (.BoolOp .Or (a::b::es) pos) (qL t u):=by unfold JW at*;unfold JT at ha;exact Qs ha hb
theorem jy(h:JW X e t):JT X e t:=by unfold JT;unfold JW at h;exact PW.pt h
theorem e_{l tg:Expr}(hl:JE X l ta):JI X tg l (d9 ta):=by unfold JI;unfold JE at hl;exact Nh hl
theorem jU{tg:Expr}(hg:Gl X "range")(hm:X.mg "range"=none)(ha:JA X [a] ar)(hs:notStar a=true:=by rfl):JI X tg (.Call (.Name "range" p) [a] [] pos) (ip ar):=by unfold JI;unfold JA at ha;exact Gg (Gs hg hm ha (cD hs))
theorem IV{tg:Expr}(hg:Gl X "range")(hm:X.mg "range"=none)(ha:JA X [a,b] ar)(hs:notStar a=true:=by rfl)(hs2:notStar b=true:=by rfl):JI X tg (.Call (.Name "range" p) [a,b] [] pos) (vn ar):=by unfold JI;unfold JA at ha;exact GU (Gm hg hm ha (by rw[cD hs,cD hs2];rfl) (cD hs2))
theorem eC{k:Nat}{x:Str}(hN:X.N.Nodup)(hx:Loc X.env.scope x)(hf:X.fn x=true\/X.env.scope.names.lookup x=some .local)(hi:X.N[k]?=some x:=by rfl):JG X (.Name x pos) (cB k):=by unfold JG;exact LQ (yK hN hi hx hf)
theorem l7{k j n:Nat}{x y:Str}{px py:Pos}(hc:X.calm=true)(hN:X.N.Nodup)(hx:Loc X.env.scope x)(hf:X.fn x=true\/X.env.scope.names.lookup x=some .local)(hy:Loc X.env.scope y)(hg:X.fn y=true\/X.env.scope.names.lookup y=some .local)(hi:X.N[k]?=some x:=by rfl)(hj:X.N[j]?=some y:=by rfl):
 JG X (.Tuple [.Name x px,.Name y py] n pos) (g4 k j):=by unfold JG;exact OC (FV hc (sN (yK hN hi hx hf) (sN (yK hN hj hy hg) Eb)))
theorem cQ:JC X [] cH:=by unfold JC;exact IL
theorem OJ(h:JT X c t):JC X [c] t:=by unfold JC;unfold JT at h;exact NZ h
theorem eN{scope:Scope}{Nc:List Str}{elt tg iter:Expr}{ifs:List Expr}{src:DI}{fr:List (Option Nat)}{dtg:fE}(S:bK X scope Nc fr)(hi:JI X tg iter src)(hg:∀C s H ex,JG (fQ X scope Nc C s H ex) tg dtg)(ht:∀C s H ex,JC (fQ X scope Nc C s H ex) ifs t)(he:∀C s H ex,JE (fQ X scope Nc C s H ex) elt te)(fit:tP fr dtg)
 (hx:X.xe=fun _ _=>False:=by rfl) (hc:X.calm=true:=by rfl) (hs:∀x,foldedSetIterable iter X.env x=pure x:=by intro _;rfl):JE X (.ListComp elt [⟨tg,iter,ifs,0⟩] scope pos) (dA src fr dtg t te):=by
 unfold JE JI JG JC at*;exact NG S hi hg ht he fit hx hc hs
theorem zc{scope:Scope}{Nc:List Str}{elt tg iter:Expr}{ifs:List Expr}{src:DI}{fr:List (Option Nat)}{dtg:fE}(S:bK X scope Nc fr)(hi:JI X tg iter src)(hg:∀C s H ex,JG (fQ X scope Nc C s H ex) tg dtg)(ht:∀C s H ex,JC (fQ X scope Nc C s H ex) ifs t)(he:∀C s H ex,JE (fQ X scope Nc C s H ex) elt te)(fit:tP fr dtg)
 (hx:X.xe=fun _ _=>False:=by rfl) (hc:X.calm=true:=by rfl) (hs:∀x,foldedSetIterable iter X.env x=pure x:=by intro _;rfl):JE X (.ListComp elt [⟨tg,iter,ifs,0⟩] scope pos) (nL src fr dtg t te):=by
 unfold JE JI JG JC at*;exact Ly S hi hg ht he fit hx hc hs
theorem bX:JB X [] cK:=by unfold JB;exact L8
theorem az(h:JS X s T):JB X [s] T:=by unfold JB;unfold JS at h;exact KI h
theorem aq(h:JS X s T)(h2:JB X ss U):JB X (s::ss) (aF T U):=by unfold JB at*;unfold JS at h;exact Ir h h2
theorem aL(h:JE X e te):JS X (.Return (some e) pos) (a_ te):=by unfold JS;unfold JE at h;exact OK h
theorem lb(h:JE X e te)(hc:mO e=true:=by rfl):JS X (.Expr e pos) (mq te):=by unfold JS;unfold JE at h;exact HX h hc
theorem cP{x y:List Stmt}(hc:JT X c t)(ha:JB X x T)(hb:JB X y U):JS X (.If c x y pos) (cY t T U):=by unfold JS;unfold JB at*;unfold JT at hc;exact Pd hc ha hb
theorem AU{x:List Stmt}(hc:JT X c t)(hb:JB X x T)(hx:X.xe=fun _ _=>False:=by rfl):JS X (.While c x [] pos) (xn t T):=by unfold JS;unfold JB at hb;unfold JT at hc;exact HJ (Jd (by rw[hx];exact PassesOwn.never) hc hb)
theorem ij{tg iter:Expr}{x:List Stmt}{src:DI}{dtg:fE}(hi:JI X tg iter src)(hg:JG X tg dtg)(hb:JB X x T)(hx:X.xe=fun _ _=>False:=by rfl)(hc:X.calm=true:=by rfl)(hs:∀x,foldedSetIterable iter X.env x=pure x:=by intro _;rfl):JS X (.For tg iter x [] pos) (kh src dtg T):=by
 unfold JS;unfold JI at hi;unfold JG at hg;unfold JB at hb;exact M4 (Oh (by rw[hx];exact PassesOwn.never) hc hi hg hb hs)
theorem aR{k:Nat}{x:Str}(hN:X.N.Nodup)(hx:Loc X.env.scope x)(he:JE X e te)(hf:X.fn x=true\/X.env.scope.names.lookup x=some .local:=by first|exact .inl rfl|exact .inr rfl)(h:mO e=true:=by rfl)(hi:X.N[k]?=some x:=by rfl):JS X (.Assign [.Name x pos'] e pos) (a8 k te):=by
 unfold JS;unfold JE at he;exact MP (KZ hN hi hx he hf h)
theorem se{scope:Scope}{Nc:List Str}{elt tg iter:Expr}{ifs:List Expr}{src:DI}{fr:List (Option Nat)}{dtg:fE}{k:Nat}{x:Str}(hN:X.N.Nodup)(hl:Loc X.env.scope x)(S:bK X scope Nc fr)(hi:JI X tg iter src)(hg:∀C s H ex,JG (fQ X scope Nc C s H ex) tg dtg)(ht:∀C s H ex,JC (fQ X scope Nc C s H ex) ifs t)(he:∀C s H ex,JE (fQ X scope Nc C s H ex) elt te)(fit:tP fr dtg)
 (hf:X.fn x=true\/X.env.scope.names.lookup x=some .local:=by first|exact .inl rfl|exact .inr rfl) (hsw:swapsWith (.ListComp elt [⟨tg,iter,ifs,0⟩] scope p) (some (.Name x pos')) pos.line X.env=pure true:=by rfl) (hni:X.N[k]?=some x:=by rfl) (hx:X.xe=fun _ _=>False:=by rfl) (hc:X.calm=true:=by rfl) (hs:∀x,foldedSetIterable iter X.env x=pure x:=by intro _;rfl):
 JS X (.Assign [.Name x pos'] (.ListComp elt [⟨tg,iter,ifs,0⟩] scope p) pos) (a8 k (dA src fr dtg t te)):=by
 unfold JS;unfold JE JI JG JC at*;exact Me fit (D0 hx hc S hi hg ht he hN hni hl hf hsw hs)
theorem IH{scope:Scope}{Nc:List Str}{elt tg iter:Expr}{ifs:List Expr}{src:DI}{fr:List (Option Nat)}{dtg:fE}{k:Nat}{x:Str}(hN:X.N.Nodup)(hl:Loc X.env.scope x)(S:bK X scope Nc fr)(hi:JI X tg iter src)(hg:∀C s H ex,JG (fQ X scope Nc C s H ex) tg dtg)(ht:∀C s H ex,JC (fQ X scope Nc C s H ex) ifs t)(he:∀C s H ex,JE (fQ X scope Nc C s H ex) elt te)(fit:tP fr dtg)
 (hf:X.fn x=true\/X.env.scope.names.lookup x=some .local:=by first|exact .inl rfl|exact .inr rfl) (hsw:swapsWith (.ListComp elt [⟨tg,iter,ifs,0⟩] scope p) (some (.Name x pos')) pos.line X.env=pure true:=by rfl) (hni:X.N[k]?=some x:=by rfl) (hx:X.xe=fun _ _=>False:=by rfl) (hc:X.calm=true:=by rfl) (hs:∀x,foldedSetIterable iter X.env x=pure x:=by intro _;rfl):
 JS X (.Assign [.Name x pos'] (.ListComp elt [⟨tg,iter,ifs,0⟩] scope p) pos) (a8 k (nL src fr dtg t te)):=by
 unfold JS;unfold JE JI JG JC at*;exact IB fit (D0 hx hc S hi hg ht he hN hni hl hf hsw hs)
theorem eY(he:JE X e te)(ho:JE X o to)(hi:JE X i ti)(h1:mO e=true:=by rfl)(h2:kX i=true:=by rfl):JS X (.Assign [.Subscript o i pos'] e pos) (eO to ti te):=by unfold JS;unfold JE at*;exact AV (MG he ho hi h1 h2)
theorem OD{k:Nat}{x:Str}{op:Operator}{f:Int->Int->Int}(hN:X.N.Nodup)(hx:Loc X.env.scope x)(he:JE X e te)(ho:Ni X op (Nq f))(hf:X.fn x=true\/X.env.scope.names.lookup x=some .local:=by first|exact .inl rfl|exact .inr rfl)(hi:X.N[k]?=some x:=by rfl):JS X (.AugAssign (.Name x pos') op e pos) (EH k (Bh f) te):=by
 unfold JS;unfold JE at he;exact MN (M6 hN hi hx he ho hf)
theorem MT{k j kt k2:Nat}{x y:Str}{px py pt pt2:Pos}(hN:X.N.Nodup)(hij:k≠j)(hx:X.env.scope.names.lookup x=some .local)(hy:X.env.scope.names.lookup y=some .local)(ha:JA X [a,b] ar)
 (hw:swappedStores [.Tuple [.Name x px,.Name y py] kt pt] (.Tuple [a,b] k2 pt2) X.env=pure (some [x,y]):=by rfl) (hc:X.calm=true:=by rfl) (hi:X.N[k]?=some x:=by rfl) (hj:X.N[j]?=some y:=by rfl) (hs:swapsWithSole [.Tuple [.Name x px,.Name y py] kt pt] (.Tuple [a,b] k2 pt2) pos.line X.env=pure false:=by rfl):
 JS X (.Assign [.Tuple [.Name x px,.Name y py] kt pt] (.Tuple [a,b] k2 pt2) pos) (Ie k j ar):=by unfold JS;unfold JA at ha;exact Nb (MC hc hN hi hj hij hx hy ha hw hs)
theorem M9{tg:Expr}{dtg:fE}(he:JE X e te)(hg:JG X tg dtg)(hs:swapsWithSole [tg] e pos.line X.env=pure false:=by rfl)(hw:swappedStores [tg] e X.env=pure none:=by rfl)(h1:(assignEach [tg] X.env).map (·.2)=[assign tg X.env]:=by rfl):JS X (.Assign [tg] e pos) (Iz dtg te):=by
 unfold JS;unfold JE at he;unfold JG at hg;exact OA (xl he hg hs hw h1)
end
theorem bH{P:Program}{w:World}{K:PySem.W.Frag}{mg:Str->Option Value}{base:Heap}{x qual:Str}{st:Stmt}{f:Addr}{fd:FuncData}{N ps:List Str}{k:Nat}{sp:cw}{t:DS}(F:pA K x qual st f fd)(S:aO N ps (ai st))
 (hbody:∀(cdv:Value) (A:Around) (outer:List Env) (s:Shared) (H:Hp) (E:XK),dn k (A.deeper (envOfC qual (ai st) s.heap.objs.size f cdv))->JB (sv cz P w K mg base N qual (ai st) f cdv A outer s H E).ye (gz st) t)
 (hsp:∀ds st K,sp ds st K->ds.length=ps.length/\t {nx:=fun _ st'=>K .aE st',rt:=K} (aU N ds) st):bh P w K mg base cz (k+1) f fd ps (cG sp):=by
 unfold JB at hbody;exact Ph F S hbody hsp
end L3
namespace HT
open PySem PyProof.Rows
section
variable {prog:Program}{w:World}{A:Around}{E:Value->Shared->Prop}{s:Shared}
theorem ud{t sl:Addr}{items:Array Value}{vl vu:Value}{lo hi:Option Int}{Q:Value->Shared->Prop}(ht:IsTup s.heap t items)(hs:s.heap.IsSliceOf sl vl vu .none)(pl:IsPart vl lo)(pu:IsPart vu hi)
 (hw:cy items.size 0 lo=0/\cy items.size items.size hi=items.size) (h:Q (.ref t) s):wpAny (model prog w) A (getItem (.ref t) (.ref sl)) Q E s:=by
 obtain⟨os,hos,hcs,hds⟩:=id hs;have hTs:s.TypeIs (.ref sl) "slice":=⟨os,hos,hcs⟩
 unfold getItem;try with_reducible refine wpAny_holding ?_
 first|refine wpAny_bind (wpAny_pure ?_)|skip
 refine wpAny_bind (wpAny_sequenceKey ht.typeIs (by decide) ?_)
 refine wpAny_bind (wpAny_callSpecial?_slot (name:=Str.ofString "__getitem__") ht.typeIs PyProof.Rows.slot_tuple_getitem
  (wpAny_call_entry PyProof.Rows.slot_tuple_getitem ht.typeIs entry_tuple_getitem ?_ (args_tuple_getitem _ _)))
 show wpAny _ _ (Builtin.Tuple.tupleItemsOf (.ref t) >>= _) _ _ s;refine wpAny_bind (tupleItemsOf_ ht ?_);refine wpAny_bind (wpAny_typeOf hTs ?_);rw[if_pos (by decide)];refine wpAny_bind (pN hs pl pu ?_)
 have hyes:(((cy items.size 0 lo:Nat):Int)==0&&(1:Int)==1&&(cy items.size items.size hi-cy items.size 0 lo)==items.size)=true:=by
  rw[hw.1,hw.2];simp
 show wpAny _ _ (if(((cy items.size 0 lo:Nat):Int)==0&&(1:Int)==1&&(cy items.size items.size hi-cy items.size 0 lo)==items.size)=true then _ else _) _ _ s;rw[if_pos hyes];refine wpAny_bind ?_;unfold Builtin.Tuple.tupleIsExact;exact wpAny_bind (wpAny_typeOf ht.typeIs (wpAny_pure (wpAny_bind (wpAny_rule (wpAny_pure ⟨_,rfl,wpAny_pure h⟩)))))
end
end HT
namespace L3
open PySem L2
open PySem.Spec hiding items?
open PyProof.Rows hiding St
abbrev DO:=cu->ag->(Option Int->ag->Prop)->Prop
def i9:DO:=fun _ st K=>K none st
def m_(t:DE):DO:=fun σ st K=>t σ st fun d st1=>match d with| .int i=>K (some i) st1|_=>False
def cutD(xs:List D)(lo hi:Option Int):List D:=(xs.drop (HT.cy xs.length 0 lo)).take (HT.cy xs.length xs.length hi-HT.cy xs.length 0 lo)
def Ca(d:D)(lo hi:Option Int)(st:ag)(K:DK):Prop:=match d with
 | .lst xs=>K (.lst (cutD xs lo hi)) st
 | .tup xs=>K (.tup (cutD xs lo hi)) st
 | .ref n=>(match st[n]? with|some (.lst xs)=>K (.lst (cutD xs lo hi)) st|_=>False)
 |_=>False
@[irreducible] def ku:D->Option Int->Option Int->ag->DK->Prop:=Ca
def kq(t:DE)(lo hi:DO):DE:=fun σ st K=>t σ st fun d st1=>lo σ st1 fun l st2=>hi σ st2 fun u st3=>ku d l u st3 K
theorem wO{α:List (Option Addr)}{G:Hp}{xs:List D}{vs:List V}{lo hi:Option Int}(r:aT α G xs vs):aT α G (cutD xs lo hi) (tJ vs lo hi):=by
 unfold cutD tJ;rw[<-r.length];exact bC.mpr (vT _ (v_ _ (bC.mp r)))
def Sv(α:List (Option Addr))(G F:Hp)(K:Option Int->ag->Prop)(Q:Option Int->Hp->Prop):Prop:=∀o st',K o st'->∀α' G' H',Step α G α' G'->cL G' F H'->a7 α' st' G'->Q o H'
inductive QS(t:DO)(σ:L2.St)(H:Hp)(Q:Option Int->Hp->Prop):Prop
 |mk (α:List (Option Addr)) (σd:cu) (st:ag) (K:Option Int->ag->Prop) (G F:Hp) (P:cL G F H) (R:eJ α G σd σ) (S:a7 α st G) (h:t σd st K) (k:Sv α G F K Q):QS t σ H Q
def LO(t:DO):TO:=QS t
section
variable {X:Cx}
theorem PO.imp{e:Option Expr}{t t':TO}(h:PO X e t)(f:∀σ H Q,t' σ H Q->t σ H Q):PO X e t':=fun pins s σ H Q I q=>h pins s σ H Q I (f σ H Q q)
theorem Kz:PO X none (LO i9):=PO.imp KP fun σ H Q ⟨α,σd,st,K,G,F,P,R,S,t,k⟩=>k none st t α G H Step.refl P S
theorem LF{e:Expr}{te:DE}(h:PE X e (LE te)):PO X (some e) (LO (m_ te)):=PO.imp (Lg h) fun σ H Q ⟨α,σd,st,K,G,F,P,R,S,t,k⟩=>by
 refine⟨α,σd,st,_,G,F,P,R,S,t,fun d st1 q α1 G1 H1 v s1 P1 S1 r1=>?_⟩;cases d<;>try exact q.elim
 unfold Rep at r1;exact⟨_,r1,k _ st1 q α1 G1 H1 s1 P1 S1⟩
def Sk(x:V)(lo hi:Option Int)(H:Hp)(Q:VK):Prop:=∃α d st K G F,cL G F H/\Rep α G d x/\a7 α st G/\ku d lo hi st K/\LK α G F K Q
theorem Mv:FI X (fun x lo hi H Q=>∃a xs,x= .ref a/\H a=some (.tup xs)/\((HT.cy xs.length 0 lo=0/\HT.cy xs.length xs.length hi=xs.length)->Q (.ref a) H)/\(¬(HT.cy xs.length 0 lo=0/\HT.cy xs.length xs.length hi=xs.length)->∀p,H p=none->Q (.ref p) (upd H p (.tup (tJ xs lo hi))))):=by
 intro pins s σ H x v vl vu lo hi sl Q I rx hs pl pu h;obtain⟨a,xs,rfl,hx,q1,q2⟩:=h;by_cases hw:HT.cy xs.length 0 lo=0/\HT.cy xs.length xs.length hi=xs.length
 . cases rx;obtain⟨aw,r,ht,hz⟩:=I.tuple (jA.of hx);have hlen:aw.toArray.size=xs.length:=by rw[List.size_toArray];exact r.length.symm
   exact⟨"tuple",_,PyProof.Rows.slot_tuple_getitem.lookup,ht.typeIs,HT.ud ht hs pl pu (by rw[hlen];exact hw) ⟨.ref a,H,I,rfl,q1 hw⟩⟩
 . exact NL pins s σ H _ v vl vu lo hi sl Q I rx hs pl pu ⟨a,xs,rfl,.of hx,hw,q2 hw⟩
theorem Fv{xs:List D}{lo hi:Option Int}(hw:HT.cy xs.length 0 lo=0/\HT.cy xs.length xs.length hi=xs.length):cutD xs lo hi=xs:=by
 unfold cutD;rw[hw.1,hw.2];simp
theorem OY:FI X Sk:=by
 intro pins s σ H x v vl vu lo hi sl Q I rx hs pl pu ⟨α,d,st,K,G,F',P,r1,S,q,k⟩;unfold ku Ca at q;cases d<;>try exact q.elim
 . rename_i n;simp only at q;split at q
   . rename_i xs e;obtain⟨a,ea,vs,h1,h2⟩:=S.g0 e;have r1':=eF ea r1;subst r1';exact DN pins s σ H _ v vl vu lo hi sl Q I rx hs pl pu ⟨a,vs,rfl,.inl (.of (P.get h1)),fun p hp=>k.lst P q S (wO h2) hp⟩
   . exact q.elim
 . unfold Rep at r1;obtain⟨a,vs,rfl,na,ha,ra⟩:=r1;exact DN pins s σ H _ v vl vu lo hi sl Q I rx hs pl pu ⟨a,vs,rfl,.inl (iJ P ha),fun p hp=>k.lst P q S (wO ra) hp⟩
 . rename_i xs;have r0:=r1;unfold Rep at r1;obtain⟨a,vs,rfl,na,ha,ra⟩:=r1;refine Mv pins s σ H _ v vl vu lo hi sl Q I rx hs pl pu ⟨a,vs,rfl,P.get ha,fun hw=>?_,fun _ p hp=>k.tup P q S (wO ra) hp⟩;rw[<-ra.length]at hw;simp only at q;rw[Fv hw]at q;exact k.here P q S r0
theorem L7{e:Expr}{lo hi:Option Expr}{te:DE}{tl th:DO}{p2 pos:Pos}(he:PE X e (LE te))(hl:PO X lo (LO tl))(hh:PO X hi (LO th)):PE X (.Subscript e (.Slice lo hi none p2) pos) (LE (kq te tl th)):=PE.imp (Jk OY he hl hh) fun σ H Q ⟨α,σd,st,K,G,F,P,R,S,t,k⟩=>by
 refine⟨α,σd,st,_,G,F,P,R,S,t,fun d st1 q α1 G1 H1 v s1 P1 S1 r1=>?_⟩;refine⟨α1,σd,st1,_,G1,F,P1,R.step s1,S1,q,fun l st2 q2 α2 G2 H2 s2 P2 S2=>?_⟩;refine⟨α2,σd,st2,_,G2,F,P2,(R.step s1).step s2,S2,q2,fun u st3 q3 α3 G3 H3 s3 P3 S3=>?_⟩;exact⟨α3,d,st3,K,G3,F,P3,(r1.step s2).step s3,S3,q3,((k.at s1).at s2).at s3⟩
@[irreducible] def JO(X:Cx)(e:Option Expr)(t:DO):Prop:=PO X e (LO t)
theorem lG:JO X none i9:=by unfold JO;exact Kz
theorem lz{e:Expr}{te:DE}(h:JE X e te):JO X (some e) (m_ te):=by unfold JO;unfold JE at h;exact LF h
theorem lO{e:Expr}{lo hi:Option Expr}{te:DE}{tl th:DO}{p2 pos:Pos}(he:JE X e te)(hl:JO X lo tl)(hh:JO X hi th):JE X (.Subscript e (.Slice lo hi none p2) pos) (kq te tl th):=by unfold JE at*;unfold JO at*;exact L7 he hl hh
end
theorem zy{st:ag}{K:DK}{xs:List D}{lo hi:Option Int}(k:K (.lst (cutD xs lo hi)) st):ku (.lst xs) lo hi st K:=by unfold ku;exact k
theorem k_{st:ag}{K:DK}{xs:List D}{lo hi:Option Int}(k:K (.tup (cutD xs lo hi)) st):ku (.tup xs) lo hi st K:=by unfold ku;exact k
theorem zw{st:ag}{K:DK}{xs:List D}{lo hi:Option Int}{n:Nat}(h:st[n]?=some (.lst xs))(k:K (.lst (cutD xs lo hi)) st):ku (.ref n) lo hi st K:=by unfold ku Ca;simp only[h];exact k
section
variable {prog:Program}{w:World}{A:Around}{E:Value->Shared->Prop}{s:Shared}
theorem EG{iT tp:Addr}{n:Nat}{aw:Array Value}{v:Value}{Q:Value->Shared->Prop}(hI:s.heap.IsTupleIter iT tp n)(hT:s.heap.IsTuple tp aw)(hv:aw[n]?=some v)
 (q:∀g,g.IsTupleIter iT tp (n+1)->Heap.SameBut iT s.heap g->Q v {s with heap:=g}):wpAny (model prog w) A (Builtin.SmallTypes.nextOf (.ref iT)) Q E s:=by
 obtain⟨oI,eI,cI,dI⟩:=id hI;obtain⟨oT,eT,_,nT,dT⟩:=hT;unfold Builtin.SmallTypes.nextOf;refine wpAny_bind (wpAny_callSpecial?_slot (name:=Str.ofString "__next__") hI.typeIs F.slot_tuple_iterator_next (wpAny_call_entry F.slot_tuple_iterator_next hI.typeIs F.entry_tuple_iterator_next ?_ (F.args_tuple_iterator_next_1 _)));show wpAny _ _ (field (.ref iT) 0 >>= _) _ _ s;refine wpAny_bind (wpAny_field eI dI (x:= .ref tp) rfl ?_);show wpAny _ _ (if(Value.ref tp==Value.none)=true then _ else _) _ _ s;rw[if_neg (show¬((Value.ref tp==Value.none)=true)from Bool.false_ne_true)];show wpAny _ _ (field (.ref iT) 1 >>= _) _ _ s;refine wpAny_bind (wpAny_field eI dI (x:= .int n 0) rfl ?_);show wpAny _ _ (seqItems? (.ref tp) >>= _) _ _ s;refine wpAny_bind (wpAny_seqItems eT dT ?_);simp only[Int.toNat_natCast,hv];refine wpAny_bind (wpAny_setField eI dI (by simp) (wpAny_pure ⟨v,rfl,wpAny_pure (q _ ?_ (Heap.SameBut.update ..))⟩));refine⟨_,Heap.get?_update_self _ eI (Obj.isFreed_of_fields (Obj.data_mapFields dI _)),(Obj.cls_mapFields ..).trans cI,?_⟩;rw[Obj.data_mapFields dI];simp[rawInt]
theorem FX{iT tp:Addr}{n:Nat}{aw:Array Value}{Q:Value->Shared->Prop}(hh:A.handled=none)(hI:s.heap.IsTupleIter iT tp n)(hT:s.heap.IsTuple tp aw)(hv:aw[n]?=none)
 (q:∀g e,Heap.ExtBut iT s.heap g->(∃o,g.get? e=some o/\o.cls= .type "StopIteration")->E (.ref e) {s with heap:=g}):wpAny (model prog w) A (Builtin.SmallTypes.nextOf (.ref iT)) Q E s:=by
 obtain⟨oI,eI,cI,dI⟩:=id hI;obtain⟨oT,eT,_,nT,dT⟩:=hT;unfold Builtin.SmallTypes.nextOf;refine wpAny_bind (wpAny_callSpecial?_slot (name:=Str.ofString "__next__") hI.typeIs F.slot_tuple_iterator_next (wpAny_call_entry F.slot_tuple_iterator_next hI.typeIs F.entry_tuple_iterator_next ?_ (F.args_tuple_iterator_next_1 _)));show wpAny _ _ (field (.ref iT) 0 >>= _) _ _ s;refine wpAny_bind (wpAny_field eI dI (x:= .ref tp) rfl ?_);show wpAny _ _ (if(Value.ref tp==Value.none)=true then _ else _) _ _ s;rw[if_neg (show¬((Value.ref tp==Value.none)=true)from Bool.false_ne_true)];show wpAny _ _ (field (.ref iT) 1 >>= _) _ _ s;refine wpAny_bind (wpAny_field eI dI (x:= .int n 0) rfl ?_);show wpAny _ _ (seqItems? (.ref tp) >>= _) _ _ s;refine wpAny_bind (wpAny_seqItems eT dT ?_);simp only[Int.toNat_natCast,hv];refine wpAny_bind (wpAny_rule (wpAny_bind (wpAny_setField eI dI (by simp) ?_)));show wpAny _ _ (newExc (.type "StopIteration") [] >>= _) _ _ _;refine wpAny_bind ?_;simp only[newExc,newTuple];refine wpAny_bind (wpAny_newObj_type ?_ (by size_fits));refine wpAny_bind (m:=firstArgMember _ _) (wpAny_of_eq (a:=Value.none) (by first|rfl|(simp only[firstArgMember];rfl)) ?_);refine wpAny_newObj_type ?_ (by size_fits);simp only[raiseNew];refine wpAny_bind (wpAny_handled ?_);first|rw[show A.in1.handled=none from hh]|rw[hh]
 refine wpAny_bind (wpAny_pure (wpAny_throw ?_));exact q _ _ (((Heap.SameBut.update ..).extBut.push _).push _) ⟨_,Heap.get?_push_size _ rfl,rfl⟩
end
section
variable {st:ag}{K:DK}{i j:Int}{b c:Bool}{xs ys:List D}{d e:D}{n:Nat}
theorem eqT(h:i=j)(k:K (.bl true) st):e9 (.int i) (.int j) st K:=Bu (by rw[decide_eq_true h];exact k)
theorem rN(h:i≠j)(k:K (.bl false) st):e9 (.int i) (.int j) st K:=Bu (by rw[decide_eq_false h];exact k)
theorem eq2(h1:i=j->K (.bl true) st)(h2:i≠j->K (.bl false) st):e9 (.int i) (.int j) st K:=by
 by_cases h:i=j
 . exact eqT h (h1 h)
 . exact rN h (h2 h)
theorem neT(h:i≠j)(k:K (.bl true) st):pX (.int i) (.int j) st K:=Kb (by rw[decide_eq_false h];exact k)
theorem Sw(h:i=j)(k:K (.bl false) st):pX (.int i) (.int j) st K:=Kb (by rw[decide_eq_true h];exact k)
theorem ne2(h1:i≠j->K (.bl true) st)(h2:i=j->K (.bl false) st):pX (.int i) (.int j) st K:=by
 by_cases h:i=j
 . exact Sw h (h2 h)
 . exact neT h (h1 h)
theorem Q0(h:i<j)(k:K (.bl true) st):oA (.int i) (.int j) st K:=yb (by rw[decide_eq_true h];exact k)
theorem QO(h:j<=i)(k:K (.bl false) st):oA (.int i) (.int j) st K:=yb (by rw[decide_eq_false (by omega)];exact k)
theorem Kr(h1:i<j->K (.bl true) st)(h2:j<=i->K (.bl false) st):oA (.int i) (.int j) st K:=by
 by_cases h:i<j
 . exact Q0 h (h1 h)
 . exact QO (by omega) (h2 (by omega))
theorem QL(h:j<i)(k:K (.bl true) st):qk (.int i) (.int j) st K:=vA (by rw[decide_eq_true h];exact k)
theorem Sn(h:i<=j)(k:K (.bl false) st):qk (.int i) (.int j) st K:=vA (by rw[decide_eq_false (by omega)];exact k)
theorem Q8(h1:j<i->K (.bl true) st)(h2:i<=j->K (.bl false) st):qk (.int i) (.int j) st K:=by
 by_cases h:j<i
 . exact QL h (h1 h)
 . exact Sn (by omega) (h2 (by omega))
theorem Ct{P:Prop}(h:xs.length<=1000)(k:P):xs.length<=sizeLine/\P:=⟨by rw[sizeLine_eq];omega,k⟩
theorem bS{m:Nat}(h:m<=1000):m<=sizeLine:=by rw[sizeLine_eq];omega
theorem yR(h0:0<=i)(e:xs[i.toNat]?=some d):e8 xs i=some d:=by
 have:=i5 e;rw[Int.toNat_of_nonneg h0]at this;exact this
theorem uQ{m:Nat}(h0:0<=i)(h:i.toNat<m):mH m i=some i.toNat:=by
 unfold mH;have:i<(m:Int):=by omega
 simp[h0,this]
end
theorem g_{tg:fE}{body:DS}{ok:ag->Prop}{E:oK}(I:List D->cu->ag->Prop)(hend:∀σ st,I [] σ st->ok st/\E.nx σ st)
 (hstep:∀x xs σ st,I (x::xs) σ st->(∀σ' st',I xs σ' st'->jH tg body ok E xs σ' st')->ok st/\∃σ1,tg x σ=some σ1/\body {E with nx:=jH tg body ok E xs,ct:=jH tg body ok E xs,bk:=E.nx} σ1 st):
 ∀xs σ st,I xs σ st->jH tg body ok E xs σ st
 | [],σ,st,h=>by unfold jH;exact hend σ st h
 |x::xs,σ,st,h=>by unfold jH;exact hstep x xs σ st h fun σ' st' h'=>g_ I hend hstep xs σ' st' h'
theorem kO{tg:fE}{c:DT}{te:DE}{ok:ag->Prop}{σc:cu}{K:List D->ag->Prop}(I:List D->List D->ag->Prop)(hend:∀acc st,I [] acc st->ok st/\K acc st)
 (hstep:∀x xs acc st,I (x::xs) acc st->(∀acc' st',I xs acc' st'->dB tg c te ok σc xs acc' st' K)->ok st/\∃σ2,tg x σc=some σ2/\c σ2 st fun b st1=>if b=true then te σ2 st1 fun y st2=>dB tg c te ok σc xs (acc++[y]) st2 K else dB tg c te ok σc xs acc st1 K):
 ∀xs acc st,I xs acc st->dB tg c te ok σc xs acc st K
 | [],acc,st,h=>by unfold dB;exact hend acc st h
 |x::xs,acc,st,h=>by unfold dB;exact hstep x xs acc st h fun acc' st' h'=>kO I hend hstep xs acc' st' h'
theorem comp_map{tg:fE}{te:DE}{ok:ag->Prop}{σc:cu}{st:ag}{K:List D->ag->Prop}{g:D->D}(aP:ok st)(xs:List D)(hx:∀x∈xs,∀K',K' (g x) st->∃σ2,tg x σc=some σ2/\te σ2 st K')(k:K (xs.map g) st):dB tg cH te ok σc xs [] st K:=by
 refine kO (fun r acc st'=>st'=st/\(∀x∈r,x∈xs)/\acc++r.map g=xs.map g) (fun acc st' h=>?_) (fun x r acc st' h next=>?_) xs [] st ⟨rfl,fun _ h=>h,rfl⟩
 . obtain⟨rfl,_,e⟩:=h;rw[List.map_nil,List.append_nil]at e;rw[e];exact⟨aP,k⟩
 . obtain⟨rfl,hm,e⟩:=h;obtain⟨σ2,e2,q⟩:=hx x (hm x List.mem_cons_self) (fun y st2=>dB tg cH te ok σc r (acc++[y]) st2 K) (next _ _ ⟨rfl,fun z hz=>hm z (List.mem_cons_of_mem _ hz),by rw[<-e];simp⟩);exact⟨aP,σ2,e2,q⟩
theorem fY{A B:DS}{E:oK}{σ:cu}{st:ag}(J:cu->ag->Prop)(h:∀nx,(∀σ' st',J σ' st'->nx σ' st')->A {E with nx:=nx} σ st)(k:∀σ' st',J σ' st'->B E σ' st'):aF A B E σ st:=h (B E) k
def Nw(n:Nat)(K:DK)(y:D)(st2:ag):Prop:=∃y',[y]=[y']/\(match st2[n]? with|some (.lst xs)=>xs.length<sizeLine/\K .aE (st2.set n (.lst (xs++[y'])))|_=>False)
theorem DW{n:Nat}{K:DK}{y:D}{st:ag}{xs:List D}(e:st[n]?=some (.lst xs))(h:xs.length<sizeLine)(k:K .aE (st.set n (.lst (xs++[y])))):Nw n K y st:=by
 refine⟨y,rfl,?_⟩;simp only[e];exact⟨h,k⟩
@[irreducible] def o8(to te:DE):DE:=rq to te
theorem G_{σ:cu}{st:ag}{K:DK}{i n:Nat}{xs:List D}{te:DE}(ei:σ[i]?=some (some (.ref n)))(e:st[n]?=some (.lst xs))(h:te σ st (Nw n K)):o8 (ae i) te σ st K:=by
 unfold o8 rq ae;simp only[ei,e];exact h
theorem zQ{X:Cx}{o e:Expr}{to te:DE}{apos cpos:Pos}(ho:JE X o to)(he:JE X e te)(hbase:attributeBase o "append" X.env (eval o X.env)=eval o X.env:=by rfl)(hline:(apos.endLine==cpos.line)=true:=by rfl)(hs:notStar e=true:=by rfl):JE X (.Call (.Attribute o "append" apos) [e] [] cpos) (o8 to te):=by
 unfold o8;exact IA ho he hbase hline hs
section
variable {X:Cx}
end
structure Src(P:Program)(w:World)(t a:Addr)(J:Nat->Heap->Prop)(us:Array Value):Prop where
 fr:∀n g k,J n g->(∀b,b=t\/b=a->∀o,g.get? b=some o->k.get? b=some o)->J n k
 lv:∀n g,J n g->(∃o,g.get? t=some o)/\∃o,g.get? a=some o
 nx:∀n (A:Around) (s:Shared) (Q:Value->Shared->Prop) (E:Value->Shared->Prop) v,J n s.heap->us[n]?=some v->(∀k,J (n+1) k->Heap.SameBut t s.heap k->Q v {s with heap:=k})->wpAny (model P w) A (Builtin.SmallTypes.nextOf (.ref t)) Q E s
 en:∀n (A:Around) (s:Shared) (Q:Value->Shared->Prop) (E:Value->Shared->Prop),A.handled=none->J n s.heap->us[n]?=none->(∀k e,Heap.ExtBut t s.heap k->(∃o,k.get? e=some o/\o.cls= .type "StopIteration")->E (.ref e) {s with heap:=k})->wpAny (model P w) A (Builtin.SmallTypes.nextOf (.ref t)) Q E s
section
variable {P:Program}{w:World}
theorem src_list(t a:Addr)(hne:a≠t)(us:Array Value):Src P w t a (fun n g=>g.IsListIter t a n/\g.IsList a us) us where
 fr:=fun n g k j kp=>⟨j.1.at fun o e=>kp t (.inl rfl) o e,j.2.at fun o e=>kp a (.inr rfl) o e⟩
 lv:=fun n g j=>⟨let⟨o,e,_⟩:=j.1;⟨o,e⟩,let⟨o,e,_⟩:=j.2;⟨o,e⟩⟩
 nx:=fun n A s Q E v j hv q=>wpAny_nextOf_list_item j.1 j.2 hv fun k jk sb=>q k ⟨jk,j.2.extBut sb.extBut hne⟩ sb
 en:=fun n A s Q E hh j hv q=>wpAny_nextOf_list_end hh j.1 j.2 hv q
theorem Lq(t a:Addr)(hne:a≠t)(us:Array Value):Src P w t a (fun n g=>g.IsTupleIter t a n/\g.IsTuple a us) us where
 fr:=fun n g k j kp=>by
  obtain⟨⟨o,e,r⟩,⟨o2,e2,r2⟩⟩:=j;exact⟨⟨o,kp t (.inl rfl) o e,r⟩,⟨o2,kp a (.inr rfl) o2 e2,r2⟩⟩
 lv:=fun n g j=>⟨let⟨o,e,_⟩:=j.1;⟨o,e⟩,let⟨o,e,_⟩:=j.2;⟨o,e⟩⟩
 nx:=fun n A s Q E v j hv q=>EG j.1 j.2 hv fun k jk sb=>q k ⟨jk,j.2.extBut sb.extBut hne⟩ sb
 en:=fun n A s Q E hh j hv q=>FX hh j.1 j.2 hv q
theorem Src.ext{t a c:Addr}{J:Nat->Heap->Prop}{us:Array Value}(S:Src P w t a J us){n:Nat}{g k:Heap}(j:J n g)(x:Heap.ExtBut c g k)(h1:c≠t)(h2:c≠a):J n k:=
 S.fr n g k j fun b hb o e=>x b o (by rcases hb with rfl|rfl;exact Ne.symm h1;exact Ne.symm h2) e
structure D6(z ti to t1 t2 a1 a2:Addr):Prop where
 nd: [z,ti,to,t1,t2].Nodup
 a1:a1∉[z,ti,to,t1,t2]
 a2:a2∉[z,ti,to,t1,t2]
section
variable {z ti to t1 t2 a1 a2:Addr}
theorem D6.n(D:D6 z ti to t1 t2 a1 a2):(ti≠z/\to≠z/\t1≠z/\t2≠z)/\(ti≠to/\ti≠t1/\ti≠t2)/\(to≠t1/\to≠t2)/\t1≠t2:=by
 have:=D.nd;simp only[List.nodup_cons,List.mem_cons,not_or,List.not_mem_nil,not_false_eq_true,and_true,List.nodup_nil]at this;obtain⟨⟨b1,b2,b3,b4⟩,⟨b5,b6,b7⟩,⟨b8,b9⟩,b10⟩:=this;exact⟨⟨Ne.symm b1,Ne.symm b2,Ne.symm b3,Ne.symm b4⟩,⟨b5,b6,b7⟩,⟨b8,b9⟩,b10⟩
theorem Hw{A:Around}{s:Shared}{E:Value->Shared->Prop}{J1 J2:Nat->Heap->Prop}{us vs:Array Value}{n:Nat}{x y a b:Value}{Q:Value->Shared->Prop}(D:D6 z ti to t1 t2 a1 a2)(S1:Src P w t1 a1 J1 us)(S2:Src P w t2 a2 J2 vs)
 (Z:IsZip s.heap z ti to .none) (pI:IsPair s.heap ti (.ref t1) (.ref t2)) (pO:IsPair s.heap to a b) (j1:J1 n s.heap) (j2:J2 n s.heap) (ex:us[n]?=some x) (ey:vs[n]?=some y)
 (q:∀k,IsZip k z ti to (rawInt s.heap.objs.size)->IsPair k to x y->J1 (n+1) k->J2 (n+1) k->IsPair k s.heap.objs.size x y->k.objs.size=s.heap.objs.size+1->
   (∀c o,c≠z->c≠to->c≠t1->c≠t2->s.heap.get? c=some o->k.get? c=some o)->Q (.ref s.heap.objs.size) {s with heap:=k}):
 wpAny (model P w) A (Builtin.«zip.__next__» ⟨[.ref z],[]⟩) (fun fin s'=>∃v,fin= .done (.ret v)/\Q v s') E s:=by
 obtain⟨⟨n1,n2,n3,n4⟩,⟨n5,n6,n7⟩,⟨n8,n9⟩,n10⟩:=D.n;have m1:=D.a1;have m2:=D.a2;simp only[List.mem_cons,not_or,List.not_mem_nil,not_false_eq_true,and_true]at m1 m2;show wpAny _ _ (field (.ref z) 2 >>= _) _ _ _;refine wpAny_bind (wpAny_field Z rfl (x:= .bool false) rfl ?_);show wpAny _ _ (field (.ref z) 3 >>= _) _ _ _;refine wpAny_bind (wpAny_field Z rfl (x:= .ref ti) rfl ?_);refine wpAny_bind (wpAny_seqItems pI rfl ?_);show wpAny _ _ (Builtin.SmallTypes.ownedTupleIsFree (.ref z) >>= _) _ _ _;refine wpAny_bind ?_;unfold Builtin.SmallTypes.ownedTupleIsFree;refine wpAny_bind (wpAny_field Z rfl (x:= .none) rfl (wpAny_pure ?_));simp only[if_true];refine wpAny_bind (wpAny_rule ?_);refine wpAny_bind (wpAny_field Z rfl (x:= .ref to) rfl ?_);refine wpAny_bind (wpAny_setField_rec Z (by simp) fun k1 Z1 b1=>?_);replace Z1:IsZip k1 z ti to .ellipsis:=Z1;refine wpAny_bind ?_;simp only[List.zipIdx_cons,List.zipIdx_nil,List.forIn_cons,List.forIn_nil];refine wpAny_bind (wpAny_bind (wpAny_onRaise ?_));show wpAny _ _ (Builtin.SmallTypes.nextOf (.ref t1) >>= _) _ _ _;refine wpAny_bind (S1.nx n _ _ _ _ x (S1.ext j1 b1.extBut (Ne.symm n3) (Ne.symm m1.1)) ex fun k2 j1b b2=>wpAny_pure ?_);have pO2:IsPair k2 to a b:=b2.extBut _ _ n8 (b1.extBut _ _ n2 pO);refine wpAny_bind (wpAny_seqItems pO2 rfl ?_);refine wpAny_bind (wpAny_updateSeq_pair pO2 fun k3 pO3 b3=>?_);replace pO3:IsPair k3 to x b:=pO3;refine wpAny_bind (wpAny_letGo (wpAny_pure ?_));refine wpAny_bind (wpAny_bind (wpAny_onRaise ?_));show wpAny _ _ (Builtin.SmallTypes.nextOf (.ref t2) >>= _) _ _ _;have j2c:J2 n k3:=S2.ext (S2.ext (S2.ext j2 b1.extBut (Ne.symm n4) (Ne.symm m2.1)) b2.extBut n10 (Ne.symm m2.2.2.2.1)) b3.extBut n9 (Ne.symm m2.2.2.1);refine wpAny_bind (S2.nx n _ _ _ _ y j2c ey fun k4 j2d b4=>wpAny_pure ?_);have pO4:IsPair k4 to x b:=b4.extBut _ _ n9 pO3;refine wpAny_bind (wpAny_seqItems pO4 rfl ?_);refine wpAny_bind (wpAny_updateSeq_pair pO4 fun k5 pO5 b5=>?_);replace pO5:IsPair k5 to x y:=pO5;refine wpAny_bind (wpAny_letGo (wpAny_pure (wpAny_pure ?_)));refine wpAny_bind (wpAny_seqItems pO5 rfl ?_);refine wpAny_bind (wpAny_newTuple ?_);have sz:k5.objs.size=s.heap.objs.size:=by rw[b5.1,b4.1,b3.1,b2.1,b1.1]
 have Z5:IsZip k5 z ti to .ellipsis:=b5.extBut _ _ (Ne.symm n2) (b4.extBut _ _ (Ne.symm n4) (b3.extBut _ _ (Ne.symm n2) (b2.extBut _ _ (Ne.symm n3) Z1)));have kp5:∀c o,c≠z->c≠to->c≠t1->c≠t2->s.heap.get? c=some o->k5.get? c=some o:=fun c o c1 c2 c3 c4 e=>b5.extBut _ _ c2 (b4.extBut _ _ c4 (b3.extBut _ _ c2 (b2.extBut _ _ c3 (b1.extBut _ _ c1 e))));have j1e:J1 (n+1) k5:=S1.ext (S1.ext (S1.ext j1b b3.extBut n8 (Ne.symm m1.2.2.1)) b4.extBut (Ne.symm n10) (Ne.symm m1.2.2.2.2)) b5.extBut n8 (Ne.symm m1.2.2.1);have j2e:J2 (n+1) k5:=S2.ext j2d b5.extBut n9 (Ne.symm m2.2.2.1);have ltz:z<k5.objs.size:=Heap.lt_size Z5;show wpAny _ _ (Builtin.SmallTypes.ownedTupleHandOut (.ref z) (.ref k5.objs.size) >>= _) _ _ _;refine wpAny_bind ?_;unfold Builtin.SmallTypes.ownedTupleHandOut;have Z6:IsZip (k5.push {cls:= .type "tuple",data:= .seq #[x,y]}) z ti to .ellipsis:=Heap.get?_push_of_some _ Z5;refine wpAny_bind (wpAny_setField_rec Z6 (by simp) fun k7 Z7 b7=>?_);replace Z7:IsZip k7 z ti to (rawInt k5.objs.size):=Z7;refine wpAny_setField_rec Z7 (by simp) fun k8 Z8 b8=>?_;replace Z8:IsZip k8 z ti to (rawInt k5.objs.size):=Z8;have up:∀c o,c≠z->k5.get? c=some o->k8.get? c=some o:=fun c o c1 e=>b8.extBut _ _ c1 (b7.extBut _ _ c1 (Heap.get?_push_of_some _ e));have pT:IsPair k8 k5.objs.size x y:=b8.extBut _ _ (Nat.ne_of_gt ltz) (b7.extBut _ _ (Nat.ne_of_gt ltz) (Heap.get?_push_size _ rfl));have sz8:k8.objs.size=k5.objs.size+1:=by rw[b8.1,b7.1,Heap.size_push]
 rw[sz]at Z8 pT sz8;refine wpAny_pure ⟨_,rfl,?_⟩;show Q (.ref k5.objs.size) _;rw[sz];refine q k8 Z8 (up _ _ n2 pO5) (S1.fr _ _ _ j1e fun b hb o e=>up b o ?_ e) (S2.fr _ _ _ j2e fun b hb o e=>up b o ?_ e) pT sz8 fun c o c1 c2 c3 c4 e=>up c o c1 (kp5 c o c1 c2 c3 c4 e)
 . rcases hb with rfl|rfl
   . exact n3
   . exact m1.1
 . rcases hb with rfl|rfl
   . exact n4
   . exact m2.1
theorem HZ{A:Around}{s:Shared}{E:Value->Shared->Prop}{J1 J2:Nat->Heap->Prop}{us vs:Array Value}{n:Nat}{a b:Value}{Q:Fin->Shared->Prop}(hh:A.handled=none)(D:D6 z ti to t1 t2 a1 a2)(S1:Src P w t1 a1 J1 us)(S2:Src P w t2 a2 J2 vs)
 (Z:IsZip s.heap z ti to .none) (pI:IsPair s.heap ti (.ref t1) (.ref t2)) (pO:IsPair s.heap to a b) (j1:J1 n s.heap) (j2:J2 n s.heap) (he:us[n]?=none\/vs[n]?=none)
 (q:∀k e,(∀c o,c≠z->c≠to->c≠t1->c≠t2->s.heap.get? c=some o->k.get? c=some o)->(∃o,k.get? e=some o/\o.cls= .type "StopIteration")->E (.ref e) {s with heap:=k}):
 wpAny (model P w) A (Builtin.«zip.__next__» ⟨[.ref z],[]⟩) Q E s:=by
 obtain⟨⟨n1,n2,n3,n4⟩,⟨n5,n6,n7⟩,⟨n8,n9⟩,n10⟩:=D.n;have m1:=D.a1;have m2:=D.a2;simp only[List.mem_cons,not_or,List.not_mem_nil,not_false_eq_true,and_true]at m1 m2;show wpAny _ _ (field (.ref z) 2 >>= _) _ _ _;refine wpAny_bind (wpAny_field Z rfl (x:= .bool false) rfl ?_);show wpAny _ _ (field (.ref z) 3 >>= _) _ _ _;refine wpAny_bind (wpAny_field Z rfl (x:= .ref ti) rfl ?_);refine wpAny_bind (wpAny_seqItems pI rfl ?_);show wpAny _ _ (Builtin.SmallTypes.ownedTupleIsFree (.ref z) >>= _) _ _ _;refine wpAny_bind ?_;unfold Builtin.SmallTypes.ownedTupleIsFree;refine wpAny_bind (wpAny_field Z rfl (x:= .none) rfl (wpAny_pure ?_));simp only[if_true];refine wpAny_bind (wpAny_rule ?_);refine wpAny_bind (wpAny_field Z rfl (x:= .ref to) rfl ?_);refine wpAny_bind (wpAny_setField_rec Z (by simp) fun k1 Z1 b1=>?_);replace Z1:IsZip k1 z ti to .ellipsis:=Z1;refine wpAny_bind ?_;simp only[List.zipIdx_cons,List.zipIdx_nil,List.forIn_cons,List.forIn_nil];refine wpAny_bind (wpAny_bind (wpAny_onRaise ?_));show wpAny _ _ (Builtin.SmallTypes.nextOf (.ref t1) >>= _) _ _ _;have j1a:J1 n k1:=S1.ext j1 b1.extBut (Ne.symm n3) (Ne.symm m1.1);cases ex:us[n]? with
 |none=>
  refine wpAny_bind (S1.en n _ _ _ _ hh j1a ex fun k2 e b2 hx=>?_);obtain⟨oe,he1,he2⟩:=hx;have Z2:IsZip k2 z ti to .ellipsis:=b2 _ _ (Ne.symm n3) Z1;have hez:e≠z:=fun c=>by subst c;rw[Z2]at he1;cases he1;simp at he2
  refine wpAny_setField_rec Z2 (by simp) fun k3 _ b3=>q k3 e (fun c o c1 _ c3 _ f=>b3.extBut _ _ c1 (b2 _ _ c3 (b1.extBut _ _ c1 f))) ⟨oe,b3.extBut _ _ hez he1,he2⟩
 |some x=>
  have ey:vs[n]?=none:=by
   rcases he with h|h
   . rw[ex]at h;cases h
   . exact h
  refine wpAny_bind (S1.nx n _ _ _ _ x j1a ex fun k2 j1b b2=>wpAny_pure ?_);have pO2:IsPair k2 to a b:=b2.extBut _ _ n8 (b1.extBut _ _ n2 pO);refine wpAny_bind (wpAny_seqItems pO2 rfl ?_);refine wpAny_bind (wpAny_updateSeq_pair pO2 fun k3 pO3 b3=>?_);refine wpAny_bind (wpAny_letGo (wpAny_pure ?_));refine wpAny_bind (wpAny_bind (wpAny_onRaise ?_));show wpAny _ _ (Builtin.SmallTypes.nextOf (.ref t2) >>= _) _ _ _;have j2c:J2 n k3:=S2.ext (S2.ext (S2.ext j2 b1.extBut (Ne.symm n4) (Ne.symm m2.1)) b2.extBut n10 (Ne.symm m2.2.2.2.1)) b3.extBut n9 (Ne.symm m2.2.2.1);refine wpAny_bind (S2.en n _ _ _ _ hh j2c ey fun k4 e b4 hx=>?_);obtain⟨oe,he1,he2⟩:=hx;have Z4:IsZip k4 z ti to .ellipsis:=b4 _ _ (Ne.symm n4) (b3.extBut _ _ (Ne.symm n2) (b2.extBut _ _ (Ne.symm n3) Z1));have hez:e≠z:=fun c=>by subst c;rw[Z4]at he1;cases he1;simp at he2
  refine wpAny_setField_rec Z4 (by simp) fun k5 _ b5=>q k5 e (fun c o c1 c2 c3 c4 f=>b5.extBut _ _ c1 (b4 _ _ c4 (b3.extBut _ _ c2 (b2.extBut _ _ c3 (b1.extBut _ _ c1 f))))) ⟨oe,b5.extBut _ _ hez he1,he2⟩
end
end
theorem JK{X:Cx}{pins:List (Addr×Obj)}{σ:L2.St}{H:Hp}{s:Shared}{g:Heap}{tk:Nat}{fp:List Addr}{T:Addr}{xs:List V}(I:Inv X pins σ H s)(hf:∀b∈fp,m4 X pins H b)
 (k:∀b o,b∉fp->s.heap.get? b=some o->g.get? b=some o) (hT:s.heap.objs.size<=T) (new:dY X.prog X.w (upd H T (.tup xs)) g T (.tup xs)):Inv X pins σ (upd H T (.tup xs)) {s with heap:=g,toks:=tk}:=by
 have hn:H T=none:=I.aP.fresh hT;have nfp:∀b u,H b=some u->b∉fp:=fun b u e z=>by rw[(hf b z).1]at e;cases e
 have nT:∀b u,H b=some u->b≠T:=fun b u e=>d3 e hn
 refine I.step (g':=s.gens) (d':=s.drawn) (ch:=fp) (fun b hb=>?_) (fun b o _ _ hc e _=>k b o hc e) (fun b o _ _ hc e _=>⟨o.slots,k b o hc e⟩) (fun b o _ e n=>?_) (fun b o hc e=>⟨o,k b o hc e⟩)
  (fun b ys e=>by rw[aH (nT b _ e)];exact e) (fun b o u e=>by rw[aH (nT b _ e)];exact e) (fun b ps e=>⟨#[],by rw[aH (nT b _ e),e];simp⟩) (fun m hm=>?_) (fun b u e=>?_) I.bare
 . obtain⟨f0,f1,f2,f3,f4,f5⟩:=hf b hb;exact⟨f3,f1,f4,f5⟩
 . rw[aH (Nat.ne_of_lt (Nat.lt_of_lt_of_le (Heap.lt_size e) hT))];exact n
 . obtain⟨o,es,ep,ho,r⟩:=hm;exact⟨o,es,ep,k _ o (fun z=>(hf _ z).2.1 rfl) ho,r⟩
 . by_cases hb:b=T
   . subst hb;rw[a9]at e;cases e;exact new
   . rw[aH hb]at e;refine(I.aP b u e).mW (fun c v hc q=>k c v ?_ q) (fun c q=>by rw[aH (nT c _ q)];exact q) fun c ys q=>by rw[aH (nT c _ q)];exact q
     rcases hc with z|z
     . rw[z];exact nfp b u e
     . exact nfp c _ z
theorem Jv{X:Cx}{pins:List (Addr×Obj)}{σ:L2.St}{H:Hp}{s:Shared}{g:Heap}{tk:Nat}{fp:List Addr}(I:Inv X pins σ H s)(hf:∀b∈fp,m4 X pins H b)
 (k:∀b o,b∉fp->s.heap.get? b=some o->g.get? b=some o):Inv X pins σ H {s with heap:=g,toks:=tk}:=by
 have nfp:∀b u,H b=some u->b∉fp:=fun b u e z=>by rw[(hf b z).1]at e;cases e
 refine I.step (g':=s.gens) (d':=s.drawn) (ch:=fp) (fun b hb=>?_) (fun b o _ _ hc e _=>k b o hc e) (fun b o _ _ hc e _=>⟨o.slots,k b o hc e⟩) (fun b o _ e n=>n) (fun b o hc e=>⟨o,k b o hc e⟩)
  (fun b ys e=>e) (fun b o u e=>e) (fun b ps e=>⟨#[],by rw[e];simp⟩) (fun m hm=>?_) (fun b u e=>?_) I.bare
 . obtain⟨f0,f1,f2,f3,f4,f5⟩:=hf b hb;exact⟨f3,f1,f4,f5⟩
 . obtain⟨o,es,ep,ho,r⟩:=hm;exact⟨o,es,ep,k _ o (fun z=>(hf _ z).2.1 rfl) ho,r⟩
 . refine(I.aP b u e).mW (fun c v hc q=>k c v ?_ q) (fun c q=>q) fun c ys q=>q;rcases hc with z|z
   . rw[z];exact nfp b u e
   . exact nfp c _ z
inductive SK where
 |l|t
def rL(k:SK)(K:PySem.W.Frag)(H:Hp)(a:Addr)(xs:List V):Prop:=match k with
 | .l=>nN K H a xs
 | .t=>jA K H a xs
def tX(k:SK)(t a:Addr)(n:Nat)(g:Heap):Prop:=match k with
 | .l=>g.IsListIter t a n
 | .t=>g.IsTupleIter t a n
def nV(k:SK)(g:Heap)(a:Addr)(us:Array Value):Prop:=match k with
 | .l=>g.IsList a us
 | .t=>g.IsTuple a us
def A5(k:SK)(a:Addr):Obj:=match k with
 | .l=>{cls:= .type "list_iterator",data:= .fields #[.ref a,.int 0 0]}
 | .t=>{cls:= .type "tuple_iterator",data:= .fields #[.ref a,.int 0 0]}
theorem oS{P:Program}{w:World}(k:SK)(t a:Addr)(hne:a≠t)(us:Array Value):Src P w t a (fun n g=>tX k t a n g/\nV k g a us) us:=by
 cases k
 . exact src_list t a hne us
 . exact Lq t a hne us
theorem mn{X:Cx}{pins:List (Addr×Obj)}{σ:L2.St}{H:Hp}{s:Shared}{k:SK}{a:Addr}{xs:List V}(I:Inv X pins σ H s)(h:rL k X.K H a xs):∃aw:List Value,Vals xs aw/\nV k s.heap a aw.toArray:=by
 cases k
 . obtain⟨aw,rv,p,_⟩:=I.list h;exact⟨aw,rv,p.isList⟩
 . obtain⟨aw,rv,p,_⟩:=I.tuple h;exact⟨aw,rv,p⟩
theorem yL{X:Cx}{pins:List (Addr×Obj)}{σ:L2.St}{H:Hp}{s:Shared}{k:SK}{a:Addr}{xs ys:List V}(I:Inv X pins σ H s)(h:rL k X.K H a xs)(h':rL k X.K H a ys):xs=ys:=by
 cases k
 . exact I.Ck h h'
 . exact I.zu h h'
theorem FE{P:Program}{w:World}{A:Around}{s:Shared}{E:Value->Shared->Prop}{k:SK}{a:Addr}{us:Array Value}{Q:Value->Shared->Prop}(h:nV k s.heap a us)(q:Q (.ref s.heap.objs.size) {s with heap:=s.heap.push (A5 k a)}):wpAny (model P w) A (pyIter (.ref a)) Q E s:=by
 cases k
 . exact wpAny_pyIter_list h q
 . exact wpAny_pyIter_tuple h q
theorem nV.push{k:SK}{g:Heap}{a:Addr}{us:Array Value}(h:nV k g a us)(o:Obj):nV k (g.push o) a us:=by
 cases k
 . obtain⟨o',e,r⟩:=h;exact⟨o',Heap.get?_push_of_some _ e,r⟩
 . obtain⟨o',e,r⟩:=h;exact⟨o',Heap.get?_push_of_some _ e,r⟩
theorem nV.some{k:SK}{g:Heap}{a:Addr}{us:Array Value}(h:nV k g a us):∃o,g.get? a=Option.some o:=by
 cases k
 . obtain⟨o',e,r⟩:=h;exact⟨o',e⟩
 . obtain⟨o',e,r⟩:=h;exact⟨o',e⟩
theorem D1{k:SK}{g h:Heap}{t a:Addr}(e:g.get? t=Option.some (A5 k a)):tX k t a 0 g:=by
 cases k
 . exact⟨_,e,rfl,rfl⟩
 . exact⟨_,e,rfl,rfl⟩
theorem rR{k:SK}{t a:Addr}{n:Nat}{g g':Heap}(h:tX k t a n g)(kp:∀o,g.get? t=Option.some o->g'.get? t=Option.some o):tX k t a n g':=by
 cases k
 . obtain⟨o,e,r⟩:=h;exact⟨o,kp o e,r⟩
 . obtain⟨o,e,r⟩:=h;exact⟨o,kp o e,r⟩
theorem o4{k:SK}{t a:Addr}{n:Nat}{g:Heap}(h:tX k t a n g):∃o,g.get? t=Option.some o/\∀v,o.data≠ .cell v:=by
 cases k
 . obtain⟨o,e,c,d⟩:=h;exact⟨o,e,fun v z=>by rw[d]at z;cases z⟩
 . obtain⟨o,e,c,d⟩:=h;exact⟨o,e,fun v z=>by rw[d]at z;cases z⟩
def QR(K:PySem.W.Frag)(k1 k2:SK)(a1 a2:Addr):It:=
 ⟨fun i H=>∃xs ys x y,rL k1 K H a1 xs/\rL k2 K H a2 ys/\xs[i]?=some x/\ys[i]?=some y,
  fun i H v H'=>∃T x y,H T=none/\v= .ref T/\H'=upd H T (.tup [x,y])/\(∀xs,rL k1 K H a1 xs->xs[i]?=some x)/\∀ys,rL k2 K H a2 ys->ys[i]?=some y,
  fun i H=>∃xs ys,rL k1 K H a1 xs/\rL k2 K H a2 ys/\(xs.length<=i\/ys.length<=i)⟩
def QG(z ti to t1 t2 a1 a2:Addr)(k1 k2:SK)(i:Nat)(h:Heap):Prop:=IsZip h z ti to .none/\IsPair h ti (.ref t1) (.ref t2)/\(∃a b,IsPair h to a b)/\tX k1 t1 a1 i h/\tX k2 t2 a2 i h
theorem HQ{P:Program}{w:World}{K:PySem.W.Frag}{elts:List Expr}{kx:Nat}{pos:Pos}{z ti to t1 t2 a1 a2:Addr}(k1 k2:SK)(D:D6 z ti to t1 t2 a1 a2):
 Turn P w K (.Tuple elts kx pos) (QR K k1 k2 a1 a2) [z,ti,to,t1,t2] z (QG z ti to t1 t2 a1 a2 k1 k2) where
 mem:=by simp
 obj:=fun i h st b hb=>by
  obtain⟨Z,pI,⟨a,b',pO⟩,i1,i2⟩:=st;simp only[List.mem_cons,List.not_mem_nil,or_false]at hb;rcases hb with rfl|rfl|rfl|rfl|rfl
  . exact⟨_,Z,fun v e=>by cases e⟩
  . exact⟨_,pI,fun v e=>by cases e⟩
  . exact⟨_,pO,fun v e=>by cases e⟩
  . exact o4 i1
  . exact o4 i2
 keep:=fun i h h' st k=>by
  obtain⟨Z,pI,⟨a,b',pO⟩,i1,i2⟩:=st;exact⟨k z (by simp) _ Z,k ti (by simp) _ pI,⟨a,b',k to (by simp) _ pO⟩,rR i1 (k t1 (by simp)),rR i2 (k t2 (by simp))⟩
 item:=by
  intro X hP hw hK hc i pins s σ H E I hf st hg;subst hP hw hK;obtain⟨Z,pI,⟨a,b',pO⟩,i1,i2⟩:=st;obtain⟨xs,ys,x,y,q1,q2,ex,ey⟩:=hg;obtain⟨us,r1,l1⟩:=mn I q1;obtain⟨vs,r2,l2⟩:=mn I q2;obtain⟨u,eu,ru⟩:=r1.get ex;obtain⟨v,ev,rv⟩:=r2.get ey;have m1:=D.a1;have m2:=D.a2;simp only[List.mem_cons,not_or,List.not_mem_nil,not_false_eq_true,and_true]at m1 m2;obtain⟨⟨n1,n2,n3,n4⟩,⟨n5,n6,n7⟩,⟨n8,n9⟩,n10⟩:=D.n;have tz:s.TypeIs (.ref z) "zip":=⟨_,Z,rfl⟩
  unfold pyNext;refine wpAny_bind (wpAny_attempt (wpAny_callSpecial?_slot (name:=Str.ofString "__next__") tz F.slot_zip_next (wpAny_call_entry F.slot_zip_next tz F.entry_zip_next (Hw D (oS k1 t1 a1 m1.2.2.2.1 us.toArray) (oS k2 t2 a2 m2.2.2.2.2 vs.toArray) Z pI pO ⟨i1,l1⟩ ⟨i2,l2⟩ (x:=u) (y:=v) (by simpa using eu) (by simpa using ev) fun k Z2 pO2 j1 j2 pT szk kp=>wpAny_pure ⟨_,rfl,?_⟩) (F.args_zip_next_1 _))));refine wpAny_letOwnedTupleGo_zip (s:={s with heap:=k}) Z2 fun k' Z3 b3=>?_;have hT:s.heap.objs.size≠z:=Nat.ne_of_gt (Heap.lt_size Z)
  have kp3:∀b o,b∉[z,ti,to,t1,t2]->s.heap.get? b=some o->k'.get? b=some o:=fun b o hb e=>by
   simp only[List.mem_cons,not_or,List.not_mem_nil,not_false_eq_true,and_true]at hb;exact b3.extBut _ _ hb.1 (kp b o hb.1 hb.2.2.1 hb.2.2.2.1 hb.2.2.2.2 e)
  refine⟨.ref s.heap.objs.size,upd H s.heap.objs.size (.tup [x,y]),JK (s:=s) (tk:=s.toks) I hf kp3 (Nat.le_refl _) ?_,rfl,⟨s.heap.objs.size,x,y,I.aP.fresh (Nat.le_refl _),rfl,rfl,?_,?_⟩,?_,?_⟩
  . refine⟨Nat.le_of_ble_eq_true rfl,[u,v],.cons ru (.cons rv .nil),?_⟩;exact⟨_,b3.extBut _ _ hT pT,rfl,_,rfl⟩
  . intro xs' q';rw[yL I q' q1];exact ex
  . intro ys' q';rw[yL I q' q2];exact ey
  . refine⟨Z3,b3.extBut _ _ n1 (kp _ _ n1 n5 n6 n7 pI),⟨_,_,b3.extBut _ _ n2 pO2⟩,rR j1.1 fun o e=>b3.extBut _ _ n3 e,rR j2.1 fun o e=>b3.extBut _ _ n4 e⟩
  . intro b hb
    have:b≠s.heap.objs.size:=by
     obtain⟨o,e,_⟩:∃o,s.heap.get? b=some o/\True:=by
      simp only[List.mem_cons,List.not_mem_nil,or_false]at hb;rcases hb with rfl|rfl|rfl|rfl|rfl
      . exact⟨_,Z,trivial⟩
      . exact⟨_,pI,trivial⟩
      . exact⟨_,pO,trivial⟩
      . obtain⟨o,e,_⟩:=o4 i1;exact⟨o,e,trivial⟩
      . obtain⟨o,e,_⟩:=o4 i2;exact⟨o,e,trivial⟩
     exact Nat.ne_of_lt (Heap.lt_size e)
    rw[aH this];exact(hf b hb).1
 done:=by
  intro X hP hw hK hc i pins s σ H E I hf st hg;subst hP hw hK;obtain⟨Z,pI,⟨a,b',pO⟩,i1,i2⟩:=st;obtain⟨xs,ys,q1,q2,he⟩:=hg;obtain⟨us,r1,l1⟩:=mn I q1;obtain⟨vs,r2,l2⟩:=mn I q2;have e1:=r1.length;have e2:=r2.length;have m1:=D.a1;have m2:=D.a2;simp only[List.mem_cons,not_or,List.not_mem_nil,not_false_eq_true,and_true]at m1 m2;have tz:s.TypeIs (.ref z) "zip":=⟨_,Z,rfl⟩
  unfold pyNext;refine wpAny_bind (wpAny_attempt (wpAny_callSpecial?_slot (name:=Str.ofString "__next__") tz F.slot_zip_next (wpAny_call_entry F.slot_zip_next tz F.entry_zip_next (HZ (I.ok.hd hc) D (oS k1 t1 a1 m1.2.2.2.1 us.toArray) (oS k2 t2 a2 m2.2.2.2.2 vs.toArray) Z pI pO ⟨i1,l1⟩ ⟨i2,l2⟩ ?_ fun k e kp hx=>?_) (F.args_zip_next_1 _))))
  . rcases he with h|h
    . left;simp;omega
    . right;simp;omega
  . obtain⟨o,ho,hc2⟩:=hx;refine wpAny_bind (wpAny_isInstance (T:="StopIteration") (b:=true) ⟨o,ho,hc2⟩ isSubtype_stop ?_);refine wpAny_pure ⟨rfl,Jv (s:=s) (tk:=s.toks) I hf fun b o hb e=>?_⟩;simp only[List.mem_cons,not_or,List.not_mem_nil,not_false_eq_true,and_true]at hb;exact kp b o hb.1 hb.2.2.1 hb.2.2.2.1 hb.2.2.2.2 e
 self:=fun _ _ _ _ _ st h=>wpAny_pyIter_zip st.1 h
abbrev Ke(h:Heap)(k1:SK)(a1:Addr):Heap:=h.push (A5 k1 a1)
abbrev JM(h:Heap)(k1 k2:SK)(a1 a2:Addr):Heap:=(Ke h k1 a1).push (A5 k2 a2)
abbrev Jt(h:Heap)(k1 k2:SK)(a1 a2:Addr):Heap:=(JM h k1 k2 a1 a2).push {cls:= .type "tuple",data:= .seq #[.ref h.objs.size,.ref (Ke h k1 a1).objs.size]}
abbrev JD(h:Heap)(k1 k2:SK)(a1 a2:Addr):Heap:=(Jt h k1 k2 a1 a2).push {cls:= .type "tuple",data:= .seq #[.none,.none]}
abbrev DC(h:Heap)(k1 k2:SK)(a1 a2:Addr):Heap:=(JD h k1 k2 a1 a2).push {cls:= .type "zip",data:= .fields #[.none,.bool false,.bool false,.ref (JM h k1 k2 a1 a2).objs.size,.ref (Jt h k1 k2 a1 a2).objs.size]}
theorem Gv(k1 k2:SK)(a1 a2:Addr)(us vs:Array Value):Meets (Builtin.«zip.__new__» ⟨[.type "zip",.ref a1,.ref a2],[]⟩) (fun _ R s=>nV k1 s.heap a1 us/\nV k2 s.heap a2 vs/\
 R (.ok (.ret (.ref (JD s.heap k1 k2 a1 a2).objs.size))) {s with heap:=DC s.heap k1 k2 a1 a2}):=
 .of_wp fun P w A R s h=>by
  obtain⟨hp,g,d,tk,os⟩:=s;obtain⟨c1,c2,h⟩:=h;have hsub:=sub_zip;have L1:nV k1 (Shared.heap ⟨hp,g,d,tk,os⟩) a1 us:=c1;have L2:nV k2 (Shared.heap ⟨hp.push (A5 k1 a1),g,d,tk,os⟩) a2 vs:=nV.push c2 _
  wp_walk using FE L1,FE L2
  exact⟨_,rfl,h⟩
theorem Il{P:Program}{w:World}{A:Around}{s:Shared}{E:Value->Shared->Prop}{k1 k2:SK}{a1 a2:Addr}{us vs:Array Value}{Q:Value->Shared->Prop}(c1:nV k1 s.heap a1 us)(c2:nV k2 s.heap a2 vs)
 (q:∀g n,n=s.heap.objs.size->IsZip g (n+4) (n+2) (n+3) .none->IsPair g (n+2) (.ref n) (.ref (n+1))->IsPair g (n+3) .none .none->tX k1 n a1 0 g->tX k2 (n+1) a2 0 g->(∀c o,s.heap.get? c=some o->g.get? c=some o)->Q (.ref (n+4)) {s with heap:=g}):
 wpAny (model P w) A (call (.type "zip") [.ref a1,.ref a2]) Q E s:=by
 refine callType_new F.called_zip (by decide) (F.typeCall_zip_2 _ _) (F.newCall_zip_2 _ _) (fun ob=>F.args_object_init_3 ob _ _) F.entry_zip_new (Gv k1 k2 a1 a2 us vs) ⟨c1,c2,?_⟩;have y1:(Ke s.heap k1 a1).objs.size=s.heap.objs.size+1:=Heap.size_push ..;have y2:(JM s.heap k1 k2 a1 a2).objs.size=s.heap.objs.size+2:=by rw[Heap.size_push,y1]
 have y3:(Jt s.heap k1 k2 a1 a2).objs.size=s.heap.objs.size+3:=by rw[Heap.size_push,y2]
 have y4:(JD s.heap k1 k2 a1 a2).objs.size=s.heap.objs.size+4:=by rw[Heap.size_push,y3]
 have e5:(DC s.heap k1 k2 a1 a2).get? (JD s.heap k1 k2 a1 a2).objs.size=some _:=Heap.get?_push_size _ rfl;have e4:(DC s.heap k1 k2 a1 a2).get? (Jt s.heap k1 k2 a1 a2).objs.size=some _:=Heap.get?_push_of_some _ (Heap.get?_push_size _ rfl);have e3:(DC s.heap k1 k2 a1 a2).get? (JM s.heap k1 k2 a1 a2).objs.size=some _:=Heap.get?_push_of_some _ (Heap.get?_push_of_some _ (Heap.get?_push_size _ rfl));have e2:(DC s.heap k1 k2 a1 a2).get? (Ke s.heap k1 a1).objs.size=some (A5 k2 a2):=Heap.get?_push_of_some _ (Heap.get?_push_of_some _ (Heap.get?_push_of_some _ (Heap.get?_push_size _ (by cases k2<;>rfl))));have e1:(DC s.heap k1 k2 a1 a2).get? s.heap.objs.size=some (A5 k1 a1):=Heap.get?_push_of_some _ (Heap.get?_push_of_some _ (Heap.get?_push_of_some _ (Heap.get?_push_of_some _ (Heap.get?_push_size _ (by cases k1<;>rfl)))));show _/\_;rw[y2,y3,y4]at e5;rw[y1,y2]at e3;rw[y3]at e4;rw[y1]at e2;rw[y4];exact⟨⟨_,e5,rfl⟩,q _ _ rfl e5 e3 e4 (D1 (h:=s.heap) e1) (D1 (h:=s.heap) e2) fun c o x=>Heap.get?_push_of_some _ (Heap.get?_push_of_some _ (Heap.get?_push_of_some _ (Heap.get?_push_of_some _ (Heap.get?_push_of_some _ x))))⟩
def Kt:D->SK
 | .tup _=> .t
 |_=> .l
def Hn(k:SK)(G:Hp)(a:Addr)(vs:List V):Prop:=match k with
 | .l=>Rd G a (.lst vs)
 | .t=>G a=some (.tup vs)
theorem kE{K:PySem.W.Frag}{k:SK}{G F H:Hp}(P:cL G F H){a:Addr}{vs:List V}(h:Hn k G a vs):rL k K H a vs:=by
 cases k
 . exact .inl (iJ P h)
 . exact jA.of (P.get h)
theorem o9{α:List (Option Addr)}{H:Hp}{st:ag}{d:D}{v:V}{xs:List D}(S:a7 α st H)(r:Rep α H d v)(e:items? st d=some xs):∃p vs,v= .ref p/\aT α H xs vs/\Hn (Kt d) H p vs:=by
 cases d<;>try(cases e;done)
 . unfold items? at e;simp only at e;split at e
   . rename_i ys q;cases e;obtain⟨a,ea,vs,h1,h2⟩:=S.g0 q;exact⟨a,vs,eF ea r,h2,Rd.of h1⟩
   . cases e
 . cases e;unfold Rep at r;obtain⟨a,vs,rfl,_,h1,h2⟩:=r;exact⟨a,vs,rfl,h2,h1⟩
 . cases e;unfold Rep at r;obtain⟨a,vs,rfl,_,h1,h2⟩:=r;exact⟨a,vs,rfl,h2,h1⟩
def fW(xs ys:List D):List D:=(xs.zip ys).map fun p=> .tup [p.1,p.2]
theorem mN{xs ys:List D}:(fW xs ys).length=min xs.length ys.length:=by unfold fW;simp
theorem wN{xs ys:List D}{n:Nat}{d:D}(e:(fW xs ys)[n]?=some d):∃x y,xs[n]?=some x/\ys[n]?=some y/\d= .tup [x,y]:=by
 unfold fW at e;rw[List.getElem?_map]at e;cases q:(xs.zip ys)[n]? with
 |none=>rw[q]at e;cases e
 |some p=>
  rw[q]at e;cases e;rw[List.getElem?_zip_eq_some]at q;exact⟨p.1,p.2,q.1,q.2,rfl⟩
theorem Ov{K:PySem.W.Frag}{k1 k2:SK}{a1 a2:Addr}{α:List (Option Addr)}{G:Hp}{ok:ag->Prop}{xs ys:List D}
 (h:∀α' G' st',Step α G α' G'->a7 α' st' G'->ok st'->∃vs ws,Hn k1 G' a1 vs/\Hn k2 G' a2 ws/\aT α' G' xs vs/\aT α' G' ys ws):wZ (QR K k1 k2 a1 a2) α G ok (fW xs ys) where
 stop:=fun n α' G' F' H' st' s P S o hn=>by
  obtain⟨vs,ws,h1,h2,r1,r2⟩:=h α' G' st' s S o;rw[mN]at hn;refine⟨vs,ws,kE P h1,kE P h2,?_⟩;have:=r1.length;have:=r2.length;omega
 go:=fun n d α' G' F' H' st' s P S o hn=>by
  obtain⟨vs,ws,h1,h2,r1,r2⟩:=h α' G' st' s S o;obtain⟨x,y,ex,ey,rfl⟩:=wN hn;obtain⟨v,ev,_⟩:=r1.get ex;obtain⟨u,eu,_⟩:=r2.get ey;exact⟨vs,ws,v,u,kE P h1,kE P h2,ev,eu⟩
 qx:=fun n d α' G' F' H' st' x H'' s P S o hn y=>by
  obtain⟨vs,ws,h1,h2,r1,r2⟩:=h α' G' st' s S o;obtain⟨c,e,ec,ee,rfl⟩:=wN hn;obtain⟨T,v,u,hT,rfl,rfl,y1,y2⟩:=y;obtain⟨v',ev,rv⟩:=r1.get ec;obtain⟨u',eu,ru⟩:=r2.get ee;rw[y1 vs (kE P h1)]at ev;rw[y2 ws (kE P h2)]at eu;cases ev;cases eu;have hg:=(P.none hT).1;refine⟨upd G' T (.tup [v,u]),Step.laid hg,P.laid hT,S.laid hg,?_⟩;unfold Rep;refine⟨T,[v,u],rfl,S.mh hg,a9,?_⟩;unfold aT;refine⟨v,[u],rfl,rv.step (Step.laid hg),?_⟩;unfold aT;exact⟨u,[],rfl,ru.step (Step.laid hg),by unfold aT;rfl⟩
def HP(ds:List D)(st1:ag)(K:List D->(ag->Prop)->ag->Prop):Prop:=match ds with
 | [x,y]=>(match items? st1 x,items? st1 y with
   |some xs,some ys=>K (fW xs ys) (fun st'=>items? st' x=some xs/\items? st' y=some ys) st1
   |_,_=>False)
 |_=>False
@[irreducible] def xo:List D->ag->(List D->(ag->Prop)->ag->Prop)->Prop:=HP
def qY(t:DA):DI:=fun σ st K=>t σ st fun ds st1=>xo ds st1 K
theorem KG{n a1 a2:Nat}(h1:a1<n)(h2:a2<n):D6 (n+4) (n+2) (n+3) n (n+1) a1 a2:=by
 have e0:([n+4,n+2,n+3,n,n+1]:List Nat).Nodup:=by
  simp only[List.nodup_cons,List.mem_cons,not_or,List.not_mem_nil,not_false_eq_true,and_true,List.nodup_nil];omega
 have e1:∀a:Nat,a<n->a∉([n+4,n+2,n+3,n,n+1]:List Nat):=fun a ha=>by
  simp only[List.mem_cons,not_or,List.not_mem_nil,not_false_eq_true,and_true];omega
 exact⟨e0,e1 a1 h1,e1 a2 h2⟩
theorem M5{X:Cx}{a b:Expr}{elts:List Expr}{kx:Nat}{tpos p pos:Pos}{t:DA}(hg:Gl X "zip")(hm:X.mg "zip"=none)(ha:PA X [a,b] (LA t))(hs:starEach [a,b] X.env=[(false,eval a X.env),(false,eval b X.env)])(hs2:starEach [b] X.env=[(false,eval b X.env)]):
 PI X (.Tuple elts kx tpos) (.Call (.Name "zip" p) [a,b] [] pos) (LI (qY t)):=by
 intro pins s σ H R I h;obtain⟨α,σd,st,K,G,F,P,RS,S,t,k⟩:=h;refine Call_ (md I hg hm boot_zip (PyProof.Rows.callWith_type1 (cp (ha pos pins s σ H (fun vs H1=>∃ds α1 G1 st1,Step α G α1 G1/\cL G1 F H1/\a7 α1 st1 G1/\aT α1 G1 ds vs/\xo ds st1 K) I ⟨α,σd,st,_,G,F,P,RS,S,t,fun ds st1 q α1 G1 H1 vs s1 P1 S1 r1=>⟨ds,α1,G1,st1,s1,P1,S1,r1,q⟩⟩) fun us s1 ⟨vs,H1,I1,rv,ds,α1,G1,st1,w1,P1,S1,r1,q⟩=>?_) (by rw[hs,hs2]) (by rw[hs2];rfl)));unfold xo HP at q;split at q
 . rename_i x y;split at q
   . rename_i xs ys ex ey;obtain⟨v1,v2,rfl,q1,q2⟩:=oM r1 rfl;obtain⟨p1,vs1,rfl,g1,c1⟩:=o9 S1 q1 ex;obtain⟨p2,vs2,rfl,g2,c2⟩:=o9 S1 q2 ey;obtain⟨u1,u2,rfl,ru1,ru2⟩:=vals2 rv;cases ru1;cases ru2;obtain⟨its1,_,l1⟩:=mn I1 (kE P1 c1);obtain⟨its2,_,l2⟩:=mn I1 (kE P1 c2);refine Il l1 l2 fun g n hn Z pI pO i1 i2 kp=>?_;obtain⟨o1,eo1⟩:=l1.some;obtain⟨o2,eo2⟩:=l2.some;refine wpAny_pyIter_zip (s:={s1 with heap:=g}) Z ?_;refine⟨n+4,[n+4,n+2,n+3,n,n+1],_,_,H1,rfl,I1.kept (t':=s1.toks) kp,HQ (Kt x) (Kt y) (KG (by rw[hn];exact Heap.lt_size eo1) (by rw[hn];exact Heap.lt_size eo2)),⟨Z,pI,⟨_,_,pO⟩,i1,i2⟩,fun b hb=>?_,?_⟩
     . have hb':s1.heap.objs.size<=b:=by
        simp only[List.mem_cons,List.not_mem_nil,or_false]at hb;rcases hb with rfl|rfl|rfl|rfl|rfl<;>(rw[<-hn];first|exact Nat.le_refl _|exact Nat.le_add_right _ _)
       exact I1.wI hb' (I1.aP.fresh hb')
     . refine k _ _ st1 q _ α1 G1 H1 w1 P1 S1 (Ov fun α' G' st' s' S' o=>?_);obtain⟨p1',ws1,e1,f1,d1⟩:=o9 S' (q1.step s') o.1;obtain⟨p2',ws2,e2,f2,d2⟩:=o9 S' (q2.step s') o.2;cases e1;cases e2;exact⟨ws1,ws2,d1,d2,f1,f2⟩
   . exact q.elim
 . exact q.elim
theorem nO{st:ag}{x y:D}{xs ys:List D}{K:List D->(ag->Prop)->ag->Prop}(ex:items? st x=some xs)(ey:items? st y=some ys)(k:∀ok:ag->Prop,(∀st',items? st' x=some xs->items? st' y=some ys->ok st')->K (fW xs ys) ok st):xo [x,y] st K:=by
 unfold xo HP;simp only[ex,ey];exact k _ fun st' h1 h2=>⟨h1,h2⟩
theorem qf{X:Cx}{a b:Expr}{elts:List Expr}{kx:Nat}{tpos p pos:Pos}{ar:DA}(hg:Gl X "zip")(hm:X.mg "zip"=none)(ha:JA X [a,b] ar)(hs:notStar a=true:=by rfl)(hs2:notStar b=true:=by rfl):JI X (.Tuple elts kx tpos) (.Call (.Name "zip" p) [a,b] [] pos) (qY ar):=by
 unfold JI;unfold JA at ha;exact M5 hg hm ha (by rw[cD hs,cD hs2];rfl) (cD hs2)
section
variable {X:Cx}
end
section
variable {X:Cx}{pos:Pos}
theorem Qp{α:List (Option Addr)}{H:Hp}{ds:List D}{xs:List V}{d e f:D}(r:aT α H ds xs)(q:ds=[d,e,f]):∃v u t,xs=[v,u,t]/\Rep α H d v/\Rep α H e u/\Rep α H f t:=by
 subst q;unfold aT at r;obtain⟨v,q,rfl,h1,h2⟩:=r;obtain⟨u,t,rfl,h3,h4⟩:=oM h2 rfl;exact⟨v,u,t,rfl,h1,h3,h4⟩
end
end L3
namespace L3
open PySem L2 PySem.SeqAt
open PySem.Spec hiding items?
open PyProof.Rows hiding St
section
variable {X:Cx}{pins:List (Addr×Obj)}{σ:L2.St}{H:Hp}{s:Shared}{α:List (Option Addr)}
theorem Dy{A:Around}{d e:D}{x y:V}{u v:Value}(hd:zM d=true)(he:zM e=true)(rd:Rep α H d x)(re:Rep α H e y)(rx:RelV x u)(ry:RelV y v):RcNeAt A s u v (!c9 d e):=by
 cases d<;>cases e<;>try(first|(cases hd;done)|(cases he;done))
 all_goals(unfold Rep at rd re;subst rd re)
 all_goals(first|(obtain⟨t,rfl⟩:=rx;obtain⟨t',rfl⟩:=ry)|(obtain⟨t,rfl⟩:=rx;cases ry)|(cases rx;obtain⟨t,rfl⟩:=ry)|(cases rx;cases ry))
 all_goals unfold c9
 . exact RcNeAt.none_none
 . exact RcNeAt.none_bool _
 . exact RcNeAt.none_int _ _
 . exact RcNeAt.none_str _ _
 . exact RcNeAt.bool_none _
 . exact RcNeAt.bool_bool _ _
 . exact RcNeAt.bool_int _ _ _
 . exact RcNeAt.bool_str _ _ _
 . exact RcNeAt.int_none _ _
 . exact RcNeAt.int_bool _ _ _
 . exact RcNeAt.int_int _ _ _ _
 . exact RcNeAt.int_str _ _ _ _
 . exact RcNeAt.str_none _ _
 . exact RcNeAt.str_bool _ _ _
 . exact RcNeAt.str_int _ _ _ _
 . exact RcNeAt.str_str _ _ _ _
theorem zW(I:Inv X pins σ H s){A:Around}{xs:List D}{e:D}{x y:V}{u v:Value}(he:zM e=true)(rd:Rep α H (.lst xs) x)(re:Rep α H e y)(rx:RelV x u)(ry:RelV y v)(hu:A.units<cLine):
 RcNeAt A s u v (!c9 (.lst xs) e)/\RcNeAt A s v u (!c9 e (.lst xs)):=by
 obtain⟨a,vs,aw,rfl,_,_,hl⟩:=lst_is I rd rx;cases e<;>try(cases he;done)
 all_goals(unfold Rep at re;subst re)
 all_goals(first|(obtain⟨t,rfl⟩:=ry)|(cases ry))
 all_goals unfold c9
 . exact⟨RcNeAt.list_none hl hu,RcNeAt.none_list hl hu⟩
 . exact⟨RcNeAt.list_bool _ hl hu,RcNeAt.bool_list _ hl hu⟩
 . exact⟨RcNeAt.list_int _ _ hl hu,RcNeAt.int_list _ _ hl hu⟩
 . exact⟨RcNeAt.list_str _ _ hl hu,RcNeAt.str_list _ _ hl hu⟩
theorem zx(I:Inv X pins σ H s){A:Around}{xs:List D}{e:D}{x y:V}{u v:Value}(he:zM e=true)(rd:Rep α H (.tup xs) x)(re:Rep α H e y)(rx:RelV x u)(ry:RelV y v)(hu:A.units<cLine):
 RcNeAt A s u v (!c9 (.tup xs) e)/\RcNeAt A s v u (!c9 e (.tup xs)):=by
 obtain⟨a,vs,aw,rfl,_,_,hl⟩:=tup_is I rd rx;cases e<;>try(cases he;done)
 all_goals(unfold Rep at re;subst re)
 all_goals(first|(obtain⟨t,rfl⟩:=ry)|(cases ry))
 all_goals unfold c9
 . exact⟨RcNeAt.tuple_none hl hu,RcNeAt.none_tuple hl hu⟩
 . exact⟨RcNeAt.tuple_bool _ hl hu,RcNeAt.bool_tuple _ hl hu⟩
 . exact⟨RcNeAt.tuple_int _ _ hl hu,RcNeAt.int_tuple _ _ hl hu⟩
 . exact⟨RcNeAt.tuple_str _ _ hl hu,RcNeAt.str_tuple _ _ hl hu⟩
theorem Pg(I:Inv X pins σ H s)(n:Nat)(A:Around)(d e:D)(x y:V)(u v:Value)(hd:pl n d=true)(he:pl n e=true)(rd:Rep α H d x)(re:Rep α H e y)(rx:RelV x u)(ry:RelV y v)(hu:A.units+n<cLine):RcNeAt A s u v (!c9 d e):=by
 cases n with
 |zero=>
  refine Dy ?_ ?_ rd re rx ry
  . cases d<;>first|rfl|(cases hd)
  . cases e<;>first|rfl|(cases he)
 |succ n=>
  have hu0:A.units<cLine:=by omega
  have hin:A.in1.units+n<cLine:=by rw[Around.in1_units];omega
  cases d<;>try(cases hd;done)
  case lst xs=>
   cases e<;>try(cases he;done)
   case lst ys=>
    obtain⟨a,vs,aw,rfl,r1,v1,l1⟩:=lst_is I rd rx;obtain⟨b,ws,jts,rfl,r2,v2,l2⟩:=lst_is I re ry;have e1:=r1.length;have e2:=v1.length;have e3:=r2.length;have e4:=v2.length;unfold c9;by_cases hlen:xs.length=ys.length
    . rw[pL hlen];have hsz:aw.toArray.size=jts.toArray.size:=by simp only[List.size_toArray];omega
      have hx:xs.length=aw.toArray.size:=by simp only[List.size_toArray];omega
      rw[hx];refine RcNeAt.lists l1 l2 hsz hu0 fun j h1 h2=>?_;obtain⟨p,_,q1,q2⟩:=lh r1 v1 j (by simpa using h1);obtain⟨p',_,q1',q2'⟩:=lh r2 v2 j (by simpa using h2);exact(EO I n A.in1 _ _ p p' _ _ (jO (by unfold pl at hd;exact hd) j) (jO (by unfold pl at he;exact he) j) q1 q1' (by simpa using q2) (by simpa using q2') hin).2
    . rw[qb hlen];exact RcNeAt.lists_lengths l1 l2 (by simp only[List.size_toArray,bne_iff_ne,ne_eq];omega) hu0
   case tup ys=>
    obtain⟨a,vs,aw,rfl,r1,v1,l1⟩:=lst_is I rd rx;obtain⟨b,ws,jts,rfl,r2,v2,l2⟩:=tup_is I re ry;unfold c9;exact RcNeAt.list_tuple l1 l2 hu0
   all_goals exact(zW I rfl rd re rx ry hu0).1
  case tup xs=>
   cases e<;>try(cases he;done)
   case tup ys=>
    obtain⟨a,vs,aw,rfl,r1,v1,l1⟩:=tup_is I rd rx;obtain⟨b,ws,jts,rfl,r2,v2,l2⟩:=tup_is I re ry;have e1:=r1.length;have e2:=v1.length;have e3:=r2.length;have e4:=v2.length;unfold c9
    have key:=RcNeAt.tuples (e:=fun j=>c9 (xs.getD j .aE) (ys.getD j .aE)) l1 l2 hu0 fun j h1 h2=>by
     obtain⟨p,_,q1,q2⟩:=lh r1 v1 j (by simpa using h1);obtain⟨p',_,q1',q2'⟩:=lh r2 v2 j (by simpa using h2);exact(EO I n A.in1 _ _ p p' _ _ (jO (by unfold pl at hd;exact hd) j) (jO (by unfold pl at he;exact he) j) q1 q1' (by simpa using q2) (by simpa using q2') hin).2
    by_cases hlen:xs.length=ys.length
    . rw[pL hlen];have hsz:aw.toArray.size=jts.toArray.size:=by simp only[List.size_toArray];omega
      have hx:xs.length=aw.toArray.size:=by simp only[List.size_toArray];omega
      rw[hsz,Nat.min_self,beq_self_eq_true,Bool.and_true,<-hsz,<-hx]at key;exact key
    . rw[qb hlen];have hne:(aw.toArray.size==jts.toArray.size)=false:=by simp only[List.size_toArray,beq_eq_false_iff_ne,ne_eq];omega
      rw[hne,Bool.and_false]at key;exact key
   case lst ys=>
    obtain⟨a,vs,aw,rfl,r1,v1,l1⟩:=tup_is I rd rx;obtain⟨b,ws,jts,rfl,r2,v2,l2⟩:=lst_is I re ry;unfold c9;exact RcNeAt.tuple_list l1 l2 hu0
   all_goals exact(zx I rfl rd re rx ry hu0).1
  all_goals
   cases e<;>try(cases he;done)
   case lst ys=>exact(zW I rfl re rd ry rx hu0).2
   case tup ys=>exact(zx I rfl re rd ry rx hu0).2
   all_goals exact Dy rfl rfl rd re rx ry
def MW:dz:=fun x y st K=>pl 40 x=true/\pl 40 y=true/\K (.bl (!c9 x y)) st
theorem PU{k:Nat}(hr:dn k X.A):cn X (compareOp .NotEq) (LR MW):=fun pins s σ H x y v u Q I rx ry ⟨α,d,e,st,K,G,F',P,r1,r2,S,q,k⟩=>by
 have hu:=hr.units;exact Pg I 40 X.A d e x y v u q.1 q.2.1 (r1.mono P.same) (r2.mono P.same) rx ry (by omega) _ _ _ _ ⟨.bl (!c9 d e),H,I,rfl,k.here P q.2.2 S (by unfold Rep;rfl)⟩
@[irreducible] def By:dz:=MW
theorem QI{k:Nat}(hr:dn k X.A):cn X (compareOp .NotEq) (LR By):=by unfold By;exact PU hr
end
theorem O7{st:ag}{K:DK}{d e:D}(h1:pl 40 d=true)(h2:pl 40 e=true)(k:K (.bl (!c9 d e)) st):By d e st K:=by unfold By;exact⟨h1,h2,k⟩
theorem ui{st:ag}{n:Nat}{xs:List D}(h:items? st (.ref n)=some xs):st[n]?=some (.lst xs):=by
 unfold items? at h;simp only at h;split at h
 . rename_i q;cases h;exact q
 . cases h
end L3
namespace L3
open PySem L2
open PySem.Spec hiding items?
open PyProof.Rows hiding St
section
variable {X:Cx}
def JL:dz:=fun x y st K=>match x,y with
 | .lst xs,.int k=>(-(2^63)<=k/\k<2^63/\xs.length*k.toNat<=sizeLine)/\K (.ref st.length) (st++[.lst (List.replicate k.toNat xs).flatten])
 |_,_=>False
theorem Oc:cn X (binaryOp .Mult) (LR JL):=fun pins s σ H x y v u Q I rx ry ⟨α,d,e,st,K,G,F',P,r1,r2,S,q,k⟩=>by
 cases d<;>cases e<;>try exact q.elim
 unfold Rep at r1 r2;obtain⟨a,vs,rfl,na,ha,ra⟩:=r1;refine Dp pins s σ H _ _ v u Q I rx ry ⟨a,_,vs,rfl,r2,iJ P ha,q.1.1,q.1.2.1,by rw[<-ra.length];exact q.1.2.2,fun p hp=>?_⟩;exact k.new P q.2 S (bC.mpr (nr (bC.mp ra) _)) hp
@[irreducible] def yh:dz:=JL
theorem OI:cn X (binaryOp .Mult) (LR yh):=by unfold yh;exact Oc
end
theorem LP{st:ag}{K:DK}{xs:List D}{i:Int}(h: -(2^63)<=i/\i<2^63/\xs.length*i.toNat<=sizeLine)(k:K (.ref st.length) (st++[.lst (List.replicate i.toNat xs).flatten])):yh (.lst xs) (.int i) st K:=by unfold yh;exact⟨h,k⟩
theorem Gb{n:Nat}{d:D}(h:d∈eV 0 n):∃i:Nat,i<n/\d= .int (i:Int):=by
 unfold eV at h;obtain⟨i,hi,rfl⟩:=List.mem_map.mp h;rw[List.mem_range]at hi;exact⟨i,hi,by rw[Int.zero_add]⟩
theorem G7{f:Nat->D}(n:Nat):(eV 0 n).map (fun d=>match d with| .int i=>f i.toNat|_=> .aE)=(List.range n).map f:=by
 unfold eV;rw[List.map_map];refine List.map_congr_left fun i _=>?_;show f ((0:Int)+(i:Int)).toNat=f i;have:((0:Int)+(i:Int)).toNat=i:=by omega
 rw[this]
theorem tD{tg:fE}{te:DE}{σc:cu}{st:ag}{K:List D->ag->Prop}(f:Nat->D)(n:Nat)(hx:∀i:Nat,i<n->∀K',K' (f i) st->∃σ2,tg (.int (i:Int)) σc=some σ2/\te σ2 st K')(k:K ((List.range n).map f) st):dB tg cH te (fun _=>True) σc (eV 0 n) [] st K:=by
 refine comp_map (g:=fun d=>match d with| .int i=>f i.toNat|_=> .aE) trivial _ (fun d hd K' q=>?_) (by rw[G7];exact k);obtain⟨i,hi,rfl⟩:=Gb hd;exact hx i hi K' q
theorem nI{tg:fE}{body:DS}{E:oK}(n:Nat)(I:Nat->cu->ag->Prop)(hend:∀σ st,I n σ st->E.nx σ st)
 (hstep:∀(j:Nat) σ st (rest:List D),j<n->I j σ st->(∀σ' st',I (j+1) σ' st'->jH tg body (fun _=>True) E rest σ' st')->∃σ1,tg (.int (j:Int)) σ=some σ1/\body {E with nx:=jH tg body (fun _=>True) E rest,ct:=jH tg body (fun _=>True) E rest,bk:=E.nx} σ1 st)
 {σ:cu} {st:ag} (h0:I 0 σ st):jH tg body (fun _=>True) E (eV 0 n) σ st:=by
 refine g_ (fun rest σ st=>∃j:Nat,j<=n/\rest=(List.range (n-j)).map (fun i=>D.int (((j+i:Nat):Int)))/\I j σ st) ?_ ?_ _ _ _ ⟨0,Nat.zero_le _,by unfold eV;simp,h0⟩
 . rintro σ st ⟨j,hj,hr,hI⟩
   have:n-j=0:=by
    cases q:n-j with
    |zero=>rfl
    |succ m=>rw[q,List.range_succ_eq_map]at hr;cases hr
   have hjn:j=n:=by omega
   subst hjn;exact⟨trivial,hend σ st hI⟩
 . rintro d rest σ st ⟨j,hj,hr,hI⟩ next
   cases q:n-j with
   |zero=>rw[q]at hr;cases hr
   |succ m=>
    rw[q,List.range_succ_eq_map,List.map_cons,List.map_map]at hr;simp only[List.cons.injEq]at hr;obtain⟨rfl,hrest⟩:=hr;refine⟨trivial,hstep j σ st rest (by omega) hI fun σ' st' h'=>next σ' st' ⟨j+1,by omega,?_,h'⟩⟩;have:n-(j+1)=m:=by omega
    rw[this,hrest];refine List.map_congr_left fun i _=>?_;show D.int (((j+(i+1):Nat):Int))=D.int (((j+1+i:Nat):Int));congr 2;omega
abbrev DM:=Nat->List D->ag->DK->Prop
def LiftM(r:DM)(rM:V->List V->Hp->VK->Prop):Prop:=∀(α:List (Option Addr)) (G F H:Hp) (st:ag) (K:DK) (Q:VK) (n:Nat) (a:Addr) (ds:List D) (ws:List V),cL G F H->a7 α st G->α[n]?=some (some a)->aT α G ds ws->r n ds st K->LK α G F K Q->rM (.ref a) ws H Q
@[irreducible] def sI(r:DM)(to:DE)(ta:DA):DE:=fun σ st K=>to σ st fun x st1=>match x with
 | .ref n=>(match st1[n]? with|some (.lst _)=>ta σ st1 fun ds st2=>(∃xs,st2[n]?=some (.lst xs))/\r n ds st2 K|_=>False)
 |_=>False
section
variable {X:Cx}
theorem LE.RC{r:DM}{rM:V->List V->Hp->VK->Prop}(L:LiftM r rM){to:DE}{ta:DA}{σ:L2.St}{H:Hp}{Q:VK}(h:LE (sI r to ta) σ H Q):NC X.K "list" rM (LE to) (LA ta) σ H Q:=by
 obtain⟨α,σd,st,K,G,F,P,R,S,t,k⟩:=h;unfold sI at t;refine⟨α,σd,st,_,G,F,P,R,S,t,fun x st1 q α1 G1 H1 v s1 P1 S1 r1=>?_⟩;cases x<;>try exact q.elim
 rename_i n;simp only at q;split at q
 . rename_i ys e;obtain⟨p,ep,vs,h1,h2⟩:=S1.g0 e;have r1':=eF ep r1;subst r1';refine⟨.inl ⟨rfl,vs,.inl (.of (P1.get h1))⟩,α1,σd,st1,_,G1,F,P1,R.step s1,S1,q,?_⟩;rintro ds st2 ⟨⟨xs,e2⟩,q2⟩ α2 G2 H2 ws s2 P2 S2 r2;obtain⟨p2,ep2,_⟩:=S2.g0 e2
   have:p2=p:=by
    rcases s2.pre _ _ ep with z|z<;>(rw[z]at ep2;cases ep2)
    rfl
   subst this;exact L α2 G2 F H2 st2 K Q n p2 ds ws P2 S2 ep2 r2 q2 ((k.at s1).at s2)
 . exact q.elim
theorem Oa{r:DM}{rM:V->List V->Hp->VK->Prop}{name:Str}{id:String}(L:LiftM r rM)(slot:Slot "list" name id)(hty:typeOf (.builtin id)=pure (.type "method_descriptor"))(hm:N6 X id rM){o e:Expr}{es:List Expr}{to:DE}{ta:DA}{apos cpos:Pos}(ho:PE X o (LE to))(ha:PA X (e::es) (LA ta))
 (hbase:attributeBase o name X.env (eval o X.env)=eval o X.env) (hfew:((backTo cpos (starEach (e::es) X.env)).all (fun x=> !x.1)&&(backToKw cpos (keywordEach [] X.env)).all (fun x=>x.1.isSome)
   &&decide ((e::es).length+([]:List Keyword).length+(if([]:List Keyword).isEmpty then 0 else 1)<30))=true)
 (hline:(apos.endLine==cpos.line)=true) (hs:starEach (e::es) X.env=(false,eval e X.env)::starEach es X.env) (hplain:(backTo cpos (starEach es X.env)).any (·.1)=false):PE X (.Call (.Attribute o name apos) (e::es) [] cpos) (LE (sI r to ta)):=
 PE.imp (Kh PySem.F.plainAttrs_list slot hty hm ho ha hbase hfew hline hs hplain) fun _ _ _ h=>LE.RC L h
end
abbrev zV:=D->cu->ag->(cu->ag->Prop)->Prop
inductive Ob(t:zV)(v:V)(σ:L2.St)(H:Hp)(Q:L2.St->Hp->Prop):Prop
 |mk (α:List (Option Addr)) (σd:cu) (st:ag) (d:D) (K:cu->ag->Prop) (G F:Hp) (P:cL G F H) (R:eJ α G σd σ) (S:a7 α st G) (r:Rep α G d v) (h:t d σd st K) (k:LC α G F K Q):Ob t v σ H Q
def CC(t:zV):TG:=Ob t
def vf(to ti:DE):zV:=fun d σ st K=>to σ st fun x st1=>ti σ st1 fun y st2=>wj x y d st2 fun st3=>K σ st3
section
variable {X:Cx}{pos:Pos}
theorem GO{tg:Expr}{to ti:DE}(h:PG X tg (zk (LE to) (LE ti) vz)):PG X tg (CC (vf to ti)):=PG.imp h fun v σ H Q ⟨α,σd,st,d,K,G,F,P,R,S,r,q,k⟩=>by
 unfold vf wj at q;refine⟨α,σd,st,_,G,F,P,R,S,q,fun x st2 q2 α2 G2 H2 v2 s2 P2 S2 r2=>?_⟩;refine⟨α2,σd,st2,_,G2,F,P2,R.step s2,S2,q2,fun y st3 q3 α3 G3 H3 v3 s3 P3 S3 r3=>?_⟩;cases x<;>cases y<;>try exact q3.elim
 rename_i n kk;unfold Bi at q3;simp only at q3;split at q3
 . rename_i xs e;split at q3
   . rename_i j ej;obtain⟨p,ep,vs,hv,rv⟩:=S3.g0 e;have r2':=eF ep (r2.step s3);subst r2';unfold Rep at r3;have hm:some p∈α3:=List.mem_of_getElem? ep;have rd:=(r.step s2).step s3;refine⟨p,vs,kk,j,rfl,r3,P3.get hv,by rw[<-rv.length];exact ej,?_⟩;refine((k.at s2).at s3) σd _ q3 α3 (upd G3 p (.lst (vs.set j v))) _ σ (Step.write hm) (P3.write hv) (((R.step s2).step s3).step (Step.write hm)) ?_;exact S3.write ep ⟨vs.set j v,a9,(bC.mpr (sT rd j (bC.mp rv))).step (Step.write hm)⟩
   . exact q3.elim
 . exact q3.elim
def xj(t u:zV):zV:=fun d σ st K=>match d with| .tup [x,y]=>t x σ st fun σ1 st1=>u y σ1 st1 K|_=>False
theorem Lx{a b:Expr}{kx:Nat}{t u:zV}(hc:X.calm=true)(ha:PG X a (CC t))(hb:PG X b (CC u))(hn:(assignEach [a,b] X.env).length=2)(hst:(assignEach [a,b] X.env).findIdx? (·.1)=none)(hs1:FQ X [a,b] (yd (CC t) (yd (CC u) ID))):
 PG X (.Tuple [a,b] kx pos) (CC (xj t u)):=PG.imp (FV hc hs1 hn hst) fun v σ H Q ⟨α,σd,st,d,K,G,F,P,R,S,r,q,k⟩=>by
 unfold xj at q;split at q
 . rename_i x y;unfold Rep at r;obtain⟨p,vs,rfl,na,h1,h2⟩:=r;obtain⟨v1,v2,rfl,r1,r2⟩:=oM h2 rfl;refine⟨p,_,rfl,.of (P.get h1),rfl,v1,_,rfl,α,σd,st,x,_,G,F,P,R,S,r1,q,fun σ1 st1 q1 α1 G1 H1 σ1' s1 P1 R1 S1=>?_⟩;refine⟨v2,_,rfl,α1,σ1,st1,y,_,G1,F,P1,R1,S1,r2.step s1,q1,fun σ2 st2 q2 α2 G2 H2 σ2' s2 P2 R2 S2=>?_⟩;exact⟨rfl,((k.at s1).at s2).here P2 q2 R2 S2⟩
 . exact q.elim
def Fm(t:zV)(te:DE):DS:=fun E σ st=>te σ st fun d st1=>t d σ st1 E.nx
theorem KJ{s:Stmt}{te:DE}{t:zV}(h:PS X s (m9 (LE te) (CC t))):PS X s (LS (Fm t te)):=PS.imp h fun D σ H ⟨α,σd,st,DD,G,F,P,R,S,q,k⟩=>
 ⟨α,σd,st,_,G,F,P,R,S,q,fun d st1 q1 α1 G1 H1 v s1 P1 S1 r1=>⟨α1,σd,st1,d,DD.nx,G1,F,P1,R.step s1,S1,r1,q1,k.nx.at s1⟩⟩
theorem La{o1 i1 o2 i2 e:Expr}{kx:Nat}{p1 p2 tp:Pos}{to1 ti1 to2 ti2 te:DE}(ho1:JE X o1 to1)(hi1:JE X i1 ti1)(ho2:JE X o2 to2)(hi2:JE X i2 ti2)(he:JE X e te)(hc:X.calm=true:=by rfl)
 (hs:swapsWithSole [.Tuple [.Subscript o1 i1 p1,.Subscript o2 i2 p2] kx tp] e pos.line X.env=pure false:=by rfl) (hw:swappedStores [.Tuple [.Subscript o1 i1 p1,.Subscript o2 i2 p2] kx tp] e X.env=pure none:=by rfl)
 (h1:(assignEach [.Tuple [.Subscript o1 i1 p1,.Subscript o2 i2 p2] kx tp] X.env).map (·.2)=[assign (.Tuple [.Subscript o1 i1 p1,.Subscript o2 i2 p2] kx tp) X.env]:=by rfl) (hn:(assignEach [.Subscript o1 i1 p1,.Subscript o2 i2 p2] X.env).length=2:=by rfl) (hst:(assignEach [.Subscript o1 i1 p1,.Subscript o2 i2 p2] X.env).findIdx? (·.1)=none:=by rfl)
 (ha1:∀v,assign (.Subscript o1 i1 p1) X.env v=(do
   let ov <-holding [v] (eval o1 X.env)
   let iv <-holding [v,ov] (eval i1 X.env)
   standAt p1
   holding [v,ov,iv] (setItem ov iv v)
   release [v,ov,iv] []):=by intro _;rfl) (ha2:∀v,assign (.Subscript o2 i2 p2) X.env v=(do
   let ov <-holding [v] (eval o2 X.env)
   let iv <-holding [v,ov] (eval i2 X.env)
   standAt p2
   holding [v,ov,iv] (setItem ov iv v)
   release [v,ov,iv] []):=by intro _;rfl):
 JS X (.Assign [.Tuple [.Subscript o1 i1 p1,.Subscript o2 i2 p2] kx tp] e pos) (Fm (xj (vf to1 ti1) (vf to2 ti2)) te):=by
 unfold JS;unfold JE at*;have g1:=GO (xk ho1 hi1 set_list ha1);have g2:=GO (xk ho2 hi2 set_list ha2);exact KJ (xl he (Lx hc g1 g2 hn hst (sN g1 (sN g2 Eb))) hs hw h1)
end
section
variable {X:Cx}
theorem yZ{M:Model}{A:Around}{E:Value->Shared->Prop}{s:Shared}{Q:Value->Shared->Prop}{x:V}{v:Value}{b:Bool}(r:RelV x v)(h:Q (.bool (!(v== .bool b))) s):wpAny M A (compareOp .IsNot v (.bool b)) Q E s:=by
 cases x
 case bl c=>
  cases r;cases c<;>cases b<;>exact wpAny_pure h
 all_goals first
  |(cases r;exact wpAny_pure h)
  |(obtain⟨t,rfl⟩:=r;exact wpAny_pure h)
def B7:dz:=fun x y st K=>match y with| .aE=>live st x=true/\K (.bl (!Kd x)) st| .bl b=>live st x=true/\K (.bl (!DZ x b)) st|_=>False
theorem H_:cn X (compareOp .IsNot) (LR B7):=fun pins s σ H x y v u Q I rx ry ⟨α,d,e,st,K,G,F',P,r1,r2,S,q,k⟩=>by
 cases e<;>try exact q.elim
 . refine MB pins s σ H x y v u Q I rx ry ⟨α,d,.aE,st,K,G,F',P,r1,r2,S,⟨q.1,?_⟩,k⟩;have q2:=q.2;cases d<;>exact q2
 . rename_i b;unfold Rep at r2;subst r2;cases ry;refine yZ rx ?_;rw[D3 S q.1 r1 rx];exact⟨.bl (!DZ d b),H,I,rfl,k.here P q.2 S (by unfold Rep;rfl)⟩
@[irreducible] def nD:dz:=B7
theorem yB:cn X (compareOp .IsNot) (LR nD):=by unfold nD;exact H_
end
section
variable {st:ag}{K:DK}{d:D}{b:Bool}
theorem xm(h:live st d=true)(k:K (.bl (!Kd d)) st):nD d .aE st K:=by unfold nD;exact⟨h,k⟩
theorem JR(h:live st d=true)(k:K (.bl (!DZ d b)) st):nD d (.bl b) st K:=by unfold nD;exact⟨h,k⟩
end
section
variable {X:Cx}
theorem LX{o i elt:Expr}{gs:List Comprehension}{sc:Scope}{p:Pos}{to ti te:TE}{pos pos':Pos}(he:PE X (.ListComp elt gs sc p) te)(ho:PE X o to)(hi:PE X i ti)(h2:kX i=true:=by rfl):PS X (.Assign [.Subscript o i pos'] (.ListComp elt gs sc p) pos) (m9 te (zk to ti vz)):=
 xl he (xk ho hi set_list (by intro v;cases i<;>first|rfl|cases h2)) (by unfold swapsWithSole swapsWith;rfl) rfl rfl
theorem zF{o i elt:Expr}{gs:List Comprehension}{sc:Scope}{p pos pos':Pos}{te to ti:DE}(he:JE X (.ListComp elt gs sc p) te)(ho:JE X o to)(hi:JE X i ti)(h2:kX i=true:=by rfl):JS X (.Assign [.Subscript o i pos'] (.ListComp elt gs sc p) pos) (eO to ti te):=by
 unfold JS;unfold JE at*;exact AV (LX he ho hi h2)
end
end L3
namespace L3
open PySem L2
open PySem.Spec hiding items?
open PyProof.Rows hiding St
open AutoSeq1 (wpAny_loadPart')
theorem Mu{P:Program}{w:World}{A:Around}(hh:A.handled=none)(k:SK)(t a:Addr)(hne:a≠t)(us:Array Value):Draws P w A t [t,a] us.size (fun i v=>us[i]?=some v) (fun n g=>tX k t a n g/\nV k g a us) where
 live:=fun i h z=>((oS (P:=P) (w:=w) k t a hne us).lv i h z).1
 frame:=fun i h h' z kp=>(oS (P:=P) (w:=w) k t a hne us).fr i h h' z fun b hb o e=>kp b (by rcases hb with rfl|rfl<;>simp) o e
 item:=fun i s Q E hi z q=>(oS (P:=P) (w:=w) k t a hne us).nx i A s Q E us[i] z (by simp[hi]) fun g j sb=>q _ g s.toks (by simp[hi]) j sb
 done:=fun s Q E z q=>(oS (P:=P) (w:=w) k t a hne us).en us.size A s Q E hh z (by simp) q
theorem sG(l:Addr)(items:Array Value)(n:Nat)(dct:Option Addr)(sl:Array (Option Value)):
 Meets (Builtin.«enumerate.__new__» ⟨[.type "enumerate",.ref l],[]⟩) (fun _ R s=>s.heap.get? l=some {cls:= .type "tuple",dict:=dct,data:= .seq items n,slots:=sl}/\
  R (.ok (.ret (.ref (s.heap.push {cls:= .type "tuple_iterator",data:= .fields #[.ref l,.int 0 0]}).objs.size)))
   {s with heap:=(s.heap.push {cls:= .type "tuple_iterator",data:= .fields #[.ref l,.int 0 0]}).push {cls:= .type "enumerate",data:= .fields #[.none,.bool false,.ref s.heap.objs.size,rawInt 0,.none,.none]}}):=
 .of_wp fun prog w A R s h=>by
  obtain⟨hp,g,d,tk,os⟩:=s;obtain⟨hl,h⟩:=h;have hsub:=sub_enumerate;have hL:Heap.IsTuple (Shared.heap ⟨hp,g,d,tk,os⟩) l items:=⟨_,hl,rfl,n,rfl⟩
  wp_walk using wpAny_loadPart' hl
  refine wpAny_stack_any fun st=>wpAny_pure ?_;split
  . rename_i c _ _ _ _ _;cases (c==Value.type "enumerate")
    . wp_walk using wpAny_loadPart' hl,wpAny_pyIter_tuple hL
      exact⟨_,rfl,h⟩
    . wp_walk using wpAny_loadPart' hl,wpAny_pyIter_tuple hL
      exact⟨_,rfl,h⟩
  . wp_walk using wpAny_loadPart' hl,wpAny_pyIter_tuple hL
    exact⟨_,rfl,h⟩
theorem Hf{P:Program}{w:World}{A:Around}{s:Shared}{E:Value->Shared->Prop}{k:SK}{a:Addr}{us:Array Value}{Q:Value->Shared->Prop}(c:nV k s.heap a us)
 (q:∀g,IsEnum g (s.heap.objs.size+1) s.heap.objs.size 0 .none->tX k s.heap.objs.size a 0 g->(∀b o,s.heap.get? b=some o->g.get? b=some o)->Q (.ref (s.heap.objs.size+1)) {s with heap:=g}):
 wpAny (model P w) A (call (.type "enumerate") [.ref a]) Q E s:=by
 cases k
 . exact call_enumerate_list c fun g h1 h2 _ h4=>q g h1 h2 h4
 . obtain⟨⟨c,dct,dt,sl⟩,hl,hc,n,hd⟩:=c;replace hc:c= .type "tuple":=hc;replace hd:dt= .seq us n:=hd;subst hc hd
   refine callType_new F.called_enumerate (by decide) (F.typeCall_enumerate_1 _) (F.newCall_enumerate_1 _) (fun obj=>F.args_object_init_2 obj _) F.entry_enumerate_new
    (sG a us n dct sl) ⟨hl,?_⟩
   have hz:(s.heap.push {cls:= .type "tuple_iterator",data:= .fields #[.ref a,.int 0 0]}).objs.size=s.heap.objs.size+1:=Heap.size_push ..;show _/\_;rw[hz]
   have he:IsEnum ((s.heap.push {cls:= .type "tuple_iterator",data:= .fields #[.ref a,.int 0 0]}).push
    {cls:= .type "enumerate",data:= .fields #[.none,.bool false,.ref s.heap.objs.size,rawInt 0,.none,.none]}) (s.heap.objs.size+1) s.heap.objs.size 0 .none:=by
    have:=Heap.get?_push_size (s.heap.push {cls:= .type "tuple_iterator",data:= .fields #[.ref a,.int 0 0]})
     (o:={cls:= .type "enumerate",data:= .fields #[.none,.bool false,.ref s.heap.objs.size,rawInt 0,.none,.none]}) rfl
    rw[hz]at this;exact this
   exact⟨⟨_,he,rfl⟩,q _ he ⟨_,Heap.get?_push_of_some _ (Heap.get?_push_size _ rfl),rfl,rfl⟩ fun b o x=>Heap.get?_push_of_some _ (Heap.get?_push_of_some _ x)⟩
def Q2(K:PySem.W.Frag)(k:SK)(a:Addr):It:=
 ⟨fun i H=>∃xs x,rL k K H a xs/\xs[i]?=some x,
  fun i H v H'=>∃T x,H T=none/\v= .ref T/\H'=upd H T (.tup [.int (i:Int),x])/\∀xs,rL k K H a xs->xs[i]?=some x,
  fun i H=>∃xs,rL k K H a xs/\xs.length<=i⟩
def R_(e t a:Addr)(k:SK)(i:Nat)(h:Heap):Prop:=(∃old,IsEnum h e t i old)/\tX k t a i h
theorem Fx{P:Program}{w:World}{K:PySem.W.Frag}{elts:List Expr}{kx:Nat}{pos:Pos}{e t a:Addr}(k:SK)(n1:e≠t)(n2:a≠e)(n3:a≠t):
 Turn P w K (.Tuple elts kx pos) (Q2 K k a) [e,t] e (R_ e t a k) where
 mem:=by simp
 obj:=fun i h st b hb=>by
  obtain⟨⟨old,he⟩,i1⟩:=st;simp only[List.mem_cons,List.not_mem_nil,or_false]at hb;rcases hb with rfl|rfl
  . exact⟨_,he,fun v z=>by cases z⟩
  . exact o4 i1
 keep:=fun i h h' st kp=>by
  obtain⟨⟨old,he⟩,i1⟩:=st;exact⟨⟨old,kp e (by simp) _ he⟩,rR i1 (kp t (by simp))⟩
 item:=by
  intro X hP hw hK hc i pins s σ H E I hf st hg;subst hP hw hK;obtain⟨⟨old,he⟩,i1⟩:=st;obtain⟨xs,x,q1,ex⟩:=hg;obtain⟨us,r1,l1⟩:=mn I q1;obtain⟨u,eu,ru⟩:=r1.get ex
  have hlt:i<us.toArray.size:=by
   have:=(List.getElem?_eq_some_iff.mp eu).1;simpa using this
  refine wpAny_pyNext_enum_itemD (Mu (A:=X.A.in1) (show X.A.in1.handled=none from I.ok.hd hc) k t a n3 us.toArray) he ⟨i1,l1⟩ hlt n1 (by simp only[List.mem_cons,List.not_mem_nil,or_false,not_or];exact⟨n1,Ne.symm n2⟩) fun y h' tk py ho hs hT hsz kp=>⟨_,rfl,?_⟩
  have hy:y=u:=by
   have:us[i]?=some y:=by simpa using py
   rw[eu]at this;cases this;rfl
  subst hy;refine wpAny_letOwnedTupleGo_enum (s:={s with heap:=h',toks:=tk+1}) ho fun k' he' sb=>?_;have hTe:s.heap.objs.size≠e:=Nat.ne_of_gt (Heap.lt_size he)
  have kp3:∀b o,b∉[e,t]->s.heap.get? b=some o->k'.get? b=some o:=fun b o hb eb=>by
   simp only[List.mem_cons,not_or,List.not_mem_nil,not_false_eq_true,and_true]at hb;exact sb.extBut _ _ hb.1 (kp b o hb.1 hb.2 eb)
  refine⟨.ref s.heap.objs.size,upd H s.heap.objs.size (.tup [.int (i:Int),x]),JK (s:=s) (tk:=tk+1) I hf kp3 (Nat.le_refl _) ?_,rfl,⟨s.heap.objs.size,x,I.aP.fresh (Nat.le_refl _),rfl,rfl,?_⟩,?_,?_⟩
  . refine⟨Nat.le_of_ble_eq_true rfl,[.int (i:Int) tk,y],.cons ⟨tk,rfl⟩ (.cons ru .nil),?_⟩;exact⟨_,sb.extBut _ _ hTe hT,rfl,_,rfl⟩
  . intro xs' q';rw[yL I q' q1];exact ex
  . refine⟨⟨_,by simpa using he'⟩,rR hs.1 fun o eo=>sb.extBut _ _ (Ne.symm n1) eo⟩
  . intro b hb
    have:b≠s.heap.objs.size:=by
     obtain⟨o,eb⟩:∃o,s.heap.get? b=some o:=by
      simp only[List.mem_cons,List.not_mem_nil,or_false]at hb;rcases hb with rfl|rfl
      . exact⟨_,he⟩
      . obtain⟨o,eo,_⟩:=o4 i1;exact⟨o,eo⟩
     exact Nat.ne_of_lt (Heap.lt_size eb)
    rw[aH this];exact(hf b hb).1
 done:=by
  intro X hP hw hK hc i pins s σ H E I hf st hg;subst hP hw hK;obtain⟨⟨old,he⟩,i1⟩:=st;obtain⟨xs,q1,hle⟩:=hg;obtain⟨us,r1,l1⟩:=mn I q1;have e1:=r1.length;have tz:s.TypeIs (.ref e) "enumerate":=⟨_,he,rfl⟩
  unfold pyNext;refine wpAny_bind (wpAny_attempt (wpAny_callSpecial?_slot (name:=Str.ofString "__next__") tz F.slot_enumerate_next (wpAny_call_entry F.slot_enumerate_next tz F.entry_enumerate_next ?_ (F.args_enumerate_next_1 _))));show wpAny _ _ (field (.ref e) 2 >>= _) _ _ _;refine wpAny_bind (wpAny_field he rfl (x:= .ref t) rfl ?_);refine wpAny_bind ((oS k t a n3 us.toArray).en i _ s _ _ (I.ok.hd hc) ⟨i1,l1⟩ (by simp;omega) fun g x sb hx=>?_);obtain⟨o,ho,hc2⟩:=hx;refine wpAny_bind (wpAny_isInstance (T:="StopIteration") (b:=true) ⟨o,ho,hc2⟩ isSubtype_stop ?_);refine wpAny_pure ⟨rfl,Jv (s:=s) (tk:=s.toks) I hf fun b o hb eb=>?_⟩;simp only[List.mem_cons,not_or,List.not_mem_nil,not_false_eq_true,and_true]at hb;exact sb b o hb.2 eb
 self:=fun _ _ _ _ _ st h=>wpAny_pyIter_enum st.1.choose_spec h
def gH:Nat->List D->List D
 |_,[]=>[]
 |i,x::xs=> .tup [.int (i:Int),x]::gH (i+1) xs
theorem z8:∀ {xs:List D} {i:Nat},(gH i xs).length=xs.length
 | [],_=>rfl
 |_::xs,i=>by unfold gH;rw[List.length_cons,List.length_cons,z8]
theorem uL:∀ {xs:List D} {i n:Nat} {d:D},(gH i xs)[n]?=some d->∃x,xs[n]?=some x/\d= .tup [.int ((i+n:Nat):Int),x]
 | [],_,_,_,e=>by unfold gH at e;cases e
 |x::xs,i,0,d,e=>by
  unfold gH at e;rw[List.getElem?_cons_zero]at e;cases e;exact⟨x,rfl,rfl⟩
 |x::xs,i,n+1,d,e=>by
  unfold gH at e;rw[List.getElem?_cons_succ]at e;obtain⟨y,h1,h2⟩:=uL e;refine⟨y,by rw[List.getElem?_cons_succ];exact h1,?_⟩;rw[h2,show i+1+n=i+(n+1) by omega]
theorem Mg{K:PySem.W.Frag}{k:SK}{a:Addr}{α:List (Option Addr)}{G:Hp}{ok:ag->Prop}{xs:List D}
 (h:∀α' G' st',Step α G α' G'->a7 α' st' G'->ok st'->∃vs,Hn k G' a vs/\aT α' G' xs vs):wZ (Q2 K k a) α G ok (gH 0 xs) where
 stop:=fun n α' G' F' H' st' s P S o hn=>by
  obtain⟨vs,h1,r1⟩:=h α' G' st' s S o;rw[z8]at hn;refine⟨vs,kE P h1,?_⟩;have:=r1.length;omega
 go:=fun n d α' G' F' H' st' s P S o hn=>by
  obtain⟨vs,h1,r1⟩:=h α' G' st' s S o;obtain⟨x,ex,rfl⟩:=uL hn;obtain⟨v,ev,_⟩:=r1.get ex;exact⟨vs,v,kE P h1,ev⟩
 qx:=fun n d α' G' F' H' st' x H'' s P S o hn y=>by
  obtain⟨vs,h1,r1⟩:=h α' G' st' s S o;obtain⟨c,ec,rfl⟩:=uL hn;obtain⟨T,v,hT,rfl,rfl,y1⟩:=y;obtain⟨v',ev,rv⟩:=r1.get ec;rw[y1 vs (kE P h1)]at ev;cases ev;have hg:=(P.none hT).1;refine⟨upd G' T (.tup [.int (n:Int),v]),Step.laid hg,P.laid hT,S.laid hg,?_⟩;unfold Rep;refine⟨T,[.int (n:Int),v],rfl,S.mh hg,a9,?_⟩;unfold aT;refine⟨.int (n:Int),[v],rfl,?_,?_⟩
  . unfold Rep;rw[Nat.zero_add]
  unfold aT;exact⟨v,[],rfl,rv.step (Step.laid hg),by unfold aT;rfl⟩
def Fs(ds:List D)(st1:ag)(K:List D->(ag->Prop)->ag->Prop):Prop:=match ds with
 | [x]=>(match items? st1 x with
   |some xs=>K (gH 0 xs) (fun st'=>items? st' x=some xs) st1
   |_=>False)
 |_=>False
@[irreducible] def uk:List D->ag->(List D->(ag->Prop)->ag->Prop)->Prop:=Fs
def AF(t:DA):DI:=fun σ st K=>t σ st fun ds st1=>uk ds st1 K
theorem GH:bootBuiltins "enumerate"=some (.type "enumerate"):=by decide+kernel
theorem Lo{X:Cx}{a:Expr}{elts:List Expr}{kx:Nat}{tpos p pos:Pos}{t:DA}(hg:Gl X "enumerate")(hm:X.mg "enumerate"=none)(ha:PA X [a] (LA t))(hs:starEach [a] X.env=[(false,eval a X.env)]):
 PI X (.Tuple elts kx tpos) (.Call (.Name "enumerate" p) [a] [] pos) (LI (AF t)):=by
 intro pins s σ H R I h;obtain⟨α,σd,st,K,G,F,P,RS,S,t,k⟩:=h;refine Call_ (md I hg hm GH (PyProof.Rows.callWith_type1 (cp (ha pos pins s σ H (fun vs H1=>∃ds α1 G1 st1,Step α G α1 G1/\cL G1 F H1/\a7 α1 st1 G1/\aT α1 G1 ds vs/\uk ds st1 K) I ⟨α,σd,st,_,G,F,P,RS,S,t,fun ds st1 q α1 G1 H1 vs s1 P1 S1 r1=>⟨ds,α1,G1,st1,s1,P1,S1,r1,q⟩⟩) fun us s1 ⟨vs,H1,I1,rv,ds,α1,G1,st1,w1,P1,S1,r1,q⟩=>?_) (by rw[hs];rfl) (by rfl)));unfold uk Fs at q;split at q
 . rename_i x;split at q
   . rename_i xs ex;obtain⟨v1,rfl,q1⟩:=l9 r1 rfl;obtain⟨p1,vs1,rfl,g1,c1⟩:=o9 S1 q1 ex;obtain⟨u1,rfl,ru1⟩:=vals1 rv;cases ru1;obtain⟨its1,_,l1⟩:=mn I1 (kE P1 c1);refine Hf l1 fun g he i1 kp=>?_;obtain⟨o1,eo1⟩:=l1.some;have hp1:p1<s1.heap.objs.size:=Heap.lt_size eo1;refine wpAny_pyIter_enum (s:={s1 with heap:=g}) he ?_;refine⟨s1.heap.objs.size+1,[s1.heap.objs.size+1,s1.heap.objs.size],_,_,H1,rfl,I1.kept (t':=s1.toks) kp,Fx (Kt x) (Nat.ne_of_gt (Nat.lt_succ_self _)) (Nat.ne_of_lt (Nat.lt_succ_of_lt hp1)) (Nat.ne_of_lt hp1),⟨⟨_,he⟩,i1⟩,fun b hb=>?_,?_⟩
     . have hb':s1.heap.objs.size<=b:=by
        simp only[List.mem_cons,List.not_mem_nil,or_false]at hb;rcases hb with rfl|rfl
        . exact Nat.le_succ _
        . exact Nat.le_refl _
       exact I1.wI hb' (I1.aP.fresh hb')
     . refine k _ _ st1 q _ α1 G1 H1 w1 P1 S1 (Mg fun α' G' st' s' S' o=>?_);obtain⟨p1',ws1,e1,f1,d1⟩:=o9 S' (q1.step s') o;cases e1;exact⟨ws1,d1,f1⟩
   . exact q.elim
 . exact q.elim
theorem Dm{st:ag}{x:D}{xs:List D}{K:List D->(ag->Prop)->ag->Prop}(ex:items? st x=some xs)(k:∀ok:ag->Prop,(∀st',items? st' x=some xs->ok st')->K (gH 0 xs) ok st):uk [x] st K:=by
 unfold uk Fs;simp only[ex];exact k _ fun st' h1=>h1
theorem GA{X:Cx}{a:Expr}{elts:List Expr}{kx:Nat}{tpos p pos:Pos}{ar:DA}(hg:Gl X "enumerate")(hm:X.mg "enumerate"=none)(ha:JA X [a] ar)(hs:notStar a=true:=by rfl):JI X (.Tuple elts kx tpos) (.Call (.Name "enumerate" p) [a] [] pos) (AF ar):=by
 unfold JI;unfold JA at ha;exact Lo hg hm ha (cD hs)
end L3
namespace L3
open PySem L2
open PySem.Spec hiding items?
open PyProof.Rows hiding St
section
variable {prog:Program}{w:World}{A:Around}{E:Value->Shared->Prop}{s:Shared}
end
section
variable {X:Cx}{tg:Expr}
end
theorem si{A B:Type}{F:A->B->Prop}{x:A}{y:B}(h:F x y):∀ {xs:List A} {ys:List B} (i:Nat),Paired F xs ys->Paired F (xs.take i++x::xs.drop i) (ys.take i++y::ys.drop i)
 |_,_,0,t=> .cons h t
 |_,_,i+1,.nil=>by simpa using(Paired.cons h .nil)
 |_,_,i+1,.cons r t=> .cons r (si h i t)
section
variable {X:Cx}
def OT:V->List V->Hp->VK->Prop:=fun x vs H Q=>∃(l:Addr) (xs:List V) (i:Int) (y:V),x= .ref l/\vs=[.int i,y]/\H l=some (.lst xs)/\0<=i/\i<2^62/\i.toNat<=xs.length/\xs.length<sizeLine/\Q .aE (upd H l (.lst (xs.take i.toNat++y::xs.drop i.toNat)))
theorem Mh{aw:List Value}{i:Int}{u:Value}(h0:0<=i)(h:i.toNat<=aw.length):(aw.toArray.extract 0 (if i<0 then(i+(aw.toArray.size:Int)).toNat else min i.toNat aw.toArray.size)).push u++aw.toArray.extract (if i<0 then(i+(aw.toArray.size:Int)).toNat else min i.toNat aw.toArray.size)=(aw.take i.toNat++u::aw.drop i.toNat).toArray:=by
 have hk:(if i<0 then(i+(aw.toArray.size:Int)).toNat else min i.toNat aw.toArray.size)=i.toNat:=by
  rw[if_neg (by omega),List.size_toArray];omega
 rw[hk];exact PySem.W.kl_ins_eq aw i.toNat u
theorem OV:Q7 X "list.insert" OT:=by
 intro pins s σ H x vs v us Q I rx rv h;obtain⟨l,xs,i,y,rfl,rfl,hH,h0,h1,h2,hz,q⟩:=h;cases rx;obtain⟨u1,u2,rfl,ru1,ru2⟩:=vals2 rv;obtain⟨t,rfl⟩:=ru1;obtain⟨z,aw,n,r,hl,e⟩:=I.Of hH;have fit:Builtin.List.listFitsIndex i=true:=fitsIndex_both (by omega) (by omega);have hsz:aw.toArray.size<=sizeLine:=by rw[List.size_toArray,<-hl];exact z
 have hft:¬(!Builtin.List.listFitsIndex i)=true:=by rw[fit];exact Bool.false_ne_true
 have M:=AutoSeq1.list_insert_list_int_val_1 l aw.toArray n i t u2 hft hsz;refine call_meets F.slot_list_insert ⟨_,e,rfl⟩ F.entry_list_insert (F.args_list_insert_3 _ _ _) M ⟨e,?_⟩;refine⟨.aE,_,I.N9 (its':=aw.take i.toNat++u2::aw.drop i.toNat) hH e (Mh h0 (by omega)) (si ru2 i.toNat r) ?_,rfl,q⟩;rw[List.length_append,List.length_cons,List.length_take,List.length_drop];omega
def qI:DM:=fun n ds st K=>match ds with
 | [.int i,d]=>(match st[n]? with|some (.lst xs)=>(0<=i/\i<=xs.length/\i<2^62/\xs.length<sizeLine)/\K .aE (st.set n (.lst (xs.take i.toNat++d::xs.drop i.toNat)))|_=>False)
 |_=>False
theorem GC:LiftM qI OT:=by
 intro α G F H st K Q n a ds ws P S ea rs q k;unfold qI at q;split at q
 . rename_i i d;split at q
   . rename_i xs e;obtain⟨⟨h0,h1,h2,h3⟩,q⟩:=q;obtain⟨v,u,rfl,r1,r2⟩:=oM rs rfl;unfold Rep at r1;subst r1;obtain⟨a',ea',vs,g1,g2⟩:=S.g0 e;rw[ea]at ea';cases ea';have hl:=g2.length;have hm:some a∈α:=List.mem_of_getElem? ea;refine⟨a,vs,i,u,rfl,rfl,P.get g1,h0,h2,by omega,by omega,?_⟩;refine k .aE _ q α (upd G a (.lst (vs.take i.toNat++u::vs.drop i.toNat))) _ .aE (Step.write hm) (P.write g1) ?_ (by unfold Rep;rfl);exact S.write ea ⟨vs.take i.toNat++u::vs.drop i.toNat,a9,(bC.mpr (si r2 i.toNat (bC.mp g2))).step (Step.write hm)⟩
   . exact q.elim
 . exact q.elim
theorem Pp{o e f:Expr}{to te tf:DE}{apos cpos:Pos}(ho:JE X o to)(he:JE X e te)(hf:JE X f tf)(hbase:attributeBase o "insert" X.env (eval o X.env)=eval o X.env:=by rfl)(hline:(apos.endLine==cpos.line)=true:=by rfl)(hs:notStar e=true:=by rfl)(hs2:notStar f=true:=by rfl):JE X (.Call (.Attribute o "insert" apos) [e,f] [] cpos) (sI qI to (af te (af tf ak))):=by
 unfold JE at*;refine Oa GC PySem.F.slot_list_insert PySem.F.type_list_insert OV ho (rE he (rE hf xF (cD hs2)) (cD hs)) hbase ?_ hline (cD hs) ?_
 . rw[cD hs,cD hs2];rfl
 . rw[cD hs2];rfl
end
end L3
namespace L3
open PySem L2
open PySem.Spec hiding items?
open PyProof.Rows hiding St
open PySem PySem.Spec L2 PySem.SeqAt
section
variable {X:Cx}
end
end L3
namespace L3
open PySem L2
open PySem.Spec hiding items?
open PyProof.Rows hiding St
section
variable {X:Cx}
end
section
variable {P:Program}{w:World}
section
variable {z ti to t1 t2 t3 a1 a2 a3:Addr}
end
end
section
variable {X:Cx}
end
end L3
namespace L3
open PySem L2
open PySem.Spec hiding items?
open PyProof.Rows hiding St
open Sem (wp)
section
variable {prog:Program}{w:World}{A:Around}{s:Shared}{E:Value->Shared->Prop}
end
section
variable {prog:Program}{w:World}{A:Around}{R:Result->Shared->Prop}{I:Addr}{fp wr:List Addr}{G:Array GenState->Array GenState->Prop}{n:Nat}{P:Nat->Value->Prop}{Sx:Nat->Shared->Prop}
end
section
variable {prog:Program}{w:World}{A:Around}{E:Value->Shared->Prop}{s:Shared}
end
section
variable {X:Cx}{pins:List (Addr×Obj)}{σ:L2.St}{H:Hp}{s:Shared}{α:List (Option Addr)}
end
end L3
namespace L3
open PySem L2
open PySem.Spec hiding items?
open PyProof.Rows hiding St
section
variable {X:Cx}
end
def putD(f:Str)(v:D):List (Str×D)->List (Str×D)
 | []=>[(f,v)]
 |(g,x)::r=>if g=f then(g,v)::r else(g,x)::putD f v r
theorem kW.look{α:List (Option Addr)}{H:Hp}{f:Str}{v:D}:∀ {fs:List (Str×D)} {vs:List (Str×V)},kW α H fs vs->fs.lookup f=some v->∃u,vs.lookup f=some u/\Rep α H v u
 | [],_,_,e=>by cases e
 |(g,x)::fs,_,.cons (b:=q) h t,e=>by
  obtain⟨g',y⟩:=q;obtain⟨h1,h2⟩:=h;simp only at h1 h2;subst h1;rw[List.lookup_cons]at e⊢;cases hb:f==g with
  |true=>rw[hb]at e;cases e;exact⟨y,rfl,h2⟩
  |false=>rw[hb]at e;exact kW.look t e
theorem kW.none{α:List (Option Addr)}{H:Hp}{f:Str}:∀ {fs:List (Str×D)} {vs:List (Str×V)},kW α H fs vs->fs.lookup f=Option.none->vs.lookup f=Option.none
 | [],_,.nil,_=>rfl
 |(g,x)::fs,_,.cons (b:=q) h t,e=>by
  obtain⟨g',y⟩:=q;obtain⟨h1,h2⟩:=h;simp only at h1 h2;subst h1;rw[List.lookup_cons]at e⊢;cases hb:f==g with
  |true=>rw[hb]at e;cases e
  |false=>rw[hb]at e;exact kW.none t e
theorem kW.put{α:List (Option Addr)}{H:Hp}{f:Str}{d:D}{v:V}(r:Rep α H d v):∀ {fs:List (Str×D)} {vs:List (Str×V)},kW α H fs vs->kW α H (putD f d fs) (iw f v vs)
 | [],_,.nil=> .cons ⟨rfl,r⟩ .nil
 |(g,x)::fs,_,.cons (b:=q) h t=>by
  obtain⟨g',y⟩:=q;obtain⟨h1,h2⟩:=h;simp only at h1 h2;subst h1;unfold putD iw;by_cases hb:g=f
  . rw[if_pos hb,if_pos hb];exact .cons ⟨rfl,r⟩ t
  . rw[if_neg hb,if_neg hb];exact .cons ⟨rfl,h2⟩ (kW.put r t)
def I_(C:Addr)(f:Str)(d:D)(st:ag)(K:DK):Prop:=match d with
 | .ref n=>(match st[n]? with|some (.ins C' fs)=>C'=C/\∃v,fs.lookup f=some v/\K v st|_=>False)
 |_=>False
@[irreducible] def Ej(C:Addr)(f:Str):D->ag->DK->Prop:=I_ C f
def eK(C:Addr)(f:Str)(te:DE):DE:=fun σ st K=>te σ st fun d st1=>Ej C f d st1 K
theorem c7{C:Addr}{f:Str}{n:Nat}{st:ag}{K:DK}{fs:List (Str×D)}{v:D}(e:st[n]?=some (.ins C fs))(h:fs.lookup f=some v)(k:K v st):Ej C f (.ref n) st K:=by
 unfold Ej I_;simp only[e];exact⟨trivial,v,h,k⟩
def E4(C:Addr)(f:Str)(x d:D)(st:ag)(K:ag->Prop):Prop:=match x with
 | .ref n=>(match st[n]? with|some (.ins C' fs)=>C'=C/\fs.length<1000/\K (st.set n (.ins C (putD f d fs)))|_=>False)
 |_=>False
@[irreducible] def AM(C:Addr)(f:Str):D->D->ag->(ag->Prop)->Prop:=E4 C f
def qt(C:Addr)(f:Str)(to te:DE):DS:=fun D σ st=>te σ st fun d st1=>to σ st1 fun x st2=>AM C f x d st2 fun st3=>D.nx σ st3
theorem o3{C:Addr}{f:Str}{n:Nat}{d:D}{st:ag}{K:ag->Prop}{fs:List (Str×D)}(e:st[n]?=some (.ins C fs))(h:fs.length<1000)(k:K (st.set n (.ins C (putD f d fs)))):AM C f (.ref n) d st K:=by
 unfold AM E4;simp only[e];exact⟨trivial,h,k⟩
def EK(C:Addr)(m:Str)(x:D)(st:ag)(k:Prop):Prop:=match x with
 | .ref n=>(match st[n]? with|some (.ins C' fs)=>C'=C/\fs.lookup m=none/\k|_=>False)
 |_=>False
@[irreducible] def Ax(C:Addr)(m:Str):D->ag->Prop->Prop:=EK C m
theorem ly{C:Addr}{m:Str}{n:Nat}{st:ag}{k:Prop}{fs:List (Str×D)}(e:st[n]?=some (.ins C fs))(h:fs.lookup m=none)(q:k):Ax C m (.ref n) st k:=by
 unfold Ax EK;simp only[e];exact⟨trivial,h,q⟩
def ky(C:Addr)(m:Str)(S:cw)(to:DE)(t:DA):DE:=fun σ st K=>to σ st fun x st1=>Ax C m x st1 (t σ st1 fun ds st2=>S (x::ds) st2 K)
def Ep(C:Addr)(S:cw)(t:DA):DE:=fun σ st K=>t σ st fun ds st1=>S (.ref st1.length::ds) (st1++[.ins C []]) fun r st2=>r= .aE/\K (.ref st1.length) st2
section
variable {X:Cx}{C f g:Addr}{fd:FuncData}{k:Nat}{x m fl:Str}{e o value:Expr}{es:List Expr}{p pos pos' apos:Pos}{te to:DE}{t:DA}{S:cw}{ps:List Str}
theorem Pt(c:pB X.K C)(na:gJ X.K C fl)(he:PE X e (LE te))(hb:attributeBase e fl X.env (eval e X.env)=eval e X.env):PE X (.Attribute e fl pos) (LE (eK C fl te)):=PE.imp (N1 he hb) fun σ H Q ⟨α,σd,st,K,G,F,P,R,S,t,k⟩=>by
 refine⟨α,σd,st,_,G,F,P,R,S,t,fun d st1 q α1 G1 H1 v s1 P1 S1 r1=>?_⟩;unfold Ej I_ at q;cases d<;>try exact q.elim
 simp only at q;split at q
 . rename_i C' fs e';obtain⟨rfl,w,hw,q⟩:=q;obtain⟨a,ea,dx,vs,h1,h2⟩:=S1.AA e';have r1':=eF ea r1;subst r1';obtain⟨u,hu,ru⟩:=h2.look hw;exact⟨a,_,dx,vs,u,rfl,P1.get h1,c,na,hu,(k.at s1).here P1 q S1 ru⟩
 . exact q.elim
theorem MY(c:pB X.K C)(na:gJ X.K C fl)(ho:PE X o (LE to))(hv:PE X value (LE te))(hs:swapsWith value (some (.Attribute o fl pos')) pos.line X.env=pure false):PS X (.Assign [.Attribute o fl pos'] value pos) (LS (qt C fl to te)):=PS.imp (ME ho hv hs) fun D σ H ⟨α,σd,st,DD,G,F,P,R,S,t,k⟩=>by
 refine⟨α,σd,st,_,G,F,P,R,S,t,fun d st1 q α1 G1 H1 v s1 P1 S1 r1=>?_⟩;refine⟨α1,σd,st1,_,G1,F,P1,R.step s1,S1,q,fun x st2 q2 α2 G2 H2 v2 s2 P2 S2 r2=>?_⟩;unfold AM E4 at q2;cases x<;>try exact q2.elim
 simp only at q2;split at q2
 . rename_i C' fs e';obtain⟨rfl,hl,q2⟩:=q2;obtain⟨a,ea,dx,vs,h1,h2⟩:=S2.AA e';have r2':=eF ea r2;subst r2';have hm:some a∈α2:=List.mem_of_getElem? ea;have lv:vs.length<1000:=by rw[<-h2.length];exact hl
   refine⟨a,_,dx,vs,rfl,P2.get h1,c,na,lv,?_⟩;refine((k.nx.at s1).at s2) σd _ q2 α2 (upd G2 a (.ins _ dx (iw fl v vs))) _ σ (Step.write hm) (P2.write h1) (((R.step s1).step s2).step (Step.write hm)) ?_;exact S2.write ea ⟨dx,iw fl v vs,a9,(h2.put (r1.step s2)).step (Step.write hm)⟩
 . exact q2.elim
theorem LE.PQ{σ:L2.St}{H:Hp}{Q:VK}(h:LE (ky C m S to t) σ H Q):Jx C m (cG S) [] E0 (LE to) (LA t) σ H Q:=by
 obtain⟨α,σd,st,K,G,F,P,R,Sr,tt,k⟩:=h;refine⟨α,σd,st,_,G,F,P,R,Sr,tt,fun d st1 q α1 G1 H1 v s1 P1 S1 r1=>?_⟩;unfold Ax EK at q;cases d<;>try exact q.elim
 simp only at q;split at q
 . rename_i n C' fs e';obtain⟨rfl,hl,q⟩:=q;obtain⟨a,ea,dx,vs,h1,h2⟩:=S1.AA e';have r1':=eF ea r1;subst r1';refine⟨a,dx,vs,rfl,P1.get h1,h2.none hl,?_⟩;refine⟨α1,σd,st1,_,G1,F,P1,R.step s1,S1,q,fun ds st2 q2 α2 G2 H2 us s2 P2 S2 r2=>?_⟩;try dsimp only
   rw[List.append_nil];exact⟨α2,_,st2,K,G2,F,P2,by unfold aT;exact⟨_,_,rfl,r1.step s2,r2⟩,S2,q2,(k.at s1).at s2⟩
 . exact q.elim
theorem LE.make{σ:L2.St}{H:Hp}{Q:VK}(h:LE (Ep C S t) σ H Q):JQ C (cG S) [] E0 (LA t) σ H Q:=by
 obtain⟨α,σd,st,K,G,F,P,R,Sr,tt,k⟩:=h;refine⟨α,σd,st,_,G,F,P,R,Sr,tt,fun ds st1 q α1 G1 H1 us s1 P1 S1 r1=>?_⟩;intro x dx hx hdx hne;have hgd:=(P1.none hdx).1;have P2:=P1.laid (o:= .own x) hdx;have S2:=S1.laid (o:= .own x) hgd;have hx2:upd H1 dx (.own x) x=none:=by rw[aH (Ne.symm hne)];exact hx
 have hg2:=(P2.none hx2).1;have P3:=P2.laid (o:= .ins C dx []) hx2;have S3:=S2.cell (o:= .ins C dx []) (c:= .ins C []) hg2 ⟨dx,[],a9,.nil⟩;have s2:Step α1 G1 α1 (upd G1 dx (.own x)):=Step.laid hgd;have s3:Step α1 (upd G1 dx (.own x)) (α1++[some x]) (upd (upd G1 dx (.own x)) x (.ins C dx [])):=Step.cell hg2
 have rx:Rep (α1++[some x]) (upd (upd G1 dx (.own x)) x (.ins C dx [])) (.ref st1.length) (.ref x):=by
  unfold Rep;refine .inr ⟨x,?_,rfl⟩;rw[List.getElem?_append_right (by rw[S1.len];exact Nat.le_refl _),S1.len,Nat.sub_self];rfl
 rw[List.append_nil];refine⟨α1++[some x],.ref st1.length::ds,st1++[.ins C []],_,_,F,P3,by unfold aT;exact⟨_,_,rfl,rx,(r1.step s2).step s3⟩,S3,q,fun d st2 q2 α' G' H' v s' P' S' r'=>?_⟩;obtain⟨rfl,q2⟩:=q2;unfold Rep at r';exact⟨r',(((k.at s1).at s2).at s3) _ st2 q2 α' G' H' _ s' P' S' (rx.step s')⟩
end
def NA(a:Int)(n:Nat):It:=⟨fun i _=>i<n,fun i H x H'=>H'=H/\x= .int (a+(i:Nat)*(-1)),fun i _=>n<=i⟩
theorem Fw{P:Program}{w:World}{K:PySem.W.Frag}{tg:Expr}(it:Addr)(a:Int)(n:Nat):Turn P w K tg (NA a n) [it] it (fun i h=>IsRangeIter h it (a+(i:Nat)*(-1)) ((n:Int)-(i:Nat)) (-1)) where
 mem:=by simp
 obj:=fun i h st b hb=>by
  have e:b=it:=by simpa using hb
  subst e
  exact⟨_,st,fun v z=>by
   have z':Data.fields _=Data.cell v:=z;cases z'⟩
 keep:=fun i h h' st k=>k it (by simp) _ st
 item:=by
  intro X hP hw hK hc i pins s σ H E I hf st hg;subst hP hw hK;obtain⟨f0,f1,f2,f3,f4,f5⟩:=hf it (by simp);have W:=Walks.range (prog:=X.prog) (w:=X.w) (I.ok.hd hc) it a (-1) n;refine W.item i s _ _ hg st fun v h' tk hv st' kk=>?_;obtain⟨t,rfl⟩:=hv;have I1:Inv X pins σ H {s with heap:=h',toks:=tk}:=I.turned (fun b o hb e=>kk b o (by simpa using hb) e) f0 f1 f3 f4 f5;exact⟨_,rfl,AN (s:={s with heap:=h',toks:=tk}) (n:="range_iterator") st' rfl rfl (by decide) ⟨.int (a+(i:Nat)*(-1)),H,I1,⟨t,rfl⟩,⟨rfl,rfl⟩,st',fun b hb=>(hf b hb).1⟩⟩
 done:=by
  intro X hP hw hK hc i pins s σ H E I hf st hg;subst hP hw hK;obtain⟨f0,f1,f2,f3,f4,f5⟩:=hf it (by simp);exact wpAny_pyNext_range_end (I.ok.hd hc) st (by have:n<=i:=hg;omega) fun h' eb=>⟨rfl,I.turned (t':=s.toks) (fun b o hb e=>eb b o hb e) f0 f1 f3 f4 f5⟩
 self:=fun _ _ _ _ _ st h=>wpAny_pyIter_rangeiter st h
theorem zN(a b:Int):Builtin.Range.rangeSize a b (-1)=((a-b).toNat:Int):=by
 unfold Builtin.Range.rangeSize;rw[if_neg (by decide)];have e:(a-b-1)/(- -1:Int)=a-b-1:=by simp
 rw[e];split<;>omega
theorem small_down{a b:Int}(ha: -(2^62)<=a)(ha':a<2^62)(hb: -(2^62)<=b)(hb':b<2^62):Builtin.Range.small a b (-1)=true:=by
 unfold Builtin.Range.small;rw[zN];simp only[Builtin.Range.rangeFitsLong,Bool.and_eq_true,Bool.or_eq_true,decide_eq_true_eq,beq_iff_eq,show¬((-1:Int)>0) by decide,if_false];omega
def Kc(ta:TA):TI:=fun σ H R=>ta σ H fun vs H1=>∃i j:Int,vs=[.int i,.int j,.int (-1)]/\(-(2^62)<=i/\i<2^62/\ -(2^62)<=j/\j<2^62)/\R (NA i (i-j).toNat) H1
section
variable {X:Cx}{tg:Expr}
theorem FF{a b c:Expr}{ta:TA}{p pos:Pos}(hg:Gl X "range")(hm:X.mg "range"=none)(ha:PA X [a,b,c] ta)(hs:notStar a=true:=by rfl)(hs2:notStar b=true:=by rfl)(hs3:notStar c=true:=by rfl):
 PI X tg (.Call (.Name "range" p) [a,b,c] [] pos) (Kc ta):=by
 intro pins s σ H R I h;refine Call_ (md I hg hm boot_range (PyProof.Rows.callWith_type1 (cp (ha pos pins s σ H _ I h) fun us s1 ⟨vs,H1,I1,r1,q1⟩=>?_) (cD hs) (kQ (by simp[gq,hs2,hs3]))));obtain⟨i,j,e,⟨q1,q2,q3,q4⟩,q⟩:=q1;subst e;cases r1 with
 |cons r rr=>
  cases rr with
  |cons r' rr=>
   cases rr with
   |cons r'' rr=>
    cases rr;obtain⟨t,rfl⟩:=r;obtain⟨t',rfl⟩:=r';obtain⟨t'',rfl⟩:=r'';refine call_range_3 (by decide) ?_ (Or.inl (PyProof.noPylong_of_log2 (by decide+kernel)));refine wpAny_pyIter_range (IsRange.new ..) (small_down q1 q2 q3 q4) ?_;have I2:Inv X pins σ H1 {s1 with heap:=s1.heap.push {cls:= .type "range",data:= .fields #[.int i t,.int j t',.int (-1) t'']},toks:=s1.toks}:=I1.kept fun b o e=>Heap.get?_push_of_some _ e;generalize({s1 with heap:=s1.heap.push {cls:= .type "range",data:= .fields #[.int i t,.int j t',.int (-1) t'']},toks:=s1.toks}:Shared)=s2 at I2⊢;refine⟨s2.heap.objs.size,[s2.heap.objs.size],_,_,H1,rfl,I2.kept (t':=s2.toks) fun b o e=>Heap.get?_push_of_some _ e,Fw _ i (i-j).toNat,?_,fun b hb=>?_,q⟩
    . show IsRangeIter _ _ (i+((0:Nat):Int)*(-1)) ((((i-j).toNat:Nat):Int)-((0:Nat):Int)) (-1);have e1:i+((0:Nat):Int)*(-1)=i:=by omega
      have e2:(((i-j).toNat:Nat):Int)-((0:Nat):Int)=Builtin.Range.rangeSize i j (-1):=by rw[zN];omega
      rw[e1,e2];exact Heap.get?_push_size _ rfl
    . have e:b=s2.heap.objs.size:=by simpa using hb
      subst e;exact I2.wI (Nat.le_refl _) (I2.aP.fresh (Nat.le_refl _))
end
def iP(a:Int)(n:Nat):List D:=(List.range n).map fun(k:Nat)=>D.int (a+(k:Nat)*(-1))
theorem zU{a:Int}{n k:Nat}:(iP a n)[k]?=if k<n then some (.int (a+(k:Nat)*(-1)))else none:=by
 unfold iP;rw[List.getElem?_map];by_cases h:k<n
 . rw[List.getElem?_range h,if_pos h];rfl
 . rw[List.getElem?_eq_none (by simpa using h),if_neg h];rfl
theorem og{a:Int}{n:Nat}:(iP a n).length=n:=by unfold iP;simp
theorem LL{α:List (Option Addr)}{G:Hp}{a:Int}{n:Nat}:wZ (NA a n) α G (fun _=>True) (iP a n) where
 stop:=fun m α' G' F' H' st' s P S o hn=>by rw[og]at hn;exact hn
 go:=fun m d α' G' F' H' st' s P S o hn=>by
  rw[zU]at hn;split at hn
  . assumption
  . cases hn
 qx:=fun m d α' G' F' H' st' x H'' s P S o hn y=>by
  obtain⟨rfl,rfl⟩:=y;rw[zU]at hn;split at hn
  . cases hn;exact⟨G',Step.refl,P,S,by unfold Rep;rfl⟩
  . cases hn
def Pl(ds:List D)(st1:ag)(K:List D->(ag->Prop)->ag->Prop):Prop:=match ds with
 | [.int i,.int j,.int c]=>(c= -1/\ -(2^62)<=i/\i<2^62/\ -(2^62)<=j/\j<2^62)/\K (iP i (i-j).toNat) (fun _=>True) st1
 |_=>False
@[irreducible] def AE:List D->ag->(List D->(ag->Prop)->ag->Prop)->Prop:=Pl
def y0(t:DA):DI:=fun σ st K=>t σ st fun ds st1=>AE ds st1 K
theorem GZ{X:Cx}{tg iter:Expr}{t:DA}(h:PI X tg iter (Kc (LA t))):PI X tg iter (LI (y0 t)):=PI.imp h fun σ H R ⟨α,σd,st,K,G,F,P,RS,S,t,k⟩=>by
 refine⟨α,σd,st,_,G,F,P,RS,S,t,fun ds st1 q α1 G1 H1 vs s1 P1 S1 r1=>?_⟩;unfold AE at q;match ds,q,r1 with
 | [.int i,.int j,.int c],q,r1=>
   obtain⟨v,u,w,rfl,r2,r3,r4⟩:=Qp r1 rfl;unfold Rep at r2 r3 r4;subst r2 r3 r4;obtain⟨⟨rfl,q1⟩,q2⟩:=q;exact⟨i,j,rfl,q1,k _ _ st1 q2 _ α1 G1 H1 s1 P1 S1 LL⟩
theorem Ll{st:ag}{i j:Int}{K:List D->(ag->Prop)->ag->Prop}(h: -(2^62)<=i/\i<2^62/\ -(2^62)<=j/\j<2^62)(k:K (iP i (i-j).toNat) (fun _=>True) st):AE [.int i,.int j,.int (-1)] st K:=by unfold AE;exact⟨⟨rfl,h⟩,k⟩
theorem Hy{X:Cx}{tg a b c:Expr}{p pos:Pos}{ar:DA}(hg:Gl X "range")(hm:X.mg "range"=none)(ha:JA X [a,b,c] ar)(hs:notStar a=true:=by rfl)(hs2:notStar b=true:=by rfl)(hs3:notStar c=true:=by rfl):JI X tg (.Call (.Name "range" p) [a,b,c] [] pos) (y0 ar):=by
 unfold JI;unfold JA at ha;exact GZ (FF hg hm ha hs hs2 hs3)
section
variable {X:Cx}
end
section
variable {X:Cx}{e o i value:Expr}{es:List Expr}{te to ti:DE}{t:DA}{pos pos' tpos apos p:Pos}{C f:Addr}{fl m x:Str}{S:cw}{k:Nat}{fd:FuncData}{ps:List Str}
theorem FH{value o:Expr}{fl:Str}{pos':Pos}{n:Nat}{env:Env}:swapsWith value (some (.Attribute o fl pos')) n env=pure false:=by cases value<;>rfl
theorem dH(c:pB X.K C)(na:gJ X.K C fl)(he:JE X e te)(hb:attributeBase e fl X.env (eval e X.env)=eval e X.env:=by rfl):JE X (.Attribute e fl pos) (eK C fl te):=by unfold JE at*;exact Pt c na he hb
theorem pd(c:pB X.K C)(na:gJ X.K C fl)(ho:JE X o to)(hv:JE X value te):JS X (.Assign [.Attribute o fl pos'] value pos) (qt C fl to te):=by unfold JS;unfold JE at*;exact MY c na ho hv FH
theorem nM{pl:Sem Bool}(he:JE X o to)(c:pB X.K C)(hm:Meth X.K C m f)(F:bh X.prog X.w X.K X.mg X.base cz k f fd ps (cG S))(hr:dn k X.A)(hb:Binds X.K fd ps [])(ha:JA X (e::es) t)
 (hs:notStar e=true:=by rfl) (hs2:gq es=true:=by rfl)
 (ht:eval (.Call (.Attribute o m apos) (e::es) [] pos) X.env=(do
   let ov <-eval o X.env
   standAt apos.atName
   let(f,first) <-holding [ov] (getMethod ov m pl)
   callWith pos f first (backTo pos (starEach (e::es) X.env)) (backToKw pos (keywordEach [] X.env))):=by rfl):
 JE X (.Call (.Attribute o m apos) (e::es) [] pos) (ky C m S to t):=by
 unfold JE at*;unfold JA at ha;exact PE.imp (LJ he c hm F hr hb .nil Fd ha (cD hs) (kQ hs2) ht) fun _ _ _ h=>LE.PQ h
theorem Oy(M:Mk X.K C f)(F:bh X.prog X.w X.K X.mg X.base cz k f fd ps (cG S))(hr:dn (k+1) X.A)(hg:Gl X x)(hmg:X.mg x=some (.ref C))(hb:Binds X.K fd ps [])(ha:JA X (e::es) t)(hdb:(x==("__debug__":Str))=false)
 (hs:notStar e=true:=by rfl) (hs2:gq es=true:=by rfl):JE X (.Call (.Name x p) (e::es) [] pos) (Ep C S t):=by
 unfold JE;unfold JA at ha;exact PE.imp (Lp M F hr hg hmg hb .nil Fd ha hdb (cD hs) (kQ hs2)) fun _ _ _ h=>LE.make h
end
end L3
namespace L2
open PySem PySem.Spec PyProof.Rows
structure Entry(K:PySem.W.Frag)(ts:List (Addr×Addr))(a:Addr)(ns:List Int)(H:Hp):Prop where
 lst:nN K H a (ns.map V.int)
 tab:∀q∈ts,H q.2=some (.ll #[])/\q.2≠a
theorem zZ:∀ {vs:List Value} {ns:List Int},IntsAre vs ns->Vals (ns.map V.int) vs
 |_,_,.nil=> .nil
 |_,_,.cons n t h=> .cons ⟨t,rfl⟩ (zZ h)
structure Od(K:PySem.W.Frag)(ts:List (Addr×Addr))(h:Heap):Prop where
 hd:∀q∈ts,PySem.W.codeHdIn K q.1 q.2=true
 no:∀q∈ts,K.lookup q.2=none
 at':∀q∈ts,h.get? q.2=some (PySem.W.tabObj #[])
theorem Gn{P:Program}{w:World}{K:PySem.W.Frag}{mg mb:Str->Option Value}{k:Nat}{fa a:Addr}{fd:FuncData}{x:Str}{sp:Sp}{s₁:Shared}{vs:List Value}{ns:List Int}{ts:List (Addr×Addr)}
 (KX:K.In s₁.heap) (hns:s₁.heap.Ns mainGlobals mg) (hb:s₁.heap.Ns builtinsNs mb) (hbb:∀x:Str,x≠"__name__"->mb x=bootBuiltins x) (hlim:s₁.heap.NoLimit) (hse:s₁.heap.NoSeer) (hgt:P.given.tree=none)
 (hbm:∃bm ob,mg "__builtins__"=some (.ref bm)/\bm≠builtinsNs/\s₁.heap.get? bm=some ob/\ob.cls= .type "module"/\ob.dict=some builtinsNs/\ob.data= .plain) (hT:Od K ts s₁.heap) (hg:s₁.gens= #[])
 (ha:s₁.heap.get? a=some {cls:= .type "list",data:= .seq vs.toArray}) (hi:IntsAre vs ns) (hl:ns.length<=sizeLine) (hr:dn k callerA)
 (F:∀base:Heap,K.In base->base.Ns mainGlobals mg->bh P w K mg base (fun _ _ _ _ _ _=>False) k fa fd [x] sp) (hbind:∀(s:Shared) (u:Value),BindsTo s fd ⟨[u],[]⟩ [(x,u)])
 (hsp:∀H:Hp,Entry K ts a ns H->sp [.ref a] H (fun v _=>v= .bl true) fun _ _ _=>False):
 codeAny (model P w) callerA (.call (.ref fa) ⟨[.ref a],[]⟩) (fun r s'=>r= .ok (.ret (.bool true))/\OldK s₁.heap s'.heap/\s'.os=s₁.os/\AllBare s'.gens) s₁:=by
 have rv:=zZ hi;have lenV:=hi.length
 have nta:∀q∈ts,q.2≠a:=fun q hq z=>by
  have:=hT.at' q hq;rw[z,ha]at this;cases this
 let sc:Option HO:=match K.lookup a with
  |some _=>none
  |none=>some (.gW {cls:= .type "list",data:= .seq vs.toArray} (.lst (ns.map V.int)))
 let H:Hp:=fun b=>if b=a then sc else if b∈ts.map (·.2)then some (.ll #[])else none
 have Ha:H a=sc:=if_pos rfl
 have Ht:∀q∈ts,H q.2=some (.ll #[]):=fun q hq=>by
  show(if q.2=a then sc else if q.2∈ts.map (·.2)then some (HO.ll #[])else none)=_;rw[if_neg (nta q hq),if_pos (List.mem_map_of_mem hq)]
 have Hs:∀b u,H b=some u->(b=a/\K.lookup a=none/\u= .gW {cls:= .type "list",data:= .seq vs.toArray} (.lst (ns.map V.int)))\/(∃q∈ts,q.2=b/\u= .ll #[]):=fun b u e=>by
  have e':(if b=a then sc else if b∈ts.map (·.2)then some (HO.ll #[])else none)=some u:=e;by_cases hba:b=a
  . rw[if_pos hba]at e'
    have e2:(match K.lookup a with
     |some _=>none
     |none=>some (HO.gW {cls:= .type "list",data:= .seq vs.toArray} (.lst (ns.map V.int))))=some u:=e'
    cases q:K.lookup a with
    |some o=>rw[q]at e2;cases e2
    |none=>rw[q]at e2;cases e2;exact .inl ⟨hba,rfl,rfl⟩
  . rw[if_neg hba]at e';by_cases hbt:b∈ts.map (·.2)
    . rw[if_pos hbt]at e';cases e';obtain⟨q,hq,e⟩:=List.mem_map.mp hbt;exact .inr ⟨q,hq,e,rfl⟩
    . rw[if_neg hbt]at e';cases e'
 have aP:iZ P w H s₁.heap:=fun b u e=>by
  rcases Hs b u e with⟨rfl,_,rfl⟩|⟨q,hq,rfl,rfl⟩
  . exact⟨ha,by rw[List.length_map];exact hl,vs,_,rv,ha⟩
  . exact hT.at' q hq
 have hE:Entry K ts a ns H:=by
  refine⟨?_,fun q hq=>⟨Ht q hq,nta q hq⟩⟩;cases q:K.lookup a with
  |some o=>
   have e:=KX a o q;rw[ha]at e;cases e;exact .inr ⟨_,vs.toArray,_,q,rfl,rfl,rfl,by rw[List.size_toArray,lenV];exact hl,by simpa using rv⟩
  |none=>
   refine .inl (.inr ⟨{cls:= .type "list",data:= .seq vs.toArray},?_⟩);rw[Ha]
   show(match K.lookup a with
    |some _=>none
    |none=>some (HO.gW {cls:= .type "list",data:= .seq vs.toArray} (.lst (ns.map V.int))))=_
   rw[q]
 have dictNo:∀ {b:Addr} {o:Obj},s₁.heap.get? b=some o->(∀es ep,o.data≠ .seq es ep)->o.cls≠ .none->H b=none:=fun{b o} e d1 d2=>by
  cases q:H b with
  |none=>rfl
  |some u=>
   rcases Hs b u q with⟨rfl,_,_⟩|⟨t,ht,rfl,_⟩
   . rw[ha]at e;cases e;exact absurd rfl (d1 _ _)
   . rw[hT.at' t ht]at e;cases e;exact absurd rfl d2
 have nsK:∀ {b:Addr} {m:Str->Option Value},s₁.heap.Ns b m->(qU s₁.heap H).Ns b m:=fun{b m} ⟨o,es,ep,e,d,r⟩=>by
  refine⟨o,es,ep,sL e ?_,d,r⟩;cases q:H b with
  |none=>rfl
  |some u=>
   rcases Hs b u q with⟨rfl,_,_⟩|⟨t,ht,rfl,_⟩
   . rw[ha]at e;cases e;cases d
   . rw[hT.at' t ht]at e;cases e;cases d
 have hKb:K.In (qU s₁.heap H):=fun b o e=>sL (KX b o e) (by
  cases q:H b with
  |none=>rfl
  |some u=>
   rcases Hs b u q with⟨rfl,z,_⟩|⟨t,ht,rfl,_⟩
   . rw[z]at e;cases e
   . rw[hT.no t ht]at e;cases e)
 obtain⟨bm,ob,b1,b2,b3,b4,b5,b6⟩:=hbm;have hbmK:(qU s₁.heap H).get? bm=some ob:=sL b3 (dictNo b3 (fun es ep z=>by rw[b6]at z;cases z) (fun z=>by rw[b4]at z;cases z))
 have seK:(qU s₁.heap H).NoSeer:=by
  obtain⟨⟨m1,a1,a2⟩,⟨m2,c1,c2⟩,⟨m3,d1,d2⟩,⟨mg',bm',ob',e1,e2,e3,e4,e5⟩⟩:=hse;refine⟨⟨m1,nsK a1,a2⟩,⟨m2,nsK c1,c2⟩,⟨m3,nsK d1,d2⟩,⟨mg',bm',ob',nsK e1,e2,sL e3 ?_,e4,e5⟩⟩;cases q:H bm' with
  |none=>rfl
  |some u=>
   rcases Hs bm' u q with⟨rfl,_,_⟩|⟨t,ht,rfl,_⟩
   . rw[ha]at e3;cases e3;exact absurd (show Value.type "list"=Value.type "module" from e4) (by intro z;injection z with z;exact absurd z (by decide))
   . rw[hT.at' t ht]at e3;cases e3;cases e4
 have hM:Mod K mg (qU s₁.heap H):=⟨hKb,nsK hns,⟨mb,nsK hb,hbb⟩,let⟨mc,h1,h2⟩:=hlim;⟨mc,nsK h1,h2⟩,seK,⟨bm,ob,b1,b2,hbmK,b4,b5,b6⟩⟩
 have e0:w4 P w K mg (qU s₁.heap H) callerA [] s₁ H:=⟨rfl,hM,fun b o e=>LU e,Nat.le_of_eq (F5 _ _),trivial,fun b hb=>absurd (show b∈([]:List Addr)from hb) (by simp),aP,.of_eq hg,hgt⟩
 refine codeAny_mono ((F _ hKb (nsK hns)).run callerA [] s₁ H ⟨[.ref a],[]⟩ [.ref a] [.ref a] _ _ hr e0 (hbind s₁ (.ref a)) (.cons rfl .nil) (hsp H hE)) fun r s' h=>?_;cases r with
 |error e=>exact False.elim h
 |ok fl=>
  cases fl with
  |next=>exact False.elim h
  |brk=>exact False.elim h
  |cont=>exact False.elim h
  |ret u=>
   obtain⟨v,H',os,bare,un,hok',r',q⟩:=h;have q':v= .bl true:=q;subst q';obtain rfl:u=Value.bool true:=r';have noF:∀b:Addr,b∉rZ ([]:List Env):=fun b z=>absurd (show b∈([]:List Addr)from z) (by simp);refine⟨rfl,⟨fun b o e=>?_,fun b o e=>un.there b o e (by simp)⟩,os,bare⟩;cases q:H b with
   |none=>exact .inl (un.keep b o e q (noF b) (by simp))
   |some u=>
    rcases Hs b u q with⟨rfl,_,rfl⟩|⟨t,ht,rfl,rfl⟩
    . obtain⟨e2,_⟩:=hok' b _ (un.pW b _ _ q);rw[ha]at e;cases e;exact .inl e2
    . obtain⟨more,e1⟩:=un.pv _ _ q;have e2:s'.heap.get? t.2=some {cls:= .none,data:= .fields (#[]++more)}:=hok' _ _ e1;have e3:=hT.at' t ht;rw[e3]at e;cases e;have C:PySem.W.CodeHd s₁.heap t.1 t.2:=PySem.W.codeHd_of_K KX (hT.hd t ht);exact .inr (.inl ⟨(C.tab e3).isCodeTable,rfl,#[],more,rfl,e2⟩)
theorem Qo{l:PySem.W.OpenLaw}{n k:Nat}{q:Program}{loose:List Str}{XP:(Str->Option Value)->Heap->Prop}{YP:World->Heap->Prop}{d:DefRec}{K:Params->PySem.W.Frag}{sp:World->Sp}{x:Str}{ts:List (Addr×Addr)}
 (hn:l.most=some n) (hn2:n<=sizeLine) (hdf:d.params.defaults=[]) (hr:dn k callerA) (hq:importsNone q=true) (hgt:l.prog.given.tree=none)
 (hY:∀(w:World) (h:Heap),YP w h->(K w.params).In h/\Od (K w.params) ts h)
 (F:∀(w:World) (mg:Str->Option Value) (fa:Addr) (h:Heap),(K w.params).In h->h.Ns mainGlobals mg->mg d.name=some (.ref fa)->
   ∃fd:FuncData,(∀(s:Shared) (u:Value),BindsTo s fd ⟨[u],[]⟩ [(x,u)])/\
    ∀base:Heap,(K w.params).In base->base.Ns mainGlobals mg->bh l.prog w (K w.params) mg base (fun _ _ _ _ _ _=>False) k fa fd [x] (sp w))
 (hsp:∀(w:World) (H:Hp) (a:Addr) (ns:List Int),ns.length<=n->Entry (K w.params) ts a ns H->sp w [.ref a] H (fun v _=>v= .bl true) fun _ _ _=>False):
 PySem.W.WalkO q loose XP YP l.row.toRowW d [] (fun f vs=>PySem.call f vs):=by
 refine Att.Dk hn hdf fun w s₀ s₁ mg mb fa o pm cd doc a vs ns G Y ho hd hcd hmg hobj hints hlen hg=>?_;obtain⟨KX,hT⟩:=hY w _ Y;obtain⟨fd,hb,hF⟩:=F w mg fa _ KX G.T.g hmg;exact Gn KX G.T.g G.T.b G.T.builtins G.T.nolimit (G.T.seer hq) hgt G.T.bmain hT hg hobj hints (Nat.le_trans hlen hn2) hr hF hb fun H hE=>hsp w H a ns hlen hE
end L2
namespace L3
open PySem PySem.Spec L2
open PyProof.Rows hiding St
section
variable {X:Cx}{pins:List (Addr×Obj)}{σ:L2.St}{H:Hp}{s:Shared}{p:Addr}{o o':Obj}{h':Heap}
theorem m5{t':Nat}(I:Inv X pins σ H s)(hd:∀v,o.data≠ .cell v)(hfr:o.isFreed=false:=by rfl):Inv X (pins++[(s.heap.objs.size,o)]) σ H {s with heap:=s.heap.push o,toks:=t'}:=by
 have I':=I.kept (h':=s.heap.push o) (t':=t') (fun b u e=>Heap.get?_push_of_some _ e);refine I'.vt fun q hq=>?_;rcases List.mem_append.mp hq with hq|hq
 . exact I'.pin q (List.mem_append_right _ hq)
 . have e:q=(s.heap.objs.size,o):=by simpa using hq
   subst e;exact⟨Heap.get?_push_size _ hfr,I.aP.fresh (Nat.le_refl _),Nat.ne_of_gt I.lt,I.OW (Nat.le_refl _),hd⟩
theorem gh(I:Inv X (pins++[(p,o)]) σ H s):s.heap.get? p=some o/\H p=none/\p≠X.env.locals/\p∉X.fs/\∀v,o.data≠ .cell v:=
 I.pin (p,o) (List.mem_append_right _ (List.mem_append_right _ (List.mem_singleton.mpr rfl)))
theorem B9(I:Inv X (pins++[(p,o)]) σ H s):∀x c,X.env.cells.lookup x=some c->c≠p:=fun x c e z=>by
 obtain⟨v,u,hu,hd⟩:=I.cell x c e;obtain⟨h1,_,_,_,h5⟩:=gh I;rw[z,h1]at hu;cases hu;exact h5 v hd
theorem pJ{t':Nat}(I:Inv X (pins++[(p,o)]) σ H s)(hs:Heap.SameBut p s.heap h')(hn:h'.get? p=some o')(hd:∀v,o'.data≠ .cell v)(h0:X.s₀.heap.objs.size<=p)(hp:∀q∈X.pn++pins,q.1≠p):
 Inv X (pins++[(p,o')]) σ H {s with heap:=h',toks:=t'}:=by
 obtain⟨_,n,neL,nfs,_⟩:=gh I;have I0:Inv X pins σ H s:=I.iI;have I1:=I0.turned (t':=t') (h':=h') (it:=p) (fun b u hb e=>(hs.2 b hb).trans e) n neL (.inr h0) (B9 I) hp;refine I1.vt fun q hq=>?_;rcases List.mem_append.mp hq with hq|hq
 . exact I1.pin q (List.mem_append_right _ hq)
 . have e:q=(p,o'):=by simpa using hq
   subst e;exact⟨hn,n,neL,nfs,hd⟩
theorem F6{u:HO}(I:Inv X (pins++[(p,o)]) σ H s)(h0:X.s₀.heap.objs.size<=p)(hp:∀q∈X.pn++pins,q.1≠p)(new:dY X.prog X.w (upd H p u) s.heap p u):Inv X pins σ (upd H p u) s:=by
 obtain⟨e0,n,neL,nfs,_⟩:=gh I;have ne:∀ {b:Addr} {w:HO},H b=some w->b≠p:=fun e=>d3 e n;have ne0:∀ {b:Addr} {w:Obj},X.s₀.heap.get? b=some w->b≠p:=fun e=>Nat.ne_of_lt (Nat.lt_of_lt_of_le (Heap.lt_size e) h0);refine⟨I.ok,I.os,I.bare,⟨I.base.keep,I.base.slot,fun b w e q hx=>?_,I.base.there,fun b xs e=>?_,fun b w y e=>?_,fun b ps e=>?_⟩,I.loc,I.cell,?_,fun x c e=>?_,fun q hq=>?_,fun b w e=>?_,I.len⟩
 . rw[aH (ne0 e)];exact I.base.free b w e q hx
 . have:=I.base.qS b xs e;rw[aH (ne this)];exact this
 . have:=I.base.pW b w y e;rw[aH (ne this)];exact this
 . obtain⟨m,q⟩:=I.base.pv b ps e;exact⟨m,by rw[aH (ne q)];exact q⟩
 . rw[aH (Ne.symm neL)];exact I.free
 . rw[aH (B9 I x c e)];exact I.jv x c e
 . have hq':q∈X.pn++(pins++[(p,o)]):=by
    rcases List.mem_append.mp hq with z|z
    . exact List.mem_append_left _ z
    . exact List.mem_append_right _ (List.mem_append_left _ z)
   obtain⟨a1,a2,a3⟩:=I.pin q hq';exact⟨a1,by rw[aH (hp q hq)];exact a2,a3⟩
 . by_cases hb:b=p
   . subst hb;rw[a9]at e;cases e;exact new
   . rw[aH hb]at e;exact(I.aP b w e).mW (fun _ _ _ q=>q) (fun c q=>by rw[aH (ne q)];exact q) fun c xs q=>by rw[aH (ne q)];exact q
end
def oy(X:Cx)(pins:List (Addr×Obj))(σ:L2.St)(R:Hp->Prop)(own:List (Addr×Obj))(s:Shared):Prop:=∃H,Inv X (pins++own) σ H s/\R H
section
variable {X:Cx}{pins:List (Addr×Obj)}{σ:L2.St}{R:Hp->Prop}{s:Shared}{A:Around}{E:Value->Shared->Prop}{a kS:Addr}{e1 e:Nat}{keys:Array Value}{P:PySem.Fin->Shared->Prop}
structure Own(X:Cx)(pins:List (Addr×Obj))(p:Addr):Prop where
 ge:X.s₀.heap.objs.size<=p
 ne:∀q∈X.pn++pins,q.1≠p
theorem vF{H:Hp}(I:Inv X pins σ H s):Own X pins s.heap.objs.size:=⟨I.sz,fun q hq=>Nat.ne_of_lt (Heap.lt_size (I.pin q hq).1)⟩
theorem Cf{p:Addr}{q:Addr×Obj}(h:Own X pins p)(hq:q.1≠p):Own X (pins++[q]) p:=⟨h.ge,fun r hr=>by
 rcases List.mem_append.mp hr with z|z
 . exact h.ne r (List.mem_append_left _ z)
 . rcases List.mem_append.mp z with z|z
   . exact h.ne r (List.mem_append_right _ z)
   . have e:r=q:=by simpa using z
     rw[e];exact hq⟩
theorem Co{x y:Addr×Obj}(J:oy X pins σ R [x,y] s):∃H,Inv X ((pins++[x])++[y]) σ H s/\R H:=by
 obtain⟨H,I,r⟩:=J;exact⟨H,by rw[List.append_assoc];exact I,r⟩
theorem GI{x y:Addr×Obj}{H:Hp}(I:Inv X ((pins++[x])++[y]) σ H s)(r:R H):oy X pins σ R [x,y] s:=⟨H,by rw[List.append_assoc]at I;exact I,r⟩
theorem BL{st:SortSt}(J:oy X pins σ R [(a,seqObj "list" #[] e1),(kS,seqObj "list" keys e)] s)(ha:Own X pins a)(hk:Own X pins kS)(hka:kS≠a)(hz1:keys.size<=sizeLine)(hz2:(arrOf st).size<=sizeLine)(hf:failedOf st=none)
 (h:∀s' c,oy X pins σ R [(a,seqObj "list" ((arrOf st).map (·.2)) c)] s'->P (.done (.ret .none)) s'):
 wpAny (model X.prog X.w) A (PyProof.Rows.ksk_tail a false e1 (.ref kS) st) P E s:=by
 obtain⟨H,I,r⟩:=Co J;have k1:=(gh I).1;have s1:=Heap.SameBut.update s.heap kS (Obj.mapSeq fun _=>(#[]:Array Value));have I1:=pJ (t':=s.toks) I s1 (get?_update_seq k1 fun _=> #[]) (fun v z=>by cases z) hk.ge (Cf hk hka.symm).ne;have I2:Inv X (pins++[(a,seqObj "list" #[] e1)]) σ H {s with heap:=s.heap.update kS (Obj.mapSeq fun _=>(#[]:Array Value)),toks:=s.toks}:=I1.iI;have a1:=(gh I2).1;have s2:=Heap.SameBut.update (s.heap.update kS (Obj.mapSeq fun _=>(#[]:Array Value))) a (Obj.mapSeq fun _=>(arrOf st).map (·.2));have I3:=pJ (t':=s.toks) I2 s2 (get?_update_seq a1 fun _=>(arrOf st).map (·.2)) (fun v z=>by cases z) ha.ge ha.ne;unfold ksk_tail;simp only[Bool.false_eq_true,if_false];refine wpAny_bind (listUpdate_at k1 rfl ?_ hz1 (Nat.zero_le _));refine wpAny_bind (wpAny_letGo ?_);refine wpAny_bind (seqEpoch_at a1 rfl ?_);refine wpAny_bind (listUpdate_at a1 rfl ?_ (Nat.zero_le _) (Nat.le_succ_of_le (by rw[Array.size_map];exact hz2)));rw[hf];simp only[bne_self_eq_false,Bool.false_eq_true,if_false];exact wpAny_pure (h _ _ ⟨H,I3,r⟩)
def ER(kz:List Int)(vs out:List Value):Prop:=
 ∃ps:List (Int×Value),ps.Perm (kz.zip vs)/\out=ps.map Prod.snd/\ps.Pairwise fun p q=>p.1<=q.1
theorem Dt{kz:List Int}{vs:List Value}(hk:IntsAre keys.toList kz){xs:Array Keyed}(hp:xs.Perm (keys.zip vs.toArray))(hs:SortedTo xs xs.size):ER kz vs (xs.map (·.2)).toList:=by
 obtain⟨ps,h1,h2,h3⟩:=ksk_out hk (b:=false) hp hs;exact⟨ps,h1,h2,h3⟩
theorem KC{kz:List Int}{vs:List Value}(J:oy X pins σ R [(a,seqObj "list" #[] e1),(kS,seqObj "list" keys e)] s)(ha:Own X pins a)(hk:Own X pins kS)(hka:kS≠a)(hi:IntsAre keys.toList kz)(hl:kz.length=vs.length)(h64:vs.length<64)
 (h:∀s' out c,oy X pins σ R [(a,seqObj "list" out c)] s'->ER kz vs out.toList->P (.done (.ret .none)) s'):
 wpAny (model X.prog X.w) A (ksk_end a false vs.toArray e1 (.ref kS) keys) P E s:=by
 have hsz:keys.size=vs.length:=by have:=hi.length;rw[Array.length_toList]at this;omega
 have hzs:(keys.zip vs.toArray).size=vs.length:=by rw[Array.size_zip,hsz,List.size_toArray,Nat.min_self]
 have hbig:vs.length<=sizeLine:=Nat.le_trans (Nat.le_of_lt h64) (by decide);unfold ksk_end;simp only[Bool.false_eq_true,if_false];by_cases h2:vs.toArray.size<2
 . rw[if_pos h2,if_pos h2];refine wpAny_bind (wpAny_pure ?_);rw[StateT.run_pure];refine wpAny_bind (wpAny_pure ?_);refine BL (st:=SortSt.mk' general' (keys.zip vs.toArray) #[] 7 none) J ha hk hka (by omega) (by show(keys.zip vs.toArray).size<=_;omega) rfl fun s' c J'=>h s' _ c J' ?_;refine Dt hi (Array.Perm.refl _) fun i j hij hj=>?_;have hj':j<(keys.zip vs.toArray).size:=hj;rw[List.size_toArray]at h2;have:i=j:=by omega
   rw[this];exact Int.le_refl _
 . rw[if_neg h2,if_neg h2];rw[List.size_toArray]at h2;rw[ksk_kind hi (by omega)];refine wpAny_bind (wpAny_pure ?_)
   refine wpAny_bind (wpAny_mono (wpS_sortRuns (a₀:=keys.zip vs.toArray) (st:=SortSt.mk' oneType' (keys.zip vs.toArray) #[] 7 none)
    (Q:=fun _ st'=>(arrOf st').Perm (keys.zip vs.toArray)/\failedOf st'=none/\SortedTo (arrOf st') (keys.zip vs.toArray).size)
    (ksk_intKeys hi) ⟨Array.Perm.refl _,rfl,rfl,rfl⟩ (by omega) (by omega) fun st' b1 b2 b3=>⟨b1,b2,b3⟩) ?_ fun _ _ z=>z)
   rintro⟨⟨⟩,st'⟩ s' ⟨rfl,hp,hf,hs⟩;have hz2:=hp.size_eq;refine BL (st:=st') J ha hk hka (by omega) (by rw[hz2];omega) hf fun s' c J'=>h s' _ c J' (Dt hi hp (by rw[hz2];exact hs))
theorem IY{f:Value}{kz:List Int}{vs:List Value}(J:oy X pins σ R [(a,seqObj "list" #[] e1),(kS,seqObj "list" #[] 0)] s)(ha:Own X pins a)(hk:Own X pins kS)(hka:kS≠a)(hl:kz.length=vs.length)(h64:vs.length<64)
 (turn:∀(i:Nat) (v:Value) (k:Int),vs[i]?=some v->kz[i]?=some k->∀(own:List (Addr×Obj)) (s:Shared),oy X pins σ R own s->wpAny (model X.prog X.w) A (call f [v]) (fun u s'=>(∃t,u= .int k t)/\oy X pins σ R own s') (fun _ _=>False) s)
 (h:∀s' out c,oy X pins σ R [(a,seqObj "list" out c)] s'->ER kz vs out.toList->P (.done (.ret .none)) s'):
 wpAny (model X.prog X.w) A (ksk_rest a f false vs.toArray e1 (.ref kS)) P E s:=by
 have hbig:vs.length<=sizeLine:=Nat.le_trans (Nat.le_of_lt h64) (by decide);unfold ksk_rest;refine wpAny_bind (wpAny_rule ?_)
 first
  |rw[List.forIn_toArray]
  |(rw[<-Array.forIn_toList];simp only[List.toList_toArray])
  |rw[<-Array.forIn_toList]
 refine wpAny_bind (ksk_fold (fun i s'=>∃kA e,oy X pins σ R [(a,seqObj "list" #[] e1),(kS,seqObj "list" kA e)] s'/\IntsAre kA.toList (kz.take i)) vs 0 s ⟨#[],0,J,by simpa using IntsAre.nil⟩ ?st ?en)
 case st=>
  rintro j x s' hx ⟨kA,e,J',hk'⟩;simp only[Nat.zero_add]at hk'⊢;have hj:j<vs.length:=(List.getElem?_eq_some_iff.mp hx).1;have hkj:kz[j]?=some (kz[j]'(by omega)):=List.getElem?_eq_getElem _
  have hz:kA.size<=vs.length:=by
   have:=hk'.length;rw[Array.length_toList,List.length_take]at this;omega
  refine wpAny_bind (wpAny_attempt (wpAny_mono (turn j x _ hx hkj _ s' J') (fun v s2 he=>?_) fun _ _ z=>z.elim));obtain⟨⟨t,rfl⟩,J2⟩:=he;obtain⟨H,I,r⟩:=Co J2;have k1:=(gh I).1;have s1:=Heap.SameBut.update s2.heap kS (Obj.mapSeq (·.push (.int (kz[j]'(by omega)) t)));have I1:=pJ (t':=s2.toks) I s1 (get?_update_seq k1 (·.push (.int (kz[j]'(by omega)) t))) (fun v z=>by cases z) hk.ge (Cf hk hka.symm).ne;refine wpAny_bind (listUpdate_at k1 rfl ?_ (by omega) (Nat.le_trans (Nat.le_of_eq (Array.size_push ..)) (by omega)));refine wpAny_pure ⟨rfl,_,_,GI I1 r,?_⟩;have ek:kz.take (j+1)=kz.take j++[kz[j]'(by omega)]:=by rw[List.take_add_one,hkj];simp
  rw[ek,Array.toList_push];exact ksk_snoc hk'
 case en=>
  rintro s' ⟨kA,e,J',hk'⟩;rw[show kz.take (0+vs.length)=kz from List.take_of_length_le (by omega)]at hk';obtain⟨H,I,r⟩:=Co J';refine wpAny_bind (listItems_at (gh I).1 rfl ?_);exact KC J' ha hk hka hk' hl h64 h
theorem E3{f:Addr}{l:Addr}{kz:List Int}{vs:List Value}{H:Hp}{Q:Value->Shared->Prop}(I:Inv X pins σ H s)(r:R H)(hli:s.heap.IsList l vs.toArray)(hl:kz.length=vs.length)(h64:vs.length<64)
 (turn:∀(i:Nat) (v:Value) (k:Int),vs[i]?=some v->kz[i]?=some k->∀(own:List (Addr×Obj)) (s:Shared),oy X pins σ R own s->wpAny (model X.prog X.w) A.in1.in1 (call (.ref f) [v]) (fun u s'=>(∃t,u= .int k t)/\oy X pins σ R own s') (fun _ _=>False) s)
 (h:∀D s' out c,Own X pins D->oy X pins σ R [(D,seqObj "list" out c)] s'->ER kz vs out.toList->Q (.ref D) s'):
 wpAny (model X.prog X.w) A (call (.builtin "sorted") [.ref l] [(Str.ofString "key",.ref f)]) Q E s:=by
 have hbig:vs.length<=sizeLine:=Nat.le_trans (Nat.le_of_lt h64) (by decide);refine call_function_entry_kw kind_sorted plain_sorted entry_sorted (ksk_s1 _ _) ?_;unfold Builtin.«sorted»;refine wpAny_bind (m:=checkCount "sorted" 1 1 _) (wpAny_pure ?_);refine wpAny_bind (collect_list hli ?_ hbig);have I1:=m5 (o:=seqObj "list" #[] 0) (t':=s.toks) I (fun v z=>by cases z);have s1:=Heap.SameBut.update (s.heap.push (seqObj "list" #[] 0)) s.heap.objs.size (Obj.mapSeq (· ++vs.toArray));have I2:=pJ (t':=s.toks) I1 s1 (get?_update_seq (gh I1).1 (· ++vs.toArray)) (fun v z=>by cases z) (vF I).ge (vF I).ne;have I3:Inv X pins σ H {s with heap:=(s.heap.push (seqObj "list" #[] 0)).update s.heap.objs.size (Obj.mapSeq (· ++vs.toArray)),toks:=s.toks}:=I2.iI;refine wpAny_bind (wpAny_newList ?_ hbig);generalize hs3:({s with heap:=(s.heap.push (seqObj "list" #[] 0)).update s.heap.objs.size (Obj.mapSeq (· ++vs.toArray))}:Shared)=s3;have I3':Inv X pins σ H s3:=by rw[<-hs3];exact I3
 have oD:=vF I3';have I4:=m5 (o:=seqObj "list" vs.toArray 0) (t':=s3.toks) I3' (fun v z=>by cases z);have hD:=(gh I4).1;refine wpAny_bind (wpAny_holding (wpAny_call_entry_kw slot_list_sort ⟨_,hD,rfl⟩ entry_list_sort ?body (ksk_l1 _ _)))
 case body=>
  show wpAny (model X.prog X.w) A.in1.in1 (Builtin.«list.sort» ⟨[.ref s3.heap.objs.size],[(Str.ofString "key",.ref f)]⟩) _ _ _;rw[ksk_t1];unfold ksk_tree;refine wpAny_bind (listItems_at hD rfl ?_);have s5:=Heap.SameBut.update (s3.heap.push (seqObj "list" vs.toArray 0)) s3.heap.objs.size (Obj.mapSeq fun _=>(#[]:Array Value));have I5:=pJ (t':=s3.toks) I4 s5 (get?_update_seq hD fun _=> #[]) (fun v z=>by cases z) oD.ge oD.ne;have hD5:=(gh I5).1;refine wpAny_bind (listUpdate_at hD rfl ?_ (by rw[List.size_toArray];exact hbig) (Nat.zero_le _));refine wpAny_bind (seqEpoch_at hD5 rfl ?_);refine wpAny_bind (wpAny_newTuple ?_ (by show vs.length<=_;exact hbig));have I6:=(m5 (o:=seqObj "tuple" vs.toArray 0) (t':=s3.toks) I5 (fun v z=>by cases z)).iI;refine wpAny_bind (wpAny_newList ?_ (Nat.zero_le _));have ok:=vF I6;have I7:=m5 (o:=seqObj "list" #[] 0) (t':=s3.toks) I6 (fun v z=>by cases z);refine wpAny_holding ?_
  have okp:Own X pins _:=⟨ok.ge,fun q hq=>ok.ne q (by
   rcases List.mem_append.mp hq with z|z
   . exact List.mem_append_left _ z
   . exact List.mem_append_right _ (List.mem_append_left _ z))⟩
  refine IY (GI I7 r) oD okp (fun z=>ok.ne (s3.heap.objs.size,_) (List.mem_append_right _ (List.mem_append_right _ (List.mem_singleton.mpr rfl))) z.symm) hl h64 turn fun s' out c J' so=>⟨_,rfl,?_⟩
  exact wpAny_pure ⟨_,rfl,h _ s' out c oD J' so⟩
end
structure oV(X:Cx)(scope:Scope)(Nc:List Str)(fr:List (Option Nat))(p:Str):Prop where
 sc:bK X scope Nc fr
 Hv:∀x∈scope.names,x.2≠ .cell
 co:scope.isCoroutine=false
 gen:scope.isGenerator=false
 p0:Nc[0]?=some p
 f0:fr[0]?=some none
 loc:scope.names.lookup p=some .local
abbrev Eu(X:Cx)(scope:Scope)(qual:Str)(f c:Addr)(s:Shared):Env:=PySem.W.envX qual scope s.heap.objs.size f (.ref c) (dQ X.env.cells scope.names [])
def F0(X:Cx)(scope:Scope)(Nc:List Str)(qual:Str)(f c:Addr)(s:Shared)(H:Hp):Cx:=
 {X with A:=X.A.in1.in1.deeper (Eu X scope qual f c s),N:=Nc,s₀:=s,H₀:=H,env:=Eu X scope qual f c s,outer:=X.stack,stack:=Eu X scope qual f c s::X.stack,ex:=[],fn:=fun _=>false,calm:=true,pn:=[],xe:=fun _ _=>False}
section
variable {X:Cx}{scope:Scope}{Nc:List Str}{fr:List (Option Nat)}{p qual:Str}{f c:Addr}{pins:List (Addr×Obj)}{σ:L2.St}{H:Hp}{s:Shared}
theorem Ng(S:oV X scope Nc fr p)(I:Inv X pins σ H s)(hc:X.calm=true):(F0 X scope Nc qual f c s H).Ok where
 mod:=I.ok.mod
 kind:=S.sc.kind
 glob:=rfl
 blt:=rfl
 above:=Nat.le_refl _
 inj:=fun x y a h1 h2=>I.ok.inj x y a (du _ [] (fun _ _ e=>by cases e) x a h1) (du _ [] (fun _ _ e=>by cases e) y a h2)
 has:=fun x hx=>by
  have hx':scope.names.lookup x=some .cell\/scope.names.lookup x=some .free:=hx;rcases hx' with hx|hx
  . exact absurd rfl (S.Hv _ (PySem.mem_of_lookup hx))
  . exact jN scope.names [] (I.ok.has x (S.sc.free _ (PySem.mem_of_lookup hx) rfl)) (.inl (PySem.mem_of_lookup hx))
 BP:=fun x a hf _=>by cases hf
 hd:=fun _=>I.ok.hd hc
 frames:=Around.frames_deeper (by show X.A.frames=_;exact I.ok.frames)
 Dq:= .inr ⟨rfl,rfl⟩
 FW:=fun b hb=>by cases hb
 bs:=I.bs
 um:=Nat.le_trans I.ok.um I.sz
 w6:=fun b o e hb=>by cases hb
 wu:=fun b hb=>by cases hb
 lV:=I.stack
 yn:=I.zj
 gt:=I.ok.gt
theorem MA{h':Heap}{t':Nat}{v:V}{u:Value}(S:oV X scope Nc fr p)(I:Inv X pins σ H s)(hc:X.calm=true)(r:RelV v u)(hn:h'.Ns s.heap.objs.size (fun x=>[(p,u)].reverse.lookup x))
 (k:∀b o,s.heap.get? b=some o->h'.get? b=some o):Inv (F0 X scope Nc qual f c s H) [] ((σC fr σ).set 0 (some v)) H {s with heap:=h',toks:=t'} where
 ok:=Ng S I hc
 os:=rfl
 bare:=I.bare
 base:=Un.kept k
 loc:=⟨_,hn,fun i x w h1 h2 h3=>by
  by_cases hi:i=0
  . subst hi;have hp:=S.p0;have e:p=x:=Option.some.inj (hp.symm.trans h1);subst e
    have hl:0<(σC fr σ).length:=by
     have:=(List.getElem?_eq_some_iff.mp h2).1;rw[List.length_set]at this;exact this
    rw[List.getElem?_set_self hl]at h2;cases h2;exact⟨u,r,.inl ⟨S.loc,by simp⟩⟩
  . rw[List.getElem?_set_ne (Ne.symm hi)]at h2;obtain⟨j,q1,q2⟩:=DH h2;obtain⟨n1,n2,n3⟩:=S.sc.map i j x h1 q1;obtain⟨m,hm,hl⟩:=I.loc;obtain⟨u',r',lk⟩:=hl j x w n1 q2 (n3.elim (fun z=> .inr (.inl z)) fun z=> .inr (.inr z));refine⟨u',r',?_⟩;rcases lk with⟨z,_⟩|⟨_,a,e,ic⟩
    . rcases n3 with y|y<;>(rw[y]at z;cases z)
    . obtain⟨a',e'⟩:=jN scope.names [] ⟨a,e⟩ (.inl (PySem.mem_of_lookup n2));have e2:=du _ [] (fun _ _ e=>by cases e) x a' e';rw[e]at e2;cases e2;exact .inr ⟨.inr n2,a,e',ic.keeps k⟩⟩
 cell:=fun x a h=>by
  obtain⟨v,q⟩:=I.cell x a (du _ [] (fun _ _ e=>by cases e) x a h);exact⟨v,q.keeps k⟩
 free:=I.aP.fresh (Nat.le_refl _)
 jv:=fun x a h=>I.jv x a (du _ [] (fun _ _ e=>by cases e) x a h)
 pin:=fun q hq=>by cases hq
 aP:=I.aP.kept k
 len:=by rw[List.length_set];unfold σC;rw[List.length_map];exact S.sc.len
theorem HL{R:Hp->Prop}{params:Arguments}{body:Expr}{tb:TE}{own:List (Addr×Obj)}{k:Int}{v:V}{u pm ctv:Value}(S:oV X scope Nc fr p)(hc:X.calm=true)(hr:X.A.depth<recursionLimit)
 (hb:∀(s:Shared) (H:Hp),PE (F0 X scope Nc qual f c s H) body tb)
 (hbind:∀(cl:List (Str×Addr)) (pm cd ct v:Value),bindArgs (PySem.W.kla_fn "<lambda>" qual params body scope cl pm cd ct) ⟨[v],[]⟩=pure [(p,v)])
 (r:RelV v u) (hf:(f,PySem.W.kla_obj "<lambda>" qual params body scope (dQ X.env.cells scope.names []) pm c ctv)∈pins)
 (hcr:∀(H:Hp) (s:Shared),Inv X (pins++own) σ H s->R H->s.heap.CodeRec (.ref c) qual)
 (hq:∀H,R H->tb ((σC fr σ).set 0 (some v)) H fun x H'=>x= .int k/\R H') (J:oy X pins σ R own s):
 wpAny (model X.prog X.w) X.A.in1.in1 (call (.ref f) [u]) (fun u' s'=>(∃t,u'= .int k t)/\oy X pins σ R own s') (fun _ _=>False) s:=by
 obtain⟨H,I,rH⟩:=J;have ho:=(I.pin _ (List.mem_append_right _ (List.mem_append_left _ hf))).1;refine wpAny_call (PySem.W.kla_callFunE (fd:=PySem.W.kla_fn "<lambda>" qual params body scope (dQ X.env.cells scope.names []) pm (.ref c) ctv) (by show X.A.depth<_;exact hr) ho rfl S.co S.gen rfl (hcr H s I rH) ?_);rw[hbind]
 refine wpAny_pure (wpAny_newFunctionEnv S.Hv (fun y hy=>by
  have e:y=(p,u):=by simpa using hy
  rw[e];exact S.loc) (fun h₁ hns hsb=>?_) S.sc.kind)
 have hk:∀b o,s.heap.get? b=some o->h₁.get? b=some o:=fun b o e=>hsb.extBut b o (Nat.ne_of_lt (Heap.lt_size e)) (Heap.get?_push_of_some _ e);refine⟨I.nolimit.keeps hk,?_⟩;show codeAny _ X.A.in1.in1 (.expr body (Eu X scope qual f c s)) _ _;refine PySem.W.kla_codeExpr (wpAny_mono (hb s H [] _ _ H _ (MA S I hc r hns hk) (hq H rH)) (fun w s' he=>?_) fun e s' z=>False.elim z);obtain⟨x,H',I',rx,rfl,rH'⟩:=he;exact⟨rx,H',I.Ex (s':=s') (ch:=[]) I'.os I'.base I'.aP I'.bare (fun b z=>absurd z (by simp)),rH'⟩
theorem set_same{α:Type}:∀ {l:List α} {n:Nat} {x:α},l[n]?=some x->l.set n x=l
 | [],n,x,h=>by simp at h
 |a::l,0,x,h=>by simp at h;subst h;rfl
 |a::l,n+1,x,h=>by
  rw[List.set_cons_succ,set_same (n:=n) (by simpa using h)]
theorem H0{params:Arguments}{body:Expr}{lpos:Pos}{c0 T:Addr}{α:List (Option Addr)}{G F:Hp}{st:ag}{n0:Nat}{b:Bool}{E:Value->Shared->Prop}{Q:Value->Shared->Prop}(S:oV X scope Nc fr p)(hcode:X.env.code= .ref c0)(hC:PySem.W.codeHdIn X.K c0 T=true)
 (hdef:defaultsOf params X.env=([],[])) (hql:X.env.qual++"<lambda>"=qual) (I:Inv X pins σ H s) (Sp:cL G F H) (SR:a7 α st G) (hn0:st[n0]?=some (.tab T lpos qual b))
 (h:∀(f c:Addr) (ctv pm:Value) (G2 H2:Hp) (s2:Shared),Inv X (pins++[(f,PySem.W.kla_obj "<lambda>" qual params body scope (dQ X.env.cells scope.names []) pm c ctv)]) σ H2 s2->Step α G α G2->cL G2 F H2->a7 α (st.set n0 (.tab T lpos qual true)) G2->
   (some c∉α/\∃o vs t,G2 c=some (.gW o (.own c))/\o.data= .fields vs/\vs[1]?=some (.str qual t))->Q (.ref f) s2):
 wpAny (model X.prog X.w) X.A (eval (.Lambda params body scope lpos) X.env) Q E s:=by
 refine PySem.W.kla_eval hdef ?_;rw[hql];rcases SR.at' n0 _ hn0 with⟨z,_⟩|⟨a,ha,rfl,ps,gP,tr,cs⟩
 . cases z
 have hP:=I.aP a _ (Sp.get gP);have hP:s.heap.get? a=some (PySem.W.tabObj ps):=hP;have hg:s.heap.Ns mainGlobals X.mg:=I.mod.glob.keeps I.bk;obtain⟨bm,ob,b1,b2,b3,b4,b5,b6⟩:=I.mod.bmain;have b3':=I.bk _ _ b3
 have hgP:mainGlobals≠a:=fun q=>by
  obtain⟨o,es,ep,e,hd,_⟩:=hg;rw[q,hP]at e;cases e;cases hd
 have n1:bm≠mainGlobals:=fun q=>by
  obtain⟨o,es,ep,e,hd,_⟩:=hg;rw[q,e]at b3';cases b3';rw[hd]at b6;cases b6
 have n2:bm≠a:=fun q=>by rw[q,hP]at b3';cases b3';cases b4
 have hB:s.heap.BuiltinsAt X.mg a:=⟨bm,ob,b1,b2,n1,n2,b3',b4,b5,b6⟩
 have hcl:closureFor scope X.env=pure (dQ X.env.cells scope.names []):=oq fun x hx hk=>I.ok.has x.1 (S.sc.free x hx hk);have C:PySem.W.CodeHd s.heap c0 a:=PySem.W.codeHd_of_K I.iy hC;rcases cs with⟨rfl,hnf⟩|⟨rfl,c,o,vs,t,q1,q2,q3,q4,q5⟩
 . refine PySem.W.kla_makeFunction hcl I.ok.glob hg hcode C hP tr hnf hgP hB fun c' ctv h' tk hx hge hlt hrec htb=>?_;obtain⟨c2,oc,vs,t,e2,hoc,hd,hv⟩:=hrec;cases e2;have hHc:H c'=none:=I.aP.fresh hge;have hGc:G c'=none:=(Sp.none hHc).1;have hHa:H a=some (.ll ps):=Sp.get gP;have hac:a≠c':=d3 hHa hHc
   let ps':=ps++ #[rawInt lpos.line,rawInt lpos.col,.ref c']
   have nb:∀ {b:Addr},H b=none->b≠a:=fun e z=>by rw[z,hHa]at e;cases e
   have I1:Inv X pins σ (upd (upd H c' (.gW oc (.own c'))) a (.ll ps')) {s with heap:=h',gens:=s.gens,drawn:=s.drawn,toks:=tk}:=by
    have old:∀ {b:Addr} {u:HO},H b=some u->b≠a->upd (upd H c' (.gW oc (.own c'))) a (.ll ps') b=some u:=fun e n=>by rw[aH n,aH (d3 e hHc)];exact e
    refine I.step (ch:=[]) (fun _ z=>nomatch z) (fun b o _ _ _ e n=>hx b o (nb n) e) (fun b o _ _ _ e n=>⟨o.slots,hx b o (nb n) e⟩) (fun b o _ e n=>?_) (fun b o _ e=>?_) (fun b xs e=>?_) (fun b o u e=>?_) (fun b qs e=>?_) (fun m hm=>?_) (fun b u e=>?_) I.bare
    . rw[aH (nb n),aH (Nat.ne_of_lt (Nat.lt_of_lt_of_le (Heap.lt_size e) hge))];exact n
    . by_cases hb:b=a
      . exact⟨_,by rw[hb];exact htb⟩
      . exact⟨o,hx b o hb e⟩
    . exact old e fun z=>by rw[z,hHa]at e;cases e
    . exact old e fun z=>by rw[z,hHa]at e;cases e
    . by_cases hb:b=a
      . subst hb;rw[hHa]at e;cases e;exact⟨_,a9⟩
      . exact⟨#[],by rw[old e hb];simp⟩
    . obtain⟨o,es,ep,ho,r⟩:=hm;exact⟨o,es,ep,hx _ o (nb I.free) ho,r⟩
    . by_cases hb:b=a
      . subst hb;rw[a9]at e;cases e;exact htb
      . rw[aH hb]at e;by_cases hbc:b=c'
        . subst hbc;rw[a9]at e;cases e;exact⟨hoc,_,hoc⟩
        . rw[aH hbc]at e;refine(I.aP b u e).mW (fun d w hd q=>hx d w ?_ q) (fun d q=>old q fun z=>by rw[z,hHa]at q;cases q) fun d xs q=>old q fun z=>by rw[z,hHa]at q;cases q
          rcases hd with rfl|hd
          . exact hb
          . intro z;rw[z,hHa]at hd;cases hd
   have I2:=m5 (o:=PySem.W.kla_obj "<lambda>" qual params body scope (dQ X.env.cells scope.names []) ((X.mg "__name__").getD .none) c' ctv) (t':=tk) I1 (fun v z=>by cases z);have gP':upd G c' (.gW oc (.own c')) a=some (.ll ps):=by rw[aH hac];exact gP
   refine h _ c' ctv _ (upd (upd G c' (.gW oc (.own c'))) a (.ll ps')) _ _ I2 ((Step.laid hGc).trans (Step.write (List.mem_of_getElem? ha))) ((Sp.laid hHc).write gP') ((SR.laid hGc).write ha ⟨rfl,ps',a9,?_,.inr ⟨rfl,c',oc,vs,t,?_,SR.mh hGc,?_,hd,hv⟩⟩) ⟨SR.mh hGc,oc,vs,t,?_,hd,hv⟩
   . show TriplesOk (ps++ #[rawInt lpos.line,rawInt lpos.col,.ref c']).toList;rw[Array.toList_append];exact TriplesOk_snoc _ _ _ _ tr
   . show codeAmong lpos (ps++ #[rawInt lpos.line,rawInt lpos.col,.ref c']).toList=_;rw[Array.toList_append];exact codeAmong_snoc _ tr hnf
   . rw[aH hac.symm,a9]
   . rw[aH hac.symm,a9]
 . refine PySem.W.kla_makeFunctionHit hcl I.ok.glob hg hcode C hP tr q1 hB fun ctv h' tk hk hsz=>?_;have I1:=I.kept (t':=tk) hk;have I2:=m5 (o:=PySem.W.kla_obj "<lambda>" qual params body scope (dQ X.env.cells scope.names []) ((X.mg "__name__").getD .none) c ctv) (t':=tk) I1 (fun v z=>by cases z);refine h _ c ctv _ G H _ I2 Step.refl Sp (by rw[set_same hn0];exact SR) ⟨q2,o,vs,t,q3,q4,q5⟩
end
def slt(p q:Int×Int):Prop:=p.1<=q.1
def Cb(n0:Nat)(T:Addr)(lpos:Pos)(qual:Str)(fr:List (Option Nat))(tb te:DE):DE:=fun σ st K=>te σ st fun d st1=>∃(ns ks:List Int) (b:Bool),d= .lst (ns.map .int)/\ns.length<64/\ns.Pairwise (· < ·)/\ks.length=ns.length/\
 st1[n0]?=some (.tab T lpos qual b)/\(∀(i:Nat) (n k:Int),ns[i]?=some n->ks[i]?=some k->tb ((g9 fr σ).set 0 (some (.int n))) (st1.set n0 (.tab T lpos qual true)) fun v st2=>v= .int k/\st2=st1.set n0 (.tab T lpos qual true))/\
 ∀os:List (Int×Int),os.Perm (ks.zip ns)->os.Pairwise slt->K (.lst (os.map fun p=> .int p.2)) (st1.set n0 (.tab T lpos qual true))
theorem BI{α:List (Option Addr)}{H:Hp}:∀ {ns:List Int} {vs:List V},aT α H (ns.map D.int) vs->vs=ns.map V.int
 | [],vs,h=>by unfold aT at h;exact h
 |n::ns,vs,h=>by
  unfold aT at h;obtain⟨v,r,rfl,h1,h2⟩:=h;unfold Rep at h1;rw[h1,BI h2];rfl
theorem CO{α:List (Option Addr)}{H:Hp}:∀(ns:List Int),aT α H (ns.map D.int) (ns.map V.int)
 | []=>by unfold aT;rfl
 |n::ns=>by unfold aT;exact⟨_,_,rfl,by unfold Rep;rfl,CO ns⟩
theorem Cy:∀ {ns:List Int} {us:List Value},Vals (ns.map V.int) us->IntsAre us ns
 | [],_,.nil=> .nil
 |n::ns,_,.cons ⟨t,rfl⟩ h=> .cons n t (Cy h)
section
variable {X:Cx}{scope:Scope}{Nc:List Str}{fr:List (Option Nat)}{p x qual:Str}{params:Arguments}{e body:Expr}{te tb:DE}{lpos kpos pos ppos:Pos}{c0 T:Addr}{n0:Nat}
theorem K_(S:oV X scope Nc fr p)(hc:X.calm=true)(hr:dn 2 X.A)(hcode:X.env.code= .ref c0)(hC:PySem.W.codeHdIn X.K c0 T=true)(hdef:defaultsOf params X.env=([],[]))(hql:X.env.qual++"<lambda>"=qual)
 (hbind:∀(cl:List (Str×Addr)) (pm cd ct v:Value),bindArgs (PySem.W.kla_fn "<lambda>" qual params body scope cl pm cd ct) ⟨[v],[]⟩=pure [(p,v)])
 (hb:∀(f c:Addr) (s:Shared) (H:Hp),PE (F0 X scope Nc qual f c s H) body (LE tb)) (ha:PA X [e] (LA (af te ak)))
 (hg:Gl X "sorted") (hm:X.mg "sorted"=none) (hv:bootBuiltins "sorted"=some (.builtin "sorted"))
 (he:backTo pos (starEach [e] X.env)=(false,eval e X.env)::backTo pos (starEach [] X.env):=by rfl) (hpl:(backTo pos (starEach [e] X.env)).any (·.1)=false:=by rfl):
 PE X (.Call (.Name "sorted" ppos) [e] [⟨some "key",.Lambda params body scope lpos,kpos⟩] pos) (LE (Cb n0 T lpos qual fr tb te)):=by
 intro pins s σ H Q I h;obtain⟨α,σd,st,K,G,F,Sp,RS,SR,t,k⟩:=h;refine wpAny_Call_Name_kw (md I hg hm hv ?_);refine callWith_kw ?_ he hpl
 let K1:DK:=fun d st1=>∃(ns ks:List Int) (b:Bool),d= .lst (ns.map .int)/\ns.length<64/\ns.Pairwise (· < ·)/\ks.length=ns.length/\
  st1[n0]?=some (.tab T lpos qual b)/\(∀(i:Nat) (n k:Int),ns[i]?=some n->ks[i]?=some k->tb ((g9 fr σd).set 0 (some (.int n))) (st1.set n0 (.tab T lpos qual true)) fun v st2=>v= .int k/\st2=st1.set n0 (.tab T lpos qual true))/\
  ∀os:List (Int×Int),os.Perm (ks.zip ns)->os.Pairwise slt->K (.lst (os.map fun p=> .int p.2)) (st1.set n0 (.tab T lpos qual true))
 refine cp (ha pos pins s σ H (fun vs H1=>∃d v st1 α1 G1,vs=[v]/\K1 d st1/\Step α G α1 G1/\cL G1 F H1/\a7 α1 st1 G1/\Rep α1 G1 d v) I
  ⟨α,σd,st,fun ds st1=>match ds with| [d]=>K1 d st1|_=>False,G,F,Sp,RS,SR,t,fun ds st1 q α1 G1 H1 vs s1 P1 S1 r1=>?_⟩) fun us s1 ⟨vs,H1,I1,rv,d,v,st1,α1,G1,hvs,kd,s1',P1,S1,r1⟩=>?_
 . match ds,q,r1 with
   | [d],q,r1=>
     unfold aT at r1;obtain⟨v,r,rfl,h1,h2⟩:=r1;unfold aT at h2;subst h2;exact⟨d,v,st1,α1,G1,rfl,q,s1,P1,S1,h1⟩
 subst hvs;obtain⟨ns,ks,b,rfl,h64,hup,hlen,hn0,hkey,hK⟩:=kd;show wpAny _ _ (evalAll ((do let v <-eval (.Lambda params body scope lpos) X.env;standAt pos;pure v)::[])) _ _ s1;refine wpAny_evalAll_cons (wpAny_bind (H0 S hcode hC hdef hql I1 P1 S1 hn0 fun f c ctv pm G2 H2 s2 I2 st2 P2 S2 ⟨hc1,o,vs,tq,hc2,hc3,hc4⟩=>wpAny_bind (wpAny_standAt (wpAny_pure (wpAny_evalAll_nil ?_)))));have r2:=r1.step st2;unfold Rep at r2;obtain⟨l,xs,rfl,hl1,hl2,hl3⟩:=r2;have exs:=BI hl3;subst exs;cases rv with
 |cons ru rn=>
  cases rn;cases ru
  have hrd:Rd H2 l (.lst (ns.map V.int)):=by
   rcases hl2 with z|⟨w,z⟩
   . exact .inl (P2.get z)
   . exact .inr ⟨w,P2.get z⟩
  obtain⟨_,aw,nn,vv,hobj⟩:=hrd.ok I2.aP;have hints:=Cy vv;have hlen2:=hints.length;have key:∀(H':Hp),(∃α' G',Step α1 G2 α' G'/\cL G' F H'/\a7 α' (st1.set n0 (.tab T lpos qual true)) G')->H' c=some (.gW o (.own c)):=fun H' ⟨α',G',q1,q2,q3⟩=>q2.get (q1.ext c _ hc1 hc2);show wpAny _ _ (call (.builtin "sorted") [.ref l] [(Str.ofString "key",.ref f)]) _ _ _
  refine E3 (X:=X) (pins:=pins++[(f,PySem.W.kla_obj "<lambda>" qual params body scope (dQ X.env.cells scope.names []) pm c ctv)]) (R:=fun H'=>∃α' G',Step α1 G2 α' G'/\cL G' F H'/\a7 α' (st1.set n0 (.tab T lpos qual true)) G') (kz:=ks) (vs:=aw)
   I2 ⟨α1,G2,Step.refl,P2,S2⟩ ⟨_,hobj,rfl,nn,rfl⟩ (by omega) (by omega) (fun i u kk hu hk own s' J=>?_) fun D s' out cc oD J so=>?_
  . have hi:i<ns.length:=by
     have:=(List.getElem?_eq_some_iff.mp hu).1;omega
    obtain⟨tt,ht⟩:=hints.get i ns[i] (List.getElem?_eq_getElem hi);have ht:some u=some (Value.int ns[i] tt):=by rw[<-hu];exact ht
    cases ht;refine HL (v:= .int ns[i]) (u:= .int ns[i] tt) S hc (by have:=hr.dp;omega) (hb f c) hbind ⟨tt,rfl⟩ (List.mem_append_right _ (List.mem_singleton.mpr rfl)) (fun H' s'' J' r'=>?_) (fun H' r'=>?_) J
    . have q:=J'.aP c _ (key H' r');exact⟨c,o,vs,tq,rfl,q.1,hc3,hc4⟩
    . obtain⟨α',G',q1,q2,q3⟩:=r';refine⟨α',(g9 fr σd).set 0 (some (.int ns[i])),_,_,G',F,q2,?_,q3,hkey i ns[i] kk (List.getElem?_eq_getElem hi) hk,fun d' st' hd α'' G'' H'' v' s'' P'' S'' r''=>?_⟩
      . exact((RS.step ((s1'.trans st2).trans q1)).comp).set 0 (by unfold Rep;rfl)
      . obtain⟨rfl,rfl⟩:=hd;unfold Rep at r'';exact⟨r'',α'',G'',q1.trans s'',P'',S''⟩
  . obtain⟨H',I',α',G',q1,q2,q3⟩:=J;obtain⟨ps,hp,ho,hs⟩:=so
    have hps:∀q∈ps,∃t,q.2= .int (numOf q.2) t:=fun q hq=>by
     have h1:=hp.mem_iff.mp hq;have h2:q.2∈aw:=(List.of_mem_zip (show(q.1,q.2)∈ks.zip aw from h1)).2;obtain⟨n,t,e⟩:=hints.all _ h2;exact⟨t,by rw[e];rfl⟩
    have hos:(ps.map fun q=>(q.1,numOf q.2)).Perm (ks.zip ns):=by
     have h1:=hp.map fun q:Int×Value=>(q.1,numOf q.2)
     have e:(ks.zip aw).map (fun q:Int×Value=>(q.1,numOf q.2))=ks.zip ns:=by
      rw[<-hints.nums,List.zip_map_right];exact List.map_congr_left fun⟨a,b⟩ _=>rfl
     rw[e]at h1;exact h1
    have hpw:(ps.map fun q=>(q.1,numOf q.2)).Pairwise slt:=by rw[List.pairwise_map];exact hs
    have kk:=hK _ hos hpw;rw[List.map_map]at kk;have hD0:=gh I'
    have vout:Vals ((ps.map fun q=>numOf q.2).map V.int) out.toList:=by
     rw[ho];clear hos hpw kk hs hp ho;induction ps with
     |nil=>exact .nil
     |cons q r ih=>
      obtain⟨t,e⟩:=hps q (List.mem_cons_self ..);exact .cons ⟨t,e⟩ (ih fun z hz=>hps z (List.mem_cons_of_mem _ hz))
    have hlo:(ps.map fun q=>numOf q.2).length<=sizeLine:=by
     rw[List.length_map,hp.length_eq,List.length_zip];exact Nat.le_trans (Nat.min_le_left _ _) (Nat.le_trans (show ks.length<=64 by omega) (by decide))
    have I3:=F6 (u:= .lst ((ps.map fun q=>numOf q.2).map V.int)) I' oD.ge oD.ne ⟨by rw[List.length_map];exact hlo,out.toList,cc,vout,hD0.1⟩;have hG:=(q2.none hD0.2.1).1;refine⟨.ref D,_,I3.iI,rfl,k _ _ kk α' _ _ _ ((s1'.trans st2).trans (q1.trans (Step.laid hG))) (q2.laid hD0.2.1) (q3.laid hG) ?_⟩;unfold Rep;refine⟨D,_,rfl,q3.mh hG,.inl a9,?_⟩;have e:List.map ((fun p:Int×Int=>L3.D.int p.snd)∘fun q:Int×Value=>(q.fst,numOf q.snd)) ps=(ps.map fun q=>numOf q.2).map L3.D.int:=by rw[List.map_map];rfl
    rw[e];exact CO _
end
end L3
namespace L3
open PySem L2
open PySem.Spec hiding items?
open PyProof.Rows hiding St
def Ii(sc:Scope)(N gl:List Str):Bool:=
 N.all (fun x=>(sc.names.lookup x==some .local||sc.names.lookup x==some .cell)&&x != "__debug__"&&x != "__classdict__")&&gl.all (fun x=>sc.names.lookup x==some .globalImplicit&&x != "__debug__")
structure VS(sc:Scope)(N gl:List Str):Prop where
 ok:Ii sc N gl=true
theorem VS.at_{sc:Scope}{N gl:List Str}(V:VS sc N gl){i:Nat}{x:Str}(h:N[i]?=some x):Loc sc x/\(x==("__debug__":Str))=false/\(x==("__classdict__":Str))=false:=by
 have o:=V.ok;unfold Ii at o;have:=List.all_eq_true.mp (Bool.and_eq_true_iff.mp o).1 x (List.mem_of_getElem? h);simp only[Bool.and_eq_true,Bool.or_eq_true,beq_iff_eq,bne_iff_ne,ne_eq]at this;exact⟨this.1.1,beq_false_of_ne this.1.2,beq_false_of_ne this.2⟩
theorem VS.QY{sc:Scope}{N gl:List Str}(V:VS sc N gl){i:Nat}{x:Str}(h:gl[i]?=some x):sc.names.lookup x=some .globalImplicit/\(x==("__debug__":Str))=false:=by
 have o:=V.ok;unfold Ii at o;have:=List.all_eq_true.mp (Bool.and_eq_true_iff.mp o).2 x (List.mem_of_getElem? h);simp only[Bool.and_eq_true,beq_iff_eq,bne_iff_ne,ne_eq]at this;exact⟨this.1,beq_false_of_ne this.2⟩
section
variable {X:Cx}{sc:Scope}{N gl:List Str}{x:Str}{pos:Pos}
theorem VS.nm(V:VS X.env.scope X.N gl)(i:Nat)(h:X.N[i]?=some x:=by rfl):JE X (.Name x pos) (ae i):=
 let q:=V.at_ h
 Ga q.2.1 q.2.2 (q.1.elim .inl fun z=> .inr (.inl z)) h
theorem VS.l(V:VS sc N gl)(i:Nat)(h:N[i]?=some x:=by rfl):Loc sc x:=(V.at_ h).1
theorem VS.g(V:VS sc N gl)(i:Nat)(h:gl[i]?=some x:=by rfl):sc.names.lookup x=some .globalImplicit:=(V.QY h).1
theorem VS.d(V:VS sc N gl)(i:Nat)(h:gl[i]?=some x:=by rfl):(x==("__debug__":Str))=false:=(V.QY h).2
theorem c_{n:Nat}(hN:X.N[n]?=some x:=by rfl)(hd:((x==("__debug__":Str))||(x==("__classdict__":Str)))=false:=by decide+kernel)
 (hv:Bb X.env.scope x:=by first|exact Or.inl rfl|exact Or.inr (Or.inl rfl)|exact Or.inr (Or.inr rfl)):JE X (.Name x pos) (ae n):=
 Ga (Bool.or_eq_false_iff.mp hd).1 (Bool.or_eq_false_iff.mp hd).2 hv hN
@[irreducible] def nQ:dz:=yk (fun _ j=>j≠0) fun i j=> .int (i.fdiv j)
theorem vk{k:Nat}(hr:dn k X.A)(hs:X.stack=X.env::X.outer)(hgen:X.env.scope.isGenerator=false)(hco:X.env.scope.isCoroutine=false):cn X (binaryOp .FloorDiv) (LR nQ):=by
 unfold nQ;refine nR (g':=fun i j=> .int (i.fdiv j)) (fun _ _ _ _=>by unfold Rep;rfl) ?_;intro pins s σ H x y v u Q I rx ry h;obtain⟨i,j,rfl,rfl,hc,q⟩:=h;obtain⟨t,rfl⟩:=rx;obtain⟨t',rfl⟩:=ry;refine floordiv_int hc ⟨.int (i.fdiv j),H,I.tok _,⟨_,rfl⟩,q⟩ (.inr (PySem.PylongRoom.of I.nolimit ?_ ?_))
 . have:=hr.dp;show X.A.depth+100<_;omega
 . exact PySem.SeerAt.of (env:=X.env) (l:=X.outer) (I.mod.seer.keeps I.bk) I.ok.gt (by rw[I.ok.frames,hs]) hgen hco I.ok.blt I.ok.glob
theorem mR{st:ag}{K:DK}{i j:Int}(h0:j≠0)(k:K (.int (i.fdiv j)) st):nQ (.int i) (.int j) st K:=by unfold nQ;exact⟨h0,k⟩
theorem oV.look{scope:Scope}{Nc:List Str}{fr:List (Option Nat)}{p:Str}(S:bK X scope Nc fr)(h:(scope.names.all (fun x=>x.2 != .cell)&&(!scope.isCoroutine&& !scope.isGenerator)&&(scope.names.lookup p==some .local))=true:=by decide+kernel)
 (p0:Nc[0]?=some p:=by rfl) (f0:fr[0]?=some none:=by rfl):oV X scope Nc fr p:=by
 simp only[Bool.and_eq_true,Bool.not_eq_true',beq_iff_eq]at h;exact⟨S,fun x hx=>by simpa using List.all_eq_true.mp h.1.1 x hx,h.1.2.1,h.1.2.2,p0,f0,h.2⟩
theorem LZ{scope:Scope}{Nc:List Str}{fr:List (Option Nat)}{p qual:Str}{params:Arguments}{e body:Expr}{te tb:DE}{lpos kpos pos ppos:Pos}{c0 T:Addr}{n0 k:Nat}(S:oV X scope Nc fr p)(hc:X.calm=true)(hr:dn k X.A)(hcode:X.env.code= .ref c0)(hC:PySem.W.codeHdIn X.K c0 T=true)
 (hb:∀(f c:Addr) (s:Shared) (H:Hp),JE (F0 X scope Nc qual f c s H) body tb) (he:JE X e te) (hg:X.env.kindOf "sorted"=some .globalImplicit) (hm:X.mg "sorted"=none)
 (hdef:defaultsOf params X.env=([],[]):=by rfl) (hql:X.env.qual++"<lambda>"=qual:=by rfl)
 (hbind:∀(cl:List (Str×Addr)) (pm cd ct v:Value),bindArgs (PySem.W.kla_fn "<lambda>" qual params body scope cl pm cd ct) ⟨[v],[]⟩=pure [(p,v)]:=by(intros;rfl)) (hk:2<=k:=by decide)
 (he1:starEach [e] X.env=(false,eval e X.env)::starEach [] X.env:=by rfl):
 JE X (.Call (.Name "sorted" ppos) [e] [⟨some "key",.Lambda params body scope lpos,kpos⟩] pos) (Cb n0 T lpos qual fr tb te):=by
 unfold JE at he hb⊢;refine K_ S hc (hr.mono hk) hcode hC hdef hql hbind hb (rE he xF he1) hg hm rfl ?_ ?_
 . rw[he1];rfl
 . rw[he1];rfl
end
structure N4(K:PySem.W.Frag)(x qual:Str)(st:Stmt)(f:Addr)(fd:FuncData)(c:Addr):Prop where
 ex:∃(oc:Value) (od:Option Addr) (kV doc pm:Value) (an:Option Addr) (ct:Value) (osl:Array (Option Value)),
  fd=PySem.W.fnOf x qual (jY st) (gz st) (ai st) .none kV doc pm an (.ref c) ct/\K.lookup f=some ⟨oc,od,.func fd,osl⟩/\PySem.W.codeIn K (.ref c) qual=true
theorem NH{P:Program}{w:World}{K:PySem.W.Frag}{mg:Str->Option Value}{base:Heap}{x qual:Str}{st:Stmt}{f c:Addr}{fd:FuncData}{N ps:List Str}{k:Nat}{sp:cw}{t:DS}(F:N4 K x qual st f fd c)(S:aO N ps (ai st))
 (hbody:∀(A:Around) (outer:List Env) (s:Shared) (H:Hp) (E:XK),dn k (A.deeper (envOfC qual (ai st) s.heap.objs.size f (.ref c)))->JB (sv cz P w K mg base N qual (ai st) f (.ref c) A outer s H E).ye (gz st) t)
 (hsp:∀ds st K,sp ds st K->ds.length=ps.length/\t {nx:=fun _ st'=>K .aE st',rt:=K} (aU N ds) st):bh P w K mg base cz (k+1) f fd ps (cG sp):=by
 obtain⟨oc,od,kV,doc,pm,an,ct,osl,rfl,lk,hcd⟩:=F.ex;unfold JB at hbody;refine Jy lk hcd S (fun vs H Q E h=>?_) fun A outer s H vs Q E hr h=>?_
 . obtain⟨α,ds,st,K,G,F,P,R,S,q,k⟩:=h;rw[<-R.length];exact(hsp ds st K q).1
 . obtain⟨α,ds,st,K,G,F',P,R,SR,q,k⟩:=h;refine⟨_,(hbody A outer s H E hr).ye,α,aU N ds,st,_,G,F',P,eJ.start R,SR,(hsp ds st K q).2,?_,k,?_,?_⟩
   . intro σd' st' kk α' G' H' σ' s' P' R' S';exact k .aE st' kk α' G' H' .aE s' P' S' (by unfold Rep;rfl)
   . intro σd' st' kk;exact kk.elim
   . intro σd' st' kk;exact kk.elim
def GK(tl:List (Addr×Pos×Str)):cw:=fun ds st K=>∃ns:List Int,ds=[.lst (ns.map .int)]/\ns.length<=63/\st=tl.map (fun q=> .tab q.1 q.2.1 q.2.2 false)/\∀st',K (.bl true) st'
def FY(K:PySem.W.Frag)(ts:List (Addr×Addr)):Sp:=fun vs H Q _=>∃(a:Addr) (ns:List Int),vs=[.ref a]/\Entry K ts a ns H/\ns.length<=63/\∀H',Q (.bl true) H'
theorem Ho{K:PySem.W.Frag}{ts:List (Addr×Addr)}{tl:List (Addr×Pos×Str)}(nl:GQ K=true)(hts:ts.map (·.2)=tl.map (·.1))(nd:(tl.map (·.1)).Nodup){vs:List V}{H:Hp}{Q:VK}{E:XK}(h:FY K ts vs H Q E):cG (GK tl) vs H Q E:=by
 obtain⟨a,ns,rfl,hE,hl,q⟩:=h
 have tabs:∀q∈tl,H q.1=some (.ll #[])/\q.1≠a:=fun q hq=>by
  have h1:q.1∈ts.map (·.2):=by rw[hts];exact List.mem_map_of_mem hq
  obtain⟨t,ht,e⟩:=List.mem_map.mp h1;rw[<-e];exact hE.tab t ht
 have at_:∀(i:Nat) (x:Addr),(tl.map fun q=>some q.1)[i]?=some (some x)->∃q,tl[i]?=some q/\q.1=x:=fun i x e=>by
  rw[List.getElem?_map]at e;cases z:tl[i]? with
  |none=>rw[z]at e;cases e
  |some w=>rw[z]at e;simp at e;exact⟨w,rfl,e⟩
 have nota:some a∉tl.map fun q=>some q.1:=fun z=>by
  obtain⟨w,hw,e⟩:=List.mem_map.mp z;exact(tabs w hw).2 (Option.some.inj e)
 rcases hE.lst with hS|⟨o,aw,n,e,hc,_⟩
 . refine⟨tl.map fun q=>some q.1,[.lst (ns.map .int)],tl.map (fun q=> .tab q.1 q.2.1 q.2.2 false),fun d _=>d= .bl true,H,fun _=>none,⟨fun b=>by cases H b<;>rfl,fun _ _ _=>rfl⟩,?_,⟨by simp,fun i j x e1 e2=>?_,fun n c e=>?_⟩,⟨ns,rfl,hl,rfl,fun _=>rfl⟩,?_⟩
   . unfold aT;refine⟨.ref a,[],rfl,?_,by unfold aT;rfl⟩;unfold Rep;exact⟨a,ns.map V.int,rfl,nota,hS,zP ns⟩
   . obtain⟨p,hp,e3⟩:=at_ i x e1;obtain⟨r,hr,e4⟩:=at_ j x e2;have k1:(tl.map (·.1))[i]?=some x:=by rw[List.getElem?_map,hp,<-e3];rfl
     have k2:(tl.map (·.1))[j]?=some x:=by rw[List.getElem?_map,hr,<-e4];rfl
     have hi:=(List.getElem?_eq_some_iff.mp k1).1;exact(List.getElem?_inj hi nd).mp (k1.trans k2.symm)
   . rw[List.getElem?_map]at e;cases z:tl[n]? with
     |none=>rw[z]at e;cases e
     |some w=>
      rw[z]at e;have e':Cell.tab w.1 w.2.1 w.2.2 false=c:=Option.some.inj e;subst e';refine .inr ⟨w.1,by rw[List.getElem?_map,z];rfl,rfl,#[],(tabs w (List.mem_of_getElem? z)).1,trivial,.inl ⟨rfl,rfl⟩⟩
   . rintro d st' rfl α' G' H' v _ _ _ r;unfold Rep at r;subst r;exact q H'
 . exact absurd hc (Aw nl e)
section
variable {K:PySem.W.Frag}{x qual p1 p2 p3 p4 p5:Str}{st:Stmt}{f:Addr}{fd:FuncData}
abbrev uu(x qual:Str)(st:Stmt)(kV doc pm:Value)(an:Option Addr)(cdv ct:Value):FuncData:=PySem.W.fnOf x qual (jY st) (gz st) (ai st) .none kV doc pm an cdv ct
theorem gN{α:Type}{n:Nat}{us:List α}(h:us.length=n+1):∃a r,us=a::r/\r.length=n:=by
 cases us with
 |nil=>cases h
 |cons a r=>exact⟨a,r,rfl,Nat.succ.inj h⟩
theorem vh{α:Type}{us:List α}(h:us.length=0):us=[]:=List.length_eq_zero_iff.mp h
theorem SA(F:pA K x qual st f fd)(h:∀kV doc pm an cdv ct a,bindArgs (uu x qual st kV doc pm an cdv ct) ⟨[a],[]⟩=pure [(p1,a)]):Binds K fd [p1] []:=
 F.binds fun kV doc pm an cdv ct us hl=>by
  obtain⟨a,r1,rfl,h1⟩:=gN hl;cases vh h1;exact h kV doc pm an cdv ct a
theorem Q6(F:pA K x qual st f fd)(h:∀kV doc pm an cdv ct a b,bindArgs (uu x qual st kV doc pm an cdv ct) ⟨[a,b],[]⟩=pure [(p1,a),(p2,b)]):Binds K fd [p1,p2] []:=
 F.binds fun kV doc pm an cdv ct us hl=>by
  obtain⟨a,r1,rfl,h1⟩:=gN hl;obtain⟨b,r2,rfl,h2⟩:=gN h1;cases vh h2;exact h kV doc pm an cdv ct a b
theorem QN(F:pA K x qual st f fd)(h:∀kV doc pm an cdv ct a b c,bindArgs (uu x qual st kV doc pm an cdv ct) ⟨[a,b,c],[]⟩=pure [(p1,a),(p2,b),(p3,c)]):Binds K fd [p1,p2,p3] []:=
 F.binds fun kV doc pm an cdv ct us hl=>by
  obtain⟨a,r1,rfl,h1⟩:=gN hl;obtain⟨b,r2,rfl,h2⟩:=gN h1;obtain⟨c,r3,rfl,h3⟩:=gN h2;cases vh h3;exact h kV doc pm an cdv ct a b c
theorem Q9(F:pA K x qual st f fd)(h:∀kV doc pm an cdv ct a b c d,bindArgs (uu x qual st kV doc pm an cdv ct) ⟨[a,b,c,d],[]⟩=pure [(p1,a),(p2,b),(p3,c),(p4,d)]):Binds K fd [p1,p2,p3,p4] []:=
 F.binds fun kV doc pm an cdv ct us hl=>by
  obtain⟨a,r1,rfl,h1⟩:=gN hl;obtain⟨b,r2,rfl,h2⟩:=gN h1;obtain⟨c,r3,rfl,h3⟩:=gN h2;obtain⟨d,r4,rfl,h4⟩:=gN h3;cases vh h4;exact h kV doc pm an cdv ct a b c d
end
section
variable {X:Cx}
def ye(X:Cx):Cx:={X with xe:=fun _ _=>False}
end
variable {st:ag}{K:D->ag->Prop}{i j:Int}
section
variable {X:Cx}{pos:Pos}
end
end L3
namespace L3
open PySem L2
structure ClsAt(K:PySem.W.Frag)(mg:Str->Option Value)(x:Str)(C:Addr):Prop where
 cl:pB K C
 mg:mg x=some (.ref C)
 Sa:PySem.W.makesIn K C=true
 kp:PySem.W.keepIn K (.ref C)=true
structure MethAt(K:PySem.W.Frag)(C:Addr)(m qual:Str)(st:Stmt)(ps:List Str)(f:Addr)(fd:FuncData):Prop where
 fn:pA K m qual st f fd
 me:Meth K C m f
 bd:Binds K fd ps []
end L3
namespace Hd
open PySem PySem.W L2 L3
open PySem.Spec hiding items?
open PyProof.Rows hiding St
section
variable {K:Frag}{mg:Str->Option Value}{h:Heap}{x q:Str}{st:Stmt}{f c C:Addr}{pm:Value}{p1 p2 p3 p4 p5 p6:Str}
abbrev Ed(K:Frag)(x:Str)(st:Stmt)(f:Addr)(pm:Value)(c:Addr):Prop:=(nsIn K mainGlobals x,K.lookup f,codeIn K (.ref c) x,keepIn K (.ref f))=(some (some (.ref f)),some (fq st x x pm c),true,true)
abbrev Em(K:Frag)(C:Addr)(x q:Str)(st:Stmt)(f:Addr)(pm:Value)(c:Addr):Prop:=(findIn K (.ref C) x,isFn K (.ref f),K.lookup f,codeIn K (.ref c) q,keepIn K (.ref f))=(some (some (.ref f)),true,some (fq st x q pm c),true,true)
theorem Ed.fn(e:Ed K x st f pm c):pA K x x st f (fd st x x pm c)/\nsIn K mainGlobals x=some (some (.ref f)):=by
 obtain⟨e1,e2,e3,e4⟩:_/\_/\_/\_:=by simpa only[Prod.mk.injEq]using e
 exact⟨Gw (st:=st) e2 e3 e4,e1⟩
theorem Em.fn(e:Em K C x q st f pm c):pA K x q st f (fd st x q pm c)/\Meth K C x f:=by
 obtain⟨e1,e2,e3,e4,e5⟩:_/\_/\_/\_/\_:=by simpa only[Prod.mk.injEq]using e
 exact⟨Gw (st:=st) e3 e4 e5,e1,e2,e5⟩
theorem qi(X:K.In h)(G:h.Ns mainGlobals mg)(e:Ed K x st f pm c)(b:∀kV doc pm an cdv ct a,bindArgs (uu x x st kV doc pm an cdv ct) ⟨[a],[]⟩=pure [(p1,a)]):bD K mg x x st [p1] f (fd st x x pm c):=⟨e.fn.1,mg_of X G e.fn.2,SA e.fn.1 b⟩
theorem h9(X:K.In h)(G:h.Ns mainGlobals mg)(e:Ed K x st f pm c)(b:∀kV doc pm an cdv ct a1 a2,bindArgs (uu x x st kV doc pm an cdv ct) ⟨[a1,a2],[]⟩=pure [(p1,a1),(p2,a2)]):bD K mg x x st [p1,p2] f (fd st x x pm c):=⟨e.fn.1,mg_of X G e.fn.2,Q6 e.fn.1 b⟩
theorem uw(X:K.In h)(G:h.Ns mainGlobals mg)(e:Ed K x st f pm c)(b:∀kV doc pm an cdv ct a1 a2 a3,bindArgs (uu x x st kV doc pm an cdv ct) ⟨[a1,a2,a3],[]⟩=pure [(p1,a1),(p2,a2),(p3,a3)]):bD K mg x x st [p1,p2,p3] f (fd st x x pm c):=⟨e.fn.1,mg_of X G e.fn.2,QN e.fn.1 b⟩
theorem Sy(X:K.In h)(G:h.Ns mainGlobals mg)(e:Ed K x st f pm c)(b:∀kV doc pm an cdv ct a1 a2 a3 a4,bindArgs (uu x x st kV doc pm an cdv ct) ⟨[a1,a2,a3,a4],[]⟩=pure [(p1,a1),(p2,a2),(p3,a3),(p4,a4)]):bD K mg x x st [p1,p2,p3,p4] f (fd st x x pm c):=⟨e.fn.1,mg_of X G e.fn.2,Q9 e.fn.1 b⟩
theorem Q1(e:Em K C x q st f pm c)(b:∀kV doc pm an cdv ct a1 a2,bindArgs (uu x q st kV doc pm an cdv ct) ⟨[a1,a2],[]⟩=pure [(p1,a1),(p2,a2)]):MethAt K C x q st [p1,p2] f (fd st x q pm c):=⟨e.fn.1,e.fn.2,Q6 e.fn.1 b⟩
theorem Kk(e:Em K C x q st f pm c)(b:∀kV doc pm an cdv ct a1 a2 a3,bindArgs (uu x q st kV doc pm an cdv ct) ⟨[a1,a2,a3],[]⟩=pure [(p1,a1),(p2,a2),(p3,a3)]):MethAt K C x q st [p1,p2,p3] f (fd st x q pm c):=⟨e.fn.1,e.fn.2,QN e.fn.1 b⟩
theorem Su(e:Em K C x q st f pm c)(b:∀kV doc pm an cdv ct a1 a2 a3 a4,bindArgs (uu x q st kV doc pm an cdv ct) ⟨[a1,a2,a3,a4],[]⟩=pure [(p1,a1),(p2,a2),(p3,a3),(p4,a4)]):MethAt K C x q st [p1,p2,p3,p4] f (fd st x q pm c):=⟨e.fn.1,e.fn.2,Q9 e.fn.1 b⟩
theorem fc(e:(K.lookup f,codeIn K (.ref c) q)=(some (fq st x q pm c),true)):N4 K x q st f (fd st x q pm c) c:=by
 obtain⟨e1,e2⟩:_/\_:=by simpa only[Prod.mk.injEq]using e
 exact⟨_,_,_,_,_,_,_,_,rfl,e1,e2⟩
theorem na{a:Str}(e:findIn K (.ref C) a=some none):gJ K C a:=e
end
end Hd
namespace L3
open PySem L2
open PySem.Spec hiding items?
open PyProof.Rows hiding St
section
variable {X:Cx}{pos:Pos}
end
end L3
namespace L3
open PySem L2
open PySem.Spec hiding items?
end L3
namespace Mx
def S:Nat->(Nat->Int)->Int
 |0,_=>0
 |n+1,f=>S n f+f n
theorem aQ{n:Nat}{f g:Nat->Int}(h:∀i,i<n->f i=g i):S n f=S n g:=by
 induction n with
 |zero=>rfl
 |succ n ih=>unfold S;rw[ih fun i hi=>h i (by omega),h n (by omega)]
theorem pH{n:Nat}{f:Nat->Int}(h:∀i,i<n->f i=0):S n f=0:=by
 induction n with
 |zero=>rfl
 |succ n ih=>unfold S;rw[ih fun i hi=>h i (by omega),h n (by omega)];rfl
theorem ke(n:Nat)(f g:Nat->Int):S n (fun i=>f i+g i)=S n f+S n g:=by
 induction n with
 |zero=>rfl
 |succ n ih=>unfold S;rw[ih];dsimp only;omega
theorem fU(n:Nat)(c:Int)(f:Nat->Int):S n (fun i=>c*f i)=c*S n f:=by
 induction n with
 |zero=>unfold S;rw[Int.mul_zero]
 |succ n ih=>unfold S;rw[ih,Int.mul_add]
theorem xC(n:Nat)(c:Int)(f:Nat->Int):S n (fun i=>f i*c)=S n f*c:=by
 induction n with
 |zero=>unfold S;rw[Int.zero_mul]
 |succ n ih=>unfold S;rw[ih,Int.add_mul]
theorem AL(n:Nat)(f:Nat->Int):S n (fun i=> -f i)= -S n f:=by
 induction n with
 |zero=>rfl
 |succ n ih=>unfold S;rw[ih];dsimp only;omega
theorem uY(m n:Nat)(f:Nat->Nat->Int):S m (fun i=>S n fun j=>f i j)=S n fun j=>S m fun i=>f i j:=by
 induction m with
 |zero=>exact(pH (n:=n) (fun i _=>rfl)).symm
 |succ m ih=>
  have:S n (fun j=>S (m+1) fun i=>f i j)=S n fun j=>(S m fun i=>f i j)+f m j:=aQ fun j _=>rfl;rw[this,ke,<-ih];rfl
theorem oG{n:Nat}{k:Nat}(hk:k<n){f:Nat->Int}(h:∀i,i<n->i≠k->f i=0):S n f=f k:=by
 induction n with
 |zero=>omega
 |succ n ih=>
  unfold S;by_cases e:k=n
  . subst e;rw[pH fun i hi=>h i (by omega) (by omega),Int.zero_add]
  . rw[ih (by omega) fun i hi hn=>h i (by omega) hn,h n (by omega) (by omega),Int.add_zero]
theorem FZ(n:Nat)(f:Nat->Int):S (n+1) f=f 0+S n fun i=>f (i+1):=by
 induction n with
 |zero=>unfold S S;omega
 |succ n ih=>
  have:S (n+1+1) f=S (n+1) f+f (n+1):=rfl;rw[this,ih];have:S (n+1) (fun i=>f (i+1))=S n (fun i=>f (i+1))+f (n+1):=rfl;rw[this];omega
def dl(i j:Nat):Int:=if i=j then 1 else 0
theorem fk(i:Nat):dl i i=1:=if_pos rfl
theorem fH{i j:Nat}(h:i≠j):dl i j=0:=if_neg h
theorem p7{n k:Nat}(hk:k<n)(f:Nat->Int):S n (fun i=>dl k i*f i)=f k:=by
 rw[oG hk (fun i _ h=>by rw[fH (Ne.symm h),Int.zero_mul]),fk,Int.one_mul]
theorem uB{n k:Nat}(hk:k<n)(f:Nat->Int):S n (fun i=>f i*dl i k)=f k:=by
 rw[oG hk (fun i _ h=>by rw[fH h,Int.mul_zero]),fk,Int.mul_one]
abbrev Row:=List Int
abbrev Rows:=List (List Int)
def g(A:Rows)(i j:Nat):Int:=(A.getD i []).getD j 0
structure cj(m n:Nat)(A:Rows):Prop where
 len:A.length=m
 fx:∀r∈A,r.length=n
theorem aV{α:Type}{l:List α}{i:Nat}{d:α}(h:i<l.length):l.getD i d=l[i]:=by
 rw[List.getD_eq_getElem?_getD,List.getElem?_eq_getElem h];rfl
theorem jX{α:Type}{l:List α}{i:Nat}{d:α}(h:l.length<=i):l.getD i d=d:=by
 rw[List.getD_eq_getElem?_getD,List.getElem?_eq_none h];rfl
theorem D7{a b:Row}{n:Nat}(ha:a.length=n)(hb:b.length=n)(h:∀j,j<n->a.getD j 0=b.getD j 0):a=b:=by
 refine List.ext_getElem (by omega) fun i h1 h2=>?_;have:=h i (by omega);rwa [aV h1,aV h2]at this
theorem cj.row{m n:Nat}{A:Rows}(h:cj m n A){i:Nat}(hi:i<m):(A.getD i []).length=n:=by
 have hl:=h.len;rw[aV (by omega)];exact h.fx _ (List.getElem_mem _)
theorem cj.ext{m n:Nat}{A B:Rows}(ha:cj m n A)(hb:cj m n B)(h:∀i j,i<m->j<n->g A i j=g B i j):A=B:=by
 have h1:=ha.len;have h2:=hb.len;refine List.ext_getElem (by omega) fun i hi hj=>?_;have e1:=ha.row (i:=i) (by omega);have e2:=hb.row (i:=i) (by omega);have:=D7 e1 e2 fun j hj=>h i j (by omega) hj;rwa [aV hi,aV hj]at this
def eH(r:Row)(t:Int)(s:Row):Row:=List.zipWith (fun a b=>a+t*b) r s
theorem jF{r s:Row}{t:Int}(h:r.length=s.length):(eH r t s).length=r.length:=by unfold eH;simp[h]
theorem rF{r s:Row}{t:Int}(h:r.length=s.length)(j:Nat):(eH r t s).getD j 0=r.getD j 0+t*s.getD j 0:=by
 unfold eH;by_cases hj:j<r.length
 . rw[aV (by simp;omega),aV hj,aV (by omega)];simp
 . rw[jX (by simp;omega),jX (by omega),jX (by omega)];simp
def dJ:Row->Rows->Row->Row
 |w::ws,r::rs,acc=>dJ ws rs (eH acc w r)
 |_,_,acc=>acc
theorem nZ{n:Nat}:∀ {ws:Row} {rs:Rows} {acc:Row},acc.length=n->(∀r∈rs,r.length=n)->(dJ ws rs acc).length=n
 | [],_,acc,h,_=>by unfold dJ;exact h
 |_::_,[],acc,h,_=>by unfold dJ;exact h
 |w::ws,r::rs,acc,h,hr=>by
  unfold dJ;refine nZ ?_ fun r hr'=>hr r (List.mem_cons_of_mem _ hr');rw[jF (by rw[h,hr r List.mem_cons_self]),h]
theorem pS{n:Nat}:∀ {ws:Row} {rs:Rows} {acc:Row} (j:Nat),acc.length=n->(∀r∈rs,r.length=n)->ws.length=rs.length->(dJ ws rs acc).getD j 0=acc.getD j 0+S rs.length fun k=>ws.getD k 0*g rs k j
 | [],[],acc,j,h,_,_=>by unfold dJ;show _=_+(0:Int);rw[Int.add_zero]
 | [],_::_,acc,j,h,_,hl=>by cases hl
 |_::_,[],acc,j,h,_,hl=>by cases hl
 |w::ws,r::rs,acc,j,h,hr,hl=>by
  have e1:acc.length=r.length:=by rw[h,hr r List.mem_cons_self]
  unfold dJ;rw[pS j (by rw[jF e1,h]) (fun r hr'=>hr r (List.mem_cons_of_mem _ hr')) (by simpa using hl),rF e1,List.length_cons,FZ]
  have:(fun k=>(w::ws).getD (k+1) 0*g (r::rs) (k+1) j)=fun k=>ws.getD k 0*g rs k j:=by
   funext k;unfold g;simp
  rw[this];unfold g;simp;omega
def mulM(A B:Rows)(n:Nat):Rows:=A.map fun w=>dJ w B (List.replicate n 0)
theorem eF(n j:Nat):(List.replicate n (0:Int)).getD j 0=0:=by
 by_cases h:j<n
 . rw[aV (by simpa using h)];simp
 . rw[jX (by simp;omega)]
theorem KH{m p n:Nat}{A B:Rows}(ha:cj m p A)(hb:cj p n B):cj m n (mulM A B n):=by
 refine⟨by unfold mulM;rw[List.length_map];exact ha.len,fun r hr=>?_⟩;unfold mulM at hr;obtain⟨w,_,rfl⟩:=List.mem_map.mp hr;exact nZ (by simp) hb.fx
theorem map_getD{α:Type}{f:Row->List α}{A:Rows}{i:Nat}(h:i<A.length):(A.map f).getD i []=f (A.getD i []):=by
 rw[aV (by simpa using h),aV h];simp
theorem KD{m p n:Nat}{A B:Rows}(ha:cj m p A)(hb:cj p n B){i:Nat}(hi:i<m)(j:Nat):g (mulM A B n) i j=S p fun k=>g A i k*g B k j:=by
 have hl:=ha.len;show((mulM A B n).getD i []).getD j 0=_;unfold mulM;rw[map_getD (by omega),pS (n:=n) j (by simp) hb.fx (by rw[ha.row hi,hb.len]),eF,Int.zero_add,hb.len];rfl
def lP(n i:Nat):Row:=(List.range n).map fun k=>dl k i
def units(n:Nat):Rows:=(List.range n).map fun i=>lP n i
theorem range_getD{α:Type}{f:Nat->α}{n i:Nat}{d:α}(h:i<n):((List.range n).map f).getD i d=f i:=by
 rw[aV (by simpa using h)];simp
theorem jE(n:Nat):cj n n (units n):=⟨by simp[units],fun r hr=>by unfold units at hr;obtain⟨i,_,rfl⟩:=List.mem_map.mp hr;simp[lP]⟩
theorem jM{n i j:Nat}(hi:i<n)(hj:j<n):g (units n) i j=dl i j:=by
 unfold g units lP;rw[range_getD hi,range_getD hj];unfold dl;by_cases h:i=j
 . subst h;rfl
 . rw[if_neg (Ne.symm h),if_neg h]
def sq(A:Rows)(j:Nat):Row:=A.map fun r=>r.getD j 0
def mx(A:Rows)(n:Nat):Rows:=(List.range n).map fun j=>sq A j
theorem MV{m n:Nat}{A:Rows}(ha:cj m n A):cj n m (mx A n):=⟨by simp[mx],fun r hr=>by
 unfold mx at hr;obtain⟨j,_,rfl⟩:=List.mem_map.mp hr;unfold sq;rw[List.length_map,ha.len]⟩
theorem Lz{A:Rows}{i:Nat}(j:Nat)(h:i<A.length):(sq A j).getD i 0=g A i j:=by
 unfold sq g;rw[aV (by simpa using h),aV h];simp
theorem Hq{m n:Nat}{A:Rows}(ha:cj m n A){i j:Nat}(hi:i<m)(hj:j<n):g (mx A n) j i=g A i j:=by
 show((mx A n).getD j []).getD i 0=_;unfold mx;rw[range_getD hj,Lz j (by rw[ha.len];exact hi)]
def Nf:Row->Row->Int
 |a::as,b::bs=>a*b+Nf as bs
 |_,_=>0
theorem yG(i j:Nat):dl i j=dl j i:=by
 unfold dl;by_cases h:i=j
 . rw[if_pos h,if_pos h.symm]
 . rw[if_neg h,if_neg (Ne.symm h)]
def sw(i j k:Nat):Nat:=if k=i then j else if k=j then i else k
theorem Rp{n i j:Nat}(hi:i<n)(hj:j<n)(hij:i≠j)(f:Nat->Int):S n (fun k=>f (sw i j k))=S n f:=by
 have:S n (fun k=>f (sw i j k))=S n fun k=>f k+(f j-f i)*dl k i+(f i-f j)*dl k j:=aQ fun k _=>by
  unfold sw;by_cases h1:k=i
  . subst h1;rw[if_pos rfl,fk,fH hij];omega
  . rw[if_neg h1,fH h1];by_cases h2:k=j
    . subst h2;rw[if_pos rfl,fk];omega
    . rw[if_neg h2,fH h2];omega
 rw[this,ke,ke,uB (f:=fun _=>f j-f i) hi,uB (f:=fun _=>f i-f j) hj];omega
theorem rG{A:Rows}{i:Nat}{r:Row}(hi:i<A.length)(a k:Nat):g (A.set i r) a k=if a=i then r.getD k 0 else g A a k:=by
 have e:(A.set i r).getD a []=if a=i then r else A.getD a []:=by
  rw[List.getD_eq_getElem?_getD,List.getD_eq_getElem?_getD];by_cases h:a=i
  . subst h;rw[if_pos rfl,List.getElem?_set_self hi];rfl
  . rw[if_neg h,List.getElem?_set_ne (Ne.symm h)]
 unfold g;rw[e];by_cases h:a=i
 . rw[if_pos h,if_pos h]
 . rw[if_neg h,if_neg h]
theorem BY{m n i:Nat}{A:Rows}{r:Row}(h:cj m n A)(hr:r.length=n):cj m n (A.set i r):=⟨by rw[List.length_set];exact h.len,fun q hq=>by
 rcases List.mem_or_eq_of_mem_set hq with z|rfl
 . exact h.fx q z
 . exact hr⟩
abbrev Fn:=Nat->Nat->Int
def sk(j c:Nat):Nat:=if c<j then c else c+1
def sg(j:Nat):Int:=if j%2=0 then 1 else-1
theorem y6(j:Nat):sg (j+1)= -sg j:=by unfold sg;split<;>split<;>omega
theorem zi:sg 0=1:=rfl
theorem mw{j c n:Nat}(h:c<n):sk j c<n+1:=by unfold sk;split<;>omega
theorem PL{j k c:Nat}(h:k<j):sk j (sk k c)=sk k (sk (j-1) c):=by unfold sk;grind
def D:Nat->Fn->Int
 |0,_=>1
 |n+1,M=>S (n+1) fun j=>sg j*M 0 j*D n fun r c=>M (r+1) (sk j c)
theorem FC(M:Fn):D 0 M=1:=rfl
theorem d7(n:Nat)(M:Fn):D (n+1) M=S (n+1) fun j=>sg j*M 0 j*D n fun r c=>M (r+1) (sk j c):=rfl
theorem dO:∀ {n:Nat} {M M':Fn},(∀r c,r<n->c<n->M r c=M' r c)->D n M=D n M'
 |0,_,_,_=>rfl
 |n+1,M,M',h=>by
  rw[d7,d7];refine aQ fun j hj=>?_;have e:D n (fun r c=>M (r+1) (sk j c))=D n (fun r c=>M' (r+1) (sk j c)):=dO fun r c hr hc=>h (r+1) (sk j c) (by omega) (mw hc);rw[h 0 j (by omega) hj,e]
theorem JP:∀ {n:Nat} {M P Q:Fn} {a b:Int} {i:Nat},i<n->(∀c,c<n->M i c=a*P i c+b*Q i c)->(∀r c,r<n->c<n->r≠i->M r c=P r c/\M r c=Q r c)->D n M=a*D n P+b*D n Q
 |0,_,_,_,_,_,_,h,_,_=>by omega
 |n+1,M,P,Q,a,b,0,_,h0,h=>by
  rw[d7,d7,d7,<-fU,<-fU,<-ke];refine aQ fun j hj=>?_;have e1:D n (fun r c=>M (r+1) (sk j c))=D n (fun r c=>P (r+1) (sk j c)):=dO fun r c hr hc=>(h (r+1) (sk j c) (by omega) (mw hc) (by omega)).1;have e2:D n (fun r c=>M (r+1) (sk j c))=D n (fun r c=>Q (r+1) (sk j c)):=dO fun r c hr hc=>(h (r+1) (sk j c) (by omega) (mw hc) (by omega)).2;rw[h0 j hj,<-e1,<-e2];grind
 |n+1,M,P,Q,a,b,i+1,hi,h0,h=>by
  rw[d7,d7,d7,<-fU,<-fU,<-ke];refine aQ fun j hj=>?_;have e:=JP (n:=n) (M:=fun r c=>M (r+1) (sk j c)) (P:=fun r c=>P (r+1) (sk j c)) (Q:=fun r c=>Q (r+1) (sk j c)) (a:=a) (b:=b) (i:=i) (by omega) (fun c hc=>h0 (sk j c) (mw hc)) fun r c hr hc hne=>h (r+1) (sk j c) (by omega) (mw hc) (by omega);have p:=h 0 j (by omega) hj (by omega);rw[e,<-p.1,<-p.2];grind
theorem RV{n:Nat}{M:Fn}(h:∀c,c<n+2->M 0 c=M 1 c):D (n+2) M=0:=by
 let T:Nat->Nat->Int:=fun j k=>sg j*M 0 j*(sg k*M 1 (sk j k)*D n fun r c=>M (r+2) (sk j (sk k c)))
 have e1:∀j,j<n+2->sg j*M 0 j*D (n+1) (fun r c=>M (r+1) (sk j c))=S (n+1) fun k=>T j k:=fun j hj=>by
  rw[d7,<-fU]
 rw[d7,aQ e1]
 have e2:∀j,j<n+2->S (n+1) (fun k=>T j k)=S (n+1) (fun k=>if k<j then T j k else 0)+S (n+1) (fun k=>if k<j then 0 else T j k):=fun j _=>by
  rw[<-ke];refine aQ fun k _=>?_;split<;>omega
 rw[aQ e2,ke]
 have e3:∀j k,j<n+2->k<n+1->¬k<j->T j k= -T (k+1) j:=fun j k hj hk hjk=>by
  have s1:sk (k+1) j=j:=by unfold sk;rw[if_pos (by omega)]
  have s2:sk j k=k+1:=by unfold sk;rw[if_neg hjk]
  have s3:(fun r c=>M (r+2) (sk (k+1) (sk j c)))=fun r c=>M (r+2) (sk j (sk k c)):=by
   funext r c;rw[PL (show j<k+1 by omega)];rfl
  show sg j*M 0 j*(sg k*M 1 (sk j k)*D n fun r c=>M (r+2) (sk j (sk k c)))= -(sg (k+1)*M 0 (k+1)*(sg j*M 1 (sk (k+1) j)*D n fun r c=>M (r+2) (sk (k+1) (sk j c))));rw[s1,s2,s3,y6,<-h j hj,<-h (k+1) (by omega)];grind
 have e4:S (n+2) (fun j=>S (n+1) fun k=>if k<j then 0 else T j k)= -S (n+2) (fun j=>S (n+1) fun k=>if k<j then T j k else 0):=by
  rw[uY,FZ (n+1) (fun j=>S (n+1) fun k=>if k<j then T j k else 0)];have z:S (n+1) (fun k=>if k<0 then T 0 k else 0)=0:=pH fun k _=>if_neg (by omega);rw[z,Int.zero_add,<-AL];refine aQ fun k hk=>?_;have:S (n+2) (fun j=>if k<j then 0 else T j k)=S (n+1) (fun j=>if k<j then 0 else T j k)+(if k<n+1 then 0 else T (n+1) k):=rfl;rw[this,if_pos hk,Int.add_zero,<-AL];refine aQ fun j hj=>?_;by_cases hkj:k<j
  . rw[if_pos hkj,if_neg (by omega)];rfl
  . rw[if_neg hkj,if_pos (by omega)];exact e3 j k (by omega) hk hkj
 rw[e4];omega
theorem Js:∀ {n:Nat} {M:Fn} {i:Nat},i+1<n->(∀c,c<n->M i c=M (i+1) c)->D n M=0
 |0,_,_,h,_=>by omega
 |1,_,_,h,_=>by omega
 |n+2,M,0,_,h=>RV h
 |n+2,M,i+1,hi,h=>by
  rw[d7];refine pH fun j hj=>?_;rw[Js (n:=n+1) (M:=fun r c=>M (r+1) (sk j c)) (i:=i) (by omega) fun c hc=>h (sk j c) (mw hc),Int.mul_zero]
structure Alt(n:Nat)(φ:Fn->Int):Prop where
 cg:∀M M':Fn,(∀r c,r<n->c<n->M r c=M' r c)->φ M=φ M'
 rp:∀(i:Nat) (M P Q:Fn) (a b:Int),i<n->(∀c,c<n->M i c=a*P i c+b*Q i c)->(∀r c,r<n->c<n->r≠i->M r c=P r c/\M r c=Q r c)->φ M=a*φ P+b*φ Q
 alt:∀(i j:Nat) (M:Fn),i<n->j<n->i≠j->(∀c,c<n->M i c=M j c)->φ M=0
def upd(M:Fn)(i:Nat)(x:Nat->Int):Fn:=fun r c=>if r=i then x c else M r c
theorem cT(M:Fn)(i:Nat)(x:Nat->Int)(c:Nat):upd M i x i c=x c:=if_pos rfl
theorem aH{M:Fn}{i r:Nat}{x:Nat->Int}(h:r≠i)(c:Nat):upd M i x r c=M r c:=if_neg h
theorem Q4{n i j:Nat}{φ:Fn->Int}(cg:∀M M':Fn,(∀r c,r<n->c<n->M r c=M' r c)->φ M=φ M')
 (rp:∀(i:Nat) (M P Q:Fn) (a b:Int),i<n->(∀c,c<n->M i c=a*P i c+b*Q i c)->(∀r c,r<n->c<n->r≠i->M r c=P r c/\M r c=Q r c)->φ M=a*φ P+b*φ Q)
 (hi:i<n) (hj:j<n) (hij:i≠j) (alt:∀N:Fn,(∀c,c<n->N i c=N j c)->φ N=0) (M:Fn):φ (fun r=>M (sw i j r))= -φ M:=by
 have l1:φ (upd (upd M i fun c=>M i c+M j c) j fun c=>M i c+M j c)=1*φ (upd (upd M i (M i)) j fun c=>M i c+M j c)+1*φ (upd (upd M i (M j)) j fun c=>M i c+M j c):=
  rp i _ _ _ 1 1 hi (fun c _=>by rw[aH hij,aH hij,aH hij,cT,cT,cT];omega) fun r c _ _ hr=>by
   unfold upd;grind
 have l2:∀x:Nat->Int,φ (upd (upd M i x) j fun c=>M i c+M j c)=1*φ (upd (upd M i x) j (M i))+1*φ (upd (upd M i x) j (M j)):=fun x=>
  rp j _ _ _ 1 1 hj (fun c _=>by rw[cT,cT,cT];omega) fun r c _ _ hr=>by
   rw[aH hr,aH hr,aH hr];exact⟨rfl,rfl⟩
 have z0:φ (upd (upd M i fun c=>M i c+M j c) j fun c=>M i c+M j c)=0:=alt _ fun c _=>by rw[aH hij,cT,cT]
 have z1:φ (upd (upd M i (M i)) j (M i))=0:=alt _ fun c _=>by rw[aH hij,cT,cT]
 have z2:φ (upd (upd M i (M j)) j (M j))=0:=alt _ fun c _=>by rw[aH hij,cT,cT]
 have s1:φ (upd (upd M i (M i)) j (M j))=φ M:=cg _ _ fun r c _ _=>by
  unfold upd;split
  . rename_i e;rw[e]
  . split
    . rename_i e;rw[e]
    . rfl
 have s2:φ (upd (upd M i (M j)) j (M i))=φ (fun r=>M (sw i j r)):=cg _ _ fun r c _ _=>by
  unfold upd sw;by_cases h1:r=j
  . rw[if_pos h1];by_cases h2:r=i
    . omega
    . rw[if_neg h2,if_pos h1]
  . rw[if_neg h1];by_cases h2:r=i
    . rw[if_pos h2,if_pos h2]
    . rw[if_neg h2,if_neg h2,if_neg h1]
 have a1:=l2 (M i);have a2:=l2 (M j);rw[z1,s1]at a1;rw[z2,s2]at a2;rw[z0,a1,a2]at l1;omega
theorem Alt.swap{n i j:Nat}{φ:Fn->Int}(A:Alt n φ)(hi:i<n)(hj:j<n)(hij:i≠j)(M:Fn):φ (fun r=>M (sw i j r))= -φ M:=
 Q4 A.cg A.rp hi hj hij (fun N h=>A.alt i j N hi hj hij h) M
theorem yp{n:Nat}{φ:Fn->Int}(cg:∀M M':Fn,(∀r c,r<n->c<n->M r c=M' r c)->φ M=φ M')
 (rp:∀(i:Nat) (M P Q:Fn) (a b:Int),i<n->(∀c,c<n->M i c=a*P i c+b*Q i c)->(∀r c,r<n->c<n->r≠i->M r c=P r c/\M r c=Q r c)->φ M=a*φ P+b*φ Q)
 (adj:∀(i:Nat) (M:Fn),i+1<n->(∀c,c<n->M i c=M (i+1) c)->φ M=0):Alt n φ:=by
 have far:∀(d i:Nat) (M:Fn),i+d+1<n->(∀c,c<n->M i c=M (i+d+1) c)->φ M=0:=by
  intro d;induction d with
  |zero=>exact fun i M h1 h2=>adj i M h1 h2
  |succ d ih=>
   intro i M h1 h2;have hs:=Q4 cg rp (i:=i+d+1) (j:=i+d+1+1) (by omega) (by omega) (by omega) (fun N h=>adj (i+d+1) N (by omega) h) M
   have:φ (fun r=>M (sw (i+d+1) (i+d+1+1) r))=0:=ih i _ (by omega) fun c hc=>by
    have e1:sw (i+d+1) (i+d+1+1) i=i:=by unfold sw;rw[if_neg (by omega),if_neg (by omega)]
    have e2:sw (i+d+1) (i+d+1+1) (i+d+1)=i+d+1+1:=by unfold sw;rw[if_pos rfl]
    rw[e1,e2];exact h2 c hc
   omega
 refine⟨cg,rp,fun i j M hi hj hij h=>?_⟩;by_cases hlt:i<j
 . obtain⟨d,rfl⟩:∃d,j=i+d+1:=⟨j-i-1,by omega⟩
   exact far d i M hj h
 . obtain⟨d,rfl⟩:∃d,i=j+d+1:=⟨i-j-1,by omega⟩
   exact far d j M hi fun c hc=>(h c hc).symm
theorem vE(n:Nat):Alt n (D n):=yp (fun _ _ h=>dO h) (fun _ _ _ _ _ _ hi h0 h=>JP hi h0 h) fun _ _ h1 h2=>Js h1 h2
theorem Alt.O3{n i:Nat}{φ:Fn->Int}(A:Alt n φ)(hi:i<n){M:Fn}(h:∀c,c<n->M i c=0):φ M=0:=by
 have:=A.rp i M M M 0 0 hi (fun c hc=>by rw[h c hc];rfl) fun _ _ _ _ _=>⟨rfl,rfl⟩
 omega
theorem Alt.GL{n i:Nat}{φ:Fn->Int}(A:Alt n φ)(hi:i<n)(M:Fn)(t:Int)(x:Nat->Int):φ (upd M i fun c=>t*x c)=t*φ (upd M i x):=by
 have:=A.rp i (upd M i fun c=>t*x c) (upd M i x) (upd M i x) t 0 hi (fun c hc=>by rw[cT,cT];omega) fun r c _ _ hr=>by rw[aH hr,aH hr];exact⟨rfl,rfl⟩
 omega
theorem Alt.Gh{n i:Nat}{φ:Fn->Int}(A:Alt n φ)(hi:i<n)(M:Fn)(x y:Nat->Int):φ (upd M i fun c=>x c+y c)=φ (upd M i x)+φ (upd M i y):=by
 have:=A.rp i (upd M i fun c=>x c+y c) (upd M i x) (upd M i y) 1 1 hi (fun c hc=>by rw[cT,cT,cT];omega) fun r c _ _ hr=>by rw[aH hr,aH hr,aH hr];exact⟨rfl,rfl⟩
 omega
theorem Alt.yl{n i:Nat}{φ:Fn->Int}(A:Alt n φ)(hi:i<n)(M:Fn)(a:Nat->Int)(x:Nat->Nat->Int):∀m,φ (upd M i fun c=>S m fun j=>a j*x j c)=S m fun j=>a j*φ (upd M i (x j))
 |0=>A.O3 hi fun c _=>by rw[cT];rfl
 |m+1=>by
  have:(fun c=>S (m+1) fun j=>a j*x j c)=fun c=>(S m fun j=>a j*x j c)+a m*x m c:=rfl;rw[this,A.Gh hi,A.yl hi M a x m,A.GL hi];rfl
def un(j c:Nat):Nat:=if c<j then c else c-1
def grow(j:Nat)(B:Fn):Fn:=fun r c=>if r=0 then dl j c else if c=j then 0 else B (r-1) (un j c)
theorem yj{n j c:Nat}(hj:j<n+1)(hc:c<n+1)(h:c≠j):un j c<n:=by unfold un;split<;>omega
theorem E1{j c:Nat}(h:c≠j):sk j (un j c)=c:=by unfold sk un;grind
theorem Alt.grow{n j:Nat}{φ:Fn->Int}(A:Alt (n+1) φ)(hj:j<n+1):Alt n fun B=>φ (Mx.grow j B) where
 cg:=fun M M' h=>A.cg _ _ fun r c hr hc=>by
  have:=h (r-1) (un j c);have:=yj (c:=c) hj hc;unfold Mx.grow;grind
 rp:=fun i M P Q a b hi h0 h=>A.rp (i+1) _ _ _ a b (by omega) (fun c hc=>by
  have:=h0 (un j c);have:=yj (c:=c) hj hc;have e:i+1-1=i:=by omega
  unfold Mx.grow;rw[e];grind) fun r c hr hc hne=>by
  have:=h (r-1) (un j c);have:=yj (c:=c) hj hc;unfold Mx.grow;grind
 alt:=fun i k M hi hk hik h=>A.alt (i+1) (k+1) _ (by omega) (by omega) (by omega) fun c hc=>by
  have:=h (un j c);have:=yj (c:=c) hj hc;have e:i+1-1=i:=by omega
  have e2:k+1-1=k:=by omega
  unfold Mx.grow;rw[e,e2];grind
theorem Alt.units{n:Nat}{φ:Fn->Int}(A:Alt (n+1) φ):∀j,j<n+1->φ (Mx.grow j dl)=sg j*φ dl
 |0,_=>by
  rw[zi,Int.one_mul];refine A.cg _ _ fun r c hr hc=>?_;unfold Mx.grow un dl;grind
 |j+1,hj=>by
  have ih:=A.units j (by omega);have s:=A.swap (i:=0) (j:=j+1) (by omega) hj (by omega) (Mx.grow j dl);rw[y6,Int.neg_mul,<-ih,<-s];refine A.cg _ _ fun r c hr hc=>?_;unfold Mx.grow un dl sw;grind
theorem Alt.RL{n i k:Nat}{φ:Fn->Int}(A:Alt n φ)(hi:i<n)(hk:k<n)(hik:i≠k)(M:Fn)(x:Nat->Int)(t:Int):φ (upd M i fun c=>x c+t*M k c)=φ (upd M i x):=by
 rw[A.Gh hi,A.GL hi M t (M k),A.alt i k (upd M i (M k)) hi hk hik fun c _=>by rw[cT,aH (Ne.symm hik)],Int.mul_zero,Int.add_zero]
def zr(j m:Nat)(M:Fn):Fn:=fun r c=>if r=0 then dl j c else if r<=m/\c=j then 0 else M r c
theorem Alt.zr{n j:Nat}{φ:Fn->Int}(A:Alt (n+1) φ)(M:Fn):∀m,m<=n->φ (Mx.zr j m M)=φ (upd M 0 (dl j))
 |0,_=>A.cg _ _ fun r c hr hc=>by unfold Mx.zr upd;grind
 |m+1,hm=>by
  rw[<-A.zr M m (by omega)];have e:=A.RL (i:=m+1) (k:=0) (by omega) (by omega) (by omega) (Mx.zr j m M) (M (m+1)) (-M (m+1) j)
  have e1:φ (Mx.zr j (m+1) M)=φ (upd (Mx.zr j m M) (m+1) fun c=>M (m+1) c+ -M (m+1) j*Mx.zr j m M 0 c):=A.cg _ _ fun r c hr hc=>by
   unfold upd Mx.zr dl;by_cases h0:r=m+1
   . subst h0;by_cases h1:c=j
     . subst h1;simp;omega
     . have:¬j=c:=fun z=>h1 z.symm;simp[h1,this]
   . rw[if_neg h0];grind
  have e2:φ (upd (Mx.zr j m M) (m+1) (M (m+1)))=φ (Mx.zr j m M):=A.cg _ _ fun r c hr hc=>by
   unfold upd Mx.zr;grind
  rw[e1,e,e2]
theorem E7:∀ {n:Nat} {φ:Fn->Int},Alt n φ->∀M,φ M=φ dl*D n M
 |0,φ,A,M=>by rw[FC,Int.mul_one];exact A.cg _ _ fun r c hr=>by omega
 |n+1,φ,A,M=>by
  have h1:φ M=S (n+1) fun j=>M 0 j*φ (upd M 0 (dl j)):=by
   rw[<-A.yl (by omega) M (M 0) dl (n+1)];refine A.cg _ _ fun r c hr hc=>?_;by_cases h0:r=0
   . subst h0;rw[cT,uB hc]
   . rw[aH h0]
  have h2:∀j,j<n+1->φ (upd M 0 (dl j))=φ (Mx.grow j fun r c=>M (r+1) (sk j c)):=fun j hj=>by
   rw[<-A.zr M n (Nat.le_refl _)];refine A.cg _ _ fun r c hr hc=>?_;unfold Mx.grow Mx.zr;by_cases h0:r=0
   . rw[if_pos h0,if_pos h0]
   . rw[if_neg h0,if_neg h0];by_cases h3:c=j
     . rw[if_pos ⟨by omega,h3⟩,if_pos h3]
     . rw[if_neg (by omega),if_neg h3];dsimp only;rw[E1 h3,show r-1+1=r by omega]
  rw[h1,d7,<-fU];refine aQ fun j hj=>?_;have h3:=E7 (A.grow hj) fun r c=>M (r+1) (sk j c);have h4:=A.units j hj;have h5:φ (Mx.grow j fun r c=>M (r+1) (sk j c))=φ (Mx.grow j dl)*D n fun r c=>M (r+1) (sk j c):=h3;rw[h2 j hj,h5,h4];grind
theorem zo:∀n,D n dl=1
 |0=>rfl
 |n+1=>by
  rw[d7,oG (k:=0) (by omega) fun j hj h0=>by rw[fH (Ne.symm h0),Int.mul_zero,Int.zero_mul]]
  have:D n (fun r c=>dl (r+1) (sk 0 c))=D n dl:=dO fun r c _ _=>by
   unfold dl sk;grind
  rw[this,zo n,fk];rfl
theorem JH(n:Nat)(A B:Fn):D n (fun r c=>S n fun k=>A r k*B k c)=D n A*D n B:=by
 have al:Alt n fun A=>D n (fun r c=>S n fun k=>A r k*B k c):=by
  refine⟨fun M M' h=>dO fun r c hr hc=>aQ fun k hk=>by rw[h r k hr hk],fun i M P Q a b hi h0 h=>(vE n).rp i _ _ _ a b hi (fun c hc=>?_) fun r c hr hc hne=>⟨aQ fun k hk=>by rw[(h r k hr hk hne).1],aQ fun k hk=>by rw[(h r k hr hk hne).2]⟩,fun i j M hi hj hij h=>(vE n).alt i j _ hi hj hij fun c hc=>aQ fun k hk=>by rw[h k hk]⟩;show(S n fun k=>M i k*B k c)=a*(S n fun k=>P i k*B k c)+b*S n fun k=>Q i k*B k c;rw[<-fU,<-fU,<-ke];refine aQ fun k hk=>?_;rw[h0 k hk];grind
 have h:=E7 al A;have e:D n (fun r c=>S n fun k=>dl r k*B k c)=D n B:=dO fun r c hr hc=>p7 hr fun k=>B k c;rw[h,e,Int.mul_comm]
theorem Hj:∀ {n:Nat} {M P Q:Fn} {a b:Int} {i:Nat},i<n->(∀r,r<n->M r i=a*P r i+b*Q r i)->(∀r c,r<n->c<n->c≠i->M r c=P r c/\M r c=Q r c)->D n M=a*D n P+b*D n Q
 |0,_,_,_,_,_,_,h,_,_=>by omega
 |n+1,M,P,Q,a,b,i,hi,h0,h=>by
  rw[d7,d7,d7,<-fU,<-fU,<-ke];refine aQ fun j hj=>?_;by_cases hij:j=i
  . subst hij;have hs:∀c,sk j c≠j:=fun c=>by unfold sk;split<;>omega
    have e1:D n (fun r c=>M (r+1) (sk j c))=D n (fun r c=>P (r+1) (sk j c)):=dO fun r c hr hc=>(h (r+1) (sk j c) (by omega) (mw hc) (hs c)).1;have e2:D n (fun r c=>M (r+1) (sk j c))=D n (fun r c=>Q (r+1) (sk j c)):=dO fun r c hr hc=>(h (r+1) (sk j c) (by omega) (mw hc) (hs c)).2;rw[h0 0 (by omega),<-e1,<-e2];grind
  . have p:=h 0 j (by omega) hj hij;have hu:sk j (un j i)=i:=E1 (Ne.symm hij);have hs:∀c,c≠un j i->sk j c≠i:=fun c hc=>by unfold sk;unfold un at hc;grind
    have hlt:un j i<n:=yj hj hi (Ne.symm hij)
    have e:=Hj (n:=n) (M:=fun r c=>M (r+1) (sk j c)) (P:=fun r c=>P (r+1) (sk j c)) (Q:=fun r c=>Q (r+1) (sk j c)) (a:=a) (b:=b) (i:=un j i) hlt (fun r hr=>by
     rw[hu];exact h0 (r+1) (by omega)) fun r c hr hc hne=>h (r+1) (sk j c) (by omega) (mw hc) (hs c hne)
    rw[e,<-p.1,<-p.2];grind
theorem F_:∀ {n:Nat} {M:Fn} {i:Nat},i+1<n->(∀r,r<n->M r i=M r (i+1))->D n M=0
 |0,_,_,h,_=>by omega
 |n+1,M,i,hi,h=>by
  rw[d7]
  have key:∀j,j<n+1->j≠i->j≠i+1->D n (fun r c=>M (r+1) (sk j c))=0:=fun j hj h1 h2=>by
   refine F_ (i:=un j i) (by unfold un;split<;>omega) fun r hr=>?_;have e1:sk j (un j i)=i:=E1 (Ne.symm h1);have e2:sk j (un j i+1)=i+1:=by unfold sk un;grind
   rw[e1,e2];exact h (r+1) (by omega)
  have e:D n (fun r c=>M (r+1) (sk i c))=D n (fun r c=>M (r+1) (sk (i+1) c)):=dO fun r c hr hc=>by
   by_cases hc2:c=i
   . subst hc2;have a1:sk c c=c+1:=by unfold sk;rw[if_neg (by omega)]
     have a2:sk (c+1) c=c:=by unfold sk;rw[if_pos (by omega)]
     rw[a1,a2];exact(h (r+1) (by omega)).symm
   . have a1:sk i c=sk (i+1) c:=by unfold sk;grind
     rw[a1]
  have two:∀(m:Nat) (f:Nat->Int),i+1<m->(∀j,j<m->j≠i->j≠i+1->f j=0)->S m f=f i+f (i+1):=fun m=>by
   induction m with
   |zero=>intro f h;omega
   |succ m ih=>
    intro f hm hf;show S m f+f m=_;by_cases hmi:m=i+1
    . subst hmi;rw[oG (k:=i) (by omega) fun j hj hne=>hf j (by omega) hne (by omega)]
    . rw[ih f (by omega) fun j hj h1 h2=>hf j (by omega) h1 h2,hf m (by omega) (by omega) hmi,Int.add_zero]
  rw[two (n+1) _ hi fun j hj h1 h2=>by rw[key j hj h1 h2,Int.mul_zero],e,y6,h 0 (by omega)];grind
def tr(M:Fn):Fn:=fun r c=>M c r
theorem BO(n:Nat)(M:Fn):D n (tr M)=D n M:=by
 have al:Alt n fun A=>D n (tr A):=yp (fun M M' h=>dO fun r c hr hc=>h c r hc hr)
  (fun i M P Q a b hi h0 h=>Hj hi (fun r hr=>h0 r hr) fun r c hr hc hne=>h c r hc hr hne)
  fun i M hi h=>F_ hi fun r hr=>h r hr
 have h:=E7 al M;have e:D n (tr dl)=D n dl:=dO fun r c _ _=>yG c r;have h2:D n (tr M)=D n (tr dl)*D n M:=h;rw[h2,e,zo,Int.one_mul]
def Pr:Nat->(Nat->Int)->Int
 |0,_=>1
 |n+1,f=>Pr n f*f n
theorem D2:∀(n:Nat) (f:Nat->Int),Pr (n+1) f=f 0*Pr n fun i=>f (i+1)
 |0,f=>by show 1*f 0=f 0*1;omega
 |n+1,f=>by
  have:Pr (n+1+1) f=Pr (n+1) f*f (n+1):=rfl;rw[this,D2 n f];have:Pr (n+1) (fun i=>f (i+1))=Pr n (fun i=>f (i+1))*f (n+1):=rfl;rw[this,Int.mul_assoc]
theorem J8:∀ {n:Nat} {M:Fn},(∀r c,r<n->c<n->r<c->M r c=0)->D n M=Pr n fun i=>M i i
 |0,_,_=>rfl
 |n+1,M,h=>by
  rw[d7,oG (k:=0) (by omega) fun j hj h0=>by rw[h 0 j (by omega) hj (by omega),Int.mul_zero,Int.zero_mul],D2,zi,Int.one_mul];have s:∀c,sk 0 c=c+1:=fun c=>by unfold sk;rw[if_neg (by omega)]
  have e:D n (fun r c=>M (r+1) (sk 0 c))=Pr n fun i=>M (i+1) (i+1):=by
   rw[J8 fun r c hr hc hrc=>by rw[s];exact h (r+1) (c+1) (by omega) (by omega) (by omega)];simp only[s]
  rw[e]
theorem Rk{n:Nat}{M:Fn}(h:∀r c,r<n->c<n->c<r->M r c=0):D n M=Pr n fun i=>M i i:=by
 rw[<-BO n M,J8 (M:=tr M) fun r c hr hc hrc=>h c r hc hr hrc];rfl
theorem BN:∀ {n:Nat} {M:Fn},(∀c,c<n+1->M n c=dl n c)->D (n+1) M=D n M
 |0,M,h=>by
  rw[d7];show 0+sg 0*M 0 0*D 0 _=1;rw[h 0 (by omega),fk,zi,FC];omega
 |n+1,M,h=>by
  have e1:∀j,j<n+1->D (n+1) (fun r c=>M (r+1) (sk j c))=D n (fun r c=>M (r+1) (sk j c)):=fun j hj=>BN fun c hc=>by
   rw[h (sk j c) (mw hc)];unfold dl sk;grind
  have e2:D (n+1) (fun r c=>M (r+1) (sk (n+1) c))=0:=(vE (n+1)).O3 (i:=n) (by omega) fun c hc=>by
   have s:sk (n+1) c=c:=by unfold sk;rw[if_pos (by omega)]
   rw[s,h c (by omega),fH (by omega)]
  have e3:D (n+1+1) M=(S (n+1) fun j=>sg j*M 0 j*D (n+1) fun r c=>M (r+1) (sk j c))+sg (n+1)*M 0 (n+1)*D (n+1) (fun r c=>M (r+1) (sk (n+1) c)):=d7 (n+1) M;rw[e3,e2,Int.mul_zero,Int.add_zero,d7];exact aQ fun j hj=>by rw[e1 j hj]
def gx(R:Fn)(p:Nat)(x:Nat->Int)(j:Nat):Int:=D (p+1) fun r c=>if r<p then R r (if c<p then c else j)else x (if c<p then c else j)
theorem N5{R:Fn}{p j:Nat}{x:Nat->Int}(h:j<p):gx R p x j=0:=by
 unfold gx;rw[<-BO];refine(vE (p+1)).alt j p _ (by omega) (by omega) (by omega) fun c hc=>?_;unfold tr;dsimp only;rw[if_pos h,if_neg (Nat.lt_irrefl p)]
def bt(R:Fn)(p:Nat)(x:Nat->Int)(k:Nat):Int:=D (p+1) (upd (fun c r=>if r<p then R r c else x c) p (dl k))
theorem Qa(R:Fn)(p:Nat)(x:Nat->Int)(j:Nat):gx R p x j=D p R*x j+S p fun k=>bt R p x k*R k j:=by
 have e1:gx R p x j=D (p+1) (upd (fun c r=>if r<p then R r c else x c) p fun r=>S (p+1) fun k=>(if k<p then R k j else x j)*dl k r):=by
  unfold gx;rw[<-BO];refine dO fun c r hc hr=>?_;unfold tr upd;by_cases h:c=p
  . subst h;rw[if_pos rfl];dsimp only;rw[uB hr,if_neg (Nat.lt_irrefl _)]
  . rw[if_neg h];dsimp only;rw[if_pos (show c<p by omega)]
 rw[e1,(vE (p+1)).yl (by omega)]
 have e2:D (p+1) (upd (fun c r=>if r<p then R r c else x c) p (dl p))=D p R:=by
  rw[BN fun c _=>cT _ _ _ _];rw[<-BO];refine dO fun r c hr hc=>?_;unfold tr;rw[aH (by omega),if_pos (by omega)]
 have e3:(S (p+1) fun k=>(if k<p then R k j else x j)*D (p+1) (upd (fun c r=>if r<p then R r c else x c) p (dl k)))=(S p fun k=>(if k<p then R k j else x j)*D (p+1) (upd (fun c r=>if r<p then R r c else x c) p (dl k)))+(if p<p then R p j else x j)*D (p+1) (upd (fun c r=>if r<p then R r c else x c) p (dl p)):=rfl;rw[e3,e2,if_neg (Nat.lt_irrefl p),Int.add_comm,Int.mul_comm];congr 1;refine aQ fun k hk=>?_;rw[if_pos hk,Int.mul_comm];rfl
def cl(p j1 j2 c:Nat):Nat:=if c<p then c else if c=p then j1 else j2
theorem EY{n:Nat}{f:Nat->Int}{m:Nat}(h:∀i,i<n->(f i).natAbs<=m):(S n f).natAbs<=n*m:=by
 induction n with
 |zero=>simp[S]
 |succ n ih=>
  have h1:=ih fun i hi=>h i (by omega);have h2:=h n (by omega);show(S n f+f n).natAbs<=_;rw[Nat.succ_mul];omega
def lam(G:Fn)(i j:Nat):Int:=gx G j (G i) j
def Rh(A:Rows):Fn:=fun i j=>Nf (A.getD i []) (A.getD j [])
def Pq(G:Fn)(i:Nat):Row:=(List.range (i+1)).map fun j=>lam G i j
def Ny(G:Fn)(n:Nat):Rows:=(List.range n).map (Pq G)
def RA(A:Rows)(N:Nat):Fn:=fun i j=>if j<N then Rh A i j else(A.getD i []).getD (j-N) 0
def ev(A:Rows)(N i k c:Nat):Int:=gx (RA A N) k (RA A N i) (N+c)
theorem Ee(n:Nat)(a b:Int)(f g:Nat->Int):S n (fun c=>a*f c-b*g c)=a*S n f-b*S n g:=by
 induction n with
 |zero=>show(0:Int)=a*0-b*0;omega
 |succ n ih=>
  show S n (fun c=>a*f c-b*g c)+(a*f n-b*g n)=a*(S n f+f n)-b*(S n g+g n);rw[ih,Int.mul_add,Int.mul_add];omega
section
variable {A:Rows}{N w:Nat}
end
def Si(M:Fn)(k j:Nat)(q:Int):Fn:=fun a b=>if a=k then M a b-q*M j b else M a b
def Sf(M:Fn)(k j:Nat)(q:Int):Fn:=fun a b=>if b=k then M a b-q*M a j else M a b
def tk(G:Fn)(k j:Nat)(q:Int):Fn:=Sf (Si G k j q) k j q
section
variable {G:Fn}{t:Nat}(sym:∀i j,G i j=G j i)
include sym
end
section
variable {A:Rows}{N w:Nat}
theorem c5(hA:cj N w A){i:Nat}(hi:i<N):(A.getD i []).length=w:=hA.fx _ (by have:=hA.len;rw[aV (by omega)];exact List.getElem_mem _)
end
def bT(A:Rows)(k:Nat)(q:Int)(j:Nat):Rows:=A.set k (eH (A.getD k []) (-q) (A.getD j []))
def bZ(A:Rows)(k o:Nat):Rows:=(A.set k (A.getD o [])).set o (A.getD k [])
theorem mY{A:Rows}{k i:Nat}{r:Row}(hk:k<A.length):(A.set k r).getD i []=if i=k then r else A.getD i []:=by
 rw[List.getD_eq_getElem?_getD,List.getElem?_set];by_cases h:k=i
 . rw[if_pos h,if_pos (by omega),if_pos h.symm];rfl
 . rw[if_neg h,if_neg (Ne.symm h),List.getD_eq_getElem?_getD]
theorem FN{A:Rows}{k j:Nat}{q:Int}:(bT A k q j).length=A.length:=by unfold bT;rw[List.length_set]
theorem sM{A:Rows}{N w k j:Nat}{q:Int}(hA:cj N w A)(hk:k<N)(hj:j<N):cj N w (bT A k q j):=by
 refine⟨FN.trans hA.len,fun r hr=>?_⟩;unfold bT at hr;rcases List.mem_or_eq_of_mem_set hr with h|rfl
 . exact hA.fx r h
 . rw[jF (by rw[c5 hA hk,c5 hA hj]),c5 hA hk]
structure Tn(A0 A U C:Rows)(N w:Nat):Prop where
 isA:cj N w A
 eB:cj N N U
 gp:cj N N C
 ua:∀i c,i<N->c<w->g A i c=S N fun k=>g U i k*g A0 k c
 ub:∀i j,i<N->j<N->S N (fun k=>g U i k*g C j k)=dl i j
 bu:∀i j,i<N->j<N->S N (fun k=>g C k i*g U k j)=dl i j
theorem fz{A:Rows}{N w k j:Nat}{q:Int}(hA:cj N w A)(hk:k<N)(hj:j<N)(i c:Nat):g (bT A k q j) i c=if i=k then g A k c-q*g A j c else g A i c:=by
 unfold g bT;have hl:=hA.len;rw[mY (by omega)];by_cases h:i=k
 . rw[if_pos h,if_pos h,rF (by rw[c5 hA hk,c5 hA hj]),Int.neg_mul];omega
 . rw[if_neg h,if_neg h]
theorem xZ(n:Nat)(a b:Int)(f h:Nat->Int):S n (fun c=>a*f c+b*h c)=a*S n f+b*S n h:=by
 rw[ke,fU,fU]
theorem Tn.take{A0 A U C:Rows}{N w k j:Nat}{q:Int}(T:Tn A0 A U C N w)(hk:k<N)(hj:j<N)(hkj:j≠k):Tn A0 (bT A k q j) (bT U k q j) (bT C j (-q) k) N w where
 isA:=sM T.isA hk hj
 eB:=sM T.eB hk hj
 gp:=sM T.gp hj hk
 ua:=fun i c hi hc=>by
  rw[fz T.isA hk hj];have e:S N (fun m=>g (bT U k q j) i m*g A0 m c)=S N fun m=>(if i=k then g U k m-q*g U j m else g U i m)*g A0 m c:=aQ fun m _=>by rw[fz T.eB hk hj]
  rw[e];by_cases h:i=k
  . simp only[if_pos h];rw[T.ua k c hk hc,T.ua j c hj hc];have e2:S N (fun m=>(g U k m-q*g U j m)*g A0 m c)=S N fun m=>1*(g U k m*g A0 m c)-q*(g U j m*g A0 m c):=aQ fun m _=>by grind
    rw[e2,Ee];omega
  . simp only[if_neg h];exact T.ua i c hi hc
 ub:=fun i l hi hl=>by
  have e:S N (fun m=>g (bT U k q j) i m*g (bT C j (-q) k) l m)=S N fun m=>(if i=k then g U k m-q*g U j m else g U i m)*(if l=j then g C j m- -q*g C k m else g C l m):=aQ fun m _=>by rw[fz T.eB hk hj,fz T.gp hj hk]
  rw[e];have djk:dl j k=0:=fH hkj;by_cases h:i=k
  . by_cases h2:l=j
    . simp only[if_pos h,if_pos h2];have e2:S N (fun m=>(g U k m-q*g U j m)*(g C j m- -q*g C k m))=S N fun m=>1*(1*(g U k m*g C j m)+q*(g U k m*g C k m))-q*(1*(g U j m*g C j m)+q*(g U j m*g C k m)):=aQ fun m _=>by grind
      rw[e2,Ee,xZ,xZ,T.ub k j hk hj,T.ub k k hk hk,T.ub j j hj hj,T.ub j k hj hk,h,h2,fk,fk,djk,yG k j,djk];omega
    . simp only[if_pos h,if_neg h2];have e2:S N (fun m=>(g U k m-q*g U j m)*g C l m)=S N fun m=>1*(g U k m*g C l m)-q*(g U j m*g C l m):=aQ fun m _=>by grind
      rw[e2,Ee,T.ub k l hk hl,T.ub j l hj hl,h,fH (Ne.symm h2)];omega
  . by_cases h2:l=j
    . simp only[if_neg h,if_pos h2];have e2:S N (fun m=>g U i m*(g C j m- -q*g C k m))=S N fun m=>1*(g U i m*g C j m)+q*(g U i m*g C k m):=aQ fun m _=>by grind
      rw[e2,xZ,T.ub i j hi hj,T.ub i k hi hk,h2,fH h];omega
    . simp only[if_neg h,if_neg h2];exact T.ub i l hi hl
 bu:=fun i l hi hl=>by
  have e:S N (fun m=>g (bT C j (-q) k) m i*g (bT U k q j) m l)=S N fun m=>g C m i*g U m l+((q*(g C k i*g U j l))*dl m j+(-(q*(g C k i*g U j l)))*dl m k):=aQ fun m _=>by
   rw[fz T.eB hk hj,fz T.gp hj hk];by_cases h1:m=j
   . have h2:m≠k:=by omega
     rw[if_pos h1,if_neg h2,h1,fk,fH hkj];grind
   . rw[if_neg h1,fH h1];by_cases h2:m=k
     . rw[if_pos h2,h2,fk];grind
     . rw[if_neg h2,fH h2];grind
  rw[e,ke,xZ,T.bu i l hi hl]
  have e1:S N (fun c=>dl c j)=1:=by
   rw[oG hj fun i _ h=>fH h,fk]
  have e2:S N (fun c=>dl c k)=1:=by
   rw[oG hk fun i _ h=>fH h,fk]
  rw[e1,e2];omega
theorem CK{A:Rows}{k o i:Nat}(hk:k<A.length)(ho:o<A.length):(bZ A k o).getD i []=A.getD (sw k o i) []:=by
 unfold bZ;rw[mY (by rw[List.length_set];exact ho),mY hk];unfold sw;by_cases h1:i=k
 . rw[if_pos h1,if_pos h1];by_cases h2:i=o
   . rw[if_pos h2,<-h1,<-h2]
   . rw[if_neg h2]
 . rw[if_neg h1,if_neg h1];by_cases h2:i=o
   . rw[if_pos h2,if_pos h2]
   . rw[if_neg h2,if_neg h2]
theorem tN{A:Rows}{N w k o:Nat}(hA:cj N w A)(hk:k<N)(ho:o<N):cj N w (bZ A k o):=by
 refine⟨by unfold bZ;rw[List.length_set,List.length_set];exact hA.len,fun r hr=>?_⟩;unfold bZ at hr;rcases List.mem_or_eq_of_mem_set hr with h|rfl
 . rcases List.mem_or_eq_of_mem_set h with h|rfl
   . exact hA.fx r h
   . exact c5 hA ho
 . exact c5 hA hk
theorem kc{A:Rows}{N w k o:Nat}(hA:cj N w A)(hk:k<N)(ho:o<N)(i c:Nat):g (bZ A k o) i c=g A (sw k o i) c:=by
 unfold g;rw[CK (by have:=hA.len;omega) (by have:=hA.len;omega)]
theorem ue{k o N i:Nat}(hk:k<N)(ho:o<N)(hi:i<N):sw k o i<N:=by unfold sw;split<;>(try split)<;>assumption
theorem GD(k o x:Nat):sw k o (sw k o x)=x:=by
 unfold sw;by_cases h1:x=k
 . subst h1;rw[if_pos rfl];by_cases h2:o=x
   . rw[if_pos h2];exact h2
   . rw[if_neg h2,if_pos rfl]
 . rw[if_neg h1];by_cases h2:x=o
   . subst h2;rw[if_pos rfl,if_pos rfl]
   . rw[if_neg h2,if_neg h1,if_neg h2]
theorem Pn{k o a b:Nat}:dl (sw k o a) (sw k o b)=dl a b:=by
 by_cases h:a=b
 . rw[h,fk,fk]
 . rw[fH h,fH fun z=>h (by rw[<-GD k o a,<-GD k o b,z])]
theorem Dw(k x:Nat):sw k k x=x:=by
 unfold sw;by_cases h:x=k
 . rw[if_pos h,h]
 . rw[if_neg h,if_neg h]
theorem QE{n i j:Nat}(hi:i<n)(hj:j<n)(f:Nat->Int):S n (fun k=>f (sw i j k))=S n f:=by
 by_cases h:i=j
 . subst h;exact aQ fun k _=>by rw[Dw]
 . exact Rp hi hj h f
theorem Tn.JV{A0 A U C:Rows}{N w k o:Nat}(T:Tn A0 A U C N w)(hk:k<N)(ho:o<N):Tn A0 (bZ A k o) (bZ U k o) (bZ C k o) N w where
 isA:=tN T.isA hk ho
 eB:=tN T.eB hk ho
 gp:=tN T.gp hk ho
 ua:=fun i c hi hc=>by
  rw[kc T.isA hk ho,T.ua _ c (ue hk ho hi) hc];exact aQ fun m _=>by rw[kc T.eB hk ho]
 ub:=fun i j hi hj=>by
  rw[<-Pn (k:=k) (o:=o),<-T.ub _ _ (ue hk ho hi) (ue hk ho hj)];exact aQ fun m _=>by rw[kc T.eB hk ho,kc T.gp hk ho]
 bu:=fun i j hi hj=>by
  rw[<-T.bu i j hi hj,<-QE hk ho fun m=>g C m i*g U m j];exact aQ fun m _=>by rw[kc T.eB hk ho,kc T.gp hk ho]
def ie(A:Rows)(k:Nat):Rows:=A.set k ((A.getD k []).map fun x=> -x)
theorem AO{A:Rows}{N w k:Nat}(hA:cj N w A)(hk:k<N):cj N w (ie A k):=by
 refine⟨by unfold ie;rw[List.length_set];exact hA.len,fun r hr=>?_⟩;unfold ie at hr;rcases List.mem_or_eq_of_mem_set hr with h|rfl
 . exact hA.fx r h
 . rw[List.length_map];exact c5 hA hk
theorem HA(r:Row)(c:Nat):(r.map fun x=> -x).getD c 0= -r.getD c 0:=by
 rw[List.getD_eq_getElem?_getD,List.getD_eq_getElem?_getD,List.getElem?_map];cases r[c]?<;>rfl
theorem mD{A:Rows}{N w k:Nat}(hA:cj N w A)(hk:k<N)(i c:Nat):g (ie A k) i c=if i=k then-g A k c else g A i c:=by
 unfold g ie;rw[mY (by have:=hA.len;omega)];by_cases h:i=k
 . rw[if_pos h,if_pos h,HA]
 . rw[if_neg h,if_neg h]
theorem Tn.neg{A0 A U C:Rows}{N w k:Nat}(T:Tn A0 A U C N w)(hk:k<N):Tn A0 (ie A k) (ie U k) (ie C k) N w where
 isA:=AO T.isA hk
 eB:=AO T.eB hk
 gp:=AO T.gp hk
 ua:=fun i c hi hc=>by
  rw[mD T.isA hk];by_cases h:i=k
  . rw[if_pos h,T.ua k c hk hc,<-AL];exact aQ fun m _=>by rw[mD T.eB hk,if_pos h,Int.neg_mul]
  . rw[if_neg h,T.ua i c hi hc];exact aQ fun m _=>by rw[mD T.eB hk,if_neg h]
 ub:=fun i j hi hj=>by
  have e:S N (fun m=>g (ie U k) i m*g (ie C k) j m)=S N fun m=>(if i=k then-1 else 1)*(if j=k then-1 else 1)*(g U i m*g C j m):=aQ fun m _=>by
   rw[mD T.eB hk,mD T.gp hk];by_cases h1:i=k<;>by_cases h2:j=k<;>simp only[h1,h2,if_true,if_false]<;>grind
  rw[e,fU,T.ub i j hi hj];by_cases h1:i=k
  . by_cases h2:j=k
    . simp[h1,h2]
    . rw[fH (by omega)];simp
  . by_cases h2:j=k
    . rw[fH (by omega)];simp
    . simp[h1,h2]
 bu:=fun i j hi hj=>by
  rw[<-T.bu i j hi hj]
  exact aQ fun m _=>by
   rw[mD T.eB hk,mD T.gp hk];by_cases h:m=k
   . subst h;rw[if_pos rfl,if_pos rfl];grind
   . rw[if_neg h,if_neg h]
structure jC(A:Rows)(N top p:Nat)(L:List Nat):Prop where
 mem:∀k,k∈L↔top<=k/\k<N/\g A k p≠0
 ord:L.Pairwise fun i j=>(g A i p).natAbs<=(g A j p).natAbs
 nd:L.Nodup
structure B3 where
 A:Rows
 U:Rows
 C:Rows
def qn(x y:Int):Int:=(2*x+y).fdiv (2*y)
def lY(b:B3)(p k j:Nat):B3:=⟨bT b.A k (qn (g b.A k p) (g b.A j p)) j,bT b.U k (qn (g b.A k p) (g b.A j p)) j,bT b.C j (-(qn (g b.A k p) (g b.A j p))) k⟩
def Kf(N top p:Nat)(b c:B3):Prop:=∃(L:List Nat) (k j:Nat),jC b.A N top p (L++[j,k])/\c=lY b p k j
inductive fC(N top p:Nat):B3->B3->Prop
 |refl (b:B3):fC N top p b b
 |head {b c d:B3} (h:Kf N top p b c) (t:fC N top p c d):fC N top p b d
theorem fC.tail{N top p:Nat}{b c d:B3}(h:fC N top p b c)(t:Kf N top p c d):fC N top p b d:=by
 induction h with
 |refl b=>exact .head t (.refl _)
 |head x _ ih=>exact .head x (ih t)
def gT(X:Rows)(N top m:Nat):Prop:=∀i c,top<=i->i<N->(g X i c).natAbs<=m
def PR(f:Nat->Nat):Nat->Nat
 |0=>1
 |n+1=>PR f n*f n
theorem GF{f:Nat->Nat}(h:∀i,1<=f i):∀n,1<=PR f n
 |0=>Nat.le_refl _
 |n+1=>Nat.mul_le_mul (GF h n) (h n)
theorem AW{f f':Nat->Nat}:∀ {n:Nat},(∀i,i<n->f i=f' i)->PR f n=PR f' n
 |0,_=>rfl
 |n+1,h=>by
  show PR f n*f n=PR f' n*f' n;rw[AW fun i hi=>h i (Nat.lt_succ_of_lt hi),h n (Nat.lt_succ_self n)]
theorem FR{f f':Nat->Nat}{k:Nat}:∀ {n:Nat},k<n->(∀i,i≠k->f i=f' i)->PR f n*f' k=PR f' n*f k
 |0,hk,_=>absurd hk (Nat.not_lt_zero _)
 |n+1,hk,h=>by
  show PR f n*f n*f' k=PR f' n*f' n*f k;by_cases e:k=n
  . subst e;rw[AW (n:=k) fun i hi=>h i (Nat.ne_of_lt hi),Nat.mul_assoc,Nat.mul_comm (f k),Nat.mul_assoc]
  . have:=FR (n:=n) (by omega) h;rw[h n (Ne.symm e),Nat.mul_right_comm,this,Nat.mul_right_comm]
theorem J9{f:Nat->Nat}{m top:Nat}(hm:1<=m):∀ {n:Nat},(∀i,i<n->i<top->f i<=1)->(∀i,i<n->f i<=m)->PR f n<=m^(n-top)
 |0,_,_=>by simp[PR]
 |n+1,h1,h2=>by
  have ih:=J9 hm (n:=n) (fun i hi=>h1 i (Nat.lt_succ_of_lt hi)) fun i hi=>h2 i (Nat.lt_succ_of_lt hi);show PR f n*f n<=_;by_cases ht:n<top
  . have z:n+1-top=n-top:=by omega
    rw[z];exact Nat.le_trans (Nat.mul_le_mul ih (h1 n (Nat.lt_succ_self n) ht)) (by rw[Nat.mul_one];exact Nat.le_refl _)
  . have z:n+1-top=(n-top)+1:=by omega
    rw[z,Nat.pow_succ];exact Nat.mul_le_mul ih (h2 n (Nat.lt_succ_self n))
def wt(A:Rows)(top p i:Nat):Nat:=if top<=i/\g A i p≠0 then 2*(g A i p).natAbs else 1
theorem Gr(A:Rows)(top p i:Nat):1<=wt A top p i:=by
 unfold wt;split<;>omega
theorem zh{x y:Int}(hy:y≠0):2*(x-qn x y*y).natAbs<=y.natAbs:=by
 unfold qn;have h1:=Int.mul_fdiv_add_fmod (2*x+y) (2*y);have h2:(2*x+y).fmod (2*y)=2*x+y-2*y*(2*x+y).fdiv (2*y):=by omega
 generalize(2*x+y).fdiv (2*y)=q at*;have e:2*(x-q*y)=(2*x+y).fmod (2*y)-y:=by rw[h2];grind
 rcases Int.lt_or_gt_of_ne hy with h|h
 . have a0:=Int.neg_fmod_neg (2*x+y) (2*y);have a1:=Int.fmod_nonneg_of_pos (-(2*x+y)) (show 0< -(2*y) by omega);have a2:=Int.fmod_lt_of_pos (-(2*x+y)) (show 0< -(2*y) by omega);omega
 . have a1:=Int.fmod_nonneg_of_pos (2*x+y) (show 0<2*y by omega);have a2:=Int.fmod_lt_of_pos (2*x+y) (show 0<2*y by omega);omega
theorem LV{x y:Int}(hy:y≠0)(hxy:y.natAbs<=x.natAbs):(1+(qn x y).natAbs)*(if x-qn x y*y≠0 then 2*(x-qn x y*y).natAbs else 1)<=2*x.natAbs:=by
 have h2:=zh (x:=x) hy;generalize qn x y=q at*;generalize hr:x-q*y=r at*;have hx:x=q*y+r:=by omega
 have hq:(q*y).natAbs=q.natAbs*y.natAbs:=Int.natAbs_mul ..;by_cases h0:r=0
 . rw[if_neg (fun z=>z h0),Nat.mul_one];subst h0;have hxa:x.natAbs=q.natAbs*y.natAbs:=by rw[<-hq,hx];simp
   have hy1:1<=y.natAbs:=by omega
   have hq1:1<=q.natAbs:=by
    rcases Nat.eq_zero_or_pos q.natAbs with z|z
    . rw[z,Nat.zero_mul]at hxa;omega
    . exact z
   have:q.natAbs<=q.natAbs*y.natAbs:=Nat.le_mul_of_pos_right _ hy1;omega
 . rw[if_pos h0];have hr1:1<=r.natAbs:=by omega
   have key:(1+q.natAbs)*r.natAbs<=x.natAbs:=by
    rcases Nat.lt_or_ge q.natAbs 2 with hlt|hge
    . rcases Nat.lt_or_ge q.natAbs 1 with h|h
      . have zq:q=0:=Int.natAbs_eq_zero.mp (Nat.le_zero.mp (Nat.le_of_lt_succ h));subst zq;simp at hx;subst hx;simp
      . have z:q.natAbs=1:=Nat.le_antisymm (Nat.le_of_lt_succ hlt) h;rw[z];exact Nat.le_trans h2 hxy
    . have h3:(q*y).natAbs<=x.natAbs+r.natAbs:=by omega
      rw[hq]at h3;have h4:q.natAbs*(2*r.natAbs)<=q.natAbs*y.natAbs:=Nat.mul_le_mul_left _ h2;have h5:2*r.natAbs<=q.natAbs*r.natAbs:=Nat.mul_le_mul_right _ hge;have h6:q.natAbs*(2*r.natAbs)=q.natAbs*r.natAbs+q.natAbs*r.natAbs:=by rw[Nat.mul_left_comm];omega
      rw[Nat.add_mul,Nat.one_mul];omega
   have:(1+q.natAbs)*(2*r.natAbs)=2*((1+q.natAbs)*r.natAbs):=by rw[Nat.mul_left_comm]
   omega
structure tS(A0:Rows)(N w top p m:Nat)(b0 b:B3)(gr:Nat):Prop where
 tn:Tn A0 b.A b.U b.C N w
 up:∀i,i<top->b.A.getD i []=b0.A.getD i []/\b.U.getD i []=b0.U.getD i []/\b.C.getD i []=b0.C.getD i []
 lA:gT b.A N top (m*gr)
 lU:gT b.U N top (m*gr)
 lC:gT b.C N top (m*gr)
 zs:∀i c,top<=i->i<N->c<p->g b.A i c=0
 QQ:gr*PR (wt b.A top p) N<=PR (wt b0.A top p) N
 pos:1<=gr
 Qw:b=b0\/∃j,top<=j/\j<N/\g b.A j p≠0
theorem wq{X:Rows}{N w top k j m gr:Nat}{q:Int}(hX:cj N w X)(hk:k<N)(hj:j<N)(hkt:top<=k)(hjt:top<=j)(h:gT X N top (m*gr)):gT (bT X k q j) N top (m*(gr*(1+q.natAbs))):=fun i c hi hN=>by
 rw[fz hX hk hj];have e:m*(gr*(1+q.natAbs))=m*gr+q.natAbs*(m*gr):=by rw[<-Nat.mul_assoc,Nat.mul_add,Nat.mul_one,Nat.mul_comm (m*gr) q.natAbs]
 rw[e];by_cases hik:i=k
 . rw[if_pos hik];have h1:=h k c hkt hk;have h2:=h j c hjt hj;have h3:(q*g X j c).natAbs<=q.natAbs*(m*gr):=by rw[Int.natAbs_mul];exact Nat.mul_le_mul_left _ h2
   exact Nat.le_trans (Int.natAbs_sub_le _ _) (Nat.add_le_add h1 h3)
 . rw[if_neg hik];exact Nat.le_trans (h i c hi hN) (Nat.le_add_right _ _)
theorem lD{X:Rows}{k j i:Nat}{q:Int}(hk:k<X.length)(h:i≠k):(bT X k q j).getD i []=X.getD i []:=by
 unfold bT;rw[mY hk,if_neg h]
theorem half_lt{r y x:Nat}(h:2*r<=y)(h2:y<=x)(h3:0<x):r<x:=by omega
theorem tS.step{A0:Rows}{N w top p m gr:Nat}{b0 b:B3}{L:List Nat}{k j:Nat}(G:tS A0 N w top p m b0 b gr)(hp:p<w)(hL:jC b.A N top p (L++[j,k])):
 tS A0 N w top p m b0 (lY b p k j) (gr*(1+(qn (g b.A k p) (g b.A j p)).natAbs))/\(g (lY b p k j).A k p).natAbs<(g b.A k p).natAbs/\(∀i,i≠k->g (lY b p k j).A i p=g b.A i p)/\top<=k/\k<N/\top<=j/\j<N/\j≠k/\g b.A j p≠0:=by
 obtain⟨hk1,hk2,hk3⟩:=(hL.mem k).mp (by simp);obtain⟨hj1,hj2,hj3⟩:=(hL.mem j).mp (by simp);have hord:=hL.ord;rw[List.pairwise_append]at hord;have hle:=(List.pairwise_cons.mp hord.2.1).1 k (by simp);have hnd:=hL.nd;rw[List.nodup_append]at hnd;have hjk:j≠k:=fun z=>(List.nodup_cons.mp hnd.2.1).1 (by rw[z];exact List.mem_singleton.mpr rfl)
 have gk:g (lY b p k j).A k p=g b.A k p-qn (g b.A k p) (g b.A j p)*g b.A j p:=by
  show g (bT b.A k _ j) k p=_;rw[fz G.tn.isA hk2 hj2,if_pos rfl]
 have gi:∀i,i≠k->g (lY b p k j).A i p=g b.A i p:=fun i hi=>by
  show g (bT b.A k _ j) i p=_;rw[fz G.tn.isA hk2 hj2,if_neg hi]
 have hrest:=zh (x:=g b.A k p) hj3;have hgrow:=LV (x:=g b.A k p) hj3 hle;refine⟨⟨G.tn.take hk2 hj2 hjk,fun i hi=>?_,wq G.tn.isA hk2 hj2 hk1 hj1 G.lA,wq G.tn.eB hk2 hj2 hk1 hj1 G.lU,?_,fun i c hi hN hc=>?_,?_,?_,.inr ⟨j,hj1,hj2,by rw[gi j hjk];exact hj3⟩⟩,?_,gi,hk1,hk2,hj1,hj2,hjk,hj3⟩
 . obtain⟨a1,a2,a3⟩:=G.up i hi;refine⟨(lD (by rw[G.tn.isA.len];exact hk2) (by omega)).trans a1,(lD (by rw[G.tn.eB.len];exact hk2) (by omega)).trans a2,(lD (by rw[G.tn.gp.len];exact hj2) (by omega)).trans a3⟩
 . have:=wq (q:= -(qn (g b.A k p) (g b.A j p))) G.tn.gp hj2 hk2 hj1 hk1 G.lC;rw[Int.natAbs_neg]at this;exact this
 . show g (bT b.A k _ j) i c=0;rw[fz G.tn.isA hk2 hj2];by_cases h:i=k
   . rw[if_pos h,G.zs k c hk1 hk2 hc,G.zs j c hj1 hj2 hc,Int.mul_zero];rfl
   . rw[if_neg h];exact G.zs i c hi hN hc
 . have e:=FR (f:=wt (lY b p k j).A top p) (f':=wt b.A top p) (k:=k) hk2 fun i hi=>by unfold wt;rw[gi i hi]
   have w1:wt b.A top p k=2*(g b.A k p).natAbs:=by unfold wt;rw[if_pos ⟨hk1,hk3⟩]
   have w2:(1+(qn (g b.A k p) (g b.A j p)).natAbs)*wt (lY b p k j).A top p k<=wt b.A top p k:=by
    rw[w1];unfold wt;rw[gk];by_cases h0:g b.A k p-qn (g b.A k p) (g b.A j p)*g b.A j p=0
    . rw[if_neg (fun z=>z.2 h0)];rw[if_neg (fun z=>z h0)]at hgrow;exact hgrow
    . rw[if_pos ⟨hk1,h0⟩];rw[if_pos h0]at hgrow;exact hgrow
   have hw:0<wt b.A top p k:=Gr _ _ _ _;refine Nat.le_of_mul_le_mul_right (c:=wt b.A top p k) ?_ hw
   have s1:gr*(1+(qn (g b.A k p) (g b.A j p)).natAbs)*PR (wt (lY b p k j).A top p) N*wt b.A top p k=gr*PR (wt b.A top p) N*((1+(qn (g b.A k p) (g b.A j p)).natAbs)*wt (lY b p k j).A top p k):=by
    rw[Nat.mul_assoc _ (PR _ N),e];simp only[Nat.mul_assoc,Nat.mul_left_comm]
   rw[s1];exact Nat.mul_le_mul G.QQ w2
 . exact Nat.mul_pos G.pos (by omega)
 . rw[gk];exact half_lt hrest hle (Int.natAbs_pos.mpr hk3)
theorem tS.low{A0:Rows}{N w top p e gr:Nat}{b0 b:B3}(G:tS A0 N w top p (2^e) b0 b gr)(h0:gT b0.A N top (2^e)):2^e*gr<=2^((N-top+1)*(e+1)):=by
 have h1:gr<=PR (wt b0.A top p) N:=Nat.le_trans (Nat.le_mul_of_pos_right _ (GF (Gr _ _ _) N)) G.QQ
 have h2:PR (wt b0.A top p) N<=(2^(e+1))^(N-top):=J9 Nat.one_le_two_pow (fun i _ ht=>by unfold wt;rw[if_neg (by omega)];exact Nat.le_refl _) fun i hi=>by
  unfold wt;split
  . rename_i h;have:=h0 i p h.1 hi;rw[Nat.pow_succ];omega
  . exact Nat.one_le_two_pow
 refine Nat.le_trans (Nat.mul_le_mul_left _ (Nat.le_trans h1 h2)) ?_;rw[<-Nat.pow_mul,<-Nat.pow_add];refine Nat.pow_le_pow_right (by decide) ?_;have e1:(N-top+1)*(e+1)=(e+1)*(N-top)+(e+1):=by rw[Nat.add_mul,Nat.one_mul,Nat.mul_comm]
 rw[e1];omega
structure gg(A0:Rows)(N w:Nat)(b:B3)(top p:Nat)(ld:Nat->Nat)(e u:Nat):Prop where
 tn:Tn A0 b.A b.U b.C N w
 le:top<=N
 lo:gT b.A N top (2^e)/\gT b.U N top (2^e)/\gT b.C N top (2^e)
 hi:∀i c,i<top->(g b.A i c).natAbs<=2^u/\(g b.U i c).natAbs<=2^u/\(g b.C i c).natAbs<=2^u
 zs:∀i c,top<=i->i<N->c<p->g b.A i c=0
 lead:∀i,i<top->ld i<p/\0<g b.A i (ld i)/\∀c,c<ld i->g b.A i c=0
 mono:∀i j,i<j->j<top->ld i<ld j
 red:∀i j,i<j->j<top->0<=g b.A i (ld j)/\g b.A i (ld j)<g b.A j (ld j)
theorem gg.DP{A0:Rows}{N w top p e u:Nat}{b:B3}{ld:Nat->Nat}(S:gg A0 N w b top p ld e u):tS A0 N w top p (2^e) b b 1:=
 ⟨S.tn,fun _ _=>⟨rfl,rfl,rfl⟩,by rw[Nat.mul_one];exact S.lo.1,by rw[Nat.mul_one];exact S.lo.2.1,by rw[Nat.mul_one];exact S.lo.2.2,S.zs,by rw[Nat.one_mul];exact Nat.le_refl _,Nat.le_refl _,.inl rfl⟩
theorem gg.skip{A0:Rows}{N w top p e u:Nat}{b:B3}{ld:Nat->Nat}(S:gg A0 N w b top p ld e u)(h:jC b.A N top p []):gg A0 N w b top (p+1) ld e u:=
 ⟨S.tn,S.le,S.lo,S.hi,fun i c h1 h2 h3=>by
  by_cases hc:c=p
  . subst hc;exact Classical.byContradiction fun z=>absurd ((h.mem i).mpr ⟨h1,h2,z⟩) (by simp)
  . exact S.zs i c h1 h2 (by omega),fun i hi=>⟨Nat.lt_succ_of_lt (S.lead i hi).1,(S.lead i hi).2⟩,S.mono,S.red⟩
def setB(b:B3)(p top r:Nat):B3:=
 if g (bZ b.A top r) top p<0 then⟨ie (bZ b.A top r) top,ie (bZ b.U top r) top,ie (bZ b.C top r) top⟩else⟨bZ b.A top r,bZ b.U top r,bZ b.C top r⟩
theorem wX{X:Rows}{N w top r m:Nat}(hX:cj N w X)(ht:top<N)(hr:r<N)(hrt:top<=r)(h:gT X N top m):gT (bZ X top r) N top m:=fun i c hi hN=>by
 rw[kc hX ht hr];refine h _ c ?_ (ue ht hr hN);unfold sw;split
 . exact hrt
 . split
   . exact Nat.le_refl _
   . exact hi
theorem AY{X:Rows}{N w top m:Nat}(hX:cj N w X)(ht:top<N)(h:gT X N top m):gT (ie X top) N top m:=fun i c hi hN=>by
 rw[mD hX ht];split
 . rw[Int.natAbs_neg];exact h top c (Nat.le_refl _) ht
 . exact h i c hi hN
theorem xf{X:Rows}{N w top r i:Nat}(hX:cj N w X)(ht:top<N)(hr:r<N)(hrt:top<=r)(hi:i<top):(bZ X top r).getD i []=X.getD i []:=by
 rw[CK (by have:=hX.len;omega) (by have:=hX.len;omega)];unfold sw;rw[if_neg (by omega),if_neg (by omega)]
theorem CH{X:Rows}{N w top i:Nat}(hX:cj N w X)(ht:top<N)(hi:i<top):(ie X top).getD i []=X.getD i []:=by
 unfold ie;rw[mY (by have:=hX.len;omega),if_neg (by omega)]
structure qT(A0:Rows)(N w top p m:Nat)(b0 b:B3):Prop where
 tn:Tn A0 b.A b.U b.C N w
 up:∀i,i<top->b.A.getD i []=b0.A.getD i []/\b.U.getD i []=b0.U.getD i []/\b.C.getD i []=b0.C.getD i []
 lo:gT b.A N top m/\gT b.U N top m/\gT b.C N top m
 zs:∀i c,top<=i->i<N->c<p->g b.A i c=0
 tp:0<g b.A top p
 z1:∀i,top<i->i<N->g b.A i p=0
theorem tS.set{A0:Rows}{N w top p m gr r:Nat}{b0 b:B3}(G:tS A0 N w top p m b0 b gr)(hL:jC b.A N top p [r]):qT A0 N w top p (m*gr) b0 (setB b p top r)/\top<=r/\r<N:=by
 obtain⟨hr1,hr2,hr3⟩:=(hL.mem r).mp (by simp);have ht:top<N:=by omega
 have z:∀i,top<=i->i<N->i≠r->g b.A i p=0:=fun i h1 h2 h3=>Classical.byContradiction fun y=>h3 (by simpa using(hL.mem i).mpr ⟨h1,h2,y⟩);have swg:∀i c,g (bZ b.A top r) i c=g b.A (sw top r i) c:=fun i c=>kc G.tn.isA ht hr2 i c;have gt:g (bZ b.A top r) top p=g b.A r p:=by rw[swg];unfold sw;rw[if_pos rfl]
 have T1:=G.tn.JV ht hr2
 have z1:∀i,top<i->i<N->g (bZ b.A top r) i p=0:=fun i h1 h2=>by
  rw[swg];unfold sw;rw[if_neg (by omega)];by_cases h:i=r
  . rw[if_pos h];exact z top (Nat.le_refl _) ht (by omega)
  . rw[if_neg h];exact z i (by omega) h2 h
 have zs:∀i c,top<=i->i<N->c<p->g (bZ b.A top r) i c=0:=fun i c h1 h2 h3=>by
  rw[swg];refine G.zs _ c ?_ (ue ht hr2 h2) h3;unfold sw;split
  . exact hr1
  . split
    . exact Nat.le_refl _
    . exact h1
 have up:∀i,i<top->(bZ b.A top r).getD i []=b0.A.getD i []/\(bZ b.U top r).getD i []=b0.U.getD i []/\(bZ b.C top r).getD i []=b0.C.getD i []:=fun i hi=>by
  obtain⟨a1,a2,a3⟩:=G.up i hi;exact⟨(xf G.tn.isA ht hr2 hr1 hi).trans a1,(xf G.tn.eB ht hr2 hr1 hi).trans a2,(xf G.tn.gp ht hr2 hr1 hi).trans a3⟩
 have lo:=And.intro (wX G.tn.isA ht hr2 hr1 G.lA) (And.intro (wX G.tn.eB ht hr2 hr1 G.lU) (wX G.tn.gp ht hr2 hr1 G.lC));refine⟨?_,hr1,hr2⟩;unfold setB;by_cases hs:g (bZ b.A top r) top p<0
 . rw[if_pos hs];refine⟨T1.neg ht,fun i hi=>?_,⟨AY T1.isA ht lo.1,AY T1.eB ht lo.2.1,AY T1.gp ht lo.2.2⟩,fun i c h1 h2 h3=>?_,?_,fun i h1 h2=>?_⟩
   . obtain⟨a1,a2,a3⟩:=up i hi;exact⟨(CH T1.isA ht hi).trans a1,(CH T1.eB ht hi).trans a2,(CH T1.gp ht hi).trans a3⟩
   . show g (ie (bZ b.A top r) top) i c=0;rw[mD T1.isA ht];split
     . rw[zs top c (Nat.le_refl _) ht h3];rfl
     . exact zs i c h1 h2 h3
   . show 0<g (ie (bZ b.A top r) top) top p;rw[mD T1.isA ht,if_pos rfl];omega
   . show g (ie (bZ b.A top r) top) i p=0;rw[mD T1.isA ht,if_neg (by omega)];exact z1 i h1 h2
 . rw[if_neg hs];exact⟨T1,up,lo,zs,by show 0<g (bZ b.A top r) top p;rw[gt]at hs⊢;omega,z1⟩
def jf(p top:Nat):Nat->B3->B3
 |0,b=>b
 |k+1,b=>
  let c:=jf p top k b
  ⟨bT c.A k ((g c.A k p).fdiv (g c.A top p)) top,bT c.U k ((g c.A k p).fdiv (g c.A top p)) top,bT c.C top (-((g c.A k p).fdiv (g c.A top p))) k⟩
structure qQ(A0:Rows)(N w top p e u:Nat)(b:B3)(k:Nat)(c:B3):Prop where
 tn:Tn A0 c.A c.U c.C N w
 rA:∀i,k<=i->c.A.getD i []=b.A.getD i []/\c.U.getD i []=b.U.getD i []
 rC:∀i,i≠top->c.C.getD i []=b.C.getD i []
 ah:∀i q,i<k->q<p->g c.A i q=g b.A i q
 rd:∀i,i<k->0<=g c.A i p/\g c.A i p<g c.A top p
 sz:∀i q,i<k->(g c.A i q).natAbs<=2^(u+e+1)/\(g c.U i q).natAbs<=2^(u+e+1)
 sC:∀q,(g c.C top q).natAbs<=2^e+k*2^(u+u)
theorem pZ(a:Int){b:Int}(hb:0<b):(a.fdiv b).natAbs<=a.natAbs:=by
 rw[Int.fdiv_eq_ediv_of_nonneg _ (Int.le_of_lt hb)];exact Int.natAbs_ediv_le_natAbs a b
theorem CT{a b c:Nat}(h1:a<=2^c)(h2:b<=2^c):a+b<=2^(c+1):=by rw[Nat.pow_succ];omega
theorem yU{x y:Int}{a b:Nat}(hx:x.natAbs<=a)(hy:y.natAbs<=b):(x-y).natAbs<=a+b:=Nat.le_trans (Int.natAbs_sub_le x y) (Nat.add_le_add hx hy)
theorem qQ.step{A0:Rows}{N w top p e u k:Nat}{b c:B3}(I:qQ A0 N w top p e u b k c)(hk:k<top)(ht:top<N)(hp:p<w)(htp:0<g b.A top p)(hz:∀q,q<p->g b.A top q=0)
 (hlo:∀q,(g b.A top q).natAbs<=2^e/\(g b.U top q).natAbs<=2^e) (hhi:∀i q,i<top->(g b.A i q).natAbs<=2^u/\(g b.U i q).natAbs<=2^u/\(g b.C i q).natAbs<=2^u):
 qQ A0 N w top p e u b (k+1) ⟨bT c.A k ((g c.A k p).fdiv (g c.A top p)) top,bT c.U k ((g c.A k p).fdiv (g c.A top p)) top,bT c.C top (-((g c.A k p).fdiv (g c.A top p))) k⟩:=by
 have hkN:k<N:=by omega
 have gA:∀i q,k<=i->g c.A i q=g b.A i q:=fun i q hi=>by unfold g;rw[(I.rA i hi).1]
 have gU:∀i q,k<=i->g c.U i q=g b.U i q:=fun i q hi=>by unfold g;rw[(I.rA i hi).2]
 have gC:∀i q,i≠top->g c.C i q=g b.C i q:=fun i q hi=>by unfold g;rw[I.rC i hi]
 have qe:((g c.A k p).fdiv (g c.A top p)).natAbs<=2^u:=by
  rw[gA k p (Nat.le_refl _),gA top p (by omega)];exact Nat.le_trans (pZ _ htp) (hhi k p hk).1
 have hq:∀x:Int,x.natAbs<=2^e->((g c.A k p).fdiv (g c.A top p)*x).natAbs<=2^(u+e):=fun x hx=>by
  rw[Int.natAbs_mul,Nat.pow_add];exact Nat.mul_le_mul qe hx
 have le1:2^u<=2^(u+e):=Nat.pow_le_pow_right (by decide) (by omega);refine⟨I.tn.take hkN ht (by omega),fun i hi=>?_,fun i hi=>?_,fun i q hi hqp=>?_,fun i hi=>?_,fun i q hi=>?_,fun q=>?_⟩
 . exact⟨(lD (by rw[I.tn.isA.len];exact hkN) (by omega)).trans (I.rA i (by omega)).1,(lD (by rw[I.tn.eB.len];exact hkN) (by omega)).trans (I.rA i (by omega)).2⟩
 . exact(lD (by rw[I.tn.gp.len];exact ht) hi).trans (I.rC i hi)
 . show g (bT c.A k _ top) i q=_;rw[fz I.tn.isA hkN ht];split
   . rename_i h;rw[gA top q (by omega),hz q hqp,Int.mul_zero,gA k q (Nat.le_refl _),h];omega
   . exact I.ah i q (by omega) hqp
 . show 0<=g (bT c.A k _ top) i p/\g (bT c.A k _ top) i p<g (bT c.A k _ top) top p;rw[fz I.tn.isA hkN ht,fz I.tn.isA hkN ht,if_neg (show¬top=k by omega)];split
   . have h1:=Int.mul_fdiv_add_fmod (g c.A k p) (g c.A top p);have htp':0<g c.A top p:=by rw[gA top p (by omega)];exact htp
     have h2:=Int.fmod_nonneg_of_pos (g c.A k p) htp';have h3:=Int.fmod_lt_of_pos (g c.A k p) htp';rw[Int.mul_comm]at h1;omega
   . exact I.rd i (by omega)
 . show(g (bT c.A k _ top) i q).natAbs<=_/\(g (bT c.U k _ top) i q).natAbs<=_;rw[fz I.tn.isA hkN ht,fz I.tn.eB hkN ht];split
   . have a1:=hq (g c.A top q) (by rw[gA top q (by omega)];exact(hlo q).1);have a2:=hq (g c.U top q) (by rw[gU top q (by omega)];exact(hlo q).2);rw[gA k q (Nat.le_refl _),gU k q (Nat.le_refl _)];rw[Nat.pow_succ,Nat.mul_two];exact⟨yU (Nat.le_trans (hhi k q hk).1 le1) a1,yU (Nat.le_trans (hhi k q hk).2.1 le1) a2⟩
   . exact I.sz i q (by omega)
 . show(g (bT c.C top _ k) top q).natAbs<=_;rw[fz I.tn.gp ht hkN,if_pos rfl,gC k q (by omega),Int.neg_mul];have a1:=I.sC q
   have a2:((g c.A k p).fdiv (g c.A top p)*g b.C k q).natAbs<=2^(u+u):=by
    rw[Int.natAbs_mul,Nat.pow_add];exact Nat.mul_le_mul qe (hhi k q hk).2.2
   rw[Nat.add_mul,Nat.one_mul,<-Nat.add_assoc];exact yU a1 (by rw[Int.natAbs_neg];exact a2)
theorem qQ.start{A0:Rows}{N w top p e u:Nat}{b:B3}(T:Tn A0 b.A b.U b.C N w)(h:∀q,(g b.C top q).natAbs<=2^e):qQ A0 N w top p e u b 0 b:=
 ⟨T,fun _ _=>⟨rfl,rfl⟩,fun _ _=>rfl,fun _ _ h=>absurd h (Nat.not_lt_zero _),fun _ h=>absurd h (Nat.not_lt_zero _),fun _ _ h=>absurd h (Nat.not_lt_zero _),fun q=>by rw[Nat.zero_mul];exact h q⟩
theorem qT.next{A0:Rows}{N w top p e u e' u':Nat}{b0 b c:B3}{ld:Nat->Nat}(S:gg A0 N w b0 top p ld e u)(s:qT A0 N w top p (2^e') b0 b)(ht:top<N)(I:qQ A0 N w top p e' u b top c)(hN:N<=8)
 (h1:u+e'+1<=u') (h2:u+u+4<=u'):gg A0 N w c (top+1) (p+1) (fun i=>if i=top then p else ld i) e' u':=by
 have hup:∀i q,i<top->g b.A i q=g b0.A i q:=fun i q hi=>by unfold g;rw[(s.up i hi).1]
 have hA:∀i q,top<=i->g c.A i q=g b.A i q:=fun i q hi=>by unfold g;rw[(I.rA i hi).1]
 have hU:∀i q,top<=i->g c.U i q=g b.U i q:=fun i q hi=>by unfold g;rw[(I.rA i hi).2]
 have hC:∀i q,i≠top->g c.C i q=g b.C i q:=fun i q hi=>by unfold g;rw[I.rC i hi]
 have le:∀ {a x:Nat},a<=2^x->x<=u'->a<=2^u':=fun h hx=>Nat.le_trans h (Nat.pow_le_pow_right (by decide) hx);refine⟨I.tn,ht,⟨fun i q hi hN=>?_,fun i q hi hN=>?_,fun i q hi hN=>?_⟩,fun i q hi=>?_,fun i q hi hN hq=>?_,fun i hi=>?_,fun i j hij hj=>?_,fun i j hij hj=>?_⟩
 . rw[hA i q (by omega)];exact s.lo.1 i q (by omega) hN
 . rw[hU i q (by omega)];exact s.lo.2.1 i q (by omega) hN
 . rw[hC i q (by omega)];exact s.lo.2.2 i q (by omega) hN
 . by_cases h:i=top
   . subst h;refine⟨?_,?_,?_⟩
     . rw[hA i q (Nat.le_refl _)];exact le (s.lo.1 i q (Nat.le_refl _) ht) (by omega)
     . rw[hU i q (Nat.le_refl _)];exact le (s.lo.2.1 i q (Nat.le_refl _) ht) (by omega)
     . have h3:=I.sC q;have h4:i*2^(u+u)<=2^(u+u+3):=by rw[Nat.pow_add _ _ 3,Nat.mul_comm];exact Nat.mul_le_mul_left _ (by omega)
       have h5:2^(u+u+3)*2<=2^u':=by rw[<-Nat.pow_succ];exact Nat.pow_le_pow_right (by decide) h2
       have h6:2^e'*2<=2^u':=by rw[<-Nat.pow_succ];exact Nat.pow_le_pow_right (by decide) (by omega)
       omega
   . have hi':i<top:=by omega
     refine⟨le (I.sz i q hi').1 h1,le (I.sz i q hi').2 h1,?_⟩;rw[hC i q h];have:g b.C i q=g b0.C i q:=by unfold g;rw[(s.up i hi').2.2]
     rw[this];exact le (S.hi i q hi').2.2 (by omega)
 . rw[hA i q (by omega)];by_cases h:q=p
   . rw[h];exact s.z1 i (by omega) hN
   . exact s.zs i q (by omega) hN (by omega)
 . by_cases h:i=top
   . subst h;rw[if_pos rfl];refine⟨Nat.lt_succ_self p,?_,fun q hq=>?_⟩
     . rw[hA i p (Nat.le_refl _)];exact s.tp
     . rw[hA i q (Nat.le_refl _)];exact s.zs i q (Nat.le_refl _) ht hq
   . have hi':i<top:=by omega
     rw[if_neg h];obtain⟨a1,a2,a3⟩:=S.lead i hi';refine⟨Nat.lt_succ_of_lt a1,?_,fun q hq=>?_⟩
     . rw[I.ah i _ hi' a1,hup i _ hi'];exact a2
     . rw[I.ah i _ hi' (Nat.lt_trans hq a1),hup i _ hi'];exact a3 q hq
 . by_cases h:j=top
   . rw[if_pos h,if_neg (by omega)];exact(S.lead i (by omega)).1
   . rw[if_neg h,if_neg (by omega)];exact S.mono i j hij (by omega)
 . by_cases h:j=top
   . subst h;rw[if_pos rfl];exact I.rd i hij
   . have hj':j<top:=by omega
     rw[if_neg h];have:=S.red i j hij hj';have hl:=(S.lead j hj').1;rw[I.ah i _ (by omega) hl,I.ah j _ hj' hl,hup i _ (by omega),hup j _ hj'];exact this
theorem Tn.start{A:Rows}{N w:Nat}(hA:cj N w A):Tn A A (units N) (units N) N w where
 isA:=hA
 eB:=jE N
 gp:=jE N
 ua:=fun i c hi hc=>by
  rw[<-p7 hi fun k=>g A k c];exact aQ fun m hm=>by rw[jM hi hm]
 ub:=fun i j hi hj=>by
  rw[yG i j,<-p7 hi fun k=>dl j k]
  . exact aQ fun m hm=>by rw[jM hi hm,jM hj hm]
 bu:=fun i j hi hj=>by
  rw[<-uB hi fun k=>dl k j];exact aQ fun m hm=>by rw[jM hm hi,jM hm hj,Int.mul_comm]
theorem gg.start{A:Rows}{N w e:Nat}(hA:cj N w A)(h:gT A N 0 (2^e)):gg A N w ⟨A,units N,units N⟩ 0 0 (fun _=>0) e 0:=by
 have hu:gT (units N) N 0 (2^e):=fun i c _ hi=>by
  by_cases hc:c<N
  . rw[jM hi hc];unfold dl;split
    . exact Nat.one_le_two_pow
    . exact Nat.zero_le _
  . unfold g;rw[jX (l:=(units N).getD i []) (by rw[c5 (jE N) hi];omega)];exact Nat.zero_le _
 exact⟨Tn.start hA,Nat.zero_le _,⟨h,hu,hu⟩,fun _ _ h=>absurd h (Nat.not_lt_zero _),fun _ _ _ _ h=>absurd h (Nat.not_lt_zero _),fun _ h=>absurd h (Nat.not_lt_zero _),fun _ _ _ h=>absurd h (Nat.not_lt_zero _),fun _ _ _ h=>absurd h (Nat.not_lt_zero _)⟩
def SU(f:Nat->Nat):Nat->Nat
 |0=>0
 |n+1=>SU f n+f n
theorem J3{f f':Nat->Nat}:∀ {n:Nat},(∀i,i<n->f' i<=f i)->SU f' n<=SU f n
 |0,_=>Nat.le_refl _
 |n+1,h=>Nat.add_le_add (J3 fun i hi=>h i (Nat.lt_succ_of_lt hi)) (h n (Nat.lt_succ_self n))
theorem J5{f f':Nat->Nat}{k:Nat}(hlt:f' k<f k):∀ {n:Nat},k<n->(∀i,i<n->f' i<=f i)->SU f' n<SU f n
 |0,hk,_=>absurd hk (Nat.not_lt_zero _)
 |n+1,hk,h=>by
  by_cases e:k=n
  . subst e;exact Nat.add_lt_add_of_le_of_lt (J3 fun i hi=>h i (Nat.lt_succ_of_lt hi)) hlt
  . exact Nat.add_lt_add_of_lt_of_le (J5 hlt (by omega) fun i hi=>h i (Nat.lt_succ_of_lt hi)) (h n (Nat.lt_succ_self n))
def mu(A:Rows)(N p:Nat):Nat:=SU (fun i=>(g A i p).natAbs) N
inductive NP(N p:Nat):Nat->B3->Nat->B3->Prop
 |none {top:Nat} {b:B3} (h:jC b.A N top p []):NP N p top b top b
 |one {top r:Nat} {b c:B3} (h:fC N top p b c) (l:jC c.A N top p [r]):NP N p top b (top+1) (jf p top top (setB c p top r))
inductive ib(A:Rows)(N:Nat):Nat->Nat->B3->Prop
 |start:ib A N 0 0 ⟨A,units N,units N⟩
 |next {p t t':Nat} {b b':B3} (h:ib A N p t b) (c:NP N p t b t' b'):ib A N (p+1) t' b'
def Ez(N e0:Nat):Nat->Nat
 |0=>e0
 |t+1=>(N-t+1)*(Ez N e0 t+1)
def Vz(N e0:Nat):Nat->Nat
 |0=>0
 |t+1=>Vz N e0 t+Vz N e0 t+Ez N e0 (t+1)+5
theorem Ig:∀N,N<9->∀t,t<N+1->Ez N 48 t<=50000000/\Vz N 48 t<=60000000:=by decide+kernel
def cE(X:Rows)(n w:Nat)(v:Nat->Int):Prop:=∃z:Nat->Int,∀c,c<w->v c=S n fun k=>z k*g X k c
theorem cE.row{X:Rows}{n w k:Nat}(hk:k<n):cE X n w (g X k):=⟨fun i=>dl k i,fun c _=>(p7 hk fun i=>g X i c).symm⟩
theorem cE.sub{X:Rows}{n w:Nat}{u v:Nat->Int}(hu:cE X n w u)(hv:cE X n w v):cE X n w fun c=>u c-v c:=by
 obtain⟨y,hy⟩:=hu;obtain⟨z,hz⟩:=hv;refine⟨fun k=>y k-z k,fun c hc=>?_⟩;show u c-v c=S n fun k=>(y k-z k)*g X k c;rw[hy c hc,hz c hc,Int.sub_eq_add_neg,<-AL,<-ke];exact aQ fun k _=>by rw[Int.sub_mul,Int.sub_eq_add_neg]
theorem cE.trans{X Y:Rows}{m n w:Nat}{v:Nat->Int}(h:∀k,k<m->cE Y n w (g X k))(hv:cE X m w v):cE Y n w v:=by
 obtain⟨z,hz⟩:=hv
 have h':∀k,∃y:Nat->Int,k<m->∀c,c<w->g X k c=S n fun i=>y i*g Y i c:=fun k=>by
  by_cases hk:k<m
  . obtain⟨y,hy⟩:=h k hk;exact⟨y,fun _=>hy⟩
  . exact⟨fun _=>0,fun h=>absurd h hk⟩
 refine⟨fun i=>S m fun k=>z k*Classical.choose (h' k) i,fun c hc=>?_⟩;rw[hz c hc]
 have e1:S m (fun k=>z k*g X k c)=S m fun k=>S n fun i=>z k*Classical.choose (h' k) i*g Y i c:=aQ fun k hk=>by
  rw[Classical.choose_spec (h' k) hk c hc,<-fU];exact aQ fun i _=>(Int.mul_assoc _ _ _).symm
 rw[e1,uY];exact aQ fun i _=>xC _ _ _
structure cq(X:Rows)(n w:Nat)(ld:Nat->Nat):Prop where
 lead:∀i,i<n->ld i<w/\0<g X i (ld i)/\∀c,c<ld i->g X i c=0
 mono:∀i j,i<j->j<n->ld i<ld j
theorem cq.inj{X:Rows}{n w:Nat}{ld:Nat->Nat}(s:cq X n w ld){i j:Nat}(hi:i<n)(hj:j<n)(h:ld i=ld j):i=j:=by
 rcases Nat.lt_trichotomy i j with q|q|q
 . exact absurd h (Nat.ne_of_lt (s.mono i j q hj))
 . exact q
 . exact absurd h.symm (Nat.ne_of_lt (s.mono j i q hi))
theorem cq.lt{X:Rows}{n w:Nat}{ld:Nat->Nat}(s:cq X n w ld){i j:Nat}(hi:i<n)(hj:j<n)(h:ld i<ld j):i<j:=by
 rcases Nat.lt_trichotomy i j with q|q|q
 . exact q
 . rw[q]at h;exact absurd h (Nat.lt_irrefl _)
 . exact absurd (Nat.lt_trans h (s.mono j i q hi)) (Nat.lt_irrefl _)
theorem cq.gone{X:Rows}{n w q:Nat}{ld:Nat->Nat}{v z:Nat->Int}(s:cq X n w ld)(hz:∀c,c<w->v c=S n fun k=>z k*g X k c)(h0:∀c,c<q->v c=0)(k:Nat):k<n->ld k<q->z k=0:=by
 induction k using Nat.strongRecOn with
 |ind k ih=>
  intro hk hq;obtain⟨h1,h2,h3⟩:=s.lead k hk;have e:=hz (ld k) h1;rw[h0 _ hq,oG hk fun i hi ne=>?_]at e
  . exact(Int.mul_eq_zero.mp e.symm).resolve_right (Int.ne_of_gt h2)
  . rcases Nat.lt_or_gt_of_ne ne with l|l
    . rw[ih i l hi (Nat.lt_trans (s.mono i k l hk) hq),Int.zero_mul]
    . rw[(s.lead i hi).2.2 _ (s.mono k i l hi),Int.mul_zero]
theorem cq.at{X:Rows}{n w q:Nat}{ld:Nat->Nat}{v:Nat->Int}(s:cq X n w ld)(hv:cE X n w v)(hq:q<w)(h0:∀c,c<q->v c=0):(∃i,i<n/\ld i=q/\g X i q∣v q)\/v q=0:=by
 obtain⟨z,hz⟩:=hv
 have go:∀k,k<n->ld k≠q->z k*g X k q=0:=fun k hk ne=>by
  rcases Nat.lt_or_gt_of_ne ne with l|l
  . rw[s.gone hz h0 k hk l,Int.zero_mul]
  . rw[(s.lead k hk).2.2 _ l,Int.mul_zero]
 by_cases h:∃i,i<n/\ld i=q
 . obtain⟨i,hi,e⟩:=h;refine .inl ⟨i,hi,e,z i,?_⟩;rw[hz q hq,oG hi fun k hk ne=>go k hk fun z=>ne (s.inj hk hi (z.trans e.symm)),Int.mul_comm]
 . refine .inr ?_;rw[hz q hq];exact pH fun k hk=>go k hk fun e=>h ⟨k,hk,e⟩
theorem cq.sees{X Y:Rows}{n m w:Nat}{ld ld':Nat->Nat}(sX:cq X n w ld)(sY:cq Y m w ld')(h:∀k,k<n->cE Y m w (g X k))(i:Nat)(hi:i<n):∃j,j<m/\ld' j=ld i/\g Y j (ld i)∣g X i (ld i):=by
 obtain⟨h1,h2,h3⟩:=sX.lead i hi;rcases sY.at (h i hi) h1 h3 with q|q
 . exact q
 . rw[q]at h2;exact absurd h2 (by decide)
theorem cq.same{X Y:Rows}{n m w:Nat}{ld ld':Nat->Nat}(sX:cq X n w ld)(sY:cq Y m w ld')(h1:∀k,k<n->cE Y m w (g X k))(h2:∀k,k<m->cE X n w (g Y k))(i:Nat):i<n->i<m/\ld' i=ld i/\g Y i (ld i)=g X i (ld i):=by
 induction i using Nat.strongRecOn with
 |ind i ih=>
  intro hi;obtain⟨j,hj,ej,dj⟩:=sX.sees sY h1 i hi
  have e:j=i:=by
   rcases Nat.lt_trichotomy j i with l|l|l
   . have:=(ih j l (Nat.lt_trans l hi)).2.1;exact absurd (this.symm.trans ej) (Nat.ne_of_lt (sX.mono j i l hi))
   . exact l
   . obtain⟨k,hk,ek,_⟩:=sY.sees sX h2 i (Nat.lt_trans l hj);have lk:k<i:=sX.lt hk hi (by rw[ek,<-ej];exact sY.mono i j l hj);have:=(ih k lk hk).2.1;exact absurd (this.trans ek) (Nat.ne_of_lt (sY.mono k i lk (Nat.lt_trans l hj)))
  subst e;refine⟨hj,ej,?_⟩;obtain⟨k,hk,ek,dk⟩:=sY.sees sX h2 j hj;have:=sX.inj hk hi (ek.trans ej);subst this;rw[ej]at dk;exact Int.dvd_antisymm (by rw[<-ej];exact Int.le_of_lt (sY.lead k hj).2.1) (Int.le_of_lt (sX.lead k hi).2.1) dj dk
def uq(X:Rows)(n:Nat)(ld:Nat->Nat):Prop:=∀i j,i<j->j<n->0<=g X i (ld j)/\g X i (ld j)<g X j (ld j)
theorem cq.only{X Y:Rows}{n m w:Nat}{ld ld':Nat->Nat}(sX:cq X n w ld)(sY:cq Y m w ld')(h1:∀k,k<n->cE Y m w (g X k))(h2:∀k,k<m->cE X n w (g Y k))(rX:uq X n ld)(rY:uq Y m ld'){i:Nat}(hi:i<n)(c:Nat):c<w->g X i c=g Y i c:=by
 induction c using Nat.strongRecOn with
 |ind c ih=>
  intro hc;obtain⟨im,il,ig⟩:=sX.same sY h1 h2 i hi;have hv:cE X n w fun c=>g X i c-g Y i c:=(cE.row hi).sub (h2 i im);rcases sX.at hv hc fun d hd=>by rw[ih d hd (Nat.lt_trans hd hc),Int.sub_self]with⟨j,hj,rfl,d⟩|q
  . obtain⟨jm,jl,jg⟩:=sX.same sY h1 h2 j hj;rcases Nat.lt_trichotomy i j with l|l|l
    . have a:=rX i j l hj;have b:=rY i j l jm;rw[jl,jg]at b;exact Int.eq_of_sub_eq_zero (Int.eq_zero_of_dvd_of_natAbs_lt_natAbs d (by omega))
    . subst l;exact ig.symm
    . rw[(sX.lead i hi).2.2 _ (sX.mono j i l hi),(sY.lead i im).2.2 _ (by rw[il];exact sX.mono j i l hi)]
  . exact Int.eq_of_sub_eq_zero q
theorem fC.DP{A0:Rows}{N w top p m:Nat}{b0 b c:B3}(hp:p<w)(h:fC N top p b c):∀ {gr:Nat},tS A0 N w top p m b0 b gr->∃gr',tS A0 N w top p m b0 c gr':=by
 induction h with
 |refl b=>exact fun G=>⟨_,G⟩
 |head s _ ih=>
  intro gr G;obtain⟨L,k,j,hL,rfl⟩:=s;exact ih (G.step hp hL).1
theorem qT.mono{A0:Rows}{N w top p m m':Nat}{b0 b:B3}(s:qT A0 N w top p m b0 b)(h:m<=m'):qT A0 N w top p m' b0 b:=
 ⟨s.tn,s.up,⟨fun i c h1 h2=>Nat.le_trans (s.lo.1 i c h1 h2) h,fun i c h1 h2=>Nat.le_trans (s.lo.2.1 i c h1 h2) h,fun i c h1 h2=>Nat.le_trans (s.lo.2.2 i c h1 h2) h⟩,s.zs,s.tp,s.z1⟩
theorem qT.Ku{A0:Rows}{N w top p m:Nat}{b0 b:B3}(s:qT A0 N w top p m b0 b){i:Nat}(hi:i<top)(q:Nat):g b.A i q=g b0.A i q/\g b.U i q=g b0.U i q/\g b.C i q=g b0.C i q:=by
 obtain⟨a1,a2,a3⟩:=s.up i hi;unfold g;rw[a1,a2,a3];exact⟨rfl,rfl,rfl⟩
theorem gg.one{A0:Rows}{N w t p e u r:Nat}{b c:B3}{ld:Nat->Nat}(S:gg A0 N w b t p ld e u)(hp:p<w)(h:fC N t p b c)(l:jC c.A N t p [r]):
 qT A0 N w t p (2^((N-t+1)*(e+1))) b (setB c p t r)/\t<N/\∀k,k<=t->qQ A0 N w t p ((N-t+1)*(e+1)) u (setB c p t r) k (jf p t k (setB c p t r)):=by
 obtain⟨gr,G⟩:=h.DP hp S.DP;obtain⟨s,h1,h2⟩:=G.set l;have s1:=s.mono (G.low S.lo.1);have ht:t<N:=Nat.lt_of_le_of_lt h1 h2;refine⟨s1,ht,fun k=>?_⟩;induction k with
 |zero=>exact fun _=>qQ.start s1.tn fun q=>s1.lo.2.2 t q (Nat.le_refl _) ht
 |succ k ih=>
  intro hk;refine(ih (Nat.le_of_lt hk)).step hk ht hp s1.tp (fun q hq=>s1.zs t q (Nat.le_refl _) ht hq) (fun q=>⟨s1.lo.1 t q (Nat.le_refl _) ht,s1.lo.2.1 t q (Nat.le_refl _) ht⟩) fun i q hi=>?_;obtain⟨a1,a2,a3⟩:=s1.Ku hi q;rw[a1,a2,a3];exact S.hi i q hi
theorem ib.Ea{A:Rows}{N w e0:Nat}(hA:cj N w A)(hlo:gT A N 0 (2^e0))(hN:N<=8){p t:Nat}{b:B3}(h:ib A N p t b):p<=w->∃ld,gg A N w b t p ld (Ez N e0 t) (Vz N e0 t):=by
 induction h with
 |start=>exact fun _=>⟨_,gg.start hA hlo⟩
 |next _ c ih=>
  intro hp;obtain⟨ld,S⟩:=ih (Nat.le_of_lt hp);cases c with
  |none l=>exact⟨ld,S.skip l⟩
  |one g l=>
   obtain⟨s1,ht,I⟩:=S.one hp g l;exact⟨_,qT.next (e':=Ez N e0 (_+1)) (u':=Vz N e0 (_+1)) S s1 ht (I _ (Nat.le_refl _)) hN (by show _<=Vz N e0 _+Vz N e0 _+Ez N e0 (_+1)+5;omega) (by show _<=Vz N e0 _+Vz N e0 _+Ez N e0 (_+1)+5;omega)⟩
def Sm(b:B3)(N m:Nat):Prop:=∀i c,i<N->(g b.A i c).natAbs<=m/\(g b.U i c).natAbs<=m/\(g b.C i c).natAbs<=m
structure xG(N p t z:Nat)(b:B3):Prop where
 ga:∀c,fC N t p b c->Sm c N (2^z)
 lo:∀c r k,fC N t p b c->jC c.A N t p [r]->k<=t->Sm (jf p t k (setB c p t r)) N (2^z)
theorem gg.Fl{A0:Rows}{N w t p e u z:Nat}{b:B3}{ld:Nat->Nat}(S:gg A0 N w b t p ld e u)(hp:p<w)(hN:N<=8)(hz:u+u+(N-t+1)*(e+1)+5<=z):xG N p t z b:=by
 have p1:2^u<=2^z:=Nat.pow_le_pow_right (by decide) (by omega);have p2:2^((N-t+1)*(e+1))<=2^z:=Nat.pow_le_pow_right (by decide) (by omega);have p3:2^(u+(N-t+1)*(e+1)+1)<=2^z:=Nat.pow_le_pow_right (by decide) (by omega);refine⟨fun c h i q hi=>?_,fun c r k h l hk i q hi=>?_⟩
 . obtain⟨gr,G⟩:=h.DP hp S.DP;by_cases ht:i<t
   . obtain⟨a1,a2,a3⟩:=G.up i ht;have:=S.hi i q ht;unfold g at this⊢;rw[a1,a2,a3];exact⟨Nat.le_trans this.1 p1,Nat.le_trans this.2.1 p1,Nat.le_trans this.2.2 p1⟩
   . have ht':=Nat.le_of_not_lt ht;have w1:=Nat.le_trans (G.low S.lo.1) p2;exact⟨Nat.le_trans (G.lA i q ht' hi) w1,Nat.le_trans (G.lU i q ht' hi) w1,Nat.le_trans (G.lC i q ht' hi) w1⟩
 . obtain⟨s,ht,I'⟩:=S.one hp h l;have I:=I' k hk
   have aA:(g (jf p t k (setB c p t r)).A i q).natAbs<=2^z/\(g (jf p t k (setB c p t r)).U i q).natAbs<=2^z:=by
    by_cases hik:i<k
    . exact⟨Nat.le_trans (I.sz i q hik).1 p3,Nat.le_trans (I.sz i q hik).2 p3⟩
    . obtain⟨b1,b2⟩:=I.rA i (Nat.le_of_not_lt hik);unfold g;rw[b1,b2];by_cases hit:i<t
      . obtain⟨a1,a2,a3⟩:=s.Ku hit q;have:=S.hi i q hit;rw[<-a1,<-a2]at this;exact⟨Nat.le_trans this.1 p1,Nat.le_trans this.2.1 p1⟩
      . have hit':=Nat.le_of_not_lt hit;exact⟨Nat.le_trans (s.lo.1 i q hit' hi) p2,Nat.le_trans (s.lo.2.1 i q hit' hi) p2⟩
   refine⟨aA.1,aA.2,?_⟩;by_cases hit:i=t
   . subst hit;refine Nat.le_trans (I.sC q) ?_;have f1:2^((N-i+1)*(e+1))<=2^(u+u+(N-i+1)*(e+1)):=Nat.pow_le_pow_right (by decide) (by omega);have f2:k*2^(u+u)<=8*2^(u+u+(N-i+1)*(e+1)):=Nat.mul_le_mul (by omega) (Nat.pow_le_pow_right (by decide) (by omega));have f3:2^(u+u+(N-i+1)*(e+1)+5)<=2^z:=Nat.pow_le_pow_right (by decide) hz;rw[Nat.pow_add _ _ 5]at f3;omega
   . have:=I.rC i hit;unfold g;rw[this];by_cases hlt:i<t
     . have a:=(s.Ku hlt q).2.2;have:=(S.hi i q hlt).2.2;rw[<-a]at this;exact Nat.le_trans this p1
     . exact Nat.le_trans (s.lo.2.2 i q (Nat.le_of_not_lt hlt) hi) p2
theorem Pa{x y:Int}(hy:y≠0):(qn x y).natAbs<=x.natAbs+y.natAbs:=by
 have h:=zh (x:=x) hy;have h2:(qn x y*y).natAbs=(qn x y).natAbs*y.natAbs:=Int.natAbs_mul _ _;have h3:(qn x y).natAbs<=(qn x y).natAbs*y.natAbs:=Nat.le_mul_of_pos_right _ (Int.natAbs_pos.mpr hy);generalize qn x y*y=t at h h2;omega
theorem ib.Fl{A:Rows}{N w e0 z:Nat}(hA:cj N w A)(hlo:gT A N 0 (2^e0))(hN:N<=8)(hz:∀t,t<=N->Vz N e0 t<=z){p t:Nat}{b:B3}(hp:p<w)(h:ib A N p t b):xG N p t z b:=by
 obtain⟨ld,S⟩:=h.Ea hA hlo hN (Nat.le_of_lt hp);by_cases ht:t<N
 . exact S.Fl hp hN (hz (t+1) ht)
 . have hle:=S.le;have e:N=t:=by omega
   have nolive:∀ {X:Rows} {L:List Nat} {k:Nat},jC X N t p L->k∈L->False:=fun h hk=>by
    have:=(h.mem _).mp hk;omega
   refine⟨fun c g=>?_,fun c r k g l hk=>(nolive l (List.mem_singleton.mpr rfl)).elim⟩;cases g with
   |refl=>
    have p1:2^Vz N e0 t<=2^z:=Nat.pow_le_pow_right (by decide) (hz t hle);exact fun i q hi=>⟨Nat.le_trans (S.hi i q (by omega)).1 p1,Nat.le_trans (S.hi i q (by omega)).2.1 p1,Nat.le_trans (S.hi i q (by omega)).2.2 p1⟩
   |head s _=>
    obtain⟨L,k,j,hL,_⟩:=s;exact(nolive (k:=k) hL (by simp)).elim
theorem JU{n:Nat}{f:Nat->Int}:∀ {N:Nat},n<=N->(∀i,n<=i->i<N->f i=0)->S N f=S n f
 |0,h,_=>by rw[Nat.le_zero.mp h]
 |N+1,h,z=>by
  by_cases e:n=N+1
  . rw[e]
  . have hn:n<=N:=by omega
    show S N f+f N=_;rw[z N hn (Nat.lt_succ_self N),Int.add_zero];exact JU hn fun i h1 h2=>z i h1 (Nat.lt_succ_of_lt h2)
theorem gg.in{A:Rows}{N w top e u:Nat}{c:B3}{ld:Nat->Nat}(s:gg A N w c top w ld e u)(k:Nat)(hk:k<top):cE A N w (g c.A k):=
 ⟨g c.U k,fun q hq=>s.tn.ua k q (Nat.lt_of_lt_of_le hk s.le) hq⟩
theorem gg.out{A:Rows}{N w top e u:Nat}{c:B3}{ld:Nat->Nat}(s:gg A N w c top w ld e u)(k:Nat)(hk:k<N):cE c.A top w (g A k):=by
 refine⟨fun i=>g c.C i k,fun q hq=>?_⟩
 have e1:S N (fun i=>g c.C i k*g c.A i q)=g A k q:=by
  have:S N (fun i=>g c.C i k*g c.A i q)=S N fun i=>S N fun j=>g c.C i k*g c.U i j*g A j q:=aQ fun i hi=>by
   rw[s.tn.ua i q hi hq,<-fU];exact aQ fun j _=>(Int.mul_assoc _ _ _).symm
  rw[this,uY]
  have e2:S N (fun j=>S N fun i=>g c.C i k*g c.U i j*g A j q)=S N fun j=>dl k j*g A j q:=aQ fun j hj=>by
   rw[xC,s.tn.bu k j hk hj]
  rw[e2,p7 hk fun j=>g A j q]
 rw[<-e1];exact JU s.le fun i h1 h2=>by rw[s.zs i q h1 h2 hq,Int.mul_zero]
theorem gu{X:Rows}{n i q:Nat}(h:i<n):g (X.take n) i q=g X i q:=by
 unfold g;rw[List.getD_eq_getElem?_getD (l:=X.take n),List.getD_eq_getElem?_getD (l:=X),List.getElem?_take_of_lt h]
theorem cE.Be{X:Rows}{n w:Nat}{u v:Nat->Int}(x:Int)(hu:cE X n w u)(hv:cE X n w v):cE X n w fun c=>u c+x*v c:=by
 obtain⟨y,hy⟩:=hu;obtain⟨z,hz⟩:=hv;refine⟨fun k=>y k+x*z k,fun c hc=>?_⟩;show u c+x*v c=S n fun k=>(y k+x*z k)*g X k c;rw[hy c hc,hz c hc,<-fU,<-ke];exact aQ fun k _=>by rw[Int.add_mul,Int.mul_assoc]
theorem cE.eq{X:Rows}{n w:Nat}{u v:Nat->Int}(hu:cE X n w u)(h:∀c,c<w->v c=u c):cE X n w v:=by
 obtain⟨y,hy⟩:=hu;exact⟨y,fun c hc=>(h c hc).trans (hy c hc)⟩
structure d8(X:Rows)(n:Nat)(Y:Rows)(m w:Nat):Prop where
 to:∀k,k<n->cE Y m w (g X k)
 of:∀k,k<m->cE X n w (g Y k)
theorem d8.refl(X:Rows)(n w:Nat):d8 X n X n w:=⟨fun _ h=>cE.row h,fun _ h=>cE.row h⟩
theorem d8.symm{X Y:Rows}{n m w:Nat}(h:d8 X n Y m w):d8 Y m X n w:=⟨h.of,h.to⟩
theorem d8.trans{X Y Z:Rows}{n m l w:Nat}(h:d8 X n Y m w)(h':d8 Y m Z l w):d8 X n Z l w:=
 ⟨fun k hk=>cE.trans h'.to (h.to k hk),fun k hk=>cE.trans h.of (h'.of k hk)⟩
theorem d8.add{X Y:Rows}{n w k o:Nat}{x:Int}(hk:k<n)(ho:o<n)(hko:k≠o)(e:∀q,q<w->g Y k q=g X k q+x*g X o q)(h:∀i q,i<n->i≠k->q<w->g Y i q=g X i q):d8 X n Y n w:=by
 refine⟨fun i hi=>?_,fun i hi=>?_⟩
 . by_cases hik:i=k
   . subst hik;refine((cE.row hk).Be (-x) (cE.row ho)).eq fun q hq=>?_;rw[e q hq,h o q ho (Ne.symm hko) hq,Int.neg_mul];omega
   . exact(cE.row hi).eq fun q hq=>(h i q hi hik hq).symm
 . by_cases hik:i=k
   . subst hik;exact((cE.row hk).Be x (cE.row ho)).eq e
   . exact(cE.row hi).eq fun q hq=>h i q hi hik hq
theorem d8.perm{X Y:Rows}{n w:Nat}{f:Nat->Nat}(hf:∀i,i<n->f i<n)(hff:∀i,f (f i)=i)(e:∀i q,i<n->q<w->g Y i q=g X (f i) q):d8 X n Y n w:=
 ⟨fun i hi=>(cE.row (hf i hi)).eq fun q hq=>by rw[e (f i) q (hf i hi) hq,hff],fun i hi=>(cE.row (hf i hi)).eq fun q hq=>e i q hi hq⟩
theorem d8.neg{X Y:Rows}{n w k:Nat}(hk:k<n)(e:∀q,q<w->g Y k q= -g X k q)(h:∀i q,i<n->i≠k->q<w->g Y i q=g X i q):d8 X n Y n w:=by
 have ng:∀ {Z:Rows} {u:Nat->Int},cE Z n w u->cE Z n w fun q=> -u q:=fun{Z u} hu=>(hu.Be (-2) hu).eq fun q _=>by omega
 refine⟨fun i hi=>?_,fun i hi=>?_⟩
 . by_cases hik:i=k
   . subst hik;exact(ng (cE.row hk)).eq fun q hq=>by rw[e q hq,Int.neg_neg]
   . exact(cE.row hi).eq fun q hq=>(h i q hi hik hq).symm
 . by_cases hik:i=k
   . subst hik;exact(ng (cE.row hk)).eq e
   . exact(cE.row hi).eq fun q hq=>h i q hi hik hq
theorem d8.ins{X Y:Rows}{n w k:Nat}(hk:k<=n)(hr:cE X n w (g Y k))(lo:∀i q,i<k->q<w->g Y i q=g X i q)(hi:∀i q,k<=i->i<n->q<w->g Y (i+1) q=g X i q):d8 X n Y (n+1) w:=by
 refine⟨fun i h=>?_,fun i h=>?_⟩
 . by_cases l:i<k
   . exact(cE.row (Nat.lt_succ_of_lt h)).eq fun q hq=>(lo i q l hq).symm
   . exact(cE.row (Nat.succ_lt_succ h)).eq fun q hq=>(hi i q (Nat.le_of_not_lt l) h hq).symm
 . rcases Nat.lt_trichotomy i k with l|l|l
   . exact(cE.row (Nat.lt_of_lt_of_le l hk)).eq fun q hq=>lo i q l hq
   . subst l;exact hr
   . cases i with
     |zero=>exact absurd l (Nat.not_lt_zero _)
     |succ i=>exact(cE.row (Nat.lt_of_succ_lt_succ h)).eq fun q hq=>hi i q (Nat.le_of_lt_succ l) (Nat.lt_of_succ_lt_succ h) hq
theorem cE.zero{X:Rows}{n w:Nat}{v:Nat->Int}(h:∀c,c<w->v c=0):cE X n w v:=
 ⟨fun _=>0,fun c hc=>by rw[h c hc,pH fun k _=>Int.zero_mul _]⟩
structure jQ(A:Rows)(N w M:Nat)(X:Rows)(m:Nat):Prop where
 is:cj m w X
 lo:1<=m
 hi:m<=8
 bd:∀r∈X,∀x∈r,x.natAbs<=M
 same:d8 A N X m w
theorem jQ.more{A X:Rows}{N w M M' m:Nat}(h:jQ A N w M X m)(l:M<=M'):jQ A N w M' X m:=⟨h.is,h.lo,h.hi,fun r hr x hx=>Nat.le_trans (h.bd r hr x hx) l,h.same⟩
theorem jQ.mem{A X:Rows}{N w M m k:Nat}(h:jQ A N w M X m)(hk:k<m):X.getD k []∈X:=by
 rw[aV (by rw[h.is.len];exact hk)];exact List.getElem_mem _
theorem Cm{M:Nat}{r s:Row}{c:Int}(hr:∀x∈r,x.natAbs<=M)(hs:∀x∈s,x.natAbs<=M)(hc:c.natAbs<=7):∀x∈eH r c s,x.natAbs<=M*8:=fun x hx=>by
 unfold eH at hx;obtain⟨k,hk,e⟩:=List.mem_iff_getElem.mp hx;rw[List.getElem_zipWith]at e;rw[List.length_zipWith]at hk;have h1:=hr _ (List.getElem_mem (Nat.lt_of_lt_of_le hk (Nat.min_le_left _ _)));have h2:=hs _ (List.getElem_mem (Nat.lt_of_lt_of_le hk (Nat.min_le_right _ _)));rw[<-e];refine Nat.le_trans (Int.natAbs_add_le _ _) ?_;rw[Int.natAbs_mul];have:=Nat.mul_le_mul hc h2;omega
theorem jQ.put{A X:Rows}{N w M M' m k:Nat}{r:Row}(h:jQ A N w M X m)(l:M<=M')(hr:r.length=w)(hb:∀x∈r,x.natAbs<=M')(s:d8 X m (X.set k r) m w):jQ A N w M' (X.set k r) m:=
 ⟨BY h.is hr,h.lo,h.hi,fun q hq x hx=>(List.mem_or_eq_of_mem_set hq).elim (fun z=>Nat.le_trans (h.bd q z x hx) l) (fun z=>hb x (z▸hx)),h.same.trans s⟩
theorem jQ.add{A X:Rows}{N w M m k o:Nat}{c:Int}(h:jQ A N w M X m)(hk:k<m)(ho:o<m)(hko:k≠o)(hc:c.natAbs<=7):jQ A N w (M*8) (X.set k (eH (X.getD k []) c (X.getD o []))) m:=by
 have lX:k<X.length:=by rw[h.is.len];exact hk
 have e:(X.getD k []).length=(X.getD o []).length:=(h.is.row hk).trans (h.is.row ho).symm;refine h.put (Nat.le_mul_of_pos_right _ (by decide)) (by rw[jF e];exact h.is.row hk) (Cm (h.bd _ (h.mem hk)) (h.bd _ (h.mem ho)) hc) (d8.add (x:=c) hk ho hko (fun q _=>?_) fun i q _ hi _=>?_)
 . rw[rG lX,if_pos rfl,rF e];rfl
 . rw[rG lX,if_neg hi]
theorem jQ.neg{A X:Rows}{N w M m k:Nat}(h:jQ A N w M X m)(hk:k<m):jQ A N w M (X.set k ((X.getD k []).map fun x=> -x)) m:=by
 have lX:k<X.length:=by rw[h.is.len];exact hk
 refine h.put (Nat.le_refl _) (by rw[List.length_map];exact h.is.row hk) (fun x hx=>?_) (d8.neg hk (fun q _=>?_) fun i q _ hi _=>?_)
 . obtain⟨y,hy,rfl⟩:=List.mem_map.mp hx;rw[Int.natAbs_neg];exact h.bd _ (h.mem hk) y hy
 . rw[rG lX,if_pos rfl];unfold g;generalize X.getD k []=r;rw[List.getD_eq_getElem?_getD,List.getElem?_map,List.getD_eq_getElem?_getD];cases r[q]?<;>rfl
 . rw[rG lX,if_neg hi]
theorem jQ.swap{A X:Rows}{N w M m k o:Nat}(h:jQ A N w M X m)(hk:k<m)(ho:o<m):jQ A N w M ((X.set k (X.getD o [])).set o (X.getD k [])) m:=by
 have lX:k<X.length:=by rw[h.is.len];exact hk
 have lo:o<(X.set k (X.getD o [])).length:=by rw[List.length_set,h.is.len];exact ho
 refine⟨BY (BY h.is (h.is.row ho)) (h.is.row hk),h.lo,h.hi,fun q hq x hx=>?_,h.same.trans (d8.perm (f:=fun i=>if i=o then k else if i=k then o else i) (fun i hi=>?_) (fun i=>?_) fun i q _ _=>?_)⟩
 . rcases List.mem_or_eq_of_mem_set hq with z|z
   . rcases List.mem_or_eq_of_mem_set z with z|z
     . exact h.bd q z x hx
     . exact h.bd _ (h.mem ho) x (z▸hx)
   . exact h.bd _ (h.mem hk) x (z▸hx)
 . show(if i=o then k else if i=k then o else i)<m;split
   . exact hk
   . split
     . exact ho
     . exact hi
 . show(if(if i=o then k else if i=k then o else i)=o then k else if(if i=o then k else if i=k then o else i)=k then o else(if i=o then k else if i=k then o else i))=i;by_cases h1:i=o
   . rw[if_pos h1,if_pos rfl];split
     . rename_i z;rw[z,h1]
     . exact h1.symm
   . rw[if_neg h1];by_cases h2:i=k
     . rw[if_pos h2,if_pos rfl];exact h2.symm
     . rw[if_neg h2,if_neg h1,if_neg h2]
 . show _=g X (if i=o then k else if i=k then o else i) q;rw[rG lo,rG lX];split
   . rfl
   . split<;>rfl
theorem lK{X:Rows}{r:Row}{k:Nat}(hk:k<=X.length)(i:Nat):(X.take k++r::X.drop k).getD i []=if i<k then X.getD i []else if i=k then r else X.getD (i-1) []:=by
 have lt:(X.take k).length=k:=by rw[List.length_take];omega
 rw[List.getD_eq_getElem?_getD,List.getD_eq_getElem?_getD,List.getD_eq_getElem?_getD];by_cases h:i<k
 . rw[if_pos h,List.getElem?_append_left (by rw[lt];exact h),List.getElem?_take_of_lt h]
 . rw[if_neg h,List.getElem?_append_right (by rw[lt];omega),lt];by_cases h2:i=k
   . rw[if_pos h2,h2,Nat.sub_self];rfl
   . rw[if_neg h2];have:i-k=(i-1-k)+1:=by omega
     rw[this,List.getElem?_cons_succ,List.getElem?_drop];congr 2;omega
theorem jQ.ins{A X:Rows}{N w M m k o:Nat}{c:Int}(h:jQ A N w M X m)(hk:k<m)(ho:o<m)(hm:m<8)(hc:c.natAbs<=7):jQ A N w (M*8) (X.take k++eH (X.getD k []) c (X.getD o [])::X.drop k) (m+1):=by
 have lX:k<=X.length:=by rw[h.is.len];exact Nat.le_of_lt hk
 have e:(X.getD k []).length=(X.getD o []).length:=(h.is.row hk).trans (h.is.row ho).symm
 have mem:∀q∈X.take k++eH (X.getD k []) c (X.getD o [])::X.drop k,q∈X\/q=eH (X.getD k []) c (X.getD o []):=fun q hq=>by
  rcases List.mem_append.mp hq with z|z
  . exact .inl (List.mem_of_mem_take z)
  . rcases List.mem_cons.mp z with z|z
    . exact .inr z
    . exact .inl (List.mem_of_mem_drop z)
 refine⟨⟨?_,fun q hq=>?_⟩,Nat.le_succ_of_le h.lo,hm,fun q hq x hx=>?_,h.same.trans (d8.ins (Nat.le_of_lt hk) ?_ (fun i q hi _=>?_) fun i q hi _ _=>?_)⟩
 . rw[List.length_append,List.length_cons,List.length_take,List.length_drop,h.is.len];omega
 . rcases mem q hq with z|z
   . exact h.is.fx q z
   . rw[z,jF e];exact h.is.row hk
 . rcases mem q hq with z|z
   . exact Nat.le_trans (h.bd q z x hx) (Nat.le_mul_of_pos_right _ (by decide))
   . exact Cm (h.bd _ (h.mem hk)) (h.bd _ (h.mem ho)) hc x (z▸hx)
 . refine((cE.row hk).Be c (cE.row ho)).eq fun q _=>?_;unfold g;rw[lK lX,if_neg (Nat.lt_irrefl k),if_pos rfl,rF e]
 . unfold g;rw[lK lX,if_pos hi]
 . unfold g;rw[lK lX,if_neg (by omega),if_neg (by omega),Nat.add_sub_cancel]
theorem Gj{X R:Rows}{k l n m w:Nat}(hX:cj n w X)(hR:∀r∈R,r.length=w)(hk:k<=n)(hl:k+R.length+(n-l)=m):cj m w (X.take k++R++X.drop l):=by
 refine⟨?_,fun q hq=>?_⟩
 . rw[List.length_append,List.length_append,List.length_take,List.length_drop,hX.len];omega
 . rcases List.mem_append.mp hq with z|z
   . rcases List.mem_append.mp z with z|z
     . exact hX.fx q (List.mem_of_mem_take z)
     . exact hR q z
   . exact hX.fx q (List.mem_of_mem_drop z)
theorem Ow{A:Rows}{N w M:Nat}(hA:cj N w A)(hb:∀r∈A,∀x∈r,x.natAbs<=M):gT A N 0 M:=fun i q _ hi=>by
 by_cases hq:q<w
 . have li:i<A.length:=by rw[hA.len];exact hi
   have lq:q<(A[i]).length:=by rw[hA.fx _ (List.getElem_mem li)];exact hq
   unfold g;rw[aV li,aV lq];exact hb _ (List.getElem_mem li) _ (List.getElem_mem lq)
 . have:g A i q=0:=by
    unfold g;rw[jX (by rw[c5 hA hi];exact Nat.le_of_not_lt hq)]
   rw[this];exact Nat.zero_le _
structure tP(F:Rows)(w:Nat)(ld:Nat->Nat)(row:Nat->Int)(i:Nat)(o:Int)(L:Nat->Int):Prop where
 pos:0<o
 sum:cE F i w fun c=>o*row c-L c
 off:∀k,k<i->L (ld k)=0
 least:∀(m:Int) (v:Nat->Int),cE F i w v->(∀k,k<i->m*row (ld k)=v (ld k))->o∣m
structure CD(F:Rows)(n w:Nat)(ld:Nat->Nat)(row:Nat->Int)(i:Nat)(L:Nat->Int):Prop where
 sum:cE F n w fun c=>row c-L c
 red:∀k,k<i->0<=L (ld k)/\L (ld k)<g F k (ld k)
theorem CD.start{F:Rows}{n w:Nat}{ld:Nat->Nat}{row:Nat->Int}:CD F n w ld row 0 row:=⟨cE.zero fun c _=>Int.sub_self _,fun _ h=>absurd h (Nat.not_lt_zero _)⟩
theorem CD.step{F:Rows}{n w i:Nat}{ld:Nat->Nat}{row L:Nat->Int}(s:cq F n w ld)(hi:i<n)(f:CD F n w ld row i L):CD F n w ld row (i+1) fun c=>L c-(L (ld i)).fdiv (g F i (ld i))*g F i c:=by
 obtain⟨l1,l2,l3⟩:=s.lead i hi;refine⟨(f.sum.Be ((L (ld i)).fdiv (g F i (ld i))) (cE.row hi)).eq fun c _=>by omega,fun k hk=>?_⟩;show 0<=L (ld k)-_*g F i (ld k)/\L (ld k)-_*g F i (ld k)<_;rcases Nat.lt_or_ge k i with h|h
 . rw[l3 _ (s.mono k i h hi),Int.mul_zero,Int.sub_zero];exact f.red k h
 . have:k=i:=Nat.le_antisymm (Nat.le_of_lt_succ hk) h;subst this;have e:=Int.fmod_add_mul_fdiv (L (ld k)) (g F k (ld k));have a:=Int.fmod_nonneg_of_pos (L (ld k)) l2;have b:=Int.fmod_lt_of_pos (L (ld k)) l2;rw[Int.mul_comm]at e;omega
theorem Cc{K m:Nat}:∀ {n:Nat} {M:Fn},n<=K->(∀r c,r<n->c<n->(M r c).natAbs<=m)->(D n M).natAbs<=(K*m)^n
 |0,_,_,_=>by simp[D]
 |n+1,M,hn,h=>by
  rw[d7]
  have key:∀j,j<n+1->(sg j*M 0 j*D n fun r c=>M (r+1) (sk j c)).natAbs<=m*(K*m)^n:=fun j hj=>by
   have a:=Cc (K:=K) (m:=m) (n:=n) (M:=fun r c=>M (r+1) (sk j c)) (by omega) fun r c hr hc=>h (r+1) (sk j c) (by omega) (mw hc);have b:=h 0 j (by omega) hj;have s:(sg j).natAbs=1:=by unfold sg;split<;>rfl
   rw[Int.natAbs_mul,Int.natAbs_mul,s,Nat.one_mul];exact Nat.mul_le_mul b a
  refine Nat.le_trans (EY key) ?_;rw[Nat.pow_succ,Nat.mul_comm ((K*m)^n),Nat.mul_assoc];exact Nat.mul_le_mul_right _ hn
theorem pick{t N:Nat}{U B:Fn}(h:∀k l,k<t->l<t->S N (fun i=>U k i*B i l)=dl k l):∃I:Nat->Nat,(∀k,k<t->I k<N)/\D t (fun k l=>B (I k) l)≠0:=by
 apply Classical.byContradiction;intro no
 have go:∀s,s<=t->∀I:Nat->Nat,(∀k,k<t->s<=k->I k<N)->D t (fun k l=>if k<s then dl k l else B (I k) l)=0:=by
  intro s;induction s with
  |zero=>
   intro _ I hI;exact Classical.byContradiction fun z=>no ⟨I,fun k hk=>hI k hk (Nat.zero_le _),z⟩
  |succ s ih=>
   intro hs I hI
   have e:D t (fun k l=>if k<s+1 then dl k l else B (I k) l)=D t (upd (fun k l=>if k<s then dl k l else B (I k) l) s fun l=>S N fun j=>U s j*B j l):=dO fun k l hk hl=>by
    unfold upd;by_cases h1:k=s
    . subst h1;rw[if_pos rfl,if_pos (Nat.lt_succ_self _)];exact(h k l hk hl).symm
    . rw[if_neg h1];show _=if k<s then dl k l else B (I k) l
      by_cases h2:k<s
      . rw[if_pos (by omega),if_pos h2]
      . rw[if_neg (by omega),if_neg h2]
   rw[e,(vE t).yl (by omega)];refine pH fun j hj=>?_
   have e2:=ih (by omega) (fun k=>if k=s then j else I k) fun k hk hsk=>by
    by_cases h1:k=s
    . rw[if_pos h1];exact hj
    . rw[if_neg h1];exact hI k hk (by omega)
   have e3:D t (upd (fun k l=>if k<s then dl k l else B (I k) l) s (B j))=D t (fun k l=>if k<s then dl k l else B (if k=s then j else I k) l):=dO fun k l hk hl=>by
    unfold upd;by_cases h1:k=s
    . subst h1;rw[if_pos rfl,if_neg (Nat.lt_irrefl _),if_pos rfl]
    . rw[if_neg h1,if_neg h1]
   rw[e3,e2,Int.mul_zero]
 have z:=go t (Nat.le_refl _) (fun _=>0) fun k h1 h2=>absurd h1 (Nat.not_lt.mpr h2);rw[dO (M':=dl) fun r c hr hc=>if_pos hr,zo]at z;exact absurd z (by decide)
theorem Bf:∀ {n:Nat} {f:Nat->Int},(∀i,i<n->0<f i)->0<Pr n f
 |0,_,_=>show(0:Int)<1 by decide
 |n+1,f,h=>Int.mul_pos (Bf fun i hi=>h i (Nat.lt_succ_of_lt hi)) (h n (Nat.lt_succ_self n))
theorem J4:∀ {n:Nat} {f:Nat->Int},(∀i,i<n->0<f i)->∀k,k<n->f k<=Pr n f
 |n+1,f,h,k,hk=>by
  have p:=Bf fun i hi=>h i (Nat.lt_succ_of_lt hi);have q:=h n (Nat.lt_succ_self n);show f k<=Pr n f*f n;by_cases e:k=n
  . subst e;have:=Int.mul_le_mul_of_nonneg_right (show(1:Int)<=Pr k f from p) (Int.le_of_lt q);omega
  . have a:=J4 (fun i hi=>h i (Nat.lt_succ_of_lt hi)) k (by omega);have:=Int.mul_le_mul_of_nonneg_left (show(1:Int)<=f n from q) (Int.le_of_lt p);omega
theorem yv{w x:Int}{m:Nat}(hw:w≠0)(h:(w*x).natAbs<=m):x.natAbs<=m:=by
 rw[Int.natAbs_mul]at h;exact Nat.le_trans (Nat.le_mul_of_pos_left _ (by omega)) h
theorem Gu{b i j:Nat}(h:1<=b)(l:i<=j):(9*b)^i<=(9*b)^j:=Nat.pow_le_pow_right (by omega) l
theorem IM{A F U B:Fn}{N w t b:Nat}{ld:Nat->Nat}(t8:t<=8)(b1:1<=b)(hA:∀i c,i<N->c<w->(A i c).natAbs<=b)(hAF:∀i c,i<N->c<w->A i c=S t fun k=>B i k*F k c)(hUB:∀k l,k<t->l<t->S N (fun i=>U k i*B i l)=dl k l)(lead:∀i,i<t->ld i<w/\0<F i (ld i)/\∀c,c<ld i->F i c=0)(mono:∀i j,i<j->j<t->ld i<ld j)(red:∀i j,i<j->j<t->0<=F i (ld j)/\F i (ld j)<F j (ld j)):
 Pr t (fun i=>F i (ld i))<=((9*b)^8:Nat)/\∀k c,k<t->c<w->(F k c).natAbs<=8*((9*b)^9*(9*b)^8):=by
 obtain⟨I,hI,hw⟩:=pick hUB;have eE:D t (fun k l=>F k (ld l))=Pr t fun i=>F i (ld i):=Rk fun r c hr hc h=>(lead r hr).2.2 _ (mono c r h hr);have pos:0<Pr t fun i=>F i (ld i):=Bf fun i hi=>(lead i hi).2.1
 have eM:D t (fun k l=>A (I k) (ld l))=D t (fun k l=>B (I k) l)*D t fun k l=>F k (ld l):=by
  rw[<-JH];exact dO fun k l hk hl=>hAF _ _ (hI k hk) (lead l hl).1
 have bM:(D t (fun k l=>A (I k) (ld l))).natAbs<=(9*b)^t:=Cc (K:=9) (by omega) fun r c hr hc=>hA _ _ (hI r hr) (lead c hc).1;rw[eM,eE]at bM;have bP:(Pr t fun i=>F i (ld i)).natAbs<=(9*b)^8:=Nat.le_trans (yv hw bM) (Gu b1 t8);refine⟨by omega,fun k c hk hc=>?_⟩
 have bF:∀l,l<t->(F k (ld l)).natAbs<=(9*b)^8:=fun l hl=>by
  have p:=J4 (f:=fun i=>F i (ld i)) (fun i hi=>(lead i hi).2.1) l hl;rcases Nat.lt_trichotomy k l with h|h|h
  . have:=red k l h hl;have p':F l (ld l)<=Pr t fun i=>F i (ld i):=p;omega
  . subst h;have q:=(lead k hk).2.1;have p':F k (ld k)<=Pr t fun i=>F i (ld i):=p;omega
  . rw[(lead k hk).2.2 _ (mono l k h hk)];exact Nat.zero_le _
 have e0:=Qa (fun l k=>F k (ld l)) t (fun k=>F k c) k;rw[N5 hk]at e0;have eT:D t (fun l k=>F k (ld l))=Pr t fun i=>F i (ld i):=by rw[<-eE];exact BO t fun k l=>F k (ld l)
 rw[eT]at e0
 have bB:∀l,l<t->(D t (fun k l=>B (I k) l)*bt (fun l k=>F k (ld l)) t (fun k=>F k c) l).natAbs<=(9*b)^9:=fun l hl=>by
  have eW:D (t+1) (fun i k=>if i=t then dl t k else if k=t then 0 else B (I i) k)=D t fun k l=>B (I k) l:=by
   rw[BN fun c _=>if_pos rfl];exact dO fun r c hr hc=>by rw[if_neg (by omega),if_neg (by omega)]
  have eX:D (t+1) (upd (fun i r=>if r<t then A (I i) (ld r)else A (I i) c) t (dl l))=D t (fun k l=>B (I k) l)*bt (fun l k=>F k (ld l)) t (fun k=>F k c) l:=by
   unfold bt;rw[<-eW,<-JH];refine dO fun i r hi hr=>?_;by_cases h:i=t
   . subst h;rw[cT];have:(S (i+1) fun k=>(if i=i then dl i k else if k=i then 0 else B (I i) k)*upd (fun c_1 r=>if r<i then F c_1 (ld r)else F c_1 c) i (dl l) k r)=S (i+1) fun k=>dl i k*upd (fun c_1 r=>if r<i then F c_1 (ld r)else F c_1 c) i (dl l) k r:=aQ fun k _=>by rw[if_pos rfl]
     rw[this,p7 (Nat.lt_succ_self i),cT]
   . have hi':i<t:=by omega
     rw[aH h];show _=(S t fun k=>(if i=t then dl t k else if k=t then 0 else B (I i) k)*upd (fun c_1 r=>if r<t then F c_1 (ld r)else F c_1 c) t (dl l) k r)+(if i=t then dl t t else if t=t then 0 else B (I i) t)*upd (fun c_1 r=>if r<t then F c_1 (ld r)else F c_1 c) t (dl l) t r;have z:(if i=t then dl t t else if t=t then 0 else B (I i) t)*upd (fun c_1 r=>if r<t then F c_1 (ld r)else F c_1 c) t (dl l) t r=0:=by rw[if_neg h,if_pos rfl,Int.zero_mul]
     rw[z,Int.add_zero]
     have e2:∀k,k<t->(if i=t then dl t k else if k=t then 0 else B (I i) k)*upd (fun c_1 r=>if r<t then F c_1 (ld r)else F c_1 c) t (dl l) k r=B (I i) k*(if r<t then F k (ld r)else F k c):=fun k hk=>by
      rw[if_neg h,if_neg (by omega),aH (by omega)]
     rw[aQ e2];by_cases hrt:r<t
     . rw[if_pos hrt,hAF _ _ (hI i hi') (lead r hrt).1];exact aQ fun k _=>by rw[if_pos hrt]
     . rw[if_neg hrt,hAF _ _ (hI i hi') hc];exact aQ fun k _=>by rw[if_neg hrt]
  rw[<-eX];refine Nat.le_trans (Cc (K:=9) (by omega) fun r q hr hq=>?_) (Gu b1 (show t+1<=9 by omega));by_cases h:r=t
  . subst h;rw[cT];unfold dl;split<;>omega
  . rw[aH h];have hr':r<t:=by omega
    split
    . rename_i hq';exact hA _ _ (hI r hr') (lead q hq').1
    . exact hA _ _ (hI r hr') hc
 have e1:D t (fun k l=>B (I k) l)*(Pr t fun i=>F i (ld i))*F k c= -S t fun l=>(D t (fun k l=>B (I k) l)*bt (fun l k=>F k (ld l)) t (fun k=>F k c) l)*F k (ld l):=by
  have:(S t fun l=>(D t (fun k l=>B (I k) l)*bt (fun l k=>F k (ld l)) t (fun k=>F k c) l)*F k (ld l))=D t (fun k l=>B (I k) l)*S t fun l=>bt (fun l k=>F k (ld l)) t (fun k=>F k c) l*F k (ld l):=by
   rw[<-fU];exact aQ fun l _=>Int.mul_assoc _ _ _
  rw[this,Int.mul_assoc,<-Int.mul_neg];congr 1;omega
 refine yv (w:=D t (fun k l=>B (I k) l)*(Pr t fun i=>F i (ld i))) (Int.mul_ne_zero hw (Int.ne_of_gt pos)) ?_;rw[e1,Int.natAbs_neg];refine Nat.le_trans (EY fun l hl=>?_) (Nat.mul_le_mul_right _ t8);rw[Int.natAbs_mul];exact Nat.mul_le_mul (bB l hl) (bF l hl)
theorem gg.back{A0:Rows}{N w top e u:Nat}{c:B3}{ld:Nat->Nat}(H:gg A0 N w c top w ld e u){i q:Nat}(hi:i<N)(hq:q<w):g A0 i q=S top fun k=>g c.C k i*g c.A k q:=by
 have T:=H.tn
 have e1:S N (fun k=>g c.C k i*g c.A k q)=g A0 i q:=by
  have:S N (fun k=>g c.C k i*g c.A k q)=S N fun k=>S N fun m=>g c.C k i*g c.U k m*g A0 m q:=aQ fun k hk=>by
   rw[T.ua k q hk hq,<-fU];exact aQ fun m _=>(Int.mul_assoc _ _ _).symm
  rw[this,uY];have:(S N fun m=>S N fun k=>g c.C k i*g c.U k m*g A0 m q)=S N fun m=>dl i m*g A0 m q:=aQ fun m hm=>by rw[xC,T.bu i m hi hm]
  rw[this,p7 hi]
 have cut:∀n,top<=n->n<=N->S n (fun k=>g c.C k i*g c.A k q)=S top fun k=>g c.C k i*g c.A k q:=fun n=>by
  induction n with
  |zero=>intro h _;rw[Nat.le_zero.mp h]
  |succ n ih=>
   intro h h2;by_cases e:top=n+1
   . rw[e]
   . show S n _+g c.C n i*g c.A n q=_;rw[ih (by omega) (by omega),H.zs n q (by omega) (by omega) hq,Int.mul_zero,Int.add_zero]
 rw[<-e1,cut N H.le (Nat.le_refl _)]
theorem gg.small{A0:Rows}{N w top e u b:Nat}{c:B3}{ld:Nat->Nat}(H:gg A0 N w c top w ld e u)(hN:N<=8)(b1:1<=b)(hA:∀i c,i<N->c<w->(g A0 i c).natAbs<=b):
 Pr top (fun i=>g c.A i (ld i))<=((9*b)^8:Nat)/\∀k q,k<top->q<w->(g c.A k q).natAbs<=8*((9*b)^9*(9*b)^8):=
 IM (A:=g A0) (F:=g c.A) (U:=g c.U) (B:=fun i k=>g c.C k i) (Nat.le_trans H.le hN) b1 hA (fun i q hi hq=>H.back hi hq) (fun k l hk hl=>H.tn.ub k l (Nat.lt_of_lt_of_le hk H.le) (Nat.lt_of_lt_of_le hl H.le)) H.lead H.mono H.red
def dy(F:Rows)(i:Nat):Nat:=(F.getD i []).findIdx (fun x=>x != 0)
theorem x8:∀ {r:Row} {l:Nat},(∀c,c<l->r.getD c 0=0)->r.getD l 0≠0->r.findIdx (fun x=>x != 0)=l
 | [],l,_,h=>(h rfl).elim
 |x::r,0,_,h=>by
  have h':(x != 0)=true:=bne_iff_ne.mpr h;rw[List.findIdx_cons,h'];rfl
 |x::r,l+1,hz,h=>by
  have x0:(x != 0)=false:=bne_eq_false_iff_eq.mpr (hz 0 (Nat.zero_lt_succ _));rw[List.findIdx_cons,x0,x8 (r:=r) (l:=l) (fun c hc=>hz (c+1) (Nat.succ_lt_succ hc)) h];rfl
theorem cq.dy{F:Rows}{n w:Nat}{ld:Nat->Nat}(s:cq F n w ld){i:Nat}(hi:i<n):Mx.dy F i=ld i:=by
 obtain⟨_,h2,h3⟩:=s.lead i hi;exact x8 h3 (Int.ne_of_gt h2)
theorem cq.SD{F:Rows}{n w:Nat}{ld:Nat->Nat}(s:cq F n w ld):cq F n w (Mx.dy F):=
 ⟨fun i hi=>by rw[s.dy hi];exact s.lead i hi,fun i j h hj=>by rw[s.dy hj,s.dy (Nat.lt_trans h hj)];exact s.mono i j h hj⟩
def uC(F:Rows)(L:Row)(i:Nat):Int:=(L.getD (dy F i) 0).fdiv (g F i (dy F i))
def fw(F:Rows)(r:Row):Nat->Row
 |0=>r
 |i+1=>eH (fw F r i) (-(uC F (fw F r i) i)) (F.getD i [])
def uH(F:Rows)(r:Row)(n:Nat):Row:=(List.range n).map fun i=>uC F (fw F r i) i
section
variable {F:Rows}{r:Row}{m w:Nat}(isF:cj m w F)(lr:r.length=w)
include isF lr
theorem rj:∀ {i:Nat},i<=m->(fw F r i).length=w
 |0,_=>lr
 |i+1,h=>by
  unfold fw;rw[jF (by rw[rj (by omega),isF.row (by omega)])];exact rj (by omega)
theorem Bg{i:Nat}(hi:i<m)(c:Nat):(fw F r (i+1)).getD c 0=(fw F r i).getD c 0-uC F (fw F r i) i*g F i c:=by
 conv=>lhs;unfold fw
 rw[rF (by rw[rj isF lr (by omega),isF.row hi]),Int.neg_mul];rfl
theorem DR:∀ {i:Nat},i<=m->∀c,r.getD c 0=(fw F r i).getD c 0+S i fun j=>uC F (fw F r j) j*g F j c
 |0,_,c=>(Int.add_zero _).symm
 |i+1,h,c=>by
  have e:=DR (i:=i) (by omega) c;rw[Bg isF lr (by omega)];show _=_+(S i _+uC F (fw F r i) i*g F i c);omega
theorem D9(s:cq F m w (dy F)):∀ {i:Nat},i<=m->CD F m w (dy F) (fun c=>r.getD c 0) i (fun c=>(fw F r i).getD c 0)
 |0,_=>CD.start
 |i+1,h=>by
  have:=(D9 s (i:=i) (by omega)).step s h
  have e:(fun c=>(fw F r (i+1)).getD c 0)=fun c=>(fw F r i).getD c 0-((fw F r i).getD (dy F i) 0).fdiv (g F i (dy F i))*g F i c:=by
   funext c;rw[Bg isF lr h];rfl
  rw[e];exact this
theorem vq{f e:Nat}(s:cq F m w (dy F))(hF:∀k c,k<m->c<w->(g F k c).natAbs<=2^f)(hr:∀c,c<w->(r.getD c 0).natAbs<=2^e):∀ {i:Nat},i<=m->∀c,c<w->((fw F r i).getD c 0).natAbs<=2^(e+i*(f+1))
 |0,_,c,hc=>by rw[Nat.zero_mul];exact hr c hc
 |i+1,h,c,hc=>by
  have ih:=vq s hF hr (i:=i) (by omega);obtain⟨l1,l2,_⟩:=s.lead i h;have q:=Nat.le_trans (pZ ((fw F r i).getD (dy F i) 0) l2) (ih _ l1);rw[Bg isF lr h]
  have p:(uC F (fw F r i) i*g F i c).natAbs<=2^(e+i*(f+1))*2^f:=by
   rw[Int.natAbs_mul];exact Nat.mul_le_mul q (hF i c h hc)
  have b:=ih c hc
  have e1:2^(e+(i+1)*(f+1))=2^(e+i*(f+1))*2^f*2:=by
   rw[show e+(i+1)*(f+1)=e+i*(f+1)+f+1 by rw[Nat.succ_mul];omega,Nat.pow_succ,Nat.pow_add]
  have e2:2^(e+i*(f+1))<=2^(e+i*(f+1))*2^f:=Nat.le_mul_of_pos_right _ (Nat.pow_pos (by decide));rw[e1];omega
end
theorem IX{A0:Rows}{N w top e u:Nat}{c:B3}{ld:Nat->Nat}(H:gg A0 N w c top w ld e u){r ws:Row}(lw:ws.length=top)(hs:∀q,q<w->r.getD q 0=S top fun j=>ws.getD j 0*g c.A j q){q:Nat}(hq:q<w):(S N fun n=>(dJ ws (c.U.take top) (List.replicate N 0)).getD n 0*g A0 n q)=r.getD q 0:=by
 have T:=H.tn;have hl:(c.U.take top).length=top:=by rw[List.length_take,T.eB.len];exact Nat.min_eq_left H.le
 have e1:∀n,(dJ ws (c.U.take top) (List.replicate N 0)).getD n 0=S top fun j=>ws.getD j 0*g c.U j n:=fun n=>by
  rw[pS (n:=N) n (by simp) (fun r hr=>T.eB.fx r (List.mem_of_mem_take hr)) (by rw[hl,lw]),eF,Int.zero_add,hl];refine aQ fun j hj=>?_;unfold g;rw[aV (l:=c.U.take top) (by omega),List.getElem_take,aV (l:=c.U) (by have:=T.eB.len;have:=H.le;omega)]
 have e2:(S N fun n=>(dJ ws (c.U.take top) (List.replicate N 0)).getD n 0*g A0 n q)=S N fun n=>S top fun j=>ws.getD j 0*(g c.U j n*g A0 n q):=aQ fun n _=>by
  rw[e1,<-xC];exact aQ fun j _=>Int.mul_assoc _ _ _
 rw[e2,uY,hs q hq];refine aQ fun j hj=>?_;rw[fU,<-T.ua j q (Nat.lt_of_lt_of_le hj H.le) hq]
def SQ:Nat->(Nat->Rat)->Rat
 |0,_=>0
 |n+1,f=>SQ n f+f n
theorem td{n:Nat}{f h:Nat->Rat}(e:∀i,i<n->f i=h i):SQ n f=SQ n h:=by
 induction n with
 |zero=>rfl
 |succ n ih=>unfold SQ;rw[ih fun i hi=>e i (by omega),e n (by omega)]
theorem yI{n:Nat}{f:Nat->Rat}(e:∀i,i<n->f i=0):SQ n f=0:=by
 induction n with
 |zero=>rfl
 |succ n ih=>unfold SQ;rw[ih fun i hi=>e i (by omega),e n (by omega)];grind
theorem GP(n:Nat)(f h:Nat->Rat):SQ n (fun i=>f i+h i)=SQ n f+SQ n h:=by
 induction n with
 |zero=>unfold SQ;grind
 |succ n ih=>unfold SQ;rw[ih];grind
theorem NN(n:Nat)(x:Rat)(f:Nat->Rat):SQ n (fun i=>x*f i)=x*SQ n f:=by
 induction n with
 |zero=>unfold SQ;grind
 |succ n ih=>unfold SQ;rw[ih];grind
theorem Ge{n k:Nat}(hk:k<n){f:Nat->Rat}(h:∀i,i<n->i≠k->f i=0):SQ n f=f k:=by
 induction n with
 |zero=>omega
 |succ n ih=>
  unfold SQ;by_cases e:k=n
  . subst e;rw[yI fun i hi=>h i (by omega) (by omega)];grind
  . rw[ih (by omega) fun i hi hn=>h i (by omega) hn,h n (by omega) (by omega)];grind
theorem OL{n k:Nat}(hk:k<n){f h:Nat->Rat}(e:∀i,i<n->i≠k->h i=f i):SQ n h=SQ n f+(h k-f k):=by
 induction n with
 |zero=>omega
 |succ n ih=>
  unfold SQ;by_cases q:k=n
  . subst q;rw[td (f:=h) (h:=f) fun i hi=>e i (by omega) (by omega)];grind
  . rw[ih (by omega) fun i hi hn=>e i (by omega) hn,e n (by omega) (by omega)];grind
def Wh(x:Rat):Prop:=∃z:Int,x=(z:Rat)
theorem Wh.zero:Wh 0:=⟨0,rfl⟩
theorem Wh.add{x y:Rat}(h:Wh x)(k:Wh y):Wh (x+y):=by
 obtain⟨a,rfl⟩:=h;obtain⟨b,rfl⟩:=k;exact⟨a+b,(Rat.intCast_add a b).symm⟩
theorem Wh.mul{x:Rat}(h:Wh x)(c:Int):Wh ((c:Rat)*x):=by
 obtain⟨a,rfl⟩:=h;exact⟨c*a,(Rat.intCast_mul c a).symm⟩
theorem Wh.neg{x:Rat}(h:Wh x):Wh (-x):=by
 obtain⟨a,rfl⟩:=h;exact⟨-a,(Rat.intCast_neg a).symm⟩
theorem Wh.den{x:Rat}:Wh x↔x.den=1:=by
 constructor
 . rintro⟨a,rfl⟩;rfl
 . intro h;exact⟨x.num,Rat.ext rfl h⟩
def dq(ps:List Rat)(w:Nat)(v:Nat->Int):Rat:=SQ w fun c=>ps.getD c 0*(v c:Rat)
theorem BD(ps:List Rat)(w n:Nat)(x:Nat->Int)(f:Nat->Nat->Int):dq ps w (fun c=>S n fun k=>x k*f k c)=SQ n fun k=>(x k:Rat)*dq ps w (f k):=by
 induction n with
 |zero=>exact yI fun c _=>by show _*((0:Int):Rat)=0;grind
 |succ n ih=>
  have:dq ps w (fun c=>S (n+1) fun k=>x k*f k c)=dq ps w (fun c=>S n fun k=>x k*f k c)+(x n:Rat)*dq ps w (f n):=by
   unfold dq;rw[<-NN,<-GP];refine td fun c _=>?_;show _*(((S n fun k=>x k*f k c)+x n*f n c:Int):Rat)=_;rw[Rat.intCast_add,Rat.intCast_mul];grind
  rw[this,ih];rfl
theorem NB(ps:List Rat)(w:Nat)(u v:Nat->Int):dq ps w (fun c=>u c+v c)=dq ps w u+dq ps w v:=by
 unfold dq;rw[<-GP];exact td fun c _=>by rw[Rat.intCast_add];grind
theorem wg{ps:List Rat}{w:Nat}{u v:Nat->Int}(h:∀c,c<w->u c=v c):dq ps w u=dq ps w v:=td fun c hc=>by rw[h c hc]
theorem E2{n:Nat}{f:Nat->Rat}(h:∀i,i<n->Wh (f i)):Wh (SQ n f):=by
 induction n with
 |zero=>exact Wh.zero
 |succ n ih=>exact(ih fun i hi=>h i (by omega)).add (h n (by omega))
theorem jJ{ps:List Rat}{k:Nat}{x:Rat}(hk:k<ps.length)(c:Nat):(ps.set k x).getD c 0=if c=k then x else ps.getD c 0:=by
 rw[List.getD_eq_getElem?_getD,List.getD_eq_getElem?_getD];by_cases h:c=k
 . subst h;rw[List.getElem?_set_self hk,if_pos rfl];rfl
 . rw[List.getElem?_set_ne (Ne.symm h),if_neg h]
theorem Oo{ps:List Rat}{w k:Nat}{x:Rat}(lp:ps.length=w)(hk:k<w)(v:Nat->Int):dq (ps.set k x) w v=dq ps w v+(x-ps.getD k 0)*(v k:Rat):=by
 unfold dq;rw[OL hk (f:=fun c=>ps.getD c 0*(v c:Rat)) fun c _ hn=>by rw[jJ (by omega),if_neg hn]];rw[jJ (by omega),if_pos rfl];grind
def Hi(F:Rows)(w l:Nat)(ps:List Rat)(k:Nat):List Rat:=if dy F k<l then ps.set (dy F k) ((0-dq ps w (g F k))/(g F k (dy F k):Rat))else ps
def ox(F:Rows)(m w l:Nat)(ps:List Rat):Nat->List Rat
 |0=>ps
 |i+1=>Hi F w l (ox F m w l ps i) (m-1-i)
def kl(w l:Nat)(b:Int):List Rat:=(List.replicate w 0).set l (Rat.divInt 1 b)
theorem MZ(w c:Nat):(List.replicate w (0:Rat)).getD c 0=0:=by
 rw[List.getD_eq_getElem?_getD,List.getElem?_replicate];split<;>rfl
structure pR(F:Rows)(m w l:Nat)(p:Rat)(i:Nat)(ps:List Rat):Prop where
 len:ps.length=w
 nil:∀c,c≠l->(∀k,m-i<=k->k<m->dy F k≠c)->ps.getD c 0=0
 hi:∀c,l<c->ps.getD c 0=0
 at_:ps.getD l 0=p
 off:∀k,m-i<=k->k<m->dy F k<l->dq ps w (g F k)=0
theorem pR.start{F:Rows}{m w l:Nat}(b:Int)(hl:l<w):pR F m w l (Rat.divInt 1 b) 0 (kl w l b):=by
 have hw:l<(List.replicate w (0:Rat)).length:=by simpa using hl
 refine⟨by unfold kl;simp,fun c hc _=>?_,fun c hc=>?_,?_,fun k h1 h2=>by omega⟩
 . unfold kl;rw[jJ hw,if_neg hc,MZ]
 . unfold kl;rw[jJ hw,if_neg (by omega),MZ]
 . unfold kl;rw[jJ hw,if_pos rfl]
theorem pR.step{F:Rows}{m w l i:Nat}{p:Rat}{ps:List Rat}(s:cq F m w (dy F))(hi:i<m)(P:pR F m w l p i ps):pR F m w l p (i+1) (Hi F w l ps (m-1-i)):=by
 generalize hk:m-1-i=k0;have hk0:k0<m:=by omega
 obtain⟨l1,l2,l3⟩:=s.lead k0 hk0;unfold Hi;by_cases h:dy F k0<l
 . rw[if_pos h]
   have pz:ps.getD (dy F k0) 0=0:=P.nil _ (by omega) fun k h1 h2 e=>by
    have:=s.mono k0 k (by omega) h2;omega
   have hne:(g F k0 (dy F k0):Rat)≠0:=fun z=>by
    have:g F k0 (dy F k0)=0:=Rat.intCast_inj.mp z;omega
   have hlen:dy F k0<ps.length:=by rw[P.len];exact l1
   refine⟨by rw[List.length_set];exact P.len,fun c hc hn=>?_,fun c hc=>?_,?_,fun k h1 h2 h3=>?_⟩
   . rw[jJ hlen,if_neg (Ne.symm (hn k0 (by omega) hk0))];exact P.nil c hc fun k h1 h2=>hn k (by omega) h2
   . rw[jJ hlen,if_neg (by omega)];exact P.hi c hc
   . rw[jJ hlen,if_neg (by omega)];exact P.at_
   . rw[Oo P.len l1,pz];by_cases e:k=k0
     . subst e;have:(0-dq ps w (g F k))/(g F k (dy F k):Rat)*(g F k (dy F k):Rat)=0-dq ps w (g F k):=Rat.div_mul_cancel hne;grind
     . have hk':m-i<=k:=by omega
       rw[P.off k hk' h2 h3,(s.lead k h2).2.2 _ (s.mono k0 k (by omega) h2)];show _+_*((0:Int):Rat)=0;grind
 . rw[if_neg h];refine⟨P.len,fun c hc hn=>P.nil c hc fun k h1 h2=>hn k (by omega) h2,P.hi,P.at_,fun k h1 h2 h3=>?_⟩;by_cases e:k=k0
   . subst e;omega
   . exact P.off k (by omega) h2 h3
theorem pR.all{F:Rows}{m w l:Nat}(b:Int)(s:cq F m w (dy F))(hl:l<w):∀ {i:Nat},i<=m->pR F m w l (Rat.divInt 1 b) i (ox F m w l (kl w l b) i)
 |0,_=>pR.start b hl
 |i+1,h=>(pR.all b s hl (i:=i) (by omega)).step s h
def D8(F:Rows)(m l:Nat)(x b:Int):Prop:=(∃k,k<m/\dy F k=l/\b=g F k l)\/((∀k,k<m->dy F k≠l)/\b=2*(x.natAbs:Int))
theorem D8.pos{F:Rows}{m w l:Nat}{x b:Int}(s:cq F m w (dy F))(h:D8 F m l x b)(hx:x≠0):0<b:=by
 rcases h with⟨k,hk,e,rfl⟩|⟨n,rfl⟩
 . have:=(s.lead k hk).2.1;rw[e]at this;exact this
 . omega
theorem A_{b:Int}(hb:b≠0)(x:Int):Rat.divInt 1 b*(x:Rat)=(x:Rat)/(b:Rat):=by
 rw[Rat.divInt_eq_div];grind
theorem MS{x b:Int}(h0:0<x.natAbs)(h1:(x.natAbs:Int)<b):¬Wh ((x:Rat)/(b:Rat)):=by
 rintro⟨z,e⟩
 have hb:(b:Rat)≠0:=fun q=>by
  have:b=0:=Rat.intCast_inj.mp q;omega
 have e2:(x:Rat)=(z:Rat)*(b:Rat):=by rw[<-e];exact(Rat.div_mul_cancel hb).symm
 rw[<-Rat.intCast_mul]at e2;have e3:x=z*b:=Rat.intCast_inj.mp e2;have hz:z≠0:=fun q=>by rw[q,Int.zero_mul]at e3;omega
 have:(z*b).natAbs=z.natAbs*b.natAbs:=Int.natAbs_mul _ _;have h2:1*b.natAbs<=z.natAbs*b.natAbs:=Nat.mul_le_mul_right _ (by omega);rw[e3]at h1;omega
theorem pR.whole{F:Rows}{m w l:Nat}{R:Row}{b:Int}{ps:List Rat}(s:cq F m w (dy F))(hl:l<w)(hb:D8 F m l (R.getD l 0) b)(h0:R.getD l 0≠0)(P:pR F m w l (Rat.divInt 1 b) m ps){k:Nat}(hk:k<m):Wh (dq ps w (g F k)):=by
 obtain⟨l1,l2,l3⟩:=s.lead k hk;rcases Nat.lt_trichotomy (dy F k) l with h|h|h
 . rw[P.off k (by omega) hk h];exact Wh.zero
 . have e:dq ps w (g F k)=ps.getD l 0*(g F k l:Rat):=Ge hl fun c hc hn=>by
    rcases Nat.lt_or_gt_of_ne hn with q|q
    . rw[l3 c (by omega)];show _*((0:Int):Rat)=0;grind
    . rw[P.hi c q];grind
   have hb':b=g F k l:=by
    rcases hb with⟨k',hk',e',rfl⟩|⟨n,_⟩
    . rw[s.inj hk hk' (h.trans e'.symm)]
    . exact absurd h (n k hk)
   rw[e,P.at_,hb'];have hp:0<g F k l:=by rw[<-h];exact l2
   rw[A_ (by omega)]
   have:(g F k l:Rat)≠0:=fun q=>by
    have:g F k l=0:=Rat.intCast_inj.mp q;omega
   have e1:(g F k l:Rat)/(g F k l:Rat)=1:=by rw[Rat.div_def];exact Rat.mul_inv_cancel _ this
   rw[e1];exact⟨1,rfl⟩
 . have e:dq ps w (g F k)=0:=yI fun c hc=>by
    rcases Nat.lt_or_ge l c with q|q
    . rw[P.hi c q];grind
    . rw[l3 c (by omega)];show _*((0:Int):Rat)=0;grind
   rw[e];exact Wh.zero
theorem pR.not{F:Rows}{m w l:Nat}{R:Row}{b:Int}{ps:List Rat}(s:cq F m w (dy F))(hl:l<w)(hb:D8 F m l (R.getD l 0) b)(h0:R.getD l 0≠0)(hz:∀c,c<l->R.getD c 0=0)(red:∀k,k<m->0<=R.getD (dy F k) 0/\R.getD (dy F k) 0<g F k (dy F k))(P:pR F m w l (Rat.divInt 1 b) m ps):¬Wh (dq ps w fun c=>R.getD c 0):=by
 have bp:=hb.pos s h0
 have e:dq ps w (fun c=>R.getD c 0)=ps.getD l 0*((R.getD l 0:Int):Rat):=Ge hl fun c hc hn=>by
  rcases Nat.lt_or_gt_of_ne hn with q|q
  . show _*((R.getD c 0:Int):Rat)=0;rw[hz c q];show _*((0:Int):Rat)=0;grind
  . rw[P.hi c q];grind
 rw[e,P.at_,A_ (by omega)];refine MS (by omega) ?_;rcases hb with⟨k,hk,e,rfl⟩|⟨n,rfl⟩
 . have:=red k hk;rw[e]at this;omega
 . omega
theorem Mp(n:Nat)(f:Nat->Rat):SQ (n+1) f=f 0+SQ n fun i=>f (i+1):=by
 induction n with
 |zero=>unfold SQ SQ;grind
 |succ n ih=>
  have:SQ (n+1+1) f=SQ (n+1) f+f (n+1):=rfl;rw[this,ih];have:SQ (n+1) (fun i=>f (i+1))=SQ n (fun i=>f (i+1))+f (n+1):=rfl;rw[this];grind
def mF:Rat->List Rat->Row->Rat
 |t,p::ps,n::r=>mF (t+p*(n:Rat)) ps r
 |t,_,_=>t
theorem Gp:∀(ps:List Rat) (r:Row) (t:Rat) {w:Nat},ps.length=w->r.length=w->mF t ps r=t+dq ps w fun c=>r.getD c 0
 | [],[],t,w,h,_=>by
   subst h;unfold mF;show t=t+0;grind
 | [],_::_,t,w,h1,h2=>by subst h1;cases h2
 |_::_,[],t,w,h1,h2=>by subst h2;cases h1
 |p::ps,n::r,t,w,h1,h2=>by
  subst h1;unfold mF;rw[Gp ps r _ rfl (Nat.succ.inj h2)];unfold dq;rw[List.length_cons,Mp]
  have e:(fun i=>(p::ps).getD (i+1) 0*(((n::r).getD (i+1) 0:Int):Rat))=fun i=>ps.getD i 0*((r.getD i 0:Int):Rat):=by
   funext i;simp
  rw[e];show _=t+(p*(n:Rat)+_);grind
def wo:Int->Int->List Rat->Row->Int×Int
 |T,B,p::ps,n::r=>wo (T*p.den+p.num*n*B) (B*p.den) ps r
 |T,B,_,_=>(T,B)
structure Sz(q:Rat)(m:Nat):Prop where
 num:q.num.natAbs<=2^m
 den:q.den<=2^m
theorem Sz.mono{q:Rat}{m n:Nat}(h:Sz q m)(l:m<=n):Sz q n:=⟨Nat.le_trans h.num (Nat.pow_le_pow_right (by decide) l),Nat.le_trans h.den (Nat.pow_le_pow_right (by decide) l)⟩
theorem Sz.int{n:Int}{m:Nat}(h:n.natAbs<=2^m):Sz (n:Rat) m:=⟨h,Nat.pow_pos (by decide)⟩
theorem Sz.of{t b:Int}{m:Nat}(hb:b≠0)(h1:t.natAbs<=2^m)(h2:b.natAbs<=2^m):Sz (Rat.divInt t b) m:=by
 have hg:1<=b.gcd t:=by
  have:b.gcd t≠0:=fun z=>hb (Int.gcd_eq_zero_iff.mp z).1;omega
 constructor
 . rw[Rat.num_divInt];have:((b.sign*t)/((b.gcd t:Nat):Int)).natAbs<=(b.sign*t).natAbs:=Int.natAbs_ediv_le_natAbs _ _
   have e:(b.sign*t).natAbs<=t.natAbs:=by
    rw[Int.natAbs_mul];have:b.sign.natAbs<=1:=by rw[Int.natAbs_sign];split<;>omega
    calc b.sign.natAbs*t.natAbs<=1*t.natAbs:=Nat.mul_le_mul_right _ this
     _=t.natAbs:=Nat.one_mul _
   omega
 . rw[Rat.den_divInt,if_neg hb];exact Nat.le_trans (Nat.div_le_self _ _) h2
theorem iB{x y:Int}{a b:Nat}(hx:x.natAbs<=2^a)(hy:y.natAbs<=2^b):(x*y).natAbs<=2^(a+b):=by
 rw[Int.natAbs_mul,Nat.pow_add];exact Nat.mul_le_mul hx hy
theorem den_nz(q:Rat):((q.den:Nat):Int)≠0:=by have:=q.den_nz;omega
theorem pG(q:Rat):q=Rat.divInt q.num ((q.den:Nat):Int):=(Rat.num_divInt_den q).symm
theorem add_eq(p q:Rat):p+q=Rat.divInt (p.num*((q.den:Nat):Int)+q.num*((p.den:Nat):Int)) (((p.den:Nat):Int)*((q.den:Nat):Int)):=by
 conv=>lhs;rw[pG p,pG q]
 rw[Rat.divInt_add_divInt _ _ (den_nz p) (den_nz q)]
theorem sub_eq(p q:Rat):p-q=Rat.divInt (p.num*((q.den:Nat):Int)-q.num*((p.den:Nat):Int)) (((p.den:Nat):Int)*((q.den:Nat):Int)):=by
 conv=>lhs;rw[pG p,pG q]
 rw[Rat.divInt_sub_divInt _ _ (den_nz p) (den_nz q)]
theorem mul_eq(p q:Rat):p*q=Rat.divInt (p.num*q.num) (((p.den:Nat):Int)*((q.den:Nat):Int)):=by
 conv=>lhs;rw[pG p,pG q]
 rw[Rat.divInt_mul_divInt]
theorem div_eq(p q:Rat):p/q=Rat.divInt (p.num*((q.den:Nat):Int)) (((p.den:Nat):Int)*q.num):=by
 rw[Rat.div_def,Rat.inv_def];conv=>lhs;rw[pG p]
 rw[Rat.divInt_mul_divInt]
theorem Sz.uv{q:Rat}{m:Nat}(h:Sz q m):(((q.den:Nat):Int)).natAbs<=2^m:=h.den
theorem Sz.add{p q:Rat}{a b:Nat}(hp:Sz p a)(hq:Sz q b):Sz (p+q) (a+b+1):=by
 rw[add_eq];have h1:=iB hp.num hq.uv;have h2:=iB hq.num hp.uv;have h3:=iB hp.uv hq.uv;rw[Nat.add_comm b a]at h2;exact Sz.of (Int.mul_ne_zero (den_nz p) (den_nz q)) (by rw[Nat.pow_succ];omega) (Nat.le_trans h3 (Nat.pow_le_pow_right (by decide) (by omega)))
theorem Sz.neg{q:Rat}{b:Nat}(hq:Sz q b):Sz (0-q) b:=by
 have e:(0:Rat)-q= -q:=by grind
 rw[e];exact⟨by rw[show(-q).num= -q.num from rfl,Int.natAbs_neg];exact hq.num,hq.den⟩
theorem Sz.mul{p q:Rat}{a b:Nat}(hp:Sz p a)(hq:Sz q b):Sz (p*q) (a+b):=by
 rw[mul_eq];exact Sz.of (Int.mul_ne_zero (den_nz p) (den_nz q)) (iB hp.num hq.num) (iB hp.uv hq.uv)
theorem Sz.div{p q:Rat}{a b:Nat}(hp:Sz p a)(hq:Sz q b)(h0:q.num≠0):Sz (p/q) (a+b):=by
 rw[div_eq];exact Sz.of (Int.mul_ne_zero (den_nz p) h0) (iB hp.num hq.uv) (iB hp.uv hq.num)
def Pb:List Rat->Nat->Prop
 | [],_=>True
 |q::qs,t=>∃a b,Sz q a/\Pb qs b/\a+b<=t
theorem Pb.mono:∀ {ps:List Rat} {s t:Nat},Pb ps s->s<=t->Pb ps t
 | [],_,_,_,_=>trivial
 |_::_,_,_,⟨a,b,h1,h2,h3⟩,l=>⟨a,b,h1,h2,Nat.le_trans h3 l⟩
theorem Pb.set{x:Rat}{a:Nat}(hx:Sz x a):∀ {ps:List Rat} {t k:Nat},Pb ps t->Pb (ps.set k x) (t+a)
 | [],_,_,_=>trivial
 |q::qs,t,0,⟨a',b,h1,h2,h3⟩=>⟨a,b,hx,h2,by omega⟩
 |q::qs,t,k+1,⟨a',b,h1,h2,h3⟩=>⟨a',b+a,h1,h2.set hx,by omega⟩
theorem Pb.rep:∀n:Nat,Pb (List.replicate n 0) 0
 |0=>trivial
 |n+1=>⟨0,0,⟨by decide,by decide⟩,Pb.rep n,Nat.le_refl _⟩
theorem Pb.mF:∀ {ps:List Rat} {r:Row} {s e t:Nat} {x:Rat},Sz x s->Pb ps t->(∀n∈r,n.natAbs<=2^e)->Sz (mF x ps r) (s+t+ps.length*(e+1))
 | [],r,s,e,t,x,hx,_,_=>by unfold Mx.mF;exact hx.mono (by omega)
 |_::_,[],s,e,t,x,hx,_,_=>by unfold Mx.mF;exact hx.mono (by omega)
 |p::ps,n::r,s,e,t,x,hx,⟨a,b,h1,h2,h3⟩,hr=>by
  unfold Mx.mF;have h4:=hx.add (h1.mul (Sz.int (hr n List.mem_cons_self)));refine(Pb.mF h4 h2 fun k hk=>hr k (List.mem_cons_of_mem _ hk)).mono ?_;rw[List.length_cons,Nat.succ_mul];omega
theorem sH{A:Rows}{N w k j:Nat}{q:Int}(hA:cj N w A)(hk:k<N)(hj:j<N)(hq:q=0):bT A k q j=A:=by
 subst hq;refine(sM hA hk hj).ext hA fun i c _ _=>?_;rw[fz hA hk hj];split
 . rename_i h;rw[h,Int.zero_mul,Int.sub_zero]
 . rfl
theorem yx{A:Rows}{N w k:Nat}(hA:cj N w A)(hk:k<N):bZ A k k=A:=
 (tN hA hk hk).ext hA fun i c _ _=>by rw[kc hA hk hk,Dw]
section
variable {F:Rows}{m w t p:Nat}{ld:Nat->Nat}
theorem cq.live(s:cq F m w ld)(lo:∀i,t<=i->i<m->p<=ld i){L:List Nat}(hL:jC F m t p L){r:Nat}(hr:r∈L):r=t/\t<m/\ld t=p:=by
 obtain⟨h1,h2,h3⟩:=(hL.mem r).mp hr;have e:ld r=p:=Nat.le_antisymm (Nat.le_of_not_lt fun z=>h3 ((s.lead r h2).2.2 p z)) (lo r h1 h2)
 have h4:¬t<r:=fun z=>by
  have h5:=s.mono t r z h2;have h6:=lo t (Nat.le_refl _) (by omega);omega
 have h5:r=t:=by omega
 subst h5;exact⟨rfl,h2,e⟩
theorem cq.Ce(s:cq F m w ld)(lo:∀i,t<=i->i<m->p<=ld i){c:B3}(h:fC m t p ⟨F,units m,units m⟩ c):c=⟨F,units m,units m⟩:=by
 cases h with
 |refl=>rfl
 |head st _=>
  obtain⟨L,k,j,hL,_⟩:=st;have h1:=(s.live lo hL (r:=j) (by simp)).1;have h2:=(s.live lo hL (r:=k) (by simp)).1;have h3:=(List.nodup_append.mp hL.nd).2.1;rw[h1,h2]at h3;simp at h3
theorem cq.Ox(hF:cj m w F)(s:cq F m w ld)(lo:∀i,t<=i->i<m->p<=ld i){r:Nat}(hL:jC F m t p [r]):setB ⟨F,units m,units m⟩ p t r=⟨F,units m,units m⟩:=by
 obtain⟨rfl,ht,e⟩:=s.live lo hL (r:=r) (by simp);have h:=(s.lead r ht).2.1;rw[e]at h;unfold setB;rw[yx hF ht,yx (jE m) ht,if_neg (by show¬g F r p<0;omega)]
theorem cq.Jc(hF:cj m w F)(rd:uq F m ld)(ht:t<m)(e:ld t=p):∀k,k<=t->jf p t k ⟨F,units m,units m⟩=⟨F,units m,units m⟩
 |0,_=>rfl
 |k+1,hk=>by
  have ih:=cq.Jc hF rd ht e k (by omega);obtain⟨h1,h2⟩:=rd k t hk ht;rw[e]at h1 h2
  have hq:(g F k p).fdiv (g F t p)=0:=by
   rw[Int.fdiv_eq_ediv_of_nonneg _ (by omega)];exact Int.ediv_eq_zero_of_lt h1 h2
  unfold jf;rw[ih];show B3.mk (bT F k ((g F k p).fdiv (g F t p)) t) (bT (units m) k ((g F k p).fdiv (g F t p)) t) (bT (units m) t (-((g F k p).fdiv (g F t p))) k)=_;rw[hq,sH hF (by omega) ht rfl,sH (jE m) (by omega) ht rfl,sH (jE m) ht (by omega) (by decide)]
theorem ib.mW(hF:cj m w F)(s:cq F m w ld)(rd:uq F m ld){p t:Nat}{c:B3}(h:ib F m p t c):c=⟨F,units m,units m⟩/\t<=m/\(∀i,t<=i->i<m->p<=ld i):=by
 induction h with
 |start=>exact⟨rfl,Nat.zero_le _,fun _ _ _=>Nat.zero_le _⟩
 |next _ c ih=>
  obtain⟨rfl,h1,lo⟩:=ih;cases c with
  |none l=>
   refine⟨rfl,h1,fun i h3 h4=>?_⟩;have h5:=lo i h3 h4;refine Nat.lt_of_le_of_ne h5 fun z=>?_;have h6:=(s.lead i h4).2.1;rw[<-z]at h6;exact absurd ((l.mem i).mpr ⟨h3,h4,Int.ne_of_gt h6⟩) (by simp)
  |one g l=>
   have e:=s.Ce lo g;subst e;obtain⟨_,ht,e⟩:=s.live lo l (List.mem_singleton.mpr rfl);rw[s.Ox hF lo l,cq.Jc hF rd ht e _ (Nat.le_refl _)]
   exact⟨rfl,ht,fun i h3 h4=>by
    have:=s.mono _ i h3 h4;omega⟩
theorem Ab{N i c:Nat}(hi:i<N):(g (units N) i c).natAbs<=1:=by
 by_cases hc:c<N
 . rw[jM hi hc];unfold dl;split<;>decide
 . unfold g;rw[jX (l:=(units N).getD i []) (by rw[c5 (jE N) hi];omega)];decide
theorem Sm.BQ{z:Nat}(hb:gT F m 0 (2^z)):Sm ⟨F,units m,units m⟩ m (2^z):=fun i c hi=>
 ⟨hb i c (Nat.zero_le _) hi,Nat.le_trans (Ab hi) Nat.one_le_two_pow,Nat.le_trans (Ab hi) Nat.one_le_two_pow⟩
theorem ib.PX{z:Nat}(hF:cj m w F)(s:cq F m w ld)(rd:uq F m ld)(hb:gT F m 0 (2^z)){p t:Nat}{c:B3}(h:ib F m p t c):xG m p t z c:=by
 obtain⟨rfl,_,lo⟩:=h.mW hF s rd;refine⟨fun c h=>?_,fun c r k h l hk=>?_⟩
 . rw[s.Ce lo h];exact Sm.BQ hb
 . have e:=s.Ce lo h;subst e;obtain⟨_,ht,e⟩:=s.live lo l (List.mem_singleton.mpr rfl);rw[s.Ox hF lo l,cq.Jc hF rd ht e k hk];exact Sm.BQ hb
theorem ib.Qx{z:Nat}(hF:cj m w F)(s:cq F m w ld)(rd:uq F m ld)(hb:gT F m 0 (2^z)){t:Nat}{c:B3}(h:ib F m w t c):gg F m w c t w ld z z/\c.A.take t=F/\t=m:=by
 obtain⟨rfl,h1,lo⟩:=h.mW hF s rd
 have e:t=m:=Nat.le_antisymm h1 (Nat.le_of_not_lt fun z=>by
  have:=lo t (Nat.le_refl _) z;have:=(s.lead t z).1;omega)
 subst e;refine⟨⟨Tn.start hF,Nat.le_refl _,⟨fun i c h1 h2=>absurd h2 (by omega),fun i c h1 h2=>absurd h2 (by omega),fun i c h1 h2=>absurd h2 (by omega)⟩,fun i c hi=>Sm.BQ hb i c hi,fun i c h1 h2=>absurd h2 (by omega),s.lead,s.mono,rd⟩,?_,rfl⟩;show F.take t=F;rw[<-hF.len,List.take_length]
end
end Mx
namespace Prog
open PySem L2 L3
open PySem.Spec hiding items?
open PyProof.Rows hiding St
theorem hZ{i j:Int}(h1: -(2^64)<i)(h2:i<2^64):IntMulOk i j:= .of_left (intBits_le_64 h1 h2)
def Any(st:ag)(d:D):Prop:=∃t,ft st d=some t
structure Thing(st:ag)(d:D):Prop where
 any:Any st d
 aw:∀xs,items? st d=some xs->(∀x∈xs,Any st x)/\xs.length<=sizeLine
def isInt:D->Bool
 | .int _=>true
 |_=>false
theorem Ji{st:ag}{d:D}{t:String}(h:ft st d=some t):(t=="int")=isInt d:=by
 cases d<;>unfold ft at h<;>first|(cases h;done)|(cases h;rfl)|(simp only at h;split at h<;>first|(cases h;rfl)|cases h)
theorem G0{st:ag}{d:D}{t:String}(h:ft st d=some t):(t=="list"||t=="tuple")=(items? st d).isSome:=by
 cases d<;>unfold ft at h<;>first|(cases h;done)|(cases h;rfl)|(simp only at h;split at h<;>first|(cases h;rename_i q;rw[aJ q];rfl)|cases h)
def iq(st:ag)(d:D)(m:Int):Bool:=match items? st d with
 |some xs=>decide ((xs.length:Int)=m)&&xs.all isInt
 |none=>false
theorem wa{tg:fE}{te:DE}{ok:ag->Prop}{σc:cu}{st:ag}{K:List D->ag->Prop}{g:D->D}(aP:ok st):∀(xs acc:List D),(∀x∈xs,∀K',K' (g x) st->∃σ2,tg x σc=some σ2/\te σ2 st K')->K (acc++xs.map g) st->dB tg cH te ok σc xs acc st K
 | [],acc,_,h=>by unfold dB;exact⟨aP,by simpa using h⟩
 |x::xs,acc,hx,h=>by
  unfold dB;obtain⟨σ2,e,q⟩:=hx x List.mem_cons_self (fun y st2=>dB tg cH te ok σc xs (acc++[y]) st2 K) (wa aP xs (acc++[g x]) (fun y hy=>hx y (List.mem_cons_of_mem _ hy)) (by simpa using h));exact⟨aP,σ2,e,q⟩
theorem uJ{f:D->Bool}:∀xs:List D,iS (xs.map fun x=>D.bl (f x))=some (xs.map f)
 | []=>rfl
 |x::xs=>by simp[iS,uJ xs]
abbrev aG(r:List Int):List D:=r.map D.int
abbrev bL(r:List Int):D:= .tup (aG r)
abbrev bo(r:List Int):D:= .lst (aG r)
abbrev bI(A:List (List Int)):D:= .tup (A.map bL)
def bG(st:ag):List D->List (List Int)->Prop
 | [],[]=>True
 |d::ds,r::rs=>items? st d=some (aG r)/\bG st ds rs
 |_,_=>False
structure eP(st:ag)(d:D)(A:List (List Int)):Prop where
 ex:∃ds,items? st d=some ds/\bG st ds A
theorem bG.len{st:ag}:∀ {ds:List D} {A:List (List Int)},bG st ds A->ds.length=A.length
 | [],[],_=>rfl
 |_::_,_::_,h=>by simp[bG.len h.2]
theorem bG.tup{st:ag}:∀ {A:List (List Int)},bG st (A.map bL) A
 | []=>trivial
 |_::_=>⟨rfl,bG.tup⟩
theorem bG.lst{st:ag}:∀ {A:List (List Int)},bG st (A.map bo) A
 | []=>trivial
 |_::_=>⟨rfl,bG.lst⟩
theorem bG.get{st:ag}:∀ {ds:List D} {A:List (List Int)} {i:Nat} {d:D},bG st ds A->ds[i]?=some d->∃r,A[i]?=some r/\items? st d=some (aG r)
 |_::_,r::_,0,_,h,e=>by simp at e;subst e;exact⟨r,rfl,h.1⟩
 |_::_,_::_,i+1,d,h,e=>by
  obtain⟨r,e1,e2⟩:=bG.get (i:=i) (d:=d) h.2 (by simpa using e);exact⟨r,by simpa using e1,e2⟩
theorem dX{st:ag}{A:List (List Int)}:eP st (bI A) A:=⟨_,rfl,bG.tup⟩
structure Ext(st st':ag):Prop where
 len:st.length<=st'.length
 same:∀m,m<st.length->st'[m]?=st[m]?
theorem Ext.push{st:ag}{c:List Cell}:Ext st (st++c):=⟨by simp,fun m h=>List.getElem?_append_left h⟩
theorem Ext.set{st:ag}{n:Nat}{c:Cell}{st0:ag}(a:Ext st0 st)(h:st0.length<=n):Ext st0 (st.set n c):=⟨by rw[List.length_set];exact a.len,fun m hm=>by rw[List.getElem?_set_ne (by omega)];exact a.same m hm⟩
theorem Ext.items{st st':ag}{d:D}{xs:List D}(x:Ext st st')(e:items? st d=some xs):items? st' d=some xs:=by
 cases d with
 |ref n=>
  unfold items? at e⊢;simp only at e⊢;cases q:st[n]? with
  |none=>rw[q]at e;cases e
  |some c=>
   have hn:=(List.getElem?_eq_some_iff.mp q).1;rw[x.same n hn];exact e
 |_=>exact e
theorem jd{r:List Int}{k:Nat}(h:k<r.length):e8 (aG r) (k:Int)=some (.int (r.getD k 0)):=by
 refine i5 ?_;rw[List.getElem?_map,List.getElem?_eq_getElem h,Mx.aV h];rfl
theorem getD_mem{r:List Int}{k:Nat}(h:k<r.length):r.getD k 0∈r:=by rw[Mx.aV h];exact List.getElem_mem _
theorem bG.at{st:ag}{ds:List D}{A:List (List Int)}{k:Nat}(h:bG st ds A)(hk:k<A.length):∃d,e8 ds (k:Int)=some d/\items? st d=some (aG (A.getD k [])):=by
 have hl:=h.len;have e:ds[k]?=some ds[k]:=List.getElem?_eq_getElem (by omega);obtain⟨r,er,hr⟩:=h.get e;refine⟨ds[k],i5 e,?_⟩;rw[Mx.aV hk];rw[List.getElem?_eq_getElem hk]at er;cases er;exact hr
theorem ints_app{r:List Int}{x:Int}:aG r++[D.int x]=aG (r++[x]):=by simp[aG]
theorem Ij{A:List (List Int)}{r:List Int}:A.map bL++[bL r]=(A++[r]).map bL:=by simp
theorem pC{r s:List Int}{d:D}(h:d∈fW (aG r) (aG s)):∃a b,a∈r/\b∈s/\d= .tup [.int a,.int b]:=by
 obtain⟨n,hn,e⟩:=List.mem_iff_getElem.mp h;have e':(fW (aG r) (aG s))[n]?=some d:=by rw[List.getElem?_eq_getElem hn,e]
 obtain⟨x,y,ex,ey,rfl⟩:=wN e';rw[List.getElem?_map]at ex ey;cases q1:r[n]? with
 |none=>rw[q1]at ex;cases ex
 |some a=>
  cases q2:s[n]? with
  |none=>rw[q2]at ey;cases ey
  |some b=>
   rw[q1]at ex;rw[q2]at ey;cases ex;cases ey;exact⟨a,b,List.mem_of_getElem? q1,List.mem_of_getElem? q2,rfl⟩
theorem tK(n:Nat):(List.replicate n [D.int 0]).flatten=aG (List.replicate n 0):=by
 induction n with
 |zero=>rfl
 |succ n ih=>rw[List.replicate_succ,List.flatten_cons,ih];rfl
theorem zH:∀r:List Int,(aG r).map (fun x=>match x with| .int i=>i|_=>0)=r
 | []=>rfl
 |a::r=>by rw[aG,List.map_cons,List.map_cons,zH r]
theorem IF{d:D}{ds:List D}:e8 (d::ds) 0=some d:=i5 (j:=0) rfl
def intsOf(st:ag)(d:D):List Int:=match items? st d with
 |some xs=>xs.map fun x=>match x with| .int i=>i|_=>0
 |none=>[]
theorem qD{st:ag}{d:D}{r:List Int}(h:items? st d=some (aG r)):intsOf st d=r:=by
 unfold intsOf;rw[h];exact zH r
theorem zD{x y:D}{xs ys:List D}:fW (x::xs) (y::ys)= .tup [x,y]::fW xs ys:=rfl
theorem KL{n:Nat}{r:List Int}:(aG r).all (pl n)=true:=by
 refine List.all_eq_true.mpr fun d hd=>?_;obtain⟨i,_,rfl⟩:=List.mem_map.mp hd;cases n<;>rfl
def aK:Addr:=194
abbrev g7(b:Bool):Cell:=Cell.tab 174 ⟨97,32,97,66⟩ "Bench.live_rows.<locals>.<lambda>" b
abbrev Ny:List (Addr×Pos×Str):=[(174,⟨97,32,97,66⟩,"Bench.live_rows.<locals>.<lambda>")]
def qO:cw:=fun ds st K=>∃d,ds=[d]/\Any st d/\K (.bl (isInt d)) st
def nB:List Str:=["thing"]
def Dd:DS:=(a_ (jz (bY tx (af (ae 0) (af (dC (.ty "int")) ak))) (E6 (ba (bY tx (af (ae 0) (af (dC (.ty "bool")) ak)))))))
theorem CJ:∀ds st K,qO ds st K->ds.length=1/\Dd {nx:=fun _ st'=>K .aE st',rt:=K} (aU nB ds) st:=by
 rintro ds st K ⟨d,rfl,⟨t,ht⟩,k⟩;refine⟨rfl,?_⟩;rw[<-Ji ht]at k;have hm:=sE ht;refine A7 ht (by decide) ?_;simp only[o5,List.mem_cons,List.not_mem_nil,or_false]at hm;rcases hm with rfl|rfl|rfl|rfl|rfl|rfl
 . exact k
 . refine dM (A7 ht (by decide) ?_);exact k
 . refine dM (A7 ht (by decide) ?_);exact k
 . exact k
 . exact k
 . exact k
def km:cw:=fun ds st K=>∃d,ds=[d]/\Any st d/\K (.bl (items? st d).isSome) st
def nq:List Str:=["thing"]
def CP:DS:=(a_ (bY tx (af (ae 0) (af (ji (af (dC (.ty "list")) (af (dC (.ty "tuple")) ak))) ak))))
theorem Br:∀ds st K,km ds st K->ds.length=1/\CP {nx:=fun _ st'=>K .aE st',rt:=K} (aU nq ds) st:=by
 rintro ds st K ⟨d,rfl,⟨t,ht⟩,k⟩;refine⟨rfl,?_⟩;rw[<-G0 ht]at k;have hm:=sE ht;refine⟨Nat.le_of_ble_eq_true rfl,L0 ht rfl (by decide) ?_⟩;simp only[o5,List.mem_cons,List.not_mem_nil,or_false]at hm;rcases hm with rfl|rfl|rfl|rfl|rfl|rfl<;>exact k
def fX:cw:=fun ds st K=>∃d m,ds=[d,.int m]/\Any st d/\K (.bl (match items? st d with|some xs=>decide ((xs.length:Int)=m)|none=>false)) st
def j4:List Str:=["thing","many"]
def yE:DS:=(a_ (jz (aC km (af (ae 0) ak)) (av e9 (bY di (af (ae 0) ak)) (ae 1))))
theorem xB:∀ds st K,fX ds st K->ds.length=2/\yE {nx:=fun _ st'=>K .aE st',rt:=K} (aU j4 ds) st:=by
 rintro ds st K ⟨d,m,rfl,ha,k⟩;refine⟨rfl,?_⟩;cases e:items? st d with
 |none=>
  rw[e]at k;exact⟨d,rfl,ha,by rw[e];exact k⟩
 |some xs=>
  rw[e]at k;refine⟨d,rfl,ha,?_⟩;rw[e];refine dM (cN e (Bu ?_));exact k
def gw:cw:=fun ds st K=>∃d m,ds=[d,.int m]/\Thing st d/\K (.bl (iq st d m)) st
def kC:List Str:=["thing","many"]
def Ar:DS:=(a_ (jz (aC fX (af (ae 0) (af (ae 1) ak))) (bY qZ (af (dA (d9 (ae 0)) [none] (cB 0) cH (aC qO (af (ae 0) ak))) ak))))
theorem yT:∀ds st K,gw ds st K->ds.length=2/\Ar {nx:=fun _ st'=>K .aE st',rt:=K} (aU kC ds) st:=by
 rintro ds st K ⟨d,m,rfl,ha,k⟩;refine⟨rfl,?_⟩;refine⟨d,m,rfl,ha.any,?_⟩;unfold iq at k;cases e:items? st d with
 |none=>rw[e]at k;exact k
 |some xs=>
  rw[e]at k;obtain⟨h1,h2⟩:=ha.aw xs e;by_cases hl:(xs.length:Int)=m
  . simp only[hl,decide_true,Bool.true_and]at k⊢;rw[if_pos trivial];refine kv e fun ok aP=>?_;refine⟨h2,wa (g:=fun x=> .bl (isInt x)) aP xs [] (fun x hx K' q=>⟨_,rfl,⟨x,rfl,h1 x hx,q⟩⟩) ?_⟩;refine uR (uJ xs) ?_;simpa using k
  . simp only[hl,decide_false,Bool.false_and]at k⊢;exact k
def nP:cw:=fun ds st K=>∃(d:D) (A:List (List Int)),ds=[d]/\eP st d A/\A.length<=1000/\K (bI A) st
def qH:List Str:=["rows"]
def F8:DS:=(a_ (bY dU (af (dA (d9 (ae 0)) [none] (cB 0) cH (bY dU (af (ae 0) ak))) ak)))
theorem iH{tg:fE}{te:DE}{ok:ag->Prop}{σc:cu}{st:ag}{K:List D->ag->Prop}{ds:List D}{A:List (List Int)}(f:List Int->D)(aP:ok st)(hr:bG st ds A)(hx:∀d r,r∈A->items? st d=some (aG r)->∀K',K' (f r) st->∃σ2,tg d σc=some σ2/\te σ2 st K')(k:K (A.map f) st):dB tg cH te ok σc ds [] st K:=by
 refine kO (fun rest acc st'=>∃(A1 A2:List (List Int)),st=st'/\A1++A2=A/\bG st rest A2/\acc=A1.map f) ?_ ?_ _ _ _ ⟨[],A,rfl,rfl,hr,rfl⟩
 . rintro acc st' ⟨A1,A2,rfl,he,h,rfl⟩;match A2,h with
   | [],_=>
     rw[List.append_nil]at he;subst he;exact⟨aP,k⟩
 . rintro d rest acc st' ⟨A1,A2,rfl,he,h,rfl⟩ next
   match A2,h with
   |r::A2,h=>
    obtain⟨σ2,e2,q⟩:=hx d r (by rw[<-he];simp) h.1 (fun y st2=>dB tg cH te ok σc rest (A1.map f++[y]) st2 K) (next _ _ ⟨A1++[r],A2,rfl,by rw[<-he];simp,h.2,by simp⟩);exact⟨aP,σ2,e2,q⟩
theorem EU:∀ds st K,nP ds st K->ds.length=1/\F8 {nx:=fun _ st'=>K .aE st',rt:=K} (aU qH ds) st:=by
 rintro ds st K ⟨d,A,rfl,⟨da,hd,ra⟩,hl,k⟩;refine⟨rfl,?_⟩;refine kv hd fun ok aP=>⟨bS (by rw[ra.len];exact hl),?_⟩
 refine iH bL aP ra (fun e r hr he K' q=>⟨_,rfl,dw he q⟩) ?_;exact dw rfl k
def mT:cw:=fun ds st K=>∃x y t r s,ds=[x,.int t,y]/\items? st x=some (aG r)/\items? st y=some (aG s)/\r.length<=1000/\(∀b∈s,IntMulOk t b)/\K (bo (Mx.eH r t s)) st
def vw:List Str:=["row","times","other"]
def LD:DS:=(a_ (dA (qY (af (ae 0) (af (ae 2) ak))) [none,none,some 1] (g4 0 1) cH (av dm (ae 0) (av cZ (ae 2) (ae 1)))))
theorem qv{t:Int}:∀(r s:List Int),(fW (aG r) (aG s)).map (fun d=>match d with| .tup [.int a,.int b]=> .int (a+t*b)|_=> .aE)=aG (Mx.eH r t s)
 | [],_=>rfl
 |_::_,[]=>rfl
 |a::r,b::s=>by
  have:=qv (t:=t) r s;unfold fW Mx.eH at this⊢;simp only[aG,List.map_cons,List.zip_cons_cons,List.zipWith_cons_cons]at this⊢;rw[this]
theorem HB:∀ds st K,mT ds st K->ds.length=3/\LD {nx:=fun _ st'=>K .aE st',rt:=K} (aU vw ds) st:=by
 rintro ds st K ⟨x,y,t,r,s,rfl,hx,hy,hl,hm,k⟩;refine⟨rfl,?_⟩;refine nO hx hy fun ok aP=>⟨bS (by rw[mN];simp;omega),?_⟩
 refine comp_map (g:=fun d=>match d with| .tup [.int a,.int b]=> .int (a+t*b)|_=> .aE) (aP st hx hy) _ (fun d hd K' q=>?_) ?_
 . obtain⟨a,b,ha,hb,rfl⟩:=pC hd;exact⟨_,rfl,dW (hm b hb) (d6 q)⟩
 . rw[qv];exact k
def pP:cw:=fun ds st K=>∃(x y:D) (n:Nat) (ws:List Int) (A:List (List Int)),ds=[x,y,.int n]/\items? st x=some (aG ws)/\eP st y A/\(∀r∈A,r.length=n)/\n<=1000/\(∀w∈ws,∀r∈A,∀b∈r,IntMulOk w b)/\K (bL (Mx.dJ ws A (List.replicate n 0))) st
def sj:List Str:=["weights","rows","wide","total","weight","row"]
def IP:DS:=(aF (a8 3 (av cZ (sP (af (dC (.int 0)) ak)) (ae 2)))
 (aF (kh (qY (af (ae 0) (af (ae 1) ak))) (g4 4 5) (a8 3 (aC mT (af (ae 3) (af (ae 4) (af (ae 5) ak))))))
 (a_ (bY dU (af (ae 3) ak)))))
theorem GW:∀ds st K,pP ds st K->ds.length=3/\IP {nx:=fun _ st'=>K .aE st',rt:=K} (aU sj ds) st:=by
 rintro ds st K ⟨x,y,n,ws,A,rfl,hx,⟨dr,hy,hr⟩,hw,hn,hm,k⟩;refine⟨rfl,?_⟩;refine Ct (Nat.le_of_ble_eq_true rfl) (y8 ⟨by omega,by omega,bS (by simp;omega)⟩ ?_);rw[Int.toNat_natCast,tK];refine nO hx hy fun ok aP=>?_
 refine g_ (fun rest σ st'=>∃(v4 v5:Option D) (ws':List Int) (ds':List D) (A':List (List Int)) (acc:List Int),st=st'/\rest=fW (aG ws') ds'/\bG st ds' A'/\σ=[some x,some y,some (.int n),some (bo acc),v4,v5]/\acc.length=n/\(∀r∈A',r∈A)/\(∀w∈ws',w∈ws)/\Mx.dJ ws' A' acc=Mx.dJ ws A (List.replicate n 0)) ?_ ?_ _ _ _
  ⟨none,none,ws,dr,A,List.replicate n 0,rfl,rfl,hr,rfl,by simp,fun _ h=>h,fun _ h=>h,rfl⟩
 . rintro σ st1 ⟨v4,v5,ws',ds',A',acc,rfl,he,hr',rfl,hl,_,_,hs⟩;refine⟨aP _ hx hy,dw rfl ?_⟩
   have:Mx.dJ ws' A' acc=acc:=by
    match ws',ds',A',hr',he with
    | [],_,_,_,_=>unfold Mx.dJ;rfl
    |_::_,[],[],_,_=>unfold Mx.dJ;rfl
    |_::_,_::_,_::_,_,he=>cases he
   rw[this]at hs;rw[hs];exact k
 . rintro d rest σ st1 ⟨v4,v5,ws',ds',A',acc,rfl,he,hr',rfl,hl,ha,hw',hs⟩ next
   match ws',ds',A',hr',he with
   |w::ws',e::ds',r::A',hr',he=>
    simp only[aG,List.map_cons,zD,List.cons.injEq]at he;obtain⟨rfl,rfl⟩:=he;refine⟨aP _ hx hy,_,rfl,?_⟩;have hrl:=hw r (ha r List.mem_cons_self);refine⟨_,_,_,acc,r,rfl,rfl,hr'.1,by omega,fun b hb=>hm w (hw' w List.mem_cons_self) r (ha r List.mem_cons_self) b hb,?_⟩;refine next _ _ ⟨_,_,ws',ds',A',Mx.eH acc w r,rfl,rfl,hr'.2,rfl,by rw[Mx.jF (by omega)];exact hl,fun q hq=>ha q (List.mem_cons_of_mem _ hq),fun q hq=>hw' q (List.mem_cons_of_mem _ hq),?_⟩
    rw[<-hs];rfl
   | [],_,_,_,he=>cases he
   |_::_,[],[],_,he=>cases he
def qB:cw:=fun ds st K=>∃(x y:D) (n:Nat) (A B:List (List Int)),ds=[x,y]/\eP st x A/\eP st y B/\B≠ []/\(∀r∈B,r.length=n)/\n<=1000/\A.length<=1000/\(∀w∈A,∀c∈w,∀r∈B,∀b∈r,IntMulOk c b)/\K (bI (Mx.mulM A B n)) st
def qd:List Str:=["one","other","wide"]
def GR:DS:=(aF (a8 2 (bY di (af (av aX (ae 1) (dC (.int 0))) ak)))
 (a_ (bY dU (af (dA (d9 (ae 0)) [none,some 1,some 2] (cB 0) cH (aC pP (af (ae 0) (af (ae 1) (af (ae 2) ak))))) ak))))
theorem Bc{st:ag}{n:Nat}{B:List (List Int)}{f:D->D}:∀ {ds:List D} {A:List (List Int)},bG st ds A->(∀d r,items? st d=some (aG r)->f d=bL (Mx.dJ r B (List.replicate n 0)))->ds.map f=(Mx.mulM A B n).map bL
 | [],[],_,_=>rfl
 |d::ds,r::A,h,hf=>by
  rw[List.map_cons,hf d r h.1,Bc h.2 hf];rfl
theorem EM:∀ds st K,qB ds st K->ds.length=2/\GR {nx:=fun _ st'=>K .aE st',rt:=K} (aU qd ds) st:=by
 rintro ds st K ⟨x,y,n,A,B,rfl,⟨da,hx,ra⟩,hy,hB,hw,hn,hl,hm,k⟩;refine⟨rfl,?_⟩;obtain⟨db,ey,rb⟩:=hy.ex;match B,db,rb,hB,hw,hm,hy,k,ey with
 |r0::B,d0::db,rb,_,hw,hm,hy,k,ey=>
  have h0:r0.length=n:=hw r0 List.mem_cons_self;refine aD ey IF (cN rb.1 ?_);rw[List.length_map,h0];refine kv hx fun ok aP=>⟨bS (by rw[ra.len];exact hl),?_⟩
  refine comp_map (g:=fun d=>bL (Mx.dJ (intsOf st d) (r0::B) (List.replicate n 0))) aP da (fun d hd K' q=>?_) ?_
  . obtain⟨i,hi,ed⟩:=List.mem_iff_getElem.mp hd;obtain⟨r,er,hr⟩:=ra.get (i:=i) (d:=d) (by rw[List.getElem?_eq_getElem hi,ed]);refine⟨_,rfl,d,y,n,r,r0::B,rfl,hr,hy,hw,hn,fun c hc=>hm r (List.mem_of_getElem? er) c hc,?_⟩;rw[qD hr]at q;exact q
  . refine dw rfl ?_;rw[Bc ra (n:=n) (B:=r0::B) fun d r h=>by rw[qD h]];exact k
 |_::_,[],rb,_,_,_,_,_,_=>exact rb.elim
def wQ:cw:=fun ds st K=>∃(d:D) (A:List (List Int)) (j:Nat),ds=[d,.int j]/\eP st d A/\(∀r∈A,j<r.length)/\A.length<=1000/\K (bL (Mx.sq A j)) st
def sW:List Str:=["rows","place"]
def IG:DS:=(a_ (bY dU (af (dA (d9 (ae 0)) [none,some 1] (cB 0) cH (av aX (ae 0) (ae 1))) ak)))
theorem FG{tg:fE}{te:DE}{ok:ag->Prop}{σc:cu}{st:ag}{K:List D->ag->Prop}{ds:List D}{A:List (List Int)}(f:List Int->D)(aP:ok st)(hr:bG st ds A)(hx:∀d r,r∈A->items? st d=some (aG r)->∀K',K' (f r) st->∃σ2,tg d σc=some σ2/\te σ2 st K')(k:K (A.map f) st):dB tg cH te ok σc ds [] st K:=by
 refine kO (fun rest acc st'=>∃(A1 A2:List (List Int)),st=st'/\A1++A2=A/\bG st rest A2/\acc=A1.map f) ?_ ?_ _ _ _ ⟨[],A,rfl,rfl,hr,rfl⟩
 . rintro acc st' ⟨A1,A2,rfl,he,h,rfl⟩;match A2,h with
   | [],_=>
     rw[List.append_nil]at he;subst he;exact⟨aP,k⟩
 . rintro d rest acc st' ⟨A1,A2,rfl,he,h,rfl⟩ next
   match A2,h with
   |r::A2,h=>
    obtain⟨σ2,e2,q⟩:=hx d r (by rw[<-he];simp) h.1 (fun y st2=>dB tg cH te ok σc rest (A1.map f++[y]) st2 K) (next _ _ ⟨A1++[r],A2,rfl,by rw[<-he];simp,h.2,by simp⟩);exact⟨aP,σ2,e2,q⟩
theorem Fz(A:List (List Int))(j:Nat):A.map (fun r=>D.int (r.getD j 0))=aG (Mx.sq A j):=by unfold Mx.sq aG;rw[List.map_map];rfl
theorem Hk:∀ds st K,wQ ds st K->ds.length=2/\IG {nx:=fun _ st'=>K .aE st',rt:=K} (aU sW ds) st:=by
 rintro ds st K ⟨d,A,j,rfl,⟨da,hd,ra⟩,hj,hl,k⟩;refine⟨rfl,?_⟩;refine kv hd fun ok aP=>⟨bS (by rw[ra.len];exact hl),?_⟩
 refine FG (fun r=> .int (r.getD j 0)) aP ra (fun e r hr he K' q=>⟨_,rfl,aD he (jd (hj r hr)) q⟩) ?_;rw[Fz];exact dw rfl k
def om:cw:=fun ds st K=>∃(d:D) (A:List (List Int)) (n:Nat),ds=[d,.int n]/\eP st d A/\(∀r∈A,r.length=n)/\A.length<=1000/\n<=1000/\K (bI (Mx.mx A n)) st
def kL:List Str:=["rows","wide"]
def Au:DS:=(a_ (bY dU (af (dA (ip (af (ae 1) ak)) [none,some 0] (cB 0) cH (aC wQ (af (ae 1) (af (ae 0) ak)))) ak)))
theorem Jm(A:List (List Int))(n:Nat):(List.range n).map (fun j=>bL (Mx.sq A j))=(Mx.mx A n).map bL:=by unfold Mx.mx;rw[List.map_map];rfl
theorem za:∀ds st K,om ds st K->ds.length=2/\Au {nx:=fun _ st'=>K .aE st',rt:=K} (aU kL ds) st:=by
 rintro ds st K ⟨d,A,n,rfl,hd,hw,hl,hn,k⟩;refine⟨rfl,?_⟩;refine lj ⟨by omega,by omega⟩ ⟨bS (by rw[j_];omega),?_⟩;rw[Int.toNat_natCast];refine tD (fun j=>bL (Mx.sq A j)) n (fun i hi K' q=>⟨_,rfl,d,A,i,rfl,hd,fun r hr=>by rw[hw r hr];exact hi,hl,q⟩) ?_;rw[Jm];exact dw rfl k
def sO:cw:=fun ds st K=>∃(n i:Nat),ds=[.int n,.int i]/\n<=1000/\K (bL (Mx.lP n i)) st
def oC:List Str:=["n","place"]
def EL:DS:=(a_ (bY dU (af (dA (ip (af (ae 0) ak)) [none,some 1] (cB 0) cH (OZ (ba (av e9 (ae 0) (ae 1))) (dC (.int 1)) (dC (.int 0)))) ak)))
theorem De:∀ds st K,sO ds st K->ds.length=2/\EL {nx:=fun _ st'=>K .aE st',rt:=K} (aU oC ds) st:=by
 rintro ds st K ⟨n,i,rfl,hn,k⟩;refine⟨rfl,?_⟩;refine lj ⟨by omega,by omega⟩ ⟨bS (by rw[j_];omega),?_⟩;rw[Int.toNat_natCast];refine tD (fun j=> .int (Mx.dl j i)) n (fun j hj K' q=>⟨_,rfl,?_⟩) ?_
 . refine eq2 (fun h=>dM ?_) fun h=>?_
   . have:j=i:=by omega
     subst this;rw[Mx.fk]at q;exact q
   . rw[Mx.fH (by omega)]at q;exact q
 . have:(List.range n).map (fun j=>D.int (Mx.dl j i))=aG (Mx.lP n i):=by unfold Mx.lP aG;rw[List.map_map];rfl
   rw[this];exact dw rfl k
def kr:cw:=fun ds st K=>∃(n:Nat),ds=[.int n]/\n<=1000/\K (bI (Mx.units n)) st
def nA:List Str:=["n"]
def Dc:DS:=(a_ (bY dU (af (dA (ip (af (ae 0) ak)) [none,some 0] (cB 0) cH (aC sO (af (ae 1) (af (ae 0) ak)))) ak)))
theorem Cq:∀ds st K,kr ds st K->ds.length=1/\Dc {nx:=fun _ st'=>K .aE st',rt:=K} (aU nA ds) st:=by
 rintro ds st K ⟨n,rfl,hn,k⟩;refine⟨rfl,?_⟩;refine lj ⟨by omega,by omega⟩ ⟨bS (by rw[j_];omega),?_⟩;rw[Int.toNat_natCast];refine tD (fun i=>bL (Mx.lP n i)) n (fun i hi K' q=>⟨_,rfl,n,i,rfl,hn,q⟩) ?_;have:(List.range n).map (fun i=>bL (Mx.lP n i))=(Mx.units n).map bL:=by unfold Mx.units;rw[List.map_map];rfl
 rw[this];exact dw rfl k
theorem DJ{w m:Nat}:(List.replicate m [D.tup (List.replicate w [D.int 0]).flatten]).flatten=(List.replicate m (List.replicate w (0:Int))).map bL:=by
 rw[tK];induction m with
 |zero=>rfl
 |succ m ih=>rw[List.replicate_succ,List.replicate_succ,List.flatten_cons,List.map_cons,ih];rfl
def o_(m w:Nat):List (List Int):=List.replicate m (List.replicate w 0)
def ou:cw:=fun ds st K=>∃(i:Int) (w:Nat),ds=[.int i,.int w]/\ -1000<=i/\i<=1000/\w<=1000/\K (bI (o_ i.toNat w)) st
def kJ:List Str:=["many","wide"]
def An:DS:=(a_ (av cZ (ji (af (av cZ (ji (af (dC (.int 0)) ak)) (ae 1)) ak)) (ae 0)))
theorem yJ:∀ds st K,ou ds st K->ds.length=2/\An {nx:=fun _ st'=>K .aE st',rt:=K} (aU kJ ds) st:=by
 rintro ds st K ⟨i,w,rfl,h1,h2,hw,k⟩;refine⟨rfl,?_⟩;refine Ct (Nat.le_of_ble_eq_true rfl) (vi ⟨by omega,by omega,bS (by simp;omega)⟩ ?_);rw[Int.toNat_natCast];refine Ct (Nat.le_of_ble_eq_true rfl) (vi ⟨by omega,by omega,bS (by simp;omega)⟩ ?_);rw[DJ];exact k
structure pM(st:ag)(d:D):Prop where
 any:Any st d
 aw:∀xs,items? st d=some xs->(∀x∈xs,Thing st x)/\xs.length<=sizeLine
def rK(n:Nat)(m:D):Bool:=match m with
 | .int i=>decide ((n:Int)=i)
 |_=>true
def dR(st:ag)(d m:D)(w:Int):Bool:=match items? st d with
 |some xs=>rK xs.length m&&xs.all fun r=>iq st r w
 |none=>false
def la:cw:=fun ds st K=>∃d m w,ds=[d,m,.int w]/\pM st d/\(m= .aE\/∃i,m= .int i)/\K (.bl (dR st d m w)) st
def nX:List Str:=["thing","many","wide"]
def F4:DS:=(aF (cY (jx (ba (aC km (af (ae 0) ak)))) (a_ (dC (.bl false))) cK)
 (aF (cY (l_ (ba (av nD (ae 1) (dC .aE))) (ba (av pX (bY di (af (ae 0) ak)) (ae 1)))) (a_ (dC (.bl false))) cK)
 (a_ (bY qZ (af (dA (d9 (ae 0)) [none,some 2] (cB 0) cH (aC gw (af (ae 0) (af (ae 1) ak)))) ak)))))
theorem Dg{st:ag}{d m:D}{w:Int}(e:items? st d=none):dR st d m w=false:=by unfold dR;rw[e]
theorem Dh{st:ag}{d m:D}{w:Int}{xs:List D}(e:items? st d=some xs):dR st d m w=(rK xs.length m&&xs.all fun r=>iq st r w):=by unfold dR;rw[e]
theorem EN:∀ds st K,la ds st K->ds.length=3/\F4 {nx:=fun _ st'=>K .aE st',rt:=K} (aU nX ds) st:=by
 rintro ds st K ⟨d,m,w,rfl,hd,hm,k⟩;refine⟨rfl,?_⟩;refine⟨d,rfl,hd.any,?_⟩;cases e:items? st d with
 |none=>rw[Dg e]at k;exact k
 |some xs=>
  rw[Dh e]at k;obtain⟨h1,h2⟩:=hd.aw xs e
  have fin:rK xs.length m=true->a_ (bY qZ (af (dA (d9 (ae 0)) [none,some 2] (cB 0) cH (aC gw (af (ae 0) (af (ae 1) ak)))) ak)) {nx:=fun _ st'=>K .aE st',rt:=K} (aU nX [d,m,.int w]) st:=by
   intro hk;rw[hk,Bool.true_and]at k;refine kv e fun ok aP=>⟨h2,comp_map (g:=fun r=> .bl (iq st r w)) aP xs (fun x hx K' q=>⟨_,rfl,x,w,rfl,h1 x hx,q⟩) ?_⟩
   refine uR (uJ xs) ?_;simpa using k
  rcases hm with rfl|⟨i,rfl⟩
  . exact xm rfl (fin rfl)
  . refine xm rfl (cN e (ne2 (fun h=>?_) fun h=>?_))
    . have:rK xs.length (.int i)=false:=decide_eq_false h;rw[this]at k;exact k
    . exact fin (decide_eq_true h)
theorem Ik{a:Int}{m:Nat}(h:a.natAbs<2^m):Builtin.Int.intBits a<=m:=by
 unfold Builtin.Int.intBits;by_cases h0:a.natAbs=0
 . have:a=0:=by omega
   subst this;simp
 . have:=(Nat.log2_lt h0).mpr h;split<;>omega
theorem dD{a b:Int}{m n:Nat}(ha:a.natAbs<=2^m)(hb:b.natAbs<=2^n)(h:m+n<=130000000):IntMulOk a b:=by
 have q:∀ {x:Int} {k:Nat},x.natAbs<=2^k->Builtin.Int.intBits x<=k+1:=fun{x k} h=>Ik (Nat.lt_of_le_of_lt h (Nat.pow_lt_pow_right (by decide) (Nat.lt_succ_self k)));have h1:=q ha;have h2:=q hb;have e:(2:Nat)^27=134217728:=by decide
 have z:Builtin.Int.intTooBig (Builtin.Int.intBits a+Builtin.Int.intBits b)=false:=by
  unfold Builtin.Int.intTooBig bitsLine;exact decide_eq_false (by omega)
 unfold IntMulOk;rw[z];simp
theorem vj{n:Nat}{r:List Int}:pl (n+1) (bL r)=true:=by
 unfold pl;exact KL
theorem gL{n:Nat}{A:List (List Int)}:pl (n+2) (bI A)=true:=by
 unfold pl;refine List.all_eq_true.mpr fun d hd=>?_;obtain⟨r,_,rfl⟩:=List.mem_map.mp hd;exact vj
theorem zA:∀(r s:List Int),gc (aG r) (aG s)=decide (r=s)
 | [],[]=>by unfold gc;rfl
 | [],_::_=>by unfold gc;rfl
 |_::_,[]=>by unfold gc;rfl
 |a::r,b::s=>by
  have ih:=zA r s;unfold aG at ih⊢;rw[List.map_cons,List.map_cons];unfold gc;rw[ih];unfold c9;by_cases h1:a=b
  . subst h1;simp
  . have:(a==b)=false:=by simpa using h1
    rw[this,Bool.false_and];exact(decide_eq_false fun h=>h1 (List.cons.inj h).1).symm
theorem zX:∀(A B:List (List Int)),gc (A.map bL) (B.map bL)=decide (A=B)
 | [],[]=>by unfold gc;rfl
 | [],_::_=>by unfold gc;rfl
 |_::_,[]=>by unfold gc;rfl
 |a::r,b::s=>by
  have ih:=zX r s;rw[List.map_cons,List.map_cons];unfold gc;rw[ih];unfold bL c9;rw[zA];by_cases h1:a=b
  . subst h1;simp
  . rw[decide_eq_false h1,Bool.false_and];exact(decide_eq_false fun h=>h1 (List.cons.inj h).1).symm
theorem p_(A B:List (List Int)):c9 (bI A) (bI B)=decide (A=B):=by
 unfold bI c9;exact zX A B
def rowsOf(st:ag)(d:D):List (List Int):=match items? st d with
 |some xs=>xs.map (intsOf st)
 |none=>[]
theorem all_ints:∀ {xs:List D},xs.all isInt=true->xs=aG (xs.map fun x=>match x with| .int i=>i|_=>0)
 | [],_=>rfl
 |x::xs,h=>by
  rw[List.all_cons,Bool.and_eq_true]at h;have ih:=all_ints h.2;cases x<;>first|(cases h.1;done)|skip
  rename_i i;show D.int i::xs=D.int i::_;rw[<-aG,<-ih]
theorem mB{st:ag}{r:D}{w:Int}(h:iq st r w=true):items? st r=some (aG (intsOf st r))/\((intsOf st r).length:Int)=w:=by
 unfold iq at h;cases e:items? st r with
 |none=>rw[e]at h;cases h
 |some xs=>
  rw[e]at h;simp only[Bool.and_eq_true,decide_eq_true_eq]at h;have e2:=all_ints h.2;have e3:=qD (e.trans (congrArg some e2));rw[e3];exact⟨congrArg some e2,by rw[List.length_map];exact h.1⟩
theorem sR{st:ag}{w:Int}:∀ {xs:List D},(xs.all fun r=>iq st r w)=true->bG st xs (xs.map (intsOf st))
 | [],_=>trivial
 |x::xs,h=>by
  rw[List.all_cons,Bool.and_eq_true]at h;exact⟨(mB h.1).1,sR h.2⟩
theorem qJ{st:ag}{d:D}{n:Nat}(h:dR st d (.int n) n=true):eP st d (rowsOf st d)/\Mx.cj n n (rowsOf st d):=by
 unfold dR at h;cases e:items? st d with
 |none=>rw[e]at h;cases h
 |some xs=>
  rw[e]at h;simp only[Bool.and_eq_true]at h;have e1:rowsOf st d=xs.map (intsOf st):=by unfold rowsOf;rw[e]
  rw[e1];refine⟨⟨xs,e,sR h.2⟩,⟨?_,fun r hr=>?_⟩⟩
  . have:((xs.length:Int)=(n:Int)):=of_decide_eq_true h.1;rw[List.length_map];omega
  . obtain⟨x,hx,rfl⟩:=List.mem_map.mp hr;have:=(mB (List.all_eq_true.mp h.2 x hx)).2;omega
structure uF(st:ag)(d:D):Prop where
 le:∀xs,items? st d=some xs->xs.length<=1000
 sm:∀xs,items? st d=some xs->∀x∈xs,∀ys,items? st x=some ys->∀i,D.int i∈ys->i.natAbs<=2^65000000
theorem uF.rows{st:ag}{d m:D}{w:Int}(h:uF st d)(hr:dR st d m w=true):∀r∈rowsOf st d,∀c∈r,c.natAbs<=2^65000000:=fun r hr1 c hc=>by
 unfold dR at hr;cases e:items? st d with
 |none=>rw[e]at hr;cases hr
 |some xs=>
  rw[e]at hr;simp only[Bool.and_eq_true]at hr;have e1:rowsOf st d=xs.map (intsOf st):=by unfold rowsOf;rw[e]
  rw[e1]at hr1;obtain⟨x,hx,rfl⟩:=List.mem_map.mp hr1;have e2:=(mB (List.all_eq_true.mp hr.2 x hx)).1;exact h.sm xs e x hx _ e2 c (List.mem_map.mpr ⟨c,hc,rfl⟩)
theorem C6{st:ag}{d:D}{w:Nat}(h:dR st d .aE w=true):eP st d (rowsOf st d)/\(∀r∈rowsOf st d,r.length=w)/\∃xs,items? st d=some xs/\xs.length=(rowsOf st d).length:=by
 unfold dR at h;cases e:items? st d with
 |none=>rw[e]at h;cases h
 |some xs=>
  rw[e]at h;simp only[Bool.and_eq_true]at h;have e1:rowsOf st d=xs.map (intsOf st):=by unfold rowsOf;rw[e]
  rw[e1];refine⟨⟨xs,e,sR h.2⟩,fun r hr=>?_,xs,rfl,by rw[List.length_map]⟩;obtain⟨x,hx,rfl⟩:=List.mem_map.mp hr;have:=(mB (List.all_eq_true.mp h.2 x hx)).2;omega
def JZ(st:ag)(x y:D)(n:Nat):Bool:=dR st y (.int n) n&&decide (Mx.mulM (rowsOf st x) (rowsOf st y) n=Mx.units n)
def sh:cw:=fun ds st K=>∃(x y:D) (n:Nat),ds=[x,y]/\pM st x/\pM st y/\uF st x/\uF st y/\dR st x (.int n) n=true/\1<=n/\n<=1000/\K (.bl (JZ st x y n)) st
def oX:List Str:=["turn","back","many"]
def ED:DS:=(aF (cY (jx (ba (aC km (af (ae 0) ak)))) (a_ (dC (.bl false))) cK)
 (aF (a8 2 (bY di (af (ae 0) ak)))
 (aF (cY (qL (jx (ba (aC la (af (ae 0) (af (ae 2) (af (ae 2) ak)))))) (jx (ba (aC la (af (ae 1) (af (ae 2) (af (ae 2) ak))))))) (a_ (dC (.bl false))) cK)
 (a_ (Je (av e9 (ae 2) (dC (.int 0))) (av e9 (aC qB (af (ae 0) (af (ae 1) ak))) (aC kr (af (ae 2) ak))))))))
theorem C4:∀ds st K,sh ds st K->ds.length=2/\ED {nx:=fun _ st'=>K .aE st',rt:=K} (aU oX ds) st:=by
 rintro ds st K ⟨x,y,n,rfl,hx,hy,sx,sy,e1,hn1,hn,k⟩;refine⟨rfl,?_⟩;obtain⟨R1,M1⟩:=qJ e1;obtain⟨xs,e,rx⟩:=R1.ex;have l1:=M1.len;have lx:xs.length=n:=by rw[rx.len];exact l1
 refine⟨x,rfl,hx.any,?_⟩;rw[e];refine cN e ?_;rw[lx];refine⟨x,_,_,rfl,hx,Or.inr ⟨_,rfl⟩,?_⟩;rw[e1];refine⟨y,_,_,rfl,hy,Or.inr ⟨_,rfl⟩,?_⟩;unfold JZ at k;cases e2:dR st y (.int n) n with
 |false=>rw[e2]at k;exact k
 |true=>
  rw[e2]at k;obtain⟨R2,M2⟩:=qJ e2;have l2:=M2.len;refine rN (by omega) ?_;have hB:rowsOf st y≠ []:=fun z=>by rw[z]at l2;simp at l2;omega
  have b1:=sx.rows e1;have b2:=sy.rows e2;refine⟨x,y,n,_,_,rfl,R1,R2,hB,M2.fx,hn,by omega,fun w hw c hc r hr b hb=>dD (b1 w hw c hc) (b2 r hr b hb) (by decide),?_⟩;refine⟨n,rfl,hn,?_⟩;refine kK gL gL ?_;rw[p_];exact k
def DU(st:ag)(x y:D)(n:Nat):Bool:=dR st x (.int n) n&&JZ st x y n
def pF:cw:=fun ds st K=>∃(x y:D) (n:Nat),ds=[x,y,.int n]/\pM st x/\pM st y/\uF st x/\uF st y/\1<=n/\n<=1000/\K (.bl (DU st x y n)) st
def mr:List Str:=["turn","back","many"]
def Cu:DS:=(a_ (jz (aC la (af (ae 0) (af (ae 2) (af (ae 2) ak)))) (aC sh (af (ae 0) (af (ae 1) ak)))))
theorem Ah:∀ds st K,pF ds st K->ds.length=3/\Cu {nx:=fun _ st'=>K .aE st',rt:=K} (aU mr ds) st:=by
 rintro ds st K ⟨x,y,n,rfl,hx,hy,sx,sy,hn1,hn,k⟩;refine⟨rfl,?_⟩;refine⟨x,_,_,rfl,hx,Or.inr ⟨_,rfl⟩,?_⟩;unfold DU at k;cases e1:dR st x (.int n) n with
 |false=>rw[e1]at k;exact k
 |true=>
  rw[e1]at k;exact⟨x,y,n,rfl,hx,hy,sx,sy,e1,hn1,hn,k⟩
def g6:List Int->Nat->Option Nat
 | [],_=>none
 |x::xs,i=>if x=0 then g6 xs (i+1)else some i
def iX(r:List Int):Option Nat:=g6 r 0
def gB(r:List Int):D:=match iX r with
 |some k=> .int (k:Int)
 |none=> .aE
def iz:cw:=fun ds st K=>∃(d:D) (r:List Int),ds=[d]/\items? st d=some (aG r)/\K (gB r) st
def qz:List Str:=["row","place","number"]
def F2:DS:=(aF (kh (AF (af (ae 0) ak)) (g4 1 2) (cY (ba (av pX (ae 2) (dC (.int 0)))) (a_ (ae 1)) cK))
 (a_ (dC .aE)))
theorem Ec:∀ds st K,iz ds st K->ds.length=1/\F2 {nx:=fun _ st'=>K .aE st',rt:=K} (aU qz ds) st:=by
 rintro ds st K ⟨d,r,rfl,hd,k⟩;refine⟨rfl,?_⟩;refine Dm hd fun ok aP=>?_;refine g_ (fun rest σ st'=>st'=st/\∃(v1 v2:Option D) (s:List Int) (i:Nat),σ=[some d,v1,v2]/\rest=gH i (aG s)/\g6 r 0=g6 s i) ?_ ?_ _ _ _ ⟨rfl,none,none,r,0,rfl,rfl,rfl⟩
 . rintro σ st' ⟨rfl,v1,v2,s,i,rfl,hr,hl⟩;match s,hr with
   | [],_=>
     refine⟨aP _ hd,?_⟩;have:gB r= .aE:=by unfold gB iX;rw[hl];rfl
     rw[this]at k;exact k
 . rintro x rest σ st' ⟨rfl,v1,v2,s,i,rfl,hr,hl⟩ next
   match s,hr,hl with
   |y::s,hr,hl=>
    simp only[aG,List.map_cons,gH,List.cons.injEq]at hr;obtain⟨rfl,rfl⟩:=hr;refine⟨aP _ hd,_,rfl,?_⟩;refine ne2 (fun h=>dM ?_) fun h=>?_
    . have:gB r= .int (i:Int):=by unfold gB iX;rw[hl];unfold g6;rw[if_neg h]
      rw[this]at k;exact k
    . refine next _ _ ⟨rfl,_,_,s,i+1,rfl,rfl,?_⟩
      rw[hl];unfold g6;rw[if_pos h];cases s<;>rfl
   | [],hr,_=>cases hr
def fB:List (List Int)->Int->List (List Int)->Bool
 |_,_,[]=>true
 |done,ahead,r::rest=>match iX r with
  |none=>false
  |some l=>if(l:Int)<=ahead\/r.getD l 0<0 then false else if(done.all fun a=>decide (0<=a.getD l 0)&&decide (a.getD l 0<r.getD l 0))=true then fB (done++[r]) l rest else false
theorem r8(done:List (List Int))(ahead:Int)(r:List Int)(rest:List (List Int)):fB done ahead (r::rest)=match iX r with
 |none=>false
 |some l=>if(l:Int)<=ahead\/r.getD l 0<0 then false else if(done.all fun a=>decide (0<=a.getD l 0)&&decide (a.getD l 0<r.getD l 0))=true then fB (done++[r]) l rest else false:=rfl
theorem xI{g:List Int->Bool}:∀A:List (List Int),iS (A.map fun x=>D.bl (g x))=some (A.map g)
 | []=>rfl
 |x::xs=>by simp[iS,xI xs]
theorem Bz:∀ {r:List Int} {i k:Nat},g6 r i=some k->i<=k/\k<i+r.length
 | [],_,_,h=>by cases h
 |x::r,i,k,h=>by
  unfold g6 at h;split at h
  . have:=Bz h;simp only[List.length_cons];omega
  . cases h;simp only[List.length_cons];omega
theorem FP{r:List Int}{k:Nat}(h:iX r=some k):k<r.length:=by
 have:=Bz (show g6 r 0=some k from h);omega
theorem M7{d:D}{xs:List D}{lo hi:Option Int}{st:ag}{K:DK}(h:items? st d=some xs)(k:∀d',items? st d'=some (L3.cutD xs lo hi)->K d' st):ku d lo hi st K:=by
 cases d<;>try(cases h;done)
 . rename_i n;exact zw (ui h) (k _ rfl)
 . cases h;exact zy (k _ rfl)
 . cases h;exact k_ (k _ rfl)
theorem bG.take{st:ag}:∀ {ds:List D} {A:List (List Int)} (k:Nat),bG st ds A->bG st (ds.take k) (A.take k)
 |_,_,0,_=>by simp[bG]
 | [],[],_+1,_=>trivial
 |_::_,_::_,k+1,h=>⟨h.1,bG.take k h.2⟩
theorem EW{tg:fE}{te:DE}{ok:ag->Prop}{σc:cu}{st:ag}{K:List D->ag->Prop}{ds:List D}{A:List (List Int)}(f:List Int->D)(aP:ok st)(hr:bG st ds A)(hx:∀d r,r∈A->items? st d=some (aG r)->∀K',K' (f r) st->∃σ2,tg d σc=some σ2/\te σ2 st K')(k:K (A.map f) st):dB tg cH te ok σc ds [] st K:=by
 refine kO (fun rest acc st'=>∃(A1 A2:List (List Int)),st=st'/\A1++A2=A/\bG st rest A2/\acc=A1.map f) ?_ ?_ _ _ _ ⟨[],A,rfl,rfl,hr,rfl⟩
 . rintro acc st' ⟨A1,A2,rfl,he,h,rfl⟩;match A2,h with
   | [],_=>
     rw[List.append_nil]at he;subst he;exact⟨aP,k⟩
 . rintro d rest acc st' ⟨A1,A2,rfl,he,h,rfl⟩ next
   match A2,h with
   |r::A2,h=>
    obtain⟨σ2,e2,q⟩:=hx d r (by rw[<-he];simp) h.1 (fun y st2=>dB tg cH te ok σc rest (A1.map f++[y]) st2 K) (next _ _ ⟨A1++[r],A2,rfl,by rw[<-he];simp,h.2,by simp⟩);exact⟨aP,σ2,e2,q⟩
theorem Et{st:ag}:∀ {ds:List D} {A:List (List Int)} {i:Nat},bG st ds A->∀ {x:D} {rest:List D},gH i ds=x::rest->∃d r ds' A',ds=d::ds'/\A=r::A'/\x= .tup [.int (i:Int),d]/\rest=gH (i+1) ds'/\items? st d=some (aG r)/\bG st ds' A'
 | [],[],_,_,_,_,e=>by unfold gH at e;cases e
 |d::ds,r::A,i,h,x,rest,e=>by
  unfold gH at e;rw[List.cons.injEq]at e;exact⟨d,r,ds,A,rfl,rfl,e.1.symm,e.2.symm,h.1,h.2⟩
theorem wM:∀(r:List Int) (i l:Nat),(∀c,c<l->r.getD c 0=0)->r.getD l 0≠0->g6 r i=some (i+l)
 | [],_,_,_,h=>(h rfl).elim
 |x::r,i,0,_,h=>by
  unfold g6;rw[if_neg (show¬x=0 from h)];rfl
 |x::r,i,l+1,hz,h=>by
  unfold g6;rw[if_pos (show x=0 from hz 0 (Nat.zero_lt_succ _)),wM r (i+1) l (fun c hc=>hz (c+1) (Nat.succ_lt_succ hc)) h,Nat.add_right_comm];rfl
theorem yr:∀(r:List Int) (i:Nat),g6 r i=none->∀c,r.getD c 0=0
 | [],_,_,_=>rfl
 |x::r,i,h,c=>by
  unfold g6 at h;split at h
  . cases c with
    |zero=>assumption
    |succ c=>exact yr r (i+1) h c
  . cases h
theorem FD{r:List Int}{l:Nat}(h:∀c,c<l->r.getD c 0=0)(h':r.getD l 0≠0):iX r=some l:=by
 have:=wM r 0 l h h';rw[Nat.zero_add]at this;exact this
def oi:cw:=fun ds st K=>∃(d:D) (A:List (List Int)) (w:Nat),ds=[d]/\eP st d A/\(∀r∈A,r.length=w)/\A.length<=1000/\K (.bl (fB [] (-1) A)) st
def kB:List Str:=["rows","ahead","k","row","lead"]
def Af:DS:=(aF (a8 1 (mG ir (dC (.int 1))))
 (aF (kh (AF (af (ae 0) ak)) (g4 2 3) (aF (a8 4 (aC iz (af (ae 3) ak)))
 (aF (cY (qL (ba (av BX (ae 4) (dC .aE))) (qL (ba (av DQ (ae 4) (ae 1))) (ba (av oA (av aX (ae 3) (ae 4)) (dC (.int 0)))))) (a_ (dC (.bl false))) cK)
 (aF (cY (jx (ba (bY qZ (af (dA (d9 (kq (ae 0) i9 (m_ (ae 2)))) [none,some 4,some 3] (cB 0) cH (yc DQ oA (dC (.int 0)) (av aX (ae 0) (ae 1)) (av aX (ae 2) (ae 1)))) ak)))) (a_ (dC (.bl false))) cK)
 (a8 1 (ae 4))))))
 (a_ (dC (.bl true)))))
theorem yS:∀ds st K,oi ds st K->ds.length=1/\Af {nx:=fun _ st'=>K .aE st',rt:=K} (aU kB ds) st:=by
 rintro ds st K ⟨d,A,w,rfl,⟨da,hd,ra⟩,hw,hl,k⟩;refine⟨rfl,?_⟩;have hla:=ra.len;refine gI ?_;refine Dm hd fun ok aP=>?_;refine g_ (fun rest σ st'=>st'=st/\∃(v2 v3 v4:Option D) (ahead:Int) (A1 A2:List (List Int)) (ds2:List D),σ=[some d,some (.int ahead),v2,v3,v4]/\A=A1++A2/\bG st ds2 A2/\rest=gH A1.length ds2/\fB [] (-1) A=fB A1 ahead A2) ?_ ?_ _ _ _ ⟨rfl,none,none,none,-1,[],A,da,rfl,rfl,ra,rfl,rfl⟩
 . rintro σ st' ⟨rfl,v2,v3,v4,ahead,A1,A2,ds2,rfl,hA,r2,hr,hs⟩;refine⟨aP _ hd,?_⟩;match ds2,A2,r2,hr with
   | [],[],_,_=>
     rw[hs]at k;exact k
 . rintro x rest σ st' ⟨rfl,v2,v3,v4,ahead,A1,A2,ds2,rfl,hA,r2,hr,hs⟩ next
   obtain⟨e,r,ds3,A3,rfl,rfl,rfl,rfl,he,r3⟩:=Et r2 hr.symm;refine⟨aP _ hd,_,rfl,?_⟩;refine⟨e,r,rfl,he,?_⟩;rw[r8]at hs;have hrw:r.length=w:=hw r (by rw[hA];simp);cases el:iX r with
   |none=>
    have:gB r= .aE:=by unfold gB;rw[el]
    rw[this];rw[el]at hs;refine xh rfl (dM ?_);rw[hs]at k;exact k
   |some l=>
    have e1:gB r= .int (l:Int):=by unfold gB;rw[el]
    rw[e1];rw[el]at hs;have hlr:=FP el;refine xh rfl ?_;refine Jo ?_;by_cases h1:(l:Int)<=ahead
    . rw[decide_eq_true h1];simp only[if_pos (show(l:Int)<=ahead\/r.getD l 0<0 from .inl h1)]at hs;rw[hs]at k;exact k
    . rw[decide_eq_false h1];refine aD he (jd hlr) (yb ?_);by_cases h2:r.getD l 0<0
      . rw[decide_eq_true h2];simp only[if_pos (show(l:Int)<=ahead\/r.getD l 0<0 from .inr h2)]at hs;rw[hs]at k;exact k
      . rw[decide_eq_false h2];simp only[if_neg (show¬((l:Int)<=ahead\/r.getD l 0<0)from fun h=>h.elim h1 h2)]at hs;refine M7 hd fun d' hd'=>kv hd' fun ok2 hok2=>?_
        have ec:L3.cutD da none (some (A1.length:Int))=da.take A1.length:=by
         unfold L3.cutD;rw[HT.yP,HT.wB,List.drop_zero,Nat.sub_zero];congr 1;rw[hla,hA,List.length_append];omega
        have rr:bG st' (L3.cutD da none (some (A1.length:Int))) A1:=by
         have:=bG.take A1.length ra;rw[hA,List.take_left']at this
         . rw[ec];exact this
         . rfl
        refine⟨bS (by rw[rr.len];rw[hA]at hl;simp at hl;omega),?_⟩;refine EW (fun a=> .bl (decide (0<=a.getD l 0)&&decide (a.getD l 0<r.getD l 0))) hok2 rr (fun y a ha hy K' q=>⟨_,rfl,?_⟩) ?_
        . have hal:l<a.length:=by rw[hw a (by rw[hA];exact List.mem_append_left _ ha),<-hrw];exact hlr
          refine aD hy (jd hal) (Jo ?_);by_cases h3:0<=a.getD l 0
          . rw[decide_eq_true h3]at q⊢;exact aD he (jd hlr) (yb (by simpa using q))
          . rw[decide_eq_false h3]at q⊢;exact q
        . refine uR (xI A1) ?_;have ea:(A1.map fun a=>decide (0<=a.getD l 0)&&decide (a.getD l 0<r.getD l 0)).all id=A1.all fun a=>decide (0<=a.getD l 0)&&decide (a.getD l 0<r.getD l 0):=by rw[List.all_map];rfl
          rw[ea];cases e4:(A1.all fun a=>decide (0<=a.getD l 0)&&decide (a.getD l 0<r.getD l 0))with
          |false=>
           rw[e4]at hs;rw[hs]at k;exact k
          |true=>
           rw[e4]at hs;exact next _ _ ⟨rfl,_,_,_,(l:Int),A1++[r],A3,ds3,rfl,by rw[hA];simp,r3,by simp,hs⟩
def jK:cw:=fun ds st K=>∃(t d:Int),ds=[.int t,.int d]/\d≠0/\K (.int (Mx.qn t d)) st
def gG:List Str:=["top","bottom"]
def uV:DS:=(a_ (av nQ (av dm (av cZ (dC (.int 2)) (ae 0)) (ae 1)) (av cZ (dC (.int 2)) (ae 1))))
theorem t9:∀ds st K,jK ds st K->ds.length=2/\uV {nx:=fun _ st'=>K .aE st',rt:=K} (aU gG ds) st:=by
 rintro ds st K ⟨t,d,rfl,hd,k⟩;exact⟨rfl,dW (hZ (by decide) (by decide)) (d6 (dW (hZ (by decide) (by decide)) (mR (by omega) k)))⟩
def ki:cw:=fun ds st K=>∃(n k o:Nat) (A:List (List Int)),ds=[.ref n,.int k,.int o]/\st[n]?=some (.lst (A.map bo))/\k<A.length/\o<A.length/\K (.ref st.length) (st++[.lst ((Mx.bZ A k o).map bo)])
def nF:List Str:=["rows","k","other","order"]
def C8:DS:=(aF (a8 3 (bY uX (af (ae 0) ak)))
 (aF (eO (ae 3) (ae 1) (av aX (ae 0) (ae 2)))
 (aF (eO (ae 3) (ae 2) (av aX (ae 0) (ae 1)))
 (a_ (ae 3)))))
theorem d_{A:List (List Int)}{j:Nat}(h:j<A.length):e8 (A.map bo) (j:Int)=some (bo (A.getD j [])):=by
 refine i5 ?_;rw[List.getElem?_map,List.getElem?_eq_getElem h,Mx.aV h];rfl
theorem nY{m k:Nat}(h:k<m):mH m (k:Int)=some k:=by
 have:=uQ (i:=(k:Int)) (m:=m) (by omega) (by omega);rw[Int.toNat_natCast]at this;exact this
theorem jc{A:List (List Int)}{k:Nat}{r:List Int}:(A.map bo).set k (bo r)=(A.set k r).map bo:=by rw[List.map_set]
theorem BH:∀ds st K,ki ds st K->ds.length=3/\C8 {nx:=fun _ st'=>K .aE st',rt:=K} (aU nF ds) st:=by
 rintro ds st K ⟨n,k,o,A,rfl,e,hk,ho,kk⟩;refine⟨rfl,?_⟩;have hn:n<st.length:=(List.getElem?_eq_some_iff.mp e).1;refine Ja (aJ e) ?_;have e1:(st++[Cell.lst (A.map bo)])[n]?=some (.lst (A.map bo)):=by rw[List.getElem?_append_left hn];exact e
 have e2:(st++[Cell.lst (A.map bo)])[st.length]?=some (.lst (A.map bo)):=by simp
 refine aD (aJ e1) (d_ ho) (gf e2 (by rw[List.length_map];exact nY hk) ?_);rw[jc]
 have es:(st++[Cell.lst (A.map bo)]).set st.length (.lst ((A.set k (A.getD o [])).map bo))=st++[Cell.lst ((A.set k (A.getD o [])).map bo)]:=by
  rw[List.set_append_right _ _ (Nat.le_refl _),Nat.sub_self];rfl
 rw[es];have e3:(st++[Cell.lst ((A.set k (A.getD o [])).map bo)])[n]?=some (.lst (A.map bo)):=by rw[List.getElem?_append_left hn];exact e
 have e4:(st++[Cell.lst ((A.set k (A.getD o [])).map bo)])[st.length]?=some (.lst ((A.set k (A.getD o [])).map bo)):=by simp
 refine aD (aJ e3) (d_ hk) (gf e4 (by rw[List.length_map,List.length_set];exact nY ho) ?_);rw[jc]
 have es2:(st++[Cell.lst ((A.set k (A.getD o [])).map bo)]).set st.length (.lst (((A.set k (A.getD o [])).set o (A.getD k [])).map bo))=st++[Cell.lst ((Mx.bZ A k o).map bo)]:=by
  rw[List.set_append_right _ _ (Nat.le_refl _),Nat.sub_self];rfl
 rw[es2];exact kk
def nW:cw:=fun ds st K=>∃(d:D) (r:List Int),ds=[d]/\items? st d=some (aG r)/\r.length<=1000/\K (bo (r.map fun x=> -x)) st
def qu:List Str:=["row"]
def F3:DS:=(a_ (dA (d9 (ae 0)) [none] (cB 0) cH (mG ir (ae 0))))
theorem Ey:∀ds st K,nW ds st K->ds.length=1/\F3 {nx:=fun _ st'=>K .aE st',rt:=K} (aU qu ds) st:=by
 rintro ds st K ⟨d,r,rfl,hd,hl,k⟩;refine⟨rfl,?_⟩;refine kv hd fun ok aP=>⟨bS (by unfold aG;rw[List.length_map];exact hl),?_⟩
 refine comp_map (g:=fun x=>match x with| .int a=> .int (-a)|_=> .aE) aP _ (fun x hx K' q=>?_) ?_
 . unfold aG at hx;obtain⟨a,_,rfl⟩:=List.mem_map.mp hx;exact⟨_,rfl,gI q⟩
 . have e:(aG r).map (fun x=>match x with| .int a=> .int (-a)|_=> .aE)=aG (r.map fun x=> -x):=by unfold aG;rw[List.map_map,List.map_map];rfl
   rw[e];exact k
structure Bn(st:ag)(b xb xu xc:Nat)(A U C:List (List Int)):Prop where
 eb:st[b]?=some (Cell.ins aK [("body",.ref xb),("turn",.ref xu),("back_columns",.ref xc)])
 e1:st[xb]?=some (Cell.lst (A.map bo))
 e2:st[xu]?=some (Cell.lst (U.map bo))
 e3:st[xc]?=some (Cell.lst (C.map bo))
 n1:xb≠xu
 n2:xb≠xc
 n3:xu≠xc
theorem mm{st:ag}{b x:Nat}{C:Addr}{fs:List (Str×D)}{xs:List D}(h1:st[b]?=some (Cell.ins C fs))(h2:st[x]?=some (Cell.lst xs)):b≠x:=fun z=>by rw[z,h2]at h1;cases h1
def kR:cw:=fun ds st K=>∃(b N:Nat) (d:D) (A:List (List Int)),ds=[.ref b,d]/\st[b]?=some (.ins aK [])/\eP st d A/\A.length=N/\N<=8/\∀st',Bn st' b st.length (st.length+1) (st.length+2) A (Mx.units N) (Mx.units N)->st'.length=st.length+3->(∀m,m<st.length->m≠b->st'[m]?=st[m]?)->K .aE st'
def iQ:List Str:=["self","rows"]
def wz:DS:=(aF (qt aK "body" (ae 0) (nL (d9 (ae 1)) [none] (cB 0) cH (bY nk (af (ae 0) ak))))
 (aF (qt aK "turn" (ae 0) (nL (d9 (aC kr (af (bY di (af (ae 1) ak)) ak))) [none] (cB 0) cH (bY nk (af (ae 0) ak))))
 (qt aK "back_columns" (ae 0) (nL (d9 (aC kr (af (bY di (af (ae 1) ak)) ak))) [none] (cB 0) cH (bY nk (af (ae 0) ak))))))
theorem tI(f:Str)(v:D):∀fs:List (Str×D),(putD f v fs).length<=fs.length+1
 | []=>by simp[putD]
 |(g,x)::r=>by
  unfold putD;split
  . simp
  . have:=tI f v r;simp only[List.length_cons];omega
theorem Bw{st:ag}{A:List (List Int)}:bG st (A.map bL) A:=bG.tup
theorem zL(n:Nat):(Mx.units n).length=n:=by unfold Mx.units;simp
theorem vL:∀ds st K,kR ds st K->ds.length=2/\wz {nx:=fun _ st'=>K .aE st',rt:=K} (aU iQ ds) st:=by
 rintro ds st K ⟨b,N,d,A,rfl,eb,hA,hl,hN,k⟩;refine⟨rfl,?_⟩;have hb:b<st.length:=(List.getElem?_eq_some_iff.mp eb).1;obtain⟨da,hd,ra⟩:=hA.ex;have hdl:=ra.len;have lst:∀(e:D) (r:List Int),True:=fun _ _=>trivial;refine kv hd fun ok aP=>⟨bS (by omega),?_⟩
 refine iH bo aP ra (fun e r hr he K' q=>⟨_,rfl,oZ he q⟩) ?_;have eb1:(st++[Cell.lst (A.map bo)])[b]?=some (.ins aK []):=by rw[List.getElem?_append_left hb];exact eb
 refine o3 eb1 (by decide) ?_;generalize hs1:(st++[Cell.lst (A.map bo)]).set b (.ins aK (putD "body" (.ref st.length) []))=st1;have l1:st1.length=st.length+1:=by rw[<-hs1];simp
 have f1:∀m,m<st.length->m≠b->st1[m]?=st[m]?:=fun m hm hmb=>by rw[<-hs1,List.getElem?_set_ne (Ne.symm hmb),List.getElem?_append_left hm]
 have b1:st1[b]?=some (.ins aK (putD "body" (.ref st.length) [])):=by rw[<-hs1,List.getElem?_set_self (by simp;omega)]
 have x1:st1[st.length]?=some (.lst (A.map bo)):=by rw[<-hs1,List.getElem?_set_ne (by omega)];simp
 clear hs1
 have itd:∃da',items? st1 d=some da'/\da'.length=N:=by
  cases d with
  |ref n=>
   by_cases hnb:n=b
   . subst hnb;unfold items? at hd;simp only[eb]at hd;cases hd
   . have hn:n<st.length:=by
      unfold items? at hd;simp only at hd;cases q:st[n]? with
      |none=>rw[q]at hd;cases hd
      |some c=>exact(List.getElem?_eq_some_iff.mp q).1
     refine⟨da,?_,by omega⟩;unfold items? at hd⊢;simp only at hd⊢;rw[f1 n hn hnb];exact hd
  |_=>exact⟨da,hd,by omega⟩
 obtain⟨da1,hd1,hdl1⟩:=itd;refine cN hd1 ?_;rw[hdl1];refine⟨N,rfl,by omega,?_⟩;refine j0 ⟨bS (by rw[List.length_map,zL];omega),?_⟩;refine iH bo trivial Bw (fun e r hr he K' q=>⟨_,rfl,oZ he q⟩) ?_;have b2:(st1++[Cell.lst ((Mx.units N).map bo)])[b]?=some (.ins aK (putD "body" (.ref st.length) [])):=by rw[List.getElem?_append_left (by omega)];exact b1
 refine o3 b2 (by have:=tI "body" (.ref st.length) [];simp only[List.length_nil]at this;omega) ?_;generalize hs2:(st1++[Cell.lst ((Mx.units N).map bo)]).set b (.ins aK (putD "turn" (.ref st1.length) (putD "body" (.ref st.length) [])))=st2;have l2:st2.length=st.length+2:=by rw[<-hs2];simp;omega
 have f2:∀m,m<st1.length->m≠b->st2[m]?=st1[m]?:=fun m hm hmb=>by rw[<-hs2,List.getElem?_set_ne (Ne.symm hmb),List.getElem?_append_left hm]
 have b2':st2[b]?=some (.ins aK (putD "turn" (.ref st1.length) (putD "body" (.ref st.length) []))):=by rw[<-hs2,List.getElem?_set_self (by simp;omega)]
 have x2:st2[st1.length]?=some (.lst ((Mx.units N).map bo)):=by rw[<-hs2,List.getElem?_set_ne (by omega)];simp
 clear hs2
 have itd2:items? st2 d=some da1:=by
  cases d with
  |ref n=>
   by_cases hnb:n=b
   . subst hnb;unfold items? at hd1;simp only[b1]at hd1;cases hd1
   . have hn:n<st1.length:=by
      unfold items? at hd1;simp only at hd1;cases q:st1[n]? with
      |none=>rw[q]at hd1;cases hd1
      |some c=>exact(List.getElem?_eq_some_iff.mp q).1
     unfold items? at hd1⊢;simp only at hd1⊢;rw[f2 n hn hnb];exact hd1
  |_=>exact hd1
 refine cN itd2 ?_;rw[hdl1];refine⟨N,rfl,by omega,?_⟩;refine j0 ⟨bS (by rw[List.length_map,zL];omega),?_⟩;refine iH bo trivial Bw (fun e r hr he K' q=>⟨_,rfl,oZ he q⟩) ?_;have b3:(st2++[Cell.lst ((Mx.units N).map bo)])[b]?=some (.ins aK (putD "turn" (.ref st1.length) (putD "body" (.ref st.length) []))):=by rw[List.getElem?_append_left (by omega)];exact b2'
 refine o3 b3 (by have h1:=tI "body" (.ref st.length) [];have h2:=tI "turn" (.ref st1.length) (putD "body" (.ref st.length) []);simp only[List.length_nil]at h1;omega) ?_;refine k _ ⟨?_,?_,?_,?_,by omega,by omega,by omega⟩ (by simp;omega) fun m hm hmb=>?_
 . rw[List.getElem?_set_self (by simp;omega),l1,l2];rfl
 . rw[List.getElem?_set_ne (by omega),List.getElem?_append_left (by omega),f2 _ (by omega) (by omega)];exact x1
 . rw[List.getElem?_set_ne (by omega),List.getElem?_append_left (by omega)];rw[l1]at x2;exact x2
 . rw[List.getElem?_set_ne (by omega)];rw[show st.length+2=st2.length by omega];simp
 . rw[List.getElem?_set_ne (Ne.symm hmb),List.getElem?_append_left (by omega),f2 m (by omega) hmb,f1 m hm hmb]
def lT:cw:=fun ds st K=>∃(b xb xu xc N w k j:Nat) (A U C:List (List Int)) (q:Int),ds=[.ref b,.int k,.int q,.int j]/\Bn st b xb xu xc A U C/\Mx.cj N w A/\Mx.cj N N U/\Mx.cj N N C/\k<N/\j<N/\N<=8/\w<=9/\(∀x∈A.getD j [],IntMulOk (-q) x)/\(∀x∈U.getD j [],IntMulOk (-q) x)/\(∀x∈C.getD k [],IntMulOk q x)/\
 ∀st',Bn st' b xb xu xc (Mx.bT A k q j) (Mx.bT U k q j) (Mx.bT C j (-q) k)->st'.length=st.length->(∀m,m≠xb->m≠xu->m≠xc->st'[m]?=st[m]?)->K .aE st'
def mz:List Str:=["self","k","times","other"]
def Cj:DS:=(aF (eO (eK aK "body" (ae 0)) (ae 1) (aC mT (af (av aX (eK aK "body" (ae 0)) (ae 1)) (af (mG ir (ae 2)) (af (av aX (eK aK "body" (ae 0)) (ae 3)) ak)))))
 (aF (eO (eK aK "turn" (ae 0)) (ae 1) (aC mT (af (av aX (eK aK "turn" (ae 0)) (ae 1)) (af (mG ir (ae 2)) (af (av aX (eK aK "turn" (ae 0)) (ae 3)) ak)))))
 (eO (eK aK "back_columns" (ae 0)) (ae 3) (aC mT (af (av aX (eK aK "back_columns" (ae 0)) (ae 3)) (af (ae 2) (af (av aX (eK aK "back_columns" (ae 0)) (ae 1)) ak)))))))
theorem Av:∀ds st K,lT ds st K->ds.length=4/\Cj {nx:=fun _ st'=>K .aE st',rt:=K} (aU mz ds) st:=by
 rintro ds st K ⟨b,xb,xu,xc,N,w,k,j,A,U,C,q,rfl,B,hA,hU,hC,hk,hj,hN,hw,mA,mU,mC,kk⟩;refine⟨rfl,?_⟩;have lA:=hA.len;have lU:=hU.len;have lC:=hC.len;have rA:=Mx.c5 hA hk;have rU:=Mx.c5 hU hk;have rC:=Mx.c5 hC hj;have bx1:=mm B.eb B.e1;have bx2:=mm B.eb B.e2;have bx3:=mm B.eb B.e3;have n1:=B.n1;have n2:=B.n2;have n3:=B.n3;refine c7 B.eb rfl (aD (aJ B.e1) (d_ (by omega)) (gI (c7 B.eb rfl (aD (aJ B.e1) (d_ (by omega)) ?_))));refine⟨_,_,-q,A.getD k [],A.getD j [],rfl,rfl,rfl,by omega,mA,?_⟩;refine c7 B.eb rfl (gf B.e1 (by rw[List.length_map,lA];exact nY hk) ?_);rw[jc];have g1:∀m,m≠xb->(st.set xb (.lst ((A.set k (Mx.eH (A.getD k []) (-q) (A.getD j []))).map bo)))[m]?=st[m]?:=fun m hm=>List.getElem?_set_ne (Ne.symm hm);have h1:(st.set xb (.lst ((A.set k (Mx.eH (A.getD k []) (-q) (A.getD j []))).map bo)))[xb]?=some (.lst ((Mx.bT A k q j).map bo)):=List.getElem?_set_self (List.getElem?_eq_some_iff.mp B.e1).1;have z1:(st.set xb (.lst ((A.set k (Mx.eH (A.getD k []) (-q) (A.getD j []))).map bo))).length=st.length:=List.length_set;generalize st.set xb (.lst ((A.set k (Mx.eH (A.getD k []) (-q) (A.getD j []))).map bo))=st1 at g1 h1 z1⊢;have eb1:=(g1 b bx1).trans B.eb;have e21:=(g1 xu (Ne.symm n1)).trans B.e2;have e31:=(g1 xc (Ne.symm n2)).trans B.e3;refine c7 eb1 rfl (aD (aJ e21) (d_ (by omega)) (gI (c7 eb1 rfl (aD (aJ e21) (d_ (by omega)) ?_))));refine⟨_,_,-q,U.getD k [],U.getD j [],rfl,rfl,rfl,by omega,mU,?_⟩;refine c7 eb1 rfl (gf e21 (by rw[List.length_map,lU];exact nY hk) ?_);rw[jc];have g2:∀m,m≠xu->(st1.set xu (.lst ((U.set k (Mx.eH (U.getD k []) (-q) (U.getD j []))).map bo)))[m]?=st1[m]?:=fun m hm=>List.getElem?_set_ne (Ne.symm hm);have h2:(st1.set xu (.lst ((U.set k (Mx.eH (U.getD k []) (-q) (U.getD j []))).map bo)))[xu]?=some (.lst ((Mx.bT U k q j).map bo)):=List.getElem?_set_self (List.getElem?_eq_some_iff.mp e21).1;have z2:(st1.set xu (.lst ((U.set k (Mx.eH (U.getD k []) (-q) (U.getD j []))).map bo))).length=st1.length:=List.length_set;generalize st1.set xu (.lst ((U.set k (Mx.eH (U.getD k []) (-q) (U.getD j []))).map bo))=st2 at g2 h2 z2⊢;have eb2:=(g2 b bx2).trans eb1;have e32:=(g2 xc (Ne.symm n3)).trans e31;refine c7 eb2 rfl (aD (aJ e32) (d_ (by omega)) (c7 eb2 rfl (aD (aJ e32) (d_ (by omega)) ?_)));refine⟨_,_,q,C.getD j [],C.getD k [],rfl,rfl,rfl,by omega,mC,?_⟩;refine c7 eb2 rfl (gf e32 (by rw[List.length_map,lC];exact nY hj) ?_);rw[jc];have hc:C.set j (Mx.eH (C.getD j []) q (C.getD k []))=Mx.bT C j (-q) k:=by unfold Mx.bT;rw[Int.neg_neg]
 rw[hc];refine kk _ ⟨?_,?_,?_,?_,n1,n2,n3⟩ (by rw[List.length_set];omega) fun m m1 m2 m3=>?_
 . rw[List.getElem?_set_ne (Ne.symm bx3)];exact eb2
 . rw[List.getElem?_set_ne (Ne.symm n2),g2 _ n1];exact h1
 . rw[List.getElem?_set_ne (Ne.symm n3)];exact h2
 . exact List.getElem?_set_self (List.getElem?_eq_some_iff.mp e32).1
 . rw[List.getElem?_set_ne (Ne.symm m3),g2 m m2,g1 m m1]
def kU:cw:=fun ds st K=>∃(b xb xu xc N w k o:Nat) (A U C:List (List Int)),ds=[.ref b,.int k,.int o]/\Bn st b xb xu xc A U C/\Mx.cj N w A/\Mx.cj N N U/\Mx.cj N N C/\k<N/\o<N/\
 ∀st',Bn st' b st.length (st.length+1) (st.length+2) (Mx.bZ A k o) (Mx.bZ U k o) (Mx.bZ C k o)->st'.length=st.length+3->(∀m,m<st.length->m≠b->st'[m]?=st[m]?)->K .aE st'
def iR:List Str:=["self","k","other"]
def wY:DS:=(aF (qt aK "body" (ae 0) (aC ki (af (eK aK "body" (ae 0)) (af (ae 1) (af (ae 2) ak)))))
 (aF (qt aK "turn" (ae 0) (aC ki (af (eK aK "turn" (ae 0)) (af (ae 1) (af (ae 2) ak)))))
 (qt aK "back_columns" (ae 0) (aC ki (af (eK aK "back_columns" (ae 0)) (af (ae 1) (af (ae 2) ak)))))))
theorem vK:∀ds st K,kU ds st K->ds.length=3/\wY {nx:=fun _ st'=>K .aE st',rt:=K} (aU iR ds) st:=by
 rintro ds st K ⟨b,xb,xu,xc,N,w,k,o,A,U,C,rfl,B,hA,hU,hC,hk,ho,kk⟩;refine⟨rfl,?_⟩;have lA:=hA.len;have lU:=hU.len;have lC:=hC.len;have bx1:=mm B.eb B.e1;have bx2:=mm B.eb B.e2;have bx3:=mm B.eb B.e3;have hb:b<st.length:=(List.getElem?_eq_some_iff.mp B.eb).1;have hu:xu<st.length:=(List.getElem?_eq_some_iff.mp B.e2).1;have hc:xc<st.length:=(List.getElem?_eq_some_iff.mp B.e3).1;refine c7 B.eb rfl ?_;refine⟨xb,k,o,A,rfl,B.e1,by omega,by omega,?_⟩;have eb1:(st++[Cell.lst ((Mx.bZ A k o).map bo)])[b]?=some (.ins aK [("body",.ref xb),("turn",.ref xu),("back_columns",.ref xc)]):=by rw[List.getElem?_append_left hb];exact B.eb
 refine o3 eb1 (by simp) ?_;have pb:putD "body" (.ref st.length) [("body",.ref xb),("turn",.ref xu),("back_columns",.ref xc)]=([("body",.ref st.length),("turn",.ref xu),("back_columns",.ref xc)]:List (Str×D)):=rfl;rw[pb];generalize hs1:(st++[Cell.lst ((Mx.bZ A k o).map bo)]).set b (.ins aK [("body",.ref st.length),("turn",.ref xu),("back_columns",.ref xc)])=st1;have l1:st1.length=st.length+1:=by rw[<-hs1];simp
 have f1:∀m,m<st.length->m≠b->st1[m]?=st[m]?:=fun m hm hmb=>by rw[<-hs1,List.getElem?_set_ne (Ne.symm hmb),List.getElem?_append_left hm]
 have b1:st1[b]?=some (.ins aK [("body",.ref st.length),("turn",.ref xu),("back_columns",.ref xc)]):=by rw[<-hs1,List.getElem?_set_self (by simp;omega)]
 have x1:st1[st.length]?=some (.lst ((Mx.bZ A k o).map bo)):=by rw[<-hs1,List.getElem?_set_ne (by omega)];simp
 clear hs1 eb1;refine c7 b1 rfl ?_;refine⟨xu,k,o,U,rfl,(f1 xu hu (Ne.symm bx2)).trans B.e2,by omega,by omega,?_⟩;have eb1:(st1++[Cell.lst ((Mx.bZ U k o).map bo)])[b]?=some (.ins aK [("body",.ref st.length),("turn",.ref xu),("back_columns",.ref xc)]):=by rw[List.getElem?_append_left (by omega)];exact b1
 refine o3 eb1 (by simp) ?_;have pb:putD "turn" (.ref st1.length) [("body",.ref st.length),("turn",.ref xu),("back_columns",.ref xc)]=([("body",.ref st.length),("turn",.ref st1.length),("back_columns",.ref xc)]:List (Str×D)):=rfl;rw[pb];generalize hs2:(st1++[Cell.lst ((Mx.bZ U k o).map bo)]).set b (.ins aK [("body",.ref st.length),("turn",.ref st1.length),("back_columns",.ref xc)])=st2;have l2:st2.length=st.length+2:=by rw[<-hs2];simp;omega
 have f2:∀m,m<st1.length->m≠b->st2[m]?=st1[m]?:=fun m hm hmb=>by rw[<-hs2,List.getElem?_set_ne (Ne.symm hmb),List.getElem?_append_left hm]
 have b2:st2[b]?=some (.ins aK [("body",.ref st.length),("turn",.ref st1.length),("back_columns",.ref xc)]):=by rw[<-hs2,List.getElem?_set_self (by simp;omega)]
 have x2:st2[st1.length]?=some (.lst ((Mx.bZ U k o).map bo)):=by rw[<-hs2,List.getElem?_set_ne (by omega)];simp
 clear hs2 eb1;refine c7 b2 rfl ?_;refine⟨xc,k,o,C,rfl,((f2 xc (by omega) (Ne.symm bx3)).trans (f1 xc hc (Ne.symm bx3))).trans B.e3,by omega,by omega,?_⟩;have eb1:(st2++[Cell.lst ((Mx.bZ C k o).map bo)])[b]?=some (.ins aK [("body",.ref st.length),("turn",.ref st1.length),("back_columns",.ref xc)]):=by rw[List.getElem?_append_left (by omega)];exact b2
 refine o3 eb1 (by simp) ?_;have pb:putD "back_columns" (.ref st2.length) [("body",.ref st.length),("turn",.ref st1.length),("back_columns",.ref xc)]=([("body",.ref st.length),("turn",.ref st1.length),("back_columns",.ref st2.length)]:List (Str×D)):=rfl;rw[pb];refine kk _ ⟨?_,?_,?_,?_,by omega,by omega,by omega⟩ (by simp;omega) fun m hm hmb=>?_
 . rw[List.getElem?_set_self (by simp;omega),l1,l2]
 . rw[List.getElem?_set_ne (by omega),List.getElem?_append_left (by omega),f2 _ (by omega) (by omega)];exact x1
 . rw[List.getElem?_set_ne (by omega),List.getElem?_append_left (by omega)];rw[l1]at x2;exact x2
 . rw[List.getElem?_set_ne (by omega)];rw[show st.length+2=st2.length by omega];simp
 . rw[List.getElem?_set_ne (Ne.symm hmb),List.getElem?_append_left (by omega),f2 m (by omega) hmb,f1 m hm hmb]
def jo:cw:=fun ds st K=>∃(b xb xu xc N w k:Nat) (A U C:List (List Int)),ds=[.ref b,.int k]/\Bn st b xb xu xc A U C/\Mx.cj N w A/\Mx.cj N N U/\Mx.cj N N C/\k<N/\N<=8/\w<=9/\
 ∀st',Bn st' b xb xu xc (Mx.ie A k) (Mx.ie U k) (Mx.ie C k)->st'.length=st.length->(∀m,m≠xb->m≠xu->m≠xc->st'[m]?=st[m]?)->K .aE st'
def gn:List Str:=["self","k"]
def tY:DS:=(aF (eO (eK aK "body" (ae 0)) (ae 1) (aC nW (af (av aX (eK aK "body" (ae 0)) (ae 1)) ak)))
 (aF (eO (eK aK "turn" (ae 0)) (ae 1) (aC nW (af (av aX (eK aK "turn" (ae 0)) (ae 1)) ak)))
 (eO (eK aK "back_columns" (ae 0)) (ae 1) (aC nW (af (av aX (eK aK "back_columns" (ae 0)) (ae 1)) ak)))))
theorem sF:∀ds st K,jo ds st K->ds.length=2/\tY {nx:=fun _ st'=>K .aE st',rt:=K} (aU gn ds) st:=by
 rintro ds st K ⟨b,xb,xu,xc,N,w,k,A,U,C,rfl,B,hA,hU,hC,hk,hN,hw,kk⟩;refine⟨rfl,?_⟩;have lA:=hA.len;have lU:=hU.len;have lC:=hC.len;have rA:=Mx.c5 hA hk;have rU:=Mx.c5 hU hk;have rC:=Mx.c5 hC hk;have bx1:=mm B.eb B.e1;have bx2:=mm B.eb B.e2;have bx3:=mm B.eb B.e3;have n1:=B.n1;have n2:=B.n2;have n3:=B.n3;refine c7 B.eb rfl (aD (aJ B.e1) (d_ (by omega)) ?_);refine⟨_,A.getD k [],rfl,rfl,by omega,?_⟩;refine c7 B.eb rfl (gf B.e1 (by rw[List.length_map,lA];exact nY hk) ?_);rw[jc];have g1:∀m,m≠xb->(st.set xb (.lst ((A.set k ((A.getD k []).map fun x=> -x)).map bo)))[m]?=st[m]?:=fun m hm=>List.getElem?_set_ne (Ne.symm hm);have h1:(st.set xb (.lst ((A.set k ((A.getD k []).map fun x=> -x)).map bo)))[xb]?=some (.lst ((Mx.ie A k).map bo)):=List.getElem?_set_self (List.getElem?_eq_some_iff.mp B.e1).1;have z1:(st.set xb (.lst ((A.set k ((A.getD k []).map fun x=> -x)).map bo))).length=st.length:=List.length_set;generalize st.set xb (.lst ((A.set k ((A.getD k []).map fun x=> -x)).map bo))=st1 at g1 h1 z1⊢;have eb1:=(g1 b bx1).trans B.eb;have e21:=(g1 xu (Ne.symm n1)).trans B.e2;have e31:=(g1 xc (Ne.symm n2)).trans B.e3;refine c7 eb1 rfl (aD (aJ e21) (d_ (by omega)) ?_);refine⟨_,U.getD k [],rfl,rfl,by omega,?_⟩;refine c7 eb1 rfl (gf e21 (by rw[List.length_map,lU];exact nY hk) ?_);rw[jc];have g2:∀m,m≠xu->(st1.set xu (.lst ((U.set k ((U.getD k []).map fun x=> -x)).map bo)))[m]?=st1[m]?:=fun m hm=>List.getElem?_set_ne (Ne.symm hm);have h2:(st1.set xu (.lst ((U.set k ((U.getD k []).map fun x=> -x)).map bo)))[xu]?=some (.lst ((Mx.ie U k).map bo)):=List.getElem?_set_self (List.getElem?_eq_some_iff.mp e21).1;have z2:(st1.set xu (.lst ((U.set k ((U.getD k []).map fun x=> -x)).map bo))).length=st1.length:=List.length_set;generalize st1.set xu (.lst ((U.set k ((U.getD k []).map fun x=> -x)).map bo))=st2 at g2 h2 z2⊢;have eb2:=(g2 b bx2).trans eb1;have e32:=(g2 xc (Ne.symm n3)).trans e31;refine c7 eb2 rfl (aD (aJ e32) (d_ (by omega)) ?_);refine⟨_,C.getD k [],rfl,rfl,by omega,?_⟩;refine c7 eb2 rfl (gf e32 (by rw[List.length_map,lC];exact nY hk) ?_);rw[jc];refine kk _ ⟨?_,?_,?_,?_,n1,n2,n3⟩ (by rw[List.length_set];omega) fun m m1 m2 m3=>?_
 . rw[List.getElem?_set_ne (Ne.symm bx3)];exact eb2
 . rw[List.getElem?_set_ne (Ne.symm n2),g2 _ n1];exact h1
 . rw[List.getElem?_set_ne (Ne.symm n3)];exact h2
 . exact List.getElem?_set_self (List.getElem?_eq_some_iff.mp e32).1
 . rw[List.getElem?_set_ne (Ne.symm m3),g2 m m2,g1 m m1]
def g5:cw:=fun ds st K=>∃(b xb xu xc N w top p:Nat) (A U C:List (List Int)) (f:Bool),ds=[.ref b,.int top,.int p]/\Bn st b xb xu xc A U C/\Mx.cj N w A/\top<=N/\N<=8/\p<w/\w<=9/\st[0]?=some (g7 f)/\
 ∀L,Mx.jC A N top p L->K (.lst (L.map fun(k:Nat)=> .int (k:Int))) (st.set 0 (g7 true))
def gX:List Str:=["self","top","place","live"]
def vG:DS:=(aF (a8 3 (dA (vn (af (ae 1) (af (bY di (af (eK aK "body" (ae 0)) ak)) ak))) [none,some 0,some 2] (cB 0) (ba (av pX (av aX (av aX (eK aK "body" (ae 1)) (ae 0)) (ae 2)) (dC (.int 0)))) (ae 0)))
 (a_ (Cb 0 174 ⟨97,32,97,66⟩ "Bench.live_rows.<locals>.<lambda>" [none,some 0,some 2] (bY tE (af (av aX (av aX (eK aK "body" (ae 1)) (ae 0)) (ae 2)) ak)) (ae 3))))
theorem yz{a b:Prop}(h:b):if false=true then a else b:=h
theorem L9{st:ag}{b:Nat}{C:Addr}{fs:List (Str×D)}{f:Bool}(h1:st[b]?=some (Cell.ins C fs))(h2:st[0]?=some (g7 f)):b≠0:=fun z=>by rw[z,h2]at h1;cases h1
theorem vC{st:ag}{b:Nat}{xs:List D}{f:Bool}(h1:st[b]?=some (Cell.lst xs))(h2:st[0]?=some (g7 f)):b≠0:=fun z=>by rw[z,h2]at h1;cases h1
theorem Bn.keep{st st':ag}{b xb xu xc:Nat}{A U C:List (List Int)}(B:Bn st b xb xu xc A U C)(h:∀m,m=b\/m=xb\/m=xu\/m=xc->st'[m]?=st[m]?):Bn st' b xb xu xc A U C:=
 ⟨(h b (.inl rfl)).trans B.eb,(h xb (.inr (.inl rfl))).trans B.e1,(h xu (.inr (.inr (.inl rfl)))).trans B.e2,(h xc (.inr (.inr (.inr rfl)))).trans B.e3,B.n1,B.n2,B.n3⟩
theorem Bn.tab{st:ag}{b xb xu xc:Nat}{A U C:List (List Int)}{f:Bool}(B:Bn st b xb xu xc A U C)(h:st[0]?=some (g7 f))(c:Cell):Bn (st.set 0 c) b xb xu xc A U C:=
 B.keep fun m hm=>List.getElem?_set_ne fun z=>by
  subst z;rcases hm with rfl|rfl|rfl|rfl
  . exact L9 B.eb h rfl
  . exact vC B.e1 h rfl
  . exact vC B.e2 h rfl
  . exact vC B.e3 h rfl
theorem p9{r:List Int}{k:Nat}(h:k<r.length):e8 (aG r) (k:Int)=some (.int (r.getD k 0)):=by
 refine i5 ?_;unfold aG;rw[List.getElem?_map,List.getElem?_eq_getElem h,Mx.aV h];rfl
def fT(A:List (List Int))(N top p:Nat):List Nat:=(List.range (N-top)).filterMap fun i=>if Mx.g A (top+i) p≠0 then some (top+i)else none
theorem zE{A:List (List Int)}{N top p k:Nat}:k∈fT A N top p↔top<=k/\k<N/\Mx.g A k p≠0:=by
 unfold fT;rw[List.mem_filterMap];constructor
 . rintro⟨i,hi,e⟩;rw[List.mem_range]at hi;split at e
   . rename_i h;cases e;exact⟨by omega,by omega,h⟩
   . cases e
 . rintro⟨h1,h2,h3⟩;refine⟨k-top,List.mem_range.mpr (by omega),?_⟩;rw[show top+(k-top)=k by omega,if_pos h3]
theorem pw_filterMap{f:Nat->Option Nat}(h:∀i j a b,i<j->f i=some a->f j=some b->a<b):∀ {l:List Nat},l.Pairwise (· < ·)->(l.filterMap f).Pairwise (· < ·)
 | [],_=>by simp
 |x::l,hl=>by
  obtain⟨h1,h2⟩:=List.pairwise_cons.mp hl;rw[List.filterMap_cons];split
  . exact pw_filterMap h h2
  . rename_i a e;refine List.pairwise_cons.mpr ⟨fun b hb=>?_,pw_filterMap h h2⟩;obtain⟨j,hj,ej⟩:=List.mem_filterMap.mp hb;exact h x j a b (h1 j hj) e ej
theorem pw_liveR{A:List (List Int)}{N top p:Nat}:(fT A N top p).Pairwise (· < ·):=by
 unfold fT;refine pw_filterMap (fun i j a b hij ha hb=>?_) List.pairwise_lt_range;split at ha
 . split at hb
   . cases ha;cases hb;omega
   . cases hb
 . cases ha
theorem Ae{f:Nat->Option Nat}(l:List Nat):(l.filterMap f).length<=l.length:=List.length_filterMap_le ..
theorem K3{A:List (List Int)}{N top p:Nat}{os:List (Int×Int)}(hp:os.Perm (((fT A N top p).map fun(k:Nat)=>(((Mx.g A k p).natAbs:Nat):Int)).zip ((fT A N top p).map fun(k:Nat)=>(k:Int))))(hs:os.Pairwise slt):
 Mx.jC A N top p (os.map fun q=>q.2.toNat)/\os.map (fun q=>D.int q.2)=(os.map fun q=>q.2.toNat).map fun(k:Nat)=>D.int (k:Int):=by
 have hz:((fT A N top p).map fun(k:Nat)=>(((Mx.g A k p).natAbs:Nat):Int)).zip ((fT A N top p).map fun(k:Nat)=>(k:Int))=(fT A N top p).map fun k=>((((Mx.g A k p).natAbs:Nat):Int),(k:Int)):=by
  exact List.zip_map' ..
 rw[hz]at hp
 have hm:∀q∈os,∃k,k∈fT A N top p/\q=((((Mx.g A k p).natAbs:Nat):Int),(k:Int)):=fun q hq=>by
  obtain⟨k,h1,h2⟩:=List.mem_map.mp (hp.mem_iff.mp hq);exact⟨k,h1,h2.symm⟩
 refine⟨⟨fun k=>?_,?_,?_⟩,?_⟩
 . rw[<-zE];constructor
   . intro h;obtain⟨q,hq,e⟩:=List.mem_map.mp h;obtain⟨j,h1,rfl⟩:=hm q hq;simp only[Int.toNat_natCast]at e;rw[<-e];exact h1
   . intro h;exact List.mem_map.mpr ⟨((((Mx.g A k p).natAbs:Nat):Int),(k:Int)),hp.mem_iff.mpr (List.mem_map.mpr ⟨k,h,rfl⟩),by simp⟩
 . rw[List.pairwise_map];refine hs.imp_of_mem fun{x y} hx hy h=>?_;obtain⟨j,_,rfl⟩:=hm x hx;obtain⟨k,_,rfl⟩:=hm y hy;unfold slt at h;simp only[Int.toNat_natCast];omega
 . have e:((fT A N top p).map fun k=>((((Mx.g A k p).natAbs:Nat):Int),(k:Int))).map (fun q=>q.2.toNat)=fT A N top p:=by
    rw[List.map_map];exact(List.map_congr_left fun k _=>Int.toNat_natCast k).trans (List.map_id _)
   have hq:=hp.map fun q=>q.2.toNat;rw[e]at hq;exact hq.nodup_iff.mpr (pw_liveR.imp fun h=>Nat.ne_of_lt h)
 . rw[List.map_map];refine List.map_congr_left fun q hq=>?_;obtain⟨j,_,rfl⟩:=hm q hq;simp
theorem uz:∀ds st K,g5 ds st K->ds.length=3/\vG {nx:=fun _ st'=>K .aE st',rt:=K} (aU gX ds) st:=by
 rintro ds st K ⟨b,xb,xu,xc,N,w,top,p,A,U,C,f,rfl,B,hA,ht,hN,hp,hw,h0,k⟩;refine⟨rfl,?_⟩;have lA:=hA.len;have rowA:∀i,i<N->(A.getD i []).length=w:=fun i hi=>Mx.c5 hA hi;refine c7 B.eb rfl (cN (aJ B.e1) ?_);rw[List.length_map,lA];refine LW ⟨by omega,by omega,by omega,by omega⟩ ⟨bS (by unfold eV;simp;omega),?_⟩;have er:((N:Int)-(top:Int)).toNat=N-top:=by omega
 rw[er];refine kO (fun rest acc st'=>∃i:Nat,i<=N-top/\st'=st/\rest=(List.range (N-top-i)).map (fun j=>D.int ((top+i+j:Nat):Int))/\acc=((List.range i).filterMap fun i=>if Mx.g A (top+i) p≠0 then some (top+i)else none).map fun(k:Nat)=>D.int (k:Int)) ?_ ?_ _ _ _ ⟨0,Nat.zero_le _,rfl,by unfold eV;simp,by simp⟩
 . rintro acc st' ⟨i,hi,rfl,hr,rfl⟩
   have hi':i=N-top:=by
    rcases Nat.lt_or_ge i (N-top)with z|z
    . rw[show N-top-i=(N-top-i-1)+1 by omega,List.range_succ_eq_map]at hr;cases hr
    . omega
   subst hi';refine⟨trivial,?_⟩;have e1:((fT A N top p).map fun(k:Nat)=>D.int (k:Int))=((fT A N top p).map fun(k:Nat)=>(k:Int)).map D.int:=by rw[List.map_map];rfl
   refine⟨(fT A N top p).map fun(k:Nat)=>(k:Int),(fT A N top p).map fun(k:Nat)=>(((Mx.g A k p).natAbs:Nat):Int),f,congrArg D.lst e1,?_,?_,by rw[List.length_map,List.length_map],h0,fun i n q hn hq=>?_,fun os hp' hs=>?_⟩
   . rw[List.length_map];have:=Ae (f:=fun i=>if Mx.g A (top+i) p≠0 then some (top+i)else none) (List.range (N-top));rw[List.length_range]at this;show(fT A N top p).length<64;unfold fT;omega
   . rw[List.pairwise_map];exact pw_liveR.imp fun h=>by omega
   . rw[List.getElem?_map]at hn hq;cases z:(fT A N top p)[i]? with
     |none=>rw[z]at hn;cases hn
     |some j=>
      rw[z]at hn hq;cases hn;cases hq;obtain⟨j1,j2,j3⟩:=zE.mp (List.mem_of_getElem? z);have B1:=B.tab h0 (g7 true);refine c7 B1.eb rfl (aD (aJ B1.e1) (d_ (by omega)) (aD rfl (p9 (by rw[rowA j j2];exact hp)) (uS ⟨rfl,rfl⟩)))
   . obtain⟨h1,h2⟩:=K3 hp' hs;rw[h2];exact k _ h1
 . rintro d rest acc st' ⟨i,hi,rfl,hr,rfl⟩ next
   have hlt:i<N-top:=by
    rcases Nat.lt_or_ge i (N-top)with z|z
    . exact z
    . rw[show N-top-i=0 by omega]at hr;cases hr
   rw[show N-top-i=(N-top-i-1)+1 by omega,List.range_succ_eq_map,List.map_cons,List.map_map]at hr;obtain⟨rfl,rfl⟩:=List.cons.inj hr;refine⟨trivial,_,rfl,?_⟩;refine c7 B.eb rfl (aD (aJ B.e1) (d_ (j:=top+i+0) (by omega)) (aD rfl (p9 (by rw[rowA _ (by omega)];exact hp)) ?_));have e2:List.range (i+1)=List.range i++[i]:=List.range_succ
   have e3:((List.range (N-top-i-1)).map ((fun j=>D.int ((top+i+j:Nat):Int))∘Nat.succ))=(List.range (N-top-(i+1))).map fun j=>D.int ((top+(i+1)+j:Nat):Int):=by
    rw[show N-top-i-1=N-top-(i+1) by omega];refine List.map_congr_left fun j _=>?_;show D.int ((top+i+(j+1):Nat):Int)=_;rw[show top+i+(j+1)=top+(i+1)+j by omega]
   refine ne2 (fun h=>?_) fun h=>?_
   . refine(next _ _ ⟨i+1,by omega,rfl,e3,?_⟩);rw[e2,List.filterMap_append,List.map_append];have:Mx.g A (top+i) p≠0:=h;simp[this]
   . refine(next _ _ ⟨i+1,by omega,rfl,e3,?_⟩);rw[e2,List.filterMap_append,List.map_append];have:Mx.g A (top+i) p=0:=h;simp[this]
structure Bo(n0:Nat)(st st':ag)(b xb xu xc:Nat):Prop where
 lo:1<=n0/\n0<=b/\n0<=xb/\n0<=xu/\n0<=xc
 fr:∀m,m<n0->m≠0->st'[m]?=st[m]?
 tb:∃f,st'[0]?=some (g7 f)
def mL:cw:=fun ds st K=>∃(n0 b xb xu xc N w top p e u z:Nat) (A0 A U C:List (List Int)) (ld:Nat->Nat),ds=[.ref b,.int top,.int p]/\Bn st b xb xu xc A U C/\Bo n0 st st b xb xu xc/\Mx.gg A0 N w ⟨A,U,C⟩ top p ld e u/\N<=8/\w<=9/\p<w/\z<=60000000/\(∀c,Mx.fC N top p ⟨A,U,C⟩ c->Mx.Sm c N (2^z))/\
 (∀st',Bn st' b xb xu xc A U C->Bo n0 st st' b xb xu xc->Mx.jC A N top p []->K (.bl false) st')/\
 ∀st' xb' xu' xc' (c:Mx.B3) (r:Nat),Bn st' b xb' xu' xc' (Mx.setB c p top r).A (Mx.setB c p top r).U (Mx.setB c p top r).C->Bo n0 st st' b xb' xu' xc'->Mx.fC N top p ⟨A,U,C⟩ c->Mx.jC c.A N top p [r]->K (.bl true) st'
def kb:List Str:=["self","top","place","live","great","small"]
def zm:DS:=(aF (a8 3 (ky aK "live_rows" g5 (ae 0) (af (ae 1) (af (ae 2) ak))))
 (aF (xn (ba (av qk (bY di (af (ae 3) ak)) (dC (.int 1)))) (aF (a8 4 (av aX (ae 3) (mG ir (dC (.int 1)))))
 (aF (a8 5 (av aX (ae 3) (mG ir (dC (.int 2)))))
 (aF (mq (ky aK "take" lT (ae 0) (af (ae 4) (af (aC jK (af (av aX (av aX (eK aK "body" (ae 0)) (ae 4)) (ae 2)) (af (av aX (av aX (eK aK "body" (ae 0)) (ae 5)) (ae 2)) ak))) (af (ae 5) ak)))))
 (a8 3 (ky aK "live_rows" g5 (ae 0) (af (ae 1) (af (ae 2) ak))))))))
 (aF (cY (ba (av e9 (bY di (af (ae 3) ak)) (dC (.int 0)))) (a_ (dC (.bl false))) cK)
 (aF (mq (ky aK "exchange" kU (ae 0) (af (ae 1) (af (av aX (ae 3) (dC (.int 0))) ak))))
 (aF (cY (ba (av oA (av aX (av aX (eK aK "body" (ae 0)) (ae 1)) (ae 2)) (dC (.int 0)))) (mq (ky aK "change_sign" jo (ae 0) (af (ae 1) ak))) cK)
 (a_ (dC (.bl true))))))))
theorem Bo.ML{n0:Nat}{st st':ag}{b xb xu xc:Nat}(h:Bo n0 st st' b xb xu xc):Bo n0 st (st'.set 0 (g7 true)) b xb xu xc:=
 ⟨h.lo,fun m hm h0=>by rw[List.getElem?_set_ne (Ne.symm h0)];exact h.fr m hm h0,true,by
  obtain⟨f,e⟩:=h.tb;exact List.getElem?_set_self (List.getElem?_eq_some_iff.mp e).1⟩
theorem Bo.low{n0:Nat}{st st1 st2:ag}{b xb xu xc:Nat}(h:Bo n0 st st1 b xb xu xc)(f:∀m,m≠xb->m≠xu->m≠xc->st2[m]?=st1[m]?):Bo n0 st st2 b xb xu xc:=by
 obtain⟨l1,l2,l3,l4,l5⟩:=h.lo;refine⟨h.lo,fun m hm h0=>?_,?_⟩
 . rw[f m (by omega) (by omega) (by omega)];exact h.fr m hm h0
 . obtain⟨z,e⟩:=h.tb;exact⟨z,by rw[f 0 (by omega) (by omega) (by omega)];exact e⟩
theorem Bp{n j:Nat}(h:1<=j)(h2:j<=n):mH n (-(j:Int))=some (n-j):=by
 unfold mH;rw[if_neg (by omega),if_pos (by omega)];congr 1;omega
theorem PH{L:List Nat}{j k:Nat}:e8 ((L++[j,k]).map fun(k:Nat)=>D.int (k:Int)) (-1)=some (.int (k:Int)):=by
 unfold e8;have:=Bp (n:=((L++[j,k]).map fun(k:Nat)=>D.int (k:Int)).length) (j:=1) (by decide) (by simp);rw[show(-((1:Nat):Int))= -1 from rfl]at this;rw[this];simp
theorem Pf{L:List Nat}{j k:Nat}:e8 ((L++[j,k]).map fun(k:Nat)=>D.int (k:Int)) (-2)=some (.int (j:Int)):=by
 unfold e8;have:=Bp (n:=((L++[j,k]).map fun(k:Nat)=>D.int (k:Int)).length) (j:=2) (by decide) (by simp);rw[show(-((2:Nat):Int))= -2 from rfl]at this;rw[this];simp
theorem HM:∀ {L:List Nat},1<L.length->∃M j k,L=M++[j,k]:=fun{L} h=>by
 refine⟨L.take (L.length-2),L[L.length-2]'(by omega),L[L.length-1]'(by omega),?_⟩;have e1:L=L.take (L.length-2)++L.drop (L.length-2):=(List.take_append_drop _ _).symm
 have e2:L.drop (L.length-2)=[L[L.length-2]'(by omega),L[L.length-1]'(by omega)]:=by
  rw[List.drop_eq_getElem_cons (by omega),List.drop_eq_getElem_cons (by omega),List.drop_eq_nil_of_le (by omega)];congr 2;congr 1;omega
 rw[<-e2];exact e1
theorem x3:∀ds st K,mL ds st K->ds.length=3/\zm {nx:=fun _ st'=>K .aE st',rt:=K} (aU kb ds) st:=by
 rintro ds st K ⟨n0,b,xb,xu,xc,N,w,top,p,e,u,z,A0,A,U,C,ld,rfl,B,O,S,hN,hw,hp,hzz,hz,kf,kt⟩;refine⟨rfl,?_⟩;have hle:=S.le;obtain⟨f,h0⟩:=O.tb;refine ly B.eb rfl ?_;refine⟨b,xb,xu,xc,N,w,top,p,A,U,C,f,rfl,B,S.tn.isA,hle,hN,hp,hw,h0,fun L hL=>?_⟩;have B1:=B.tab h0 (g7 true);have O1:=O.ML;try dsimp only[ak]
 refine fY (fun σ st'=>∃(L:List Nat) (v4 v5:Option D) (c:Mx.B3) (gr:Nat),σ=[some (.ref b),some (.int top),some (.int p),some (.lst (L.map fun(k:Nat)=> .int (k:Int))),v4,v5]/\L.length<=1/\Bn st' b xb xu xc c.A c.U c.C/\Bo n0 st st' b xb xu xc/\Mx.fC N top p ⟨A,U,C⟩ c/\Mx.tS A0 N w top p (2^e) ⟨A,U,C⟩ c gr/\Mx.jC c.A N top p L) (fun nx hnx=>?_) ?_
 . refine⟨fun m σ st'=>∃(L:List Nat) (v4 v5:Option D) (c:Mx.B3) (gr:Nat),σ=[some (.ref b),some (.int top),some (.int p),some (.lst (L.map fun(k:Nat)=> .int (k:Int))),v4,v5]/\Bn st' b xb xu xc c.A c.U c.C/\Bo n0 st st' b xb xu xc/\Mx.fC N top p ⟨A,U,C⟩ c/\Mx.tS A0 N w top p (2^e) ⟨A,U,C⟩ c gr/\Mx.jC c.A N top p L/\m=Mx.mu c.A N p,⟨_,L,none,none,⟨A,U,C⟩,1,rfl,B1,O1,.refl _,S.DP,hL,rfl⟩,?_⟩;rintro m σ st1 ⟨L,v4,v5,c,gr,rfl,B,O,hR,hG,hL,rfl⟩;refine cN rfl ?_;rw[List.length_map];refine Q8 (fun h=>dM ?_) fun h=>yz (hnx _ _ ⟨L,v4,v5,c,gr,rfl,by omega,B,O,hR,hG,hL⟩);obtain⟨M,j,k,rfl⟩:=HM (L:=L) (by omega);refine gI (aD rfl PH (gI (aD rfl Pf ?_)));obtain⟨G2,hlt,hoth,k1,k2,j1,j2,hjk,hj0⟩:=hG.step hp hL;have T:=hG.tn;have lA:=T.isA.len;have hsm:=hz c hR;refine ly B.eb rfl (c7 B.eb rfl (aD (aJ B.e1) (d_ (by omega)) (aD rfl (p9 (by rw[Mx.c5 T.isA k2];exact hp)) (c7 B.eb rfl (aD (aJ B.e1) (d_ (by omega)) (aD rfl (p9 (by rw[Mx.c5 T.isA j2];exact hp)) ?_))))));refine⟨_,_,rfl,hj0,?_⟩;have hq:(Mx.qn (Mx.g c.A k p) (Mx.g c.A j p)).natAbs<=2^(z+1):=Nat.le_trans (Mx.Pa hj0) (Mx.CT (hsm k p k2).1 (hsm j p j2).1)
   have hm:∀ {x:Int},x.natAbs<=2^z->IntMulOk (Mx.qn (Mx.g c.A k p) (Mx.g c.A j p)) x/\IntMulOk (-(Mx.qn (Mx.g c.A k p) (Mx.g c.A j p))) x:=fun{x} h=>
    ⟨dD hq h (by omega),dD (by rw[Int.natAbs_neg];exact hq) h (by omega)⟩
   have mg:∀ {X:List (List Int)} {i:Nat} {x:Int},x∈X.getD i []->∃q,x=Mx.g X i q:=fun{X i x} hx=>by
    obtain⟨c,hc,rfl⟩:=List.mem_iff_getElem.mp hx;exact⟨c,by unfold Mx.g;rw[Mx.aV hc]⟩
   refine⟨b,xb,xu,xc,N,w,k,j,c.A,c.U,c.C,_,rfl,B,T.isA,T.eB,T.gp,k2,j2,hN,hw,fun x hx=>(by obtain⟨q,rfl⟩:=mg hx;exact(hm (hsm j q j2).1).2),fun x hx=>(by obtain⟨q,rfl⟩:=mg hx;exact(hm (hsm j q j2).2.1).2),fun x hx=>(by obtain⟨q,rfl⟩:=mg hx;exact(hm (hsm k q k2).2.2).1),fun st2 B2 l2 f2=>?_⟩;have O2:=O.low f2;obtain⟨f',h0'⟩:=O2.tb;refine ly B2.eb rfl ?_;refine⟨b,xb,xu,xc,N,w,top,p,_,_,_,f',rfl,B2,G2.tn.isA,hle,hN,hp,hw,h0',fun L2 hL2=>?_⟩;refine⟨_,?_,L2,_,_,Mx.lY c p k j,_,rfl,B2.tab h0' (g7 true),O2.ML,hR.tail ⟨M,k,j,hL,rfl⟩,G2,hL2,rfl⟩;unfold Mx.mu;refine Mx.J5 (k:=k) hlt k2 fun i hi=>?_;by_cases h:i=k
   . rw[h];exact Nat.le_of_lt hlt
   . rw[hoth i h];exact Nat.le_refl _
 . rintro σ st1 ⟨L,v4,v5,c,gr,rfl,hl,B,O,hR,hG,hL⟩;refine cN rfl ?_;rw[List.length_map];match L,hl,hL with
   | [],_,hL=>
     refine eq2 (fun h=>dM ?_) fun h=>absurd rfl h
     have e0:c=⟨A,U,C⟩:=by
      rcases hG.Qw with z|⟨j,h1,h2,h3⟩
      . exact z
      . exact absurd ((hL.mem j).mpr ⟨h1,h2,h3⟩) (by simp)
     subst e0;exact kf st1 B O hL
   | [r],_,hL=>
     refine eq2 (fun h=>absurd h (by simp)) fun h=>yz ?_;obtain⟨s1,hr1,hr2⟩:=hG.set hL;have ht:top<N:=by omega
     have T:=hG.tn;refine ly B.eb rfl (aD rfl (show e8 ([r].map fun(k:Nat)=>D.int (k:Int)) 0=some (.int (r:Int))from rfl) ?_);refine⟨b,xb,xu,xc,N,w,top,r,c.A,c.U,c.C,rfl,B,T.isA,T.eB,T.gp,ht,hr2,fun st2 B2 l2 f2=>?_⟩;obtain⟨l1,l2',l3,l4,l5⟩:=O.lo
     have hst:n0<=st1.length:=by
      have:=(List.getElem?_eq_some_iff.mp B.eb).1;omega
     have O2:Bo n0 st st2 b st1.length (st1.length+1) (st1.length+2):=by
      refine⟨⟨l1,l2',by omega,by omega,by omega⟩,fun m hm h0=>?_,?_⟩
      . rw[f2 m (by omega) (by omega)];exact O.fr m hm h0
      . obtain⟨z,e⟩:=O.tb;exact⟨z,by rw[f2 0 (by omega) (by omega)];exact e⟩
     have T1:=T.JV ht hr2;refine c7 B2.eb rfl (aD (aJ B2.e1) (d_ (by have:=T1.isA.len;omega)) (aD rfl (p9 (by rw[Mx.c5 T1.isA ht];exact hp)) ?_));refine Kr (fun h=>dM ?_) fun h=>yz ?_
     . have es:Mx.setB c p top r=⟨Mx.ie (Mx.bZ c.A top r) top,Mx.ie (Mx.bZ c.U top r) top,Mx.ie (Mx.bZ c.C top r) top⟩:=if_pos h;refine ly B2.eb rfl ?_;refine⟨b,_,_,_,N,w,top,_,_,_,rfl,B2,T1.isA,T1.eB,T1.gp,ht,hN,hw,fun st3 B3 l3 f3=>?_⟩;exact kt st3 _ _ _ c r (by rw[es];exact B3) (O2.low f3) hR hL
     . have es:Mx.setB c p top r=⟨Mx.bZ c.A top r,Mx.bZ c.U top r,Mx.bZ c.C top r⟩:=if_neg (fun z=>by unfold Mx.g at z;omega);exact kt st2 _ _ _ c r (by rw[es];exact B2) O2 hR hL
def jn:cw:=fun ds st K=>∃(b xb xu xc N w top p e u z:Nat) (A0 A U C:List (List Int)),ds=[.ref b,.int top,.int p]/\Bn st b xb xu xc A U C/\Mx.Tn A0 A U C N w/\N<=8/\w<=9/\p<w/\top<N/\0<Mx.g A top p/\(∀q,q<p->Mx.g A top q=0)/\
 (∀q,(Mx.g A top q).natAbs<=2^e/\(Mx.g U top q).natAbs<=2^e/\(Mx.g C top q).natAbs<=2^e)/\(∀i q,i<top->(Mx.g A i q).natAbs<=2^u/\(Mx.g U i q).natAbs<=2^u/\(Mx.g C i q).natAbs<=2^u)/\z<=60000000/\(∀k,k<=top->Mx.Sm (Mx.jf p top k ⟨A,U,C⟩) N (2^z))/\
 ∀st',Bn st' b xb xu xc (Mx.jf p top top ⟨A,U,C⟩).A (Mx.jf p top top ⟨A,U,C⟩).U (Mx.jf p top top ⟨A,U,C⟩).C->(∀m,m≠xb->m≠xu->m≠xc->st'[m]?=st[m]?)->K .aE st'
def gm:List Str:=["self","top","place","k"]
def t_:DS:=(kh (ip (af (ae 1) ak)) (cB 3) (mq (ky aK "take" lT (ae 0) (af (ae 3) (af (av nQ (av aX (av aX (eK aK "body" (ae 0)) (ae 3)) (ae 2)) (av aX (av aX (eK aK "body" (ae 0)) (ae 1)) (ae 2))) (af (ae 1) ak))))))
theorem Az{X:List (List Int)}{i:Nat}{x:Int}(hx:x∈X.getD i []):∃q,x=Mx.g X i q:=by
 obtain⟨c,hc,rfl⟩:=List.mem_iff_getElem.mp hx;exact⟨c,by unfold Mx.g;rw[Mx.aV hc]⟩
theorem tL:∀ds st K,jn ds st K->ds.length=3/\t_ {nx:=fun _ st'=>K .aE st',rt:=K} (aU gm ds) st:=by
 rintro ds st K ⟨b,xb,xu,xc,N,w,top,p,e,u,z,A0,A,U,C,rfl,B,T,hN,hw,hp,ht,htp,hz,hlo,hhi,hzz,hsm,kk⟩;refine⟨rfl,?_⟩;refine lj ⟨by omega,by omega⟩ ?_;rw[Int.toNat_natCast];refine nI top (fun k σ st'=>∃v3:Option D,σ=[some (.ref b),some (.int top),some (.int p),v3]/\Bn st' b xb xu xc (Mx.jf p top k ⟨A,U,C⟩).A (Mx.jf p top k ⟨A,U,C⟩).U (Mx.jf p top k ⟨A,U,C⟩).C/\(∀m,m≠xb->m≠xu->m≠xc->st'[m]?=st[m]?)/\Mx.qQ A0 N w top p e u ⟨A,U,C⟩ k (Mx.jf p top k ⟨A,U,C⟩)) ?_ ?_ ⟨none,rfl,B,fun _ _ _ _=>rfl,Mx.qQ.start T fun q=>(hlo q).2.2⟩
 . rintro σ st' ⟨v3,rfl,B',f,I⟩;exact kk st' B' f
 . rintro k σ st' rest hk ⟨v3,rfl,B',f,I⟩ next
   refine⟨_,rfl,?_⟩;have hs:=I.step hk ht hp htp hz (fun q=>⟨(hlo q).1,(hlo q).2.1⟩) hhi;have hs2:=hsm k (Nat.le_of_lt hk);generalize hc:Mx.jf p top k ⟨A,U,C⟩=c at*;have lA:=I.tn.isA.len;have kN:k<N:=by omega
   have gA:∀i q,k<=i->Mx.g c.A i q=Mx.g A i q:=fun i q hi=>by unfold Mx.g;rw[(I.rA i hi).1]
   have hq:((Mx.g c.A k p).fdiv (Mx.g c.A top p)).natAbs<=2^z:=Nat.le_trans (Mx.pZ _ (by rw[gA top p (by omega)];exact htp)) (hs2 k p kN).1;have htp':Mx.g c.A top p≠0:=by rw[gA top p (by omega)];omega
   refine ly B'.eb rfl (c7 B'.eb rfl (aD (aJ B'.e1) (d_ (by omega)) (aD rfl (p9 (by rw[Mx.c5 I.tn.isA kN];exact hp)) (c7 B'.eb rfl (aD (aJ B'.e1) (d_ (by omega)) (aD rfl (p9 (by rw[Mx.c5 I.tn.isA ht];exact hp)) (mR htp' ?_)))))));refine⟨b,xb,xu,xc,N,w,k,top,c.A,c.U,c.C,_,rfl,B',I.tn.isA,I.tn.eB,I.tn.gp,kN,ht,hN,hw,fun x hx=>?_,fun x hx=>?_,fun x hx=>?_,fun st2 B2 l2 f2=>?_⟩
   . obtain⟨q,rfl⟩:=Az hx;exact dD (by rw[Int.natAbs_neg];exact hq) (hs2 top q ht).1 (by omega)
   . obtain⟨q,rfl⟩:=Az hx;exact dD (by rw[Int.natAbs_neg];exact hq) (hs2 top q ht).2.1 (by omega)
   . obtain⟨q,rfl⟩:=Az hx;exact dD hq (hs2 k q kN).2.2 (by omega)
   . have el:Mx.jf p top (k+1) ⟨A,U,C⟩=⟨Mx.bT c.A k ((Mx.g c.A k p).fdiv (Mx.g c.A top p)) top,Mx.bT c.U k ((Mx.g c.A k p).fdiv (Mx.g c.A top p)) top,Mx.bT c.C top (-((Mx.g c.A k p).fdiv (Mx.g c.A top p))) k⟩:=by rw[<-hc];rfl
     refine next _ _ ⟨_,rfl,?_,fun m h1 h2 h3=>(f2 m h1 h2 h3).trans (f m h1 h2 h3),?_⟩
     . rw[el];exact B2
     . rw[el];exact hs
structure Bk(st st':ag):Prop where
 le:st.length<=st'.length
 fr:∀m,m<st.length->m≠0->st'[m]?=st[m]?
 tb:∃f,st'[0]?=some (g7 f)
def lS:cw:=fun ds st K=>∃(d:D) (N w e0 z:Nat) (A:List (List Int)) (f:Bool),ds=[d]/\eP st d A/\Mx.cj N w A/\1<=N/\N<=8/\w<=9/\Mx.gT A N 0 (2^e0)/\z<=60000000/\(∀p t c,p<w->Mx.ib A N p t c->Mx.xG N p t z c)/\st[0]?=some (g7 f)/\
 ∀st' (top:Nat) (c:Mx.B3),Mx.ib A N w top c->Bk st st'->K (.tup [bI (c.A.take top),bI c.U,bI (Mx.mx c.C N)]) st'
def oJ:List Str:=["rows","bench","top","place","back"]
def Ef:DS:=(aF (a8 1 (Ep aK kR (af (ae 0) ak)))
 (aF (a8 2 (dC (.int 0)))
 (aF (kh (ip (af (bY di (af (av aX (ae 0) (dC (.int 0))) ak)) ak)) (cB 3) (cY (ba (ky aK "gather" mL (ae 1) (af (ae 2) (af (ae 3) ak)))) (aF (mq (ky aK "lower_above" jn (ae 1) (af (ae 2) (af (ae 3) ak))))
 (EH 2 (Bh (fun i j=>i+j)) (dC (.int 1)))) cK))
 (aF (a8 4 (aC om (af (eK aK "back_columns" (ae 1)) (af (bY di (af (ae 0) ak)) ak))))
 (a_ (ji (af (aC nP (af (kq (eK aK "body" (ae 1)) i9 (m_ (ae 2))) ak)) (af (aC nP (af (eK aK "turn" (ae 1)) ak)) (af (ae 4) ak)))))))))
theorem qh{st st':ag}{f:Bool}(h0:st[0]?=some (g7 f))(fr:∀m,m<st.length->m≠0->st'[m]?=st[m]?){d:D}{xs:List D}(h:items? st d=some xs):items? st' d=some xs:=by
 cases d with
 |ref n=>
  have e:=ui h;have n0:n≠0:=vC e h0;rw[aJ ((fr n (List.getElem?_eq_some_iff.mp e).1 n0).trans e)]
 |_=>exact h
theorem zJ{st st':ag}{f:Bool}(h0:st[0]?=some (g7 f))(fr:∀m,m<st.length->m≠0->st'[m]?=st[m]?):∀ {ds:List D} {A:List (List Int)},bG st ds A->bG st' ds A
 | [],[],_=>trivial
 |_::_,_::_,h=>⟨qh h0 fr h.1,zJ h0 fr h.2⟩
theorem yA{st st':ag}{f:Bool}(h0:st[0]?=some (g7 f))(fr:∀m,m<st.length->m≠0->st'[m]?=st[m]?){d:D}{A:List (List Int)}(h:eP st d A):eP st' d A:=by
 obtain⟨ds,h1,h2⟩:=h.ex;exact⟨ds,qh h0 fr h1,zJ h0 fr h2⟩
theorem xO{xs:List D}{j:Nat}:L3.cutD xs none (some (j:Int))=xs.take j:=by
 unfold L3.cutD;rw[HT.yP,HT.wB,List.drop_zero,Nat.sub_zero];by_cases h:j<=xs.length
 . rw[Nat.min_eq_left h]
 . rw[Nat.min_eq_right (by omega),List.take_length,List.take_of_length_le (by omega)]
theorem C_:∀ds st K,lS ds st K->ds.length=1/\Ef {nx:=fun _ st'=>K .aE st',rt:=K} (aU oJ ds) st:=by
 rintro ds st K ⟨d,N,w,e0,z,A,f,rfl,hd,hA,hN1,hN,hw,hlo,hzz,hsz,h0,kk⟩;refine⟨rfl,?_⟩;have lA:=hA.len;have h0l:0<st.length:=(List.getElem?_eq_some_iff.mp h0).1;have hd1:eP (st++[Cell.ins aK []]) d A:=yA h0 (fun m hm _=>List.getElem?_append_left hm) hd;refine⟨st.length,N,d,A,rfl,by simp,hd1,lA,hN,fun st1 B1 l1 f1=>⟨rfl,?_⟩⟩;have hl1:(st++[Cell.ins aK []]).length=st.length+1:=by simp
 have fr1:∀m,m<st.length->st1[m]?=st[m]?:=fun m hm=>by rw[f1 m (by omega) (by omega),List.getElem?_append_left hm]
 have O1:Bo st.length st st1 st.length (st.length+1) (st.length+1+1) (st.length+1+2):=⟨⟨h0l,by omega,by omega,by omega,by omega⟩,fun m hm _=>fr1 m hm,f,(fr1 0 h0l).trans h0⟩
 rw[hl1]at B1;have hdk:∀ {st':ag},(∀m,m<st.length->m≠0->st'[m]?=st[m]?)->eP st' d A:=fun h=>yA h0 h hd;obtain⟨da,hda,hra⟩:=(hdk O1.fr).ex;have hdl:=hra.len
 have hrow0:∃d0,da[0]?=some d0/\items? st1 d0=some (aG (A.getD 0 [])):=by
  have hi:0<da.length:=by omega
  obtain⟨r,e1,e2⟩:=bG.get hra (List.getElem?_eq_getElem hi);refine⟨da[0],List.getElem?_eq_getElem hi,?_⟩;have:A.getD 0 []=r:=by rw[List.getD_eq_getElem?_getD,e1];rfl
  rw[this];exact e2
 obtain⟨d0,hd0,hi0⟩:=hrow0;have er:(aG (A.getD 0 [])).length=w:=by unfold aG;rw[List.length_map];exact Mx.c5 hA (by omega)
 try dsimp only[ak]
 refine fY (A:=a8 2 _) (fun σ st'=>σ=[some d,some (.ref st.length),some (.int 0),none,none]/\st'=st1) (fun nx h=>h _ _ ⟨rfl,rfl⟩) ?_;rintro _ _ ⟨rfl,rfl⟩;refine fY (A:=kh _ _ _) (fun σ st'=>∃(top xb xu xc:Nat) (v3:Option D) (c:Mx.B3),σ=[some d,some (.ref st.length),some (.int top),v3,none]/\Bn st' st.length xb xu xc c.A c.U c.C/\Bo st.length st st' st.length xb xu xc/\Mx.ib A N w top c) (fun nx hnx=>?_) ?_
 . refine aD hda (show e8 da 0=some d0 from i5 (j:=0) hd0) (cN hi0 ?_);rw[er];refine lj ⟨by omega,by omega⟩ ?_;rw[Int.toNat_natCast];refine nI w (fun p σ st'=>∃(top xb xu xc:Nat) (v3:Option D) (c:Mx.B3),σ=[some d,some (.ref st.length),some (.int top),v3,none]/\Bn st' st.length xb xu xc c.A c.U c.C/\Bo st.length st st' st.length xb xu xc/\Mx.ib A N p top c) ?_ ?_ ⟨0,_,_,_,none,⟨A,Mx.units N,Mx.units N⟩,rfl,B1,O1,.start⟩
   . rintro σ st' ⟨top,xb,xu,xc,v3,c,rfl,B,O,hC⟩;exact hnx _ _ ⟨top,xb,xu,xc,v3,c,rfl,B,O,hC⟩
   . rintro p σ st' rest hp ⟨top,xb,xu,xc,v3,c,rfl,B,O,hC⟩ next
     refine⟨_,rfl,?_⟩;obtain⟨ld,S⟩:=hC.Ea hA hlo hN (Nat.le_of_lt hp);have hle:=S.le;have hroom:=hsz p top c hp hC;refine ly B.eb rfl ?_;refine⟨st.length,st.length,xb,xu,xc,N,w,top,p,_,_,z,A,c.A,c.U,c.C,ld,rfl,B,⟨O.lo,fun _ _ _=>rfl,O.tb⟩,S,hN,hw,hp,hzz,hroom.ga,fun st2 B2 O2 hL=>?_,fun st2 xb2 xu2 xc2 c2 r B2 O2 hR hL=>?_⟩
     . exact yz (next _ _ ⟨top,xb,xu,xc,_,c,rfl,B2,⟨O2.lo,fun m h1 h2=>(O2.fr m h1 h2).trans (O.fr m h1 h2),O2.tb⟩,.next hC (.none hL)⟩)
     . refine dM ?_;obtain⟨s1,ht,_⟩:=S.one hp hR hL;have O2':Bo st.length st st2 st.length xb2 xu2 xc2:=⟨O2.lo,fun m h1 h2=>(O2.fr m h1 h2).trans (O.fr m h1 h2),O2.tb⟩
       refine ly B2.eb rfl ?_;refine⟨st.length,xb2,xu2,xc2,N,w,top,p,(N-top+1)*(Mx.Ez N e0 top+1),Mx.Vz N e0 top,z,A,_,_,_,rfl,B2,s1.tn,hN,hw,hp,ht,s1.tp,fun q hq=>s1.zs top q (Nat.le_refl _) ht hq,fun q=>⟨s1.lo.1 top q (Nat.le_refl _) ht,s1.lo.2.1 top q (Nat.le_refl _) ht,s1.lo.2.2 top q (Nat.le_refl _) ht⟩,fun i q hi=>?_,hzz,fun k hk=>hroom.lo c2 r k hR hL hk,fun st3 B3 f3=>?_⟩
       . obtain⟨a1,a2,a3⟩:=s1.Ku hi q;rw[a1,a2,a3];exact S.hi i q hi
       . exact next _ _ ⟨top+1,xb2,xu2,xc2,_,_,rfl,B3,O2'.low f3,.next hC (.one hR hL)⟩
 . rintro σ st2 ⟨top,xb,xu,xc,v3,c,rfl,B,O,hC⟩;obtain⟨ld,S⟩:=hC.Ea hA hlo hN (Nat.le_refl _);have hle:=S.le;have T:=S.tn;have lN:=T.isA.len;refine c7 B.eb rfl ?_;obtain⟨da2,hda2,hra2⟩:=(hdk O.fr).ex;refine cN hda2 ?_;rw[hra2.len,lA];refine⟨_,c.C,N,rfl,⟨_,aJ B.e3,bG.lst⟩,T.gp.fx,by rw[T.gp.len];omega,by omega,?_⟩;refine c7 B.eb rfl (zw B.e1 ?_);rw[xO,<-List.map_take];refine⟨_,c.A.take top,rfl,⟨_,rfl,bG.lst⟩,by rw[List.length_take];omega,?_⟩;refine c7 B.eb rfl ?_;refine⟨_,c.U,rfl,⟨_,aJ B.e2,bG.lst⟩,by rw[T.eB.len];omega,?_⟩;refine⟨by show 3<=sizeLine;decide,?_⟩;refine kk st2 top c hC ⟨?_,O.fr,O.tb⟩;have:=(List.getElem?_eq_some_iff.mp B.eb).1;omega
structure Hm(st:ag)(d:D):Prop where
 any:Any st d
 aw:∀xs,items? st d=some xs->∀x∈xs,pM st x/\uF st x
def EA(st:ag)(A:List (List Int))(N w:Nat)(f t b:D):Bool:=
 dR st f .aE w&&(fB [] (-1) (rowsOf st f)&&(DU st t b N&&decide (Mx.mulM (rowsOf st t) A w=rowsOf st f++o_ (N-(rowsOf st f).length) w)))
def xD(st:ag)(A:List (List Int))(N w:Nat)(d:D):Bool:=match items? st d with
 |some [f,t,b]=>EA st A N w f t b
 |_=>false
theorem HY{st:ag}{A:List (List Int)}{N w:Nat}{d:D}(e:items? st d=none):xD st A N w d=false:=by unfold xD;rw[e]
theorem Mj{st:ag}{A:List (List Int)}{N w:Nat}{d:D}{xs:List D}(e:items? st d=some xs)(h:xs.length≠3):xD st A N w d=false:=by
 unfold xD;rw[e];match xs,h with
 | [],_=>rfl
 | [_],_=>rfl
 | [_,_],_=>rfl
 | [_,_,_],h=>exact absurd rfl h
 |_::_::_::_::_,_=>rfl
theorem BJ{st:ag}{A:List (List Int)}{N w:Nat}{d f t b:D}(e:items? st d=some [f,t,b]):xD st A N w d=EA st A N w f t b:=by unfold xD;rw[e]
theorem HS{xs:List D}(h:xs.length=3):∃f t b,xs=[f,t,b]:=by
 match xs,h with
 | [f,t,b],_=>exact⟨f,t,b,rfl⟩
def kZ:cw:=fun ds st K=>∃(d x:D) (A:List (List Int)) (N w:Nat),ds=[d,x]/\eP st d A/\Mx.cj N w A/\1<=N/\N<=8/\w<=9/\(∀r∈A,∀c∈r,c.natAbs<=2^48)/\Hm st x/\K (.bl (xD st A N w x)) st
def iL:List Str:=["rows","told","many","wide","form","turn"]
def wD:DS:=(aF (a8 2 (bY di (af (ae 0) ak)))
 (aF (a8 3 (bY di (af (av aX (ae 0) (dC (.int 0))) ak)))
 (aF (cY (jx (ba (aC fX (af (ae 1) (af (dC (.int 3)) ak))))) (a_ (dC (.bl false))) cK)
 (aF (a8 4 (av aX (ae 1) (dC (.int 0))))
 (aF (a8 5 (av aX (ae 1) (dC (.int 1))))
 (aF (cY (qL (jx (ba (aC la (af (ae 4) (af (dC .aE) (af (ae 3) ak)))))) (jx (ba (aC oi (af (ae 4) ak))))) (a_ (dC (.bl false))) cK)
 (aF (cY (jx (ba (aC pF (af (ae 5) (af (av aX (ae 1) (dC (.int 2))) (af (ae 2) ak)))))) (a_ (dC (.bl false))) cK)
 (a_ (av e9 (aC qB (af (ae 5) (af (ae 0) ak))) (av dm (aC nP (af (ae 4) ak)) (aC ou (af (av mK (ae 2) (bY di (af (ae 4) ak))) (af (ae 3) ak)))))))))))))
theorem vM:∀ds st K,kZ ds st K->ds.length=2/\wD {nx:=fun _ st'=>K .aE st',rt:=K} (aU iL ds) st:=by
 rintro ds st K ⟨d,x,A,N,w,rfl,hd,hA,hN1,hN,hw,hlo,hx,k⟩;refine⟨rfl,?_⟩;obtain⟨da,hda,ra⟩:=hd.ex;have ld:da.length=N:=by rw[ra.len];exact hA.len
 obtain⟨e0,ee0,he0⟩:=ra.at (k:=0) (by rw[hA.len];omega);have h0w:(A.getD 0 []).length=w:=hA.fx _ (by rw[Mx.aV (by rw[hA.len];omega)];exact List.getElem_mem _);refine cN hda ?_;rw[ld];refine aD hda ee0 (cN he0 ?_);rw[List.length_map,h0w];refine⟨x,3,rfl,hx.any,?_⟩;cases e:items? st x with
 |none=>rw[HY e]at k;exact k
 |some xs=>
  by_cases h3:xs.length=3
  . obtain⟨f,t,b,rfl⟩:=HS h3;rw[BJ e]at k;unfold EA at k;obtain⟨tf,bf⟩:=hx.aw _ e f (by simp);obtain⟨tt,bt⟩:=hx.aw _ e t (by simp);obtain⟨tb,bb⟩:=hx.aw _ e b (by simp);refine RZ ?_;refine aD e rfl ?_;refine aD e rfl ?_;refine⟨f,.aE,(w:Int),rfl,tf,.inl rfl,?_⟩;cases e1:dR st f .aE w with
    |false=>rw[e1]at k;exact k
    |true=>
     rw[e1]at k;obtain⟨Rf,wf,fs,ef,lf⟩:=C6 e1;have lf2:=bf.le fs ef;refine⟨f,rowsOf st f,w,rfl,Rf,wf,by omega,?_⟩;cases e2:fB [] (-1) (rowsOf st f)with
     |false=>rw[e2]at k;exact k
     |true=>
      rw[e2]at k;refine aD e rfl ⟨t,b,N,rfl,tt,tb,bt,bb,hN1,by omega,?_⟩;cases e3:DU st t b N with
      |false=>rw[e3]at k;exact k
      |true=>
       rw[e3]at k;have e4:dR st t (.int N) N=true:=by unfold DU at e3;rw[Bool.and_eq_true]at e3;exact e3.1
       obtain⟨Rt,Mt⟩:=qJ e4;have b1:=bt.rows e4;have hAn:A≠ []:=fun z=>by have:=hA.len;rw[z]at this;simp at this;omega
       refine⟨t,d,w,_,A,rfl,Rt,hd,hAn,hA.fx,by omega,by rw[Mt.len];omega,fun q hq c hc r hr y hy=>dD (b1 q hq c hc) (hlo r hr y hy) (by decide),?_⟩;refine⟨f,rowsOf st f,rfl,Rf,by omega,?_⟩;refine cN ef (my ?_);rw[lf];refine⟨_,w,rfl,by omega,by omega,by omega,?_⟩;have es:((N:Int)-((rowsOf st f).length:Int)).toNat=N-(rowsOf st f).length:=by omega
       rw[es];refine rV (bS (by unfold o_;rw[List.length_map,List.length_map,List.length_replicate];omega)) ?_;rw[<-List.map_append];refine kK gL gL ?_;rw[p_];exact k
  . rw[Mj e h3]at k;have:decide ((xs.length:Int)=3)=false:=decide_eq_false (by omega);dsimp only;rw[this];exact k
structure Wf(F:List (List Int))(m w:Nat):Prop where
 is:Mx.cj m w F
 st:Mx.cq F m w (Mx.dy F)
 m8:m<=8
 w8:w<=8
 sm:∀k c,k<m->c<w->(Mx.g F k c).natAbs<=2^887
theorem Wf.lead{F:List (List Int)}{m w i:Nat}(h:Wf F m w)(hi:i<m):Mx.dy F i<w/\0<Mx.g F i (Mx.dy F i)/\(F.getD i []).length=w/\gB (F.getD i [])= .int ((Mx.dy F i:Nat):Int):=by
 obtain⟨l1,l2,l3⟩:=h.st.lead i hi;refine⟨l1,l2,h.is.row hi,?_⟩;unfold gB;rw[FD l3 (Int.ne_of_gt l2)]
theorem Wf.row{F:List (List Int)}{m w i:Nat}(h:Wf F m w)(hi:i<m):∀x∈F.getD i [],x.natAbs<=2^887:=fun x hx=>by
 obtain⟨c,hc,rfl⟩:=List.mem_iff_getElem.mp hx;have hw:=h.is.row hi;have:=h.sm i c hi (by omega);unfold Mx.g at this;rwa [Mx.aV hc]at this
theorem Mc{x:Int}(h:x.natAbs<=2^887)(h0:x≠0):x.natAbs.log2<9000:=
 (Nat.log2_lt (by omega)).mpr (Nat.lt_of_le_of_lt h (Nat.pow_lt_pow_right (by decide) (by decide)))
theorem drop_cons{F:List (List Int)}{i:Nat}{d:D}{rest:List D}(hr:d::rest=(F.map bL).drop i):i<F.length/\d=bL (F.getD i [])/\rest=(F.map bL).drop (i+1):=by
 have hi:i<F.length:=by
  rcases Nat.lt_or_ge i F.length with h|h
  . exact h
  . rw[List.drop_eq_nil_of_le (by rw[List.length_map];exact h)]at hr;cases hr
 rw[List.drop_eq_getElem_cons (by rw[List.length_map];exact hi),List.getElem_map]at hr;obtain⟨h1,h2⟩:=List.cons.inj hr;exact⟨hi,by rw[Mx.aV hi];exact h1,h2⟩
theorem drop_nil{F:List (List Int)}{i:Nat}(hr: []=(F.map bL).drop i):F.length<=i:=by
 have:=congrArg List.length hr;rw[List.length_drop,List.length_map,List.length_nil]at this;omega
theorem O4{i:Nat}{σ:cu}{st:ag}{K:DK}{d:D}(h:σ[i]?=some (some d))(k:K d st):ae i σ st K:=by
 unfold ae;simp only[h];exact k
def uf:cw:=fun ds st K=>∃(dr:D) (F:List (List Int)) (r:List Int) (m w e:Nat),ds=[bI F,dr]/\Wf F m w/\items? st dr=some (aG r)/\r.length=w/\(∀c,c<w->(r.getD c 0).natAbs<=2^e)/\e<=10000/\∀st',Ext st st'->K (.tup [bL (Mx.uH F r m),bL (Mx.fw F r m)]) st'
def qy:List Str:=["form","row","weights","left","each","lead","weight"]
def Gz:DS:=(aF (a8 2 (BS ak))
 (aF (a8 3 (bY nk (af (ae 1) ak)))
 (aF (kh (d9 (ae 0)) (cB 4) (aF (a8 5 (aC iz (af (ae 4) ak)))
 (aF (a8 6 (av qE (av aX (ae 3) (ae 5)) (av aX (ae 4) (ae 5))))
 (aF (mq (o8 (ae 2) (ae 6)))
 (a8 3 (aC mT (af (ae 3) (af (mG ir (ae 6)) (af (ae 4) ak)))))))))
 (a_ (ji (af (bY dU (af (ae 2) ak)) (af (bY dU (af (ae 3) ak)) ak)))))))
theorem En:∀ds st K,uf ds st K->ds.length=2/\Gz {nx:=fun _ st'=>K .aE st',rt:=K} (aU qy ds) st:=by
 rintro ds st K ⟨dr,F,r,m,w,e,rfl,hW,hr,lr,br,he,k⟩;refine⟨rfl,?_⟩;have lF:=hW.is.len;have m8:=hW.m8;have w8:=hW.w8;refine⟨Nat.le_of_ble_eq_true rfl,?_⟩;have X0:Ext st (st++[.lst []]):=Ext.push;have e0:(st++[Cell.lst []])[st.length]?=some (.lst (aG [])):=by simp
 refine oZ (X0.items hr) (j0 ?_);refine g_ (fun rest σ st'=>∃(i:Nat) (v4 v5 v6:Option D),i<=m/\rest=(F.map bL).drop i/\σ=[some (bI F),some dr,some (.ref st.length),some (bo (Mx.fw F r i)),v4,v5,v6]/\Ext st st'/\st'[st.length]?=some (.lst (aG (Mx.uH F r i)))) ?_ ?_ _ _ _ ⟨0,none,none,none,Nat.zero_le _,rfl,rfl,X0,e0⟩
 . rintro σ st' ⟨i,v4,v5,v6,hi,hrest,rfl,X,ew⟩;have e1:i=m:=Nat.le_antisymm hi (by rw[<-lF];exact drop_nil hrest);subst e1;exact⟨trivial,dw (aJ ew) (dw rfl ⟨Nat.le_of_ble_eq_true rfl,k st' X⟩)⟩
 . rintro x rest σ st' ⟨i,v4,v5,v6,hi,hrest,rfl,X,ew⟩ next
   obtain⟨hiF,rfl,rfl⟩:=drop_cons hrest;have him:i<m:=by rw[<-lF];exact hiF
   obtain⟨l1,l2,wF,eld⟩:=hW.lead him;have lL:=Mx.rj hW.is lr (i:=i) (Nat.le_of_lt him);refine⟨trivial,_,rfl,_,F.getD i [],rfl,rfl,?_⟩;rw[eld];have at1:e8 (aG (F.getD i [])) ((Mx.dy F i:Nat):Int)=some (.int (Mx.g F i (Mx.dy F i))):=jd (by omega);have at2:e8 (aG (Mx.fw F r i)) ((Mx.dy F i:Nat):Int)=some (.int ((Mx.fw F r i).getD (Mx.dy F i) 0)):=jd (by omega);refine aD rfl at2 (aD rfl at1 (zp (by omega) (Mc (hW.sm i _ him l1) (by omega)) ?_));have bx:=Mx.vq hW.is lr hW.st hW.sm br (Nat.le_of_lt him) _ l1;have bq:(Mx.uC F (Mx.fw F r i) i).natAbs<=2^(e+i*(887+1)):=Nat.le_trans (Mx.pZ _ l2) bx;show aF _ _ _ [_,_,_,_,_,_,some (.int (Mx.uC F (Mx.fw F r i) i))] _;have lW:(Mx.uH F r i).length=i:=by unfold Mx.uH;simp
   refine G_ (by rfl) ew (O4 rfl (DW ew (by rw[sizeLine_eq,List.length_map,lW];omega) ?_));have hlt:=(List.getElem?_eq_some_iff.mp ew).1;refine gI ?_;refine⟨_,_,_,Mx.fw F r i,F.getD i [],rfl,rfl,rfl,by omega,fun b hb=>dD (by rw[Int.natAbs_neg];exact bq) (hW.row him b hb) (by omega),?_⟩;refine next _ _ ⟨i+1,_,_,_,him,rfl,rfl,X.set (Nat.le_refl _),?_⟩
   rw[List.getElem?_set_self hlt,ints_app];congr 3;unfold Mx.uH;rw[List.range_succ,List.map_append];rfl
def sr:cw:=fun ds st K=>∃a b,ds=[.int a,.int b]/\K (.int ((Nat.gcd a.natAbs b.natAbs:Nat):Int)) st
def sQ:List Str:=["one","other","great","small","rest"]
def IQ:DS:=(aF (a8 2 (bY tE (af (ae 0) ak)))
 (aF (a8 3 (bY tE (af (ae 1) ak)))
 (aF (xn (ba (av pX (ae 3) (dC (.int 0)))) (aF (a8 4 (av jr (ae 2) (ae 3)))
 (aF (a8 2 (ae 3))
 (a8 3 (ae 4)))))
 (a_ (ae 2)))))
theorem Jh(a b:Nat):(a:Int).fmod (b:Int)=((a%b:Nat):Int):=by
 rw[Int.fmod_eq_emod_of_nonneg _ (Int.natCast_nonneg b)];exact(Int.natCast_emod a b).symm
theorem Hr:∀ds st K,sr ds st K->ds.length=2/\IQ {nx:=fun _ st'=>K .aE st',rt:=K} (aU sQ ds) st:=by
 rintro ds st K ⟨a,b,rfl,k⟩;refine⟨rfl,?_⟩;refine uS (uS ?_);refine⟨fun m σ st'=>∃(g s:Nat) (r:Option D),σ=[some (.int a),some (.int b),some (.int g),some (.int s),r]/\st'=st/\Nat.gcd g s=Nat.gcd a.natAbs b.natAbs/\s=m,⟨b.natAbs,a.natAbs,b.natAbs,none,?_,rfl,rfl,rfl⟩,?_⟩
 . rfl
 . rintro m σ st' ⟨g,s,r,rfl,rfl,hg,rfl⟩;refine ne2 (fun h=>dM ?_) fun h=>?_
   . refine oa h ⟨g%s,Nat.mod_lt _ (by omega),s,g%s,some (.int ((g%s:Nat):Int)),?_,rfl,?_,rfl⟩
     . rw[Jh];rfl
     . rw[Nat.gcd_comm,<-Nat.gcd_rec,Nat.gcd_comm];exact hg
   . have:s=0:=by omega
     subst this;rw[Nat.gcd_zero_right]at hg;subst hg;exact k
abbrev ik(q:Rat):D:= .tup [.int q.num,.int ((q.den:Nat):Int)]
def pK:cw:=fun ds st K=>∃(t b:Int),ds=[.int t,.int b]/\b≠0/\K (ik (Rat.divInt t b)) st
def xi:List Str:=["top","bottom","shrink"]
def NX:DS:=(aF (a8 2 (aC sr (af (ae 0) (af (ae 1) ak))))
 (aF (cY (ba (av oA (ae 1) (dC (.int 0)))) (a8 2 (mG ir (ae 2))) cK)
 (a_ (ji (af (av nQ (ae 0) (ae 2)) (af (av nQ (ae 1) (ae 2)) ak))))))
theorem uy{g t:Int}(hg:g≠0)(h:g∣t):t.fdiv (-g)=(-1*t).fdiv g:=by
 obtain⟨c,rfl⟩:=h
 have e1:(g*c).fdiv (-g)= -c:=by
  have:g*c=(-g)*(-c):=by rw[Int.neg_mul_neg]
  rw[this,Int.mul_fdiv_cancel_left _ (by omega)]
 have e2:(-1*(g*c)).fdiv g= -c:=by
  have: -1*(g*c)=g*(-c):=by rw[Int.neg_mul,Int.one_mul,Int.mul_neg]
  rw[this,Int.mul_fdiv_cancel_left _ hg]
 rw[e1,e2]
theorem GG(t b:Int):((Nat.gcd t.natAbs b.natAbs:Nat):Int)∣t:=Int.ofNat_dvd_left.mpr (Nat.gcd_dvd_left _ _)
theorem FL(t b:Int):((Nat.gcd t.natAbs b.natAbs:Nat):Int)∣b:=Int.ofNat_dvd_left.mpr (Nat.gcd_dvd_right _ _)
theorem Lv{t b:Int}(hb:b≠0):D.tup [.int (((if b<0 then(-1:Int)else 1)*t).fdiv ((Nat.gcd t.natAbs b.natAbs:Nat):Int)),.int (((if b<0 then(-1:Int)else 1)*b).fdiv ((Nat.gcd t.natAbs b.natAbs:Nat):Int))]=ik (Rat.divInt t b):=by
 unfold ik;have hg:(b.gcd t:Nat)=Nat.gcd t.natAbs b.natAbs:=by unfold Int.gcd;rw[Nat.gcd_comm]
 have hs:(if b<0 then(-1:Int)else 1)=b.sign:=by
  rcases Int.lt_trichotomy b 0 with h|h|h
  . rw[if_pos h,Int.sign_eq_neg_one_of_neg h]
  . exact absurd h hb
  . rw[if_neg (by omega),Int.sign_eq_one_of_pos h]
 have e1:(Rat.divInt t b).num=((if b<0 then(-1:Int)else 1)*t).fdiv ((Nat.gcd t.natAbs b.natAbs:Nat):Int):=by
  rw[Rat.num_divInt,hs,hg,Int.fdiv_eq_ediv_of_nonneg _ (Int.natCast_nonneg _)]
 have e2:(((Rat.divInt t b).den:Nat):Int)=((if b<0 then(-1:Int)else 1)*b).fdiv ((Nat.gcd t.natAbs b.natAbs:Nat):Int):=by
  rw[Rat.den_divInt,if_neg hb,hs,hg,Int.fdiv_eq_ediv_of_nonneg _ (Int.natCast_nonneg _),Int.natCast_ediv];congr 1;rw[Int.sign_mul_self]
 rw[e1,e2]
theorem Mr:∀ds st K,pK ds st K->ds.length=2/\NX {nx:=fun _ st'=>K .aE st',rt:=K} (aU xi ds) st:=by
 rintro ds st K ⟨t,b,rfl,hb,k⟩;refine⟨rfl,?_⟩;refine⟨t,b,rfl,?_⟩
 have hg0:Nat.gcd t.natAbs b.natAbs≠0:=fun z=>by
  have:=Nat.eq_zero_of_gcd_eq_zero_right z;omega
 have hne:((Nat.gcd t.natAbs b.natAbs:Nat):Int)≠0:=by omega
 rw[<-Lv hb]at k;refine Kr (fun h=>dM ?_) fun h=>?_
 . rw[if_pos h,<-uy hne (GG t b),<-uy hne (FL t b)]at k;exact gI (mR (by omega) (mR (by omega) ⟨Nat.le_of_ble_eq_true rfl,k⟩))
 . rw[if_neg (by omega),Int.one_mul,Int.one_mul]at k;exact mR hne (mR hne ⟨Nat.le_of_ble_eq_true rfl,k⟩)
structure Fq(st:ag)(d:D)(q:Rat)(m:Nat):Prop where
 aw:items? st d=some [.int q.num,.int ((q.den:Nat):Int)]
 sz:Mx.Sz q m
theorem Fq.b{st:ag}{d:D}{q:Rat}{m:Nat}(h:Fq st d q m):(((q.den:Nat):Int)).natAbs<=2^m:=h.sz.den
theorem Fq.of{st:ag}{q:Rat}{m:Nat}(h:Mx.Sz q m):Fq st (ik q) q m:=⟨rfl,h⟩
def Cr:cw:=fun ds st K=>∃x y p q a b,ds=[x,y]/\Fq st x p a/\Fq st y q b/\a+b<=130000000/\K (ik (p+q)) st
def xV:List Str:=["one","other"]
def OF:DS:=(a_ (aC pK (af (av dm (av cZ (av aX (ae 0) (dC (.int 0))) (av aX (ae 1) (dC (.int 1)))) (av cZ (av aX (ae 1) (dC (.int 0))) (av aX (ae 0) (dC (.int 1))))) (af (av cZ (av aX (ae 0) (dC (.int 1))) (av aX (ae 1) (dC (.int 1)))) ak))))
theorem KW:∀ds st K,Cr ds st K->ds.length=2/\OF {nx:=fun _ st'=>K .aE st',rt:=K} (aU xV ds) st:=by
 rintro ds st K ⟨x,y,p,q,a,b,rfl,X,Y,h,k⟩;refine⟨rfl,?_⟩;have h':b+a<=130000000:=by omega
 rw[Mx.add_eq]at k;exact aD X.aw rfl (aD Y.aw rfl (dW (dD X.sz.num Y.b h) (aD Y.aw rfl (aD X.aw rfl (dW (dD Y.sz.num X.b h') (d6 (aD X.aw rfl (aD Y.aw rfl (dW (dD X.b Y.b h) ⟨_,_,rfl,Int.mul_ne_zero (Mx.den_nz p) (Mx.den_nz q),k⟩)))))))))
def yV:cw:=fun ds st K=>∃x y p q a b,ds=[x,y]/\Fq st x p a/\Fq st y q b/\a+b<=130000000/\K (ik (p-q)) st
def vm:List Str:=["one","other"]
def Le:DS:=(a_ (aC pK (af (av mK (av cZ (av aX (ae 0) (dC (.int 0))) (av aX (ae 1) (dC (.int 1)))) (av cZ (av aX (ae 1) (dC (.int 0))) (av aX (ae 0) (dC (.int 1))))) (af (av cZ (av aX (ae 0) (dC (.int 1))) (av aX (ae 1) (dC (.int 1)))) ak))))
theorem HC:∀ds st K,yV ds st K->ds.length=2/\Le {nx:=fun _ st'=>K .aE st',rt:=K} (aU vm ds) st:=by
 rintro ds st K ⟨x,y,p,q,a,b,rfl,X,Y,h,k⟩;refine⟨rfl,?_⟩;have h':b+a<=130000000:=by omega
 rw[Mx.sub_eq]at k;exact aD X.aw rfl (aD Y.aw rfl (dW (dD X.sz.num Y.b h) (aD Y.aw rfl (aD X.aw rfl (dW (dD Y.sz.num X.b h') (my (aD X.aw rfl (aD Y.aw rfl (dW (dD X.b Y.b h) ⟨_,_,rfl,Int.mul_ne_zero (Mx.den_nz p) (Mx.den_nz q),k⟩)))))))))
def yD:cw:=fun ds st K=>∃x y p q a b,ds=[x,y]/\Fq st x p a/\Fq st y q b/\a+b<=130000000/\K (ik (p*q)) st
def vB:List Str:=["one","other"]
def Ms:DS:=(a_ (aC pK (af (av cZ (av aX (ae 0) (dC (.int 0))) (av aX (ae 1) (dC (.int 0)))) (af (av cZ (av aX (ae 0) (dC (.int 1))) (av aX (ae 1) (dC (.int 1)))) ak))))
theorem Im:∀ds st K,yD ds st K->ds.length=2/\Ms {nx:=fun _ st'=>K .aE st',rt:=K} (aU vB ds) st:=by
 rintro ds st K ⟨x,y,p,q,a,b,rfl,X,Y,h,k⟩;refine⟨rfl,?_⟩;rw[Mx.mul_eq]at k;exact aD X.aw rfl (aD Y.aw rfl (dW (dD X.sz.num Y.sz.num h) (aD X.aw rfl (aD Y.aw rfl (dW (dD X.b Y.b h) ⟨_,_,rfl,Int.mul_ne_zero (Mx.den_nz p) (Mx.den_nz q),k⟩)))))
def CN:cw:=fun ds st K=>∃x y p q a b,ds=[x,y]/\Fq st x p a/\Fq st y q b/\a+b<=130000000/\q.num≠0/\K (ik (p/q)) st
def x4:List Str:=["one","other"]
def OB:DS:=(a_ (aC pK (af (av cZ (av aX (ae 0) (dC (.int 0))) (av aX (ae 1) (dC (.int 1)))) (af (av cZ (av aX (ae 0) (dC (.int 1))) (av aX (ae 1) (dC (.int 0)))) ak))))
theorem KN:∀ds st K,CN ds st K->ds.length=2/\OB {nx:=fun _ st'=>K .aE st',rt:=K} (aU x4 ds) st:=by
 rintro ds st K ⟨x,y,p,q,a,b,rfl,X,Y,h,hq,k⟩;refine⟨rfl,?_⟩;rw[Mx.div_eq]at k;exact aD X.aw rfl (aD Y.aw rfl (dW (dD X.sz.num Y.b h) (aD X.aw rfl (aD Y.aw rfl (dW (dD X.b Y.sz.num h) ⟨_,_,rfl,Int.mul_ne_zero (Mx.den_nz p) hq,k⟩)))))
def mP:cw:=fun ds st K=>∃n:Int,ds=[.int n]/\K (ik (n:Rat)) st
def vp:List Str:=["n"]
def Kw:DS:=(a_ (ji (af (ae 0) (af (dC (.int 1)) ak))))
theorem IU:∀ds st K,mP ds st K->ds.length=1/\Kw {nx:=fun _ st'=>K .aE st',rt:=K} (aU vp ds) st:=by
 rintro ds st K ⟨n,rfl,k⟩;exact⟨rfl,Nat.le_of_ble_eq_true rfl,k⟩
def ux:cw:=fun ds st K=>∃q:Rat,ds=[ik q]/\K (.bl true) st
def qm:List Str:=["thing"]
def GS:DS:=(a_ (jz (aC gw (af (ae 0) (af (dC (.int 2)) ak))) (jz (av qk (av aX (ae 0) (dC (.int 1))) (dC (.int 0))) (av e9 (aC sr (af (av aX (ae 0) (dC (.int 0))) (af (av aX (ae 0) (dC (.int 1))) ak))) (dC (.int 1))))))
theorem yq{st:ag}{r:List Int}(h:r.length<=1000):Thing st (bL r):=⟨⟨_,rfl⟩,fun xs hx=>by
 have e:xs=aG r:=by cases hx;rfl
 subst e;refine⟨fun x hx=>?_,bS (by rw[List.length_map];exact h)⟩;obtain⟨i,_,rfl⟩:=List.mem_map.mp hx;exact⟨_,rfl⟩⟩
theorem EV:∀ds st K,ux ds st K->ds.length=1/\GS {nx:=fun _ st'=>K .aE st',rt:=K} (aU qm ds) st:=by
 rintro ds st K ⟨q,rfl,k⟩;refine⟨rfl,?_⟩;refine⟨_,2,rfl,yq (r:=[q.num,((q.den:Nat):Int)]) (Nat.le_of_ble_eq_true rfl),?_⟩;have hd:=q.den_pos;refine dM (aD rfl rfl (QL (by omega) (dM (aD rfl rfl (aD rfl rfl ⟨_,_,rfl,?_⟩)))));have hg:Nat.gcd q.num.natAbs ((q.den:Nat):Int).natAbs=1:=q.reduced;rw[hg];exact eqT rfl k
def xt(st:ag):List D->List Rat->Prop
 | [],[]=>True
 |d::ds,q::qs=>items? st d=some [.int q.num,.int ((q.den:Nat):Int)]/\xt st ds qs
 |_,_=>False
theorem xt.of{st:ag}:∀ {ps:List Rat},xt st (ps.map ik) ps
 | []=>trivial
 |_::_=>⟨rfl,xt.of⟩
def ko:cw:=fun ds st K=>∃(dp dr:D) (xs:List D) (ps:List Rat) (r:List Int) (t e:Nat),ds=[dp,dr]/\items? st dp=some xs/\xt st xs ps/\items? st dr=some (aG r)/\Mx.Pb ps t/\(∀x∈r,x.natAbs<=2^e)/\t+ps.length*(e+1)<=60000000/\K (ik (Mx.mF 0 ps r)) st
def nc:List Str:=["parts","row","total","one","number"]
def Di:DS:=(aF (a8 2 (aC mP (af (dC (.int 0)) ak)))
 (aF (kh (qY (af (ae 0) (af (ae 1) ak))) (g4 3 4) (a8 2 (aC Cr (af (ae 2) (af (aC yD (af (ae 3) (af (aC mP (af (ae 4) ak)) ak))) ak)))))
 (a_ (ae 2))))
theorem Cn:∀ds st K,ko ds st K->ds.length=2/\Di {nx:=fun _ st'=>K .aE st',rt:=K} (aU nc ds) st:=by
 rintro ds st K ⟨dp,dr,xs,ps,r,t,e,rfl,hp,hx,hr,hP,hsm,hB,k⟩;refine⟨rfl,?_⟩;refine⟨_,rfl,?_⟩;refine nO hp hr fun ok aP=>?_;refine g_ (fun rest σ st'=>st'=st/\∃(xs':List D) (ps':List Rat) (r':List Int) (tot:Rat) (T C:Nat) (v3 v4:Option D),rest=fW xs' (aG r')/\xt st xs' ps'/\σ=[some dp,some dr,some (ik tot),v3,v4]/\Mx.Sz tot T/\Mx.Pb ps' C/\(∀x∈r',x∈r)/\Mx.mF tot ps' r'=Mx.mF 0 ps r/\T+C+ps'.length*(e+1)<=60000000) ?_ ?_ _ _ _ ⟨rfl,xs,ps,r,0,0,t,none,none,rfl,hx,rfl,⟨by decide,by decide⟩,hP,fun _ h=>h,rfl,by omega⟩
 . rintro σ st' ⟨rfl,xs',ps',r',tot,T,C,v3,v4,he,hx',rfl,hT,hC,_,hd,hle⟩;refine⟨aP _ hp hr,?_⟩
   have:Mx.mF tot ps' r'=tot:=by
    match xs',ps',r',hx',he with
    | [],[],_,_,_=>unfold Mx.mF;rfl
    |_::_,_::_,[],_,_=>unfold Mx.mF;rfl
    |_::_,_::_,_::_,_,he=>cases he
   rw[<-hd,this]at k;exact k
 . rintro x rest σ st' ⟨rfl,xs',ps',r',tot,T,C,v3,v4,he,hx',rfl,hT,hC,hm,hd,hle⟩ next
   match xs',ps',r',he,hx',hC,hm,hd,hle with
   | [],[],_,he,_,_,_,_,_=>cases he
   |_::_,_::_,[],he,_,_,_,_,_=>cases he
   |d::xs',p::ps',n::r',he,hx',⟨a,C',ha,hC',hbC⟩,hm,hd,hle=>
    have hz:fW (d::xs') (aG (n::r'))= .tup [d,.int n]::fW xs' (aG r'):=rfl;rw[hz,List.cons.injEq]at he;obtain⟨rfl,rfl⟩:=he;have hn:=hsm n (hm n List.mem_cons_self);rw[List.length_cons,Nat.succ_mul]at hle;have s1:=Mx.Sz.int hn;refine⟨aP _ hp hr,_,rfl,?_⟩;refine⟨_,rfl,d,_,p,(n:Rat),a,e,rfl,⟨hx'.1,ha⟩,Fq.of s1,by omega,?_⟩;refine⟨_,_,tot,p*(n:Rat),T,a+e,rfl,Fq.of hT,Fq.of (ha.mul s1),by omega,?_⟩;exact next _ _ ⟨rfl,xs',ps',r',_,_,C',_,_,rfl,hx'.2,rfl,hT.add (ha.mul s1),hC',fun x hx=>hm x (List.mem_cons_of_mem _ hx),hd,by omega⟩
def qM:cw:=fun ds st K=>∃(F:List (List Int)) (R:List Int) (m w l:Nat),ds=[bI F,bL R,.int l]/\Wf F m w/\R.length=w/\l<w/\∀b:Int,Mx.D8 F m l (R.getD l 0) b->K (.int b) st
def ny:List Str:=["form","rest","place","row"]
def CQ:DS:=(aF (kh (d9 (ae 0)) (cB 3) (cY (ba (av e9 (aC iz (af (ae 3) ak)) (ae 2))) (a_ (av aX (ae 3) (ae 2))) cK))
 (a_ (av cZ (dC (.int 2)) (bY tE (af (av aX (ae 1) (ae 2)) ak)))))
theorem Cv:∀ds st K,qM ds st K->ds.length=3/\CQ {nx:=fun _ st'=>K .aE st',rt:=K} (aU ny ds) st:=by
 rintro ds st K ⟨F,R,m,w,l,rfl,hW,lR,hl,k⟩;refine⟨rfl,?_⟩;have lF:=hW.is.len;refine j0 ?_;refine g_ (fun rest σ st'=>st'=st/\∃(i:Nat) (v3:Option D),i<=m/\rest=(F.map bL).drop i/\σ=[some (bI F),some (bL R),some (.int l),v3]/\∀k,k<i->Mx.dy F k≠l) ?_ ?_ _ _ _ ⟨rfl,0,none,Nat.zero_le _,rfl,rfl,fun k h=>absurd h (Nat.not_lt_zero _)⟩
 . rintro σ st' ⟨rfl,i,v3,hi,hrest,rfl,hn⟩;have:=drop_nil hrest;exact⟨trivial,aD rfl (jd (by omega)) (uS (dW (hZ (by decide) (by decide)) (k _ (.inr ⟨fun k hk=>hn k (by omega),rfl⟩))))⟩
 . rintro x rest σ st' ⟨rfl,i,v3,hi,hrest,rfl,hn⟩ next
   obtain⟨hiF,rfl,rfl⟩:=drop_cons hrest;have him:i<m:=by rw[<-lF];exact hiF
   obtain⟨l1,l2,wF,eld⟩:=hW.lead him;refine⟨trivial,_,rfl,_,F.getD i [],rfl,rfl,?_⟩;rw[eld];refine eq2 (fun h=>dM ?_) fun h=>next _ _ ⟨rfl,i+1,_,him,rfl,rfl,fun k hk=>?_⟩
   . have hh:Mx.dy F i=l:=by omega
     exact aD rfl (jd (by omega)) (k _ (.inl ⟨i,him,hh,rfl⟩))
   . by_cases q:k=i
     . subst q;omega
     . exact hn k (by omega)
theorem z_:∀(r:List Int) (i l:Nat),g6 r i=some l->∃k,l=i+k/\k<r.length/\r.getD k 0≠0/\∀c,c<k->r.getD c 0=0
 | [],_,_,h=>by cases h
 |x::r,i,l,h=>by
  unfold g6 at h;split at h
  . rename_i hx;obtain⟨k,e,hk,hr,hz⟩:=z_ r (i+1) l h;refine⟨k+1,by omega,Nat.succ_lt_succ hk,hr,fun c hc=>?_⟩;cases c with
    |zero=>exact hx
    |succ c=>exact hz c (Nat.lt_of_succ_lt_succ hc)
  . cases h;exact⟨0,rfl,Nat.succ_pos _,by assumption,fun c hc=>absurd hc (Nat.not_lt_zero _)⟩
theorem vQ{r:List Int}{l:Nat}(h:iX r=some l):l<r.length/\r.getD l 0≠0/\∀c,c<l->r.getD c 0=0:=by
 obtain⟨k,e,h1,h2,h3⟩:=z_ r 0 l h;rw[Nat.zero_add]at e;subst e;exact⟨h1,h2,h3⟩
def mf:cw:=fun ds st K=>∃(F:List (List Int)) (R:List Int) (m w e l:Nat),ds=[bI F,bL R]/\Wf F m w/\R.length=w/\iX R=some l/\(∀c,c<w->(R.getD c 0).natAbs<=2^e)/\e<=10000/\∀st' b,Ext st st'->Mx.D8 F m l (R.getD l 0) b->Mx.Pb (Mx.ox F m w l (Mx.kl w l b) m) 10000000->K (.tup ((Mx.ox F m w l (Mx.kl w l b) m).map ik)) st'
def js:List Str:=["form","rest","place","parts","k","lead","owed"]
def yt:DS:=(aF (a8 2 (aC iz (af (ae 1) ak)))
 (aF (a8 3 (av yh (sP (af (aC mP (af (dC (.int 0)) ak)) ak)) (bY di (af (ae 1) ak))))
 (aF (eO (ae 3) (ae 2) (aC pK (af (dC (.int 1)) (af (aC qM (af (ae 0) (af (ae 1) (af (ae 2) ak)))) ak))))
 (aF (kh (y0 (af (av mK (bY di (af (ae 0) ak)) (dC (.int 1))) (af (mG ir (dC (.int 1))) (af (mG ir (dC (.int 1))) ak)))) (cB 4) (aF (a8 5 (aC iz (af (av aX (ae 0) (ae 4)) ak)))
 (cY (ba (av oA (ae 5) (ae 2))) (aF (a8 6 (aC yV (af (aC mP (af (dC (.int 0)) ak)) (af (aC ko (af (ae 3) (af (av aX (ae 0) (ae 4)) ak))) ak))))
 (eO (ae 3) (ae 5) (aC CN (af (ae 6) (af (aC mP (af (av aX (av aX (ae 0) (ae 4)) (ae 5)) ak)) ak))))) cK)))
 (a_ (bY dU (af (ae 3) ak)))))))
theorem og(a:Int)(n:Nat):(iP a n).length=n:=by unfold iP;simp
theorem FK{m i:Nat}{d:D}{rest:List D}(hr:d::rest=(iP ((m:Int)-1) m).drop i):i<m/\d= .int ((m-1-i:Nat):Int)/\rest=(iP ((m:Int)-1) m).drop (i+1):=by
 have hi:i<m:=by
  rcases Nat.lt_or_ge i m with h|h
  . exact h
  . rw[List.drop_eq_nil_of_le (by rw[og];exact h)]at hr;cases hr
 have hl:i<(iP ((m:Int)-1) m).length:=by rw[og];exact hi
 rw[List.drop_eq_getElem_cons hl]at hr;obtain⟨h1,h2⟩:=List.cons.inj hr;refine⟨hi,?_,h2⟩;have h3:(iP ((m:Int)-1) m)[i]=D.int ((m:Int)-1+(i:Nat)*(-1)):=by simp[iP]
 rw[h1,h3];congr 1;omega
theorem ve{A:List (List Int)}{k:Nat}(h:k<A.length):e8 (A.map bL) (k:Int)=some (bL (A.getD k [])):=by
 refine i5 ?_;rw[List.getElem?_map,List.getElem?_eq_getElem h,Mx.aV h];rfl
theorem Cz{α:Type}(d:α):∀n:Nat,(List.replicate n [d]).flatten=List.replicate n d
 |0=>rfl
 |n+1=>by rw[List.replicate_succ,List.flatten_cons,Cz d n,List.replicate_succ];rfl
theorem IK{ps:List Rat}{r:List Int}{w:Nat}(h1:ps.length=w)(h2:r.length=w):Mx.mF 0 ps r=Mx.dq ps w fun c=>r.getD c 0:=by
 rw[Mx.Gp ps r 0 h1 h2];grind
theorem wH:∀ds st K,mf ds st K->ds.length=2/\yt {nx:=fun _ st'=>K .aE st',rt:=K} (aU js ds) st:=by
 rintro ds st K ⟨F,R,m,w,e,l,rfl,hW,lR,el,bR,he,k⟩;refine⟨rfl,?_⟩;have lF:=hW.is.len;have m8:=hW.m8;have w8:=hW.w8;obtain⟨hl,hne,_⟩:=vQ el;rw[lR]at hl;have el':gB R= .int (l:Int):=by unfold gB;rw[el]
 refine⟨_,R,rfl,rfl,?_⟩;rw[el'];refine⟨_,rfl,Nat.le_of_ble_eq_true rfl,cN rfl (LP ⟨by omega,by rw[List.length_map];omega,bS (by simp;omega)⟩ ?_)⟩;rw[List.length_map,lR,Int.toNat_natCast,Cz];have er:List.replicate w (ik ((0:Int):Rat))=(List.replicate w (0:Rat)).map ik:=by rw[List.map_replicate];rfl
 rw[er];have X0:Ext st (st++[.lst ((List.replicate w (0:Rat)).map ik)]):=Ext.push;have e0:(st++[Cell.lst ((List.replicate w (0:Rat)).map ik)])[st.length]?=some (.lst ((List.replicate w (0:Rat)).map ik)):=by simp
 generalize st++[Cell.lst ((List.replicate w (0:Rat)).map ik)]=st1 at X0 e0⊢;refine⟨F,R,m,w,l,rfl,hW,lR,hl,fun b hb=>?_⟩;have b0:=hb.pos hW.st hne
 have bb:b.natAbs<=2^(e+888):=by
  rcases hb with⟨k,hk,_,rfl⟩|⟨_,rfl⟩
  . exact Nat.le_trans (hW.sm k l hk hl) (Nat.pow_le_pow_right (by decide) (by omega))
  . have:=bR l hl;rw[show e+888=e+887+1 by omega,Nat.pow_succ];have p:2^e<=2^(e+887):=Nat.pow_le_pow_right (by decide) (by omega);omega
 refine⟨_,_,rfl,by omega,?_⟩
 have hix:∀ {n i:Nat},i<n->mH n (i:Int)=some i:=fun{n i} h=>by
  unfold mH;simp only[Int.natCast_nonneg,Int.toNat_natCast];simp[h]
 refine gf e0 (hix (by simpa using hl)) ?_;have hlt:=(List.getElem?_eq_some_iff.mp e0).1;refine cN rfl (my (gI (gI ?_)));rw[List.length_map,lF];refine Ll ⟨by omega,by omega,by decide,by decide⟩ ?_;rw[show((m:Int)-1- -1).toNat=m by omega]
 have p0:Mx.Pb (Mx.kl w l b) (e+888):=by
  have:=(Mx.Pb.rep w).set (k:=l) (Mx.Sz.of (t:=1) (by omega) (show(1:Int).natAbs<=2^(e+888)from Nat.pow_pos (by decide)) bb);rwa [Nat.zero_add]at this
 refine g_ (fun rest σ st'=>∃(i t:Nat) (v4 v5 v6:Option D),i<=m/\rest=(iP ((m:Int)-1) m).drop i/\σ=[some (bI F),some (bL R),some (.int l),some (.ref st.length),v4,v5,v6]/\Ext st st'/\st'[st.length]?=some (.lst ((Mx.ox F m w l (Mx.kl w l b) i).map ik))/\Mx.Pb (Mx.ox F m w l (Mx.kl w l b) i) t/\t+8000<=2^i*(e+8888)) ?_ ?_ _ _ _ ⟨0,e+888,none,none,none,Nat.zero_le _,rfl,rfl,X0.set (Nat.le_refl _),by rw[List.getElem?_set_self hlt,<-List.map_set];rfl,p0,by omega⟩
 . rintro σ st' ⟨i,t,v4,v5,v6,hi,hrest,rfl,X,ep,hP,ht⟩
   have e1:i=m:=by
    have:=congrArg List.length hrest;rw[List.length_drop,og,List.length_nil]at this;omega
   subst e1;have h2i:2^i<=256:=Nat.le_trans (Nat.pow_le_pow_right (by decide) m8) (by decide);have:=Nat.mul_le_mul h2i (show e+8888<=18888 by omega);exact⟨trivial,dw (aJ ep) (k st' b X hb (hP.mono (by omega)))⟩
 . rintro x rest σ st' ⟨i,t,v4,v5,v6,hi,hrest,rfl,X,ep,hP,ht⟩ next
   obtain⟨him,rfl,rfl⟩:=FK hrest;have P:=Mx.pR.all b hW.st hl (i:=i) hi;have hstep:Mx.ox F m w l (Mx.kl w l b) (i+1)=Mx.Hi F w l (Mx.ox F m w l (Mx.kl w l b) i) (m-1-i):=rfl;generalize Mx.ox F m w l (Mx.kl w l b) i=ps at P hP ep hstep;generalize hj:m-1-i=j at hstep;have hjm:j<m:=by omega
   obtain⟨l1,l2,wF,eld⟩:=hW.lead hjm;have lp:=P.len;have hat:e8 (F.map bL) (j:Int)=some (bL (F.getD j [])):=ve (by omega);refine⟨trivial,_,rfl,aD rfl hat ⟨_,F.getD j [],rfl,rfl,?_⟩⟩;rw[eld];have h2i:2^i<=128:=Nat.le_trans (Nat.pow_le_pow_right (by decide) (show i<=7 by omega)) (by decide);have ht2:=Nat.mul_le_mul h2i (show e+8888<=18888 by omega);have e2:2^(i+1)*(e+8888)=2^i*(e+8888)+2^i*(e+8888):=by rw[Nat.pow_succ,Nat.mul_two,Nat.add_mul]
   unfold Mx.Hi at hstep;refine Kr (fun hlp=>dM ?_) fun hlp=>?_
   . rw[if_pos (by omega)]at hstep;have hpl:ps.length*(887+1)<=8*888:=Nat.mul_le_mul (by omega) (by decide);refine⟨_,rfl,aD rfl hat ⟨_,_,_,ps,F.getD j [],t,887,rfl,aJ ep,xt.of,rfl,hP,hW.row hjm,by omega,?_⟩⟩;have sd:=Mx.Pb.mF (r:=F.getD j []) (x:=0) (s:=0) ⟨by decide,by decide⟩ hP (hW.row hjm);rw[IK lp wF]at sd⊢;refine⟨_,_,0,_,0,_,rfl,Fq.of ⟨by decide,by decide⟩,Fq.of sd,by omega,?_⟩
     have hnum:(((Mx.g F j (Mx.dy F j):Int)):Rat).num≠0:=by
      show Mx.g F j (Mx.dy F j)≠0;omega
     have sg:=Mx.Sz.int (hW.sm j _ hjm l1);refine aD rfl hat (aD rfl (jd (by omega)) ⟨_,rfl,_,_,_,_,_,_,rfl,Fq.of sd.neg,Fq.of sg,by omega,hnum,?_⟩);refine gf ep (hix (by rw[List.length_map];omega)) ?_;have hlt2:=(List.getElem?_eq_some_iff.mp ep).1;refine next _ _ ⟨i+1,t+(0+t+ps.length*(887+1)+887),_,_,_,him,rfl,rfl,X.set (Nat.le_refl _),?_,?_,?_⟩
     . rw[List.getElem?_set_self hlt2,<-List.map_set,hstep];rfl
     . rw[hstep];exact hP.set (sd.neg.div sg hnum)
     . omega
   . rw[if_neg (by omega)]at hstep;refine next _ _ ⟨i+1,t,_,_,_,him,rfl,rfl,X,?_,?_,?_⟩
     . rw[hstep];exact ep
     . rw[hstep];exact hP
     . omega
def Ki(A:List (List Int))(N w:Nat)(r:List Int)(x:D):Prop:=
 (∃W:List Int,x= .tup [.str "told",bL W]/\W.length=N/\(∀n,(W.getD n 0).natAbs<=2^60010000)/\∀c,c<w->(Mx.S N fun n=>W.getD n 0*Mx.g A n c)=r.getD c 0)\/
 (∃ps:List Rat,x= .tup [.str "none",.tup (ps.map ik)]/\ps.length=w/\Mx.Pb ps 10000000/\(∀n,n<N->Mx.Wh (Mx.dq ps w (Mx.g A n)))/\¬Mx.Wh (Mx.dq ps w fun c=>r.getD c 0))
structure Rn(A:List (List Int))(N w:Nat):Prop where
 is:Mx.cj N w A
 n1:1<=N
 n8:N<=8
 w8:w<=8
 lo:∃e0,Mx.gT A N 0 (2^e0)
 rm:∀p t c,p<w->Mx.ib A N p t c->Mx.xG N p t 60000000 c
 go:∀t c,Mx.ib A N w t c->∃ld e u,Mx.gg A N w c t w ld e u/\u<=60000000/\Wf (c.A.take t) t w
 bA:∀r∈A,∀x∈r,x.natAbs<=2^887
structure Jz(A:List (List Int))(N w:Nat)(r:List Int):Prop where
 rn:Rn A N w
 lr:r.length=w
 br:∀x∈r,x.natAbs<=2^887
def w9:cw:=fun ds st K=>∃(d dr:D) (A:List (List Int)) (r:List Int) (N w:Nat) (f:Bool),ds=[d,dr]/\eP st d A/\items? st dr=some (aG r)/\Jz A N w r/\st[0]?=some (g7 f)/\∀st' x,Bk st st'->Ki A N w r x->K x st'
def tG:List Str:=["rows","row","told","form","fallen"]
def HG:DS:=(aF (a8 2 (aC lS (af (ae 0) ak)))
 (aF (a8 3 (av aX (ae 2) (dC (.int 0))))
 (aF (a8 4 (aC uf (af (ae 3) (af (ae 1) ak))))
 (aF (cY (ba (av nD (aC iz (af (av aX (ae 4) (dC (.int 1))) ak)) (dC .aE))) (a_ (ji (af (dC (.str "none")) (af (aC mf (af (ae 3) (af (av aX (ae 4) (dC (.int 1))) ak))) ak)))) cK)
 (a_ (ji (af (dC (.str "told")) (af (aC pP (af (av aX (ae 4) (dC (.int 0))) (af (kq (av aX (ae 2) (dC (.int 1))) i9 (m_ (bY di (af (ae 3) ak)))) (af (bY di (af (ae 0) ak)) ak)))) ak))))))))
theorem Bk.ext{st st1 st2:ag}(B:Bk st st1)(X:Ext st1 st2):Bk st st2:=by
 have l1:=B.le;obtain⟨f,e⟩:=B.tb;have l0:=(List.getElem?_eq_some_iff.mp e).1;exact⟨by have:=X.len;omega,fun m hm h0=>by rw[X.same m (by omega),B.fr m hm h0],f,by rw[X.same 0 l0];exact e⟩
theorem MH:8*((9*2^48)^9*(9*2^48)^8)<=2^887:=by decide+kernel
theorem gu{A:List (List Int)}{t i c:Nat}(h:i<t):Mx.g (A.take t) i c=Mx.g A i c:=by
 have e:(A.take t).getD i []=A.getD i []:=by rw[List.getD_eq_getElem?_getD,List.getD_eq_getElem?_getD,List.getElem?_take,if_pos h]
 unfold Mx.g;rw[e]
theorem GN{A:List (List Int)}{N w top e u:Nat}{c:Mx.B3}{ld:Nat->Nat}(H:Mx.gg A N w c top w ld e u)(hA:Mx.cj N w A)(n8:N<=8)(w8:w<=8)(bA:∀r∈A,∀x∈r,x.natAbs<=2^48):Wf (c.A.take top) top w:=by
 have le:=H.le;have lA:=H.tn.isA.len
 have s:Mx.cq (c.A.take top) top w ld:=⟨fun i hi=>by
  obtain⟨h1,h2,h3⟩:=H.lead i hi;exact⟨h1,by rw[gu hi];exact h2,fun c hc=>by rw[gu hi];exact h3 c hc⟩,H.mono⟩
 have sm:=(H.small n8 (b:=2^48) (Nat.pow_pos (by decide)) fun i c hi hc=>by
  have lN:=hA.len;have hr:=hA.row hi;unfold Mx.g;refine bA _ (by rw[Mx.aV (by omega)];exact List.getElem_mem _) _ (getD_mem (by omega))).2
 exact⟨⟨by rw[List.length_take];omega,fun r hr=>H.tn.isA.fx r (List.mem_of_mem_take hr)⟩,s.SD,by omega,w8,fun k q hk hq=>by rw[gu hk];exact Nat.le_trans (sm k q hk hq) MH⟩
theorem p8{A:List (List Int)}{N w:Nat}(hA:Mx.cj N w A)(bA:∀r∈A,∀x∈r,x.natAbs<=2^48):Mx.gT A N 0 (2^48):=fun i c _ hi=>by
 have lA:=hA.len;unfold Mx.g;by_cases hc:c<(A.getD i []).length
 . exact bA _ (by rw[Mx.aV (by omega)];exact List.getElem_mem _) _ (getD_mem hc)
 . rw[Mx.jX (by omega)];exact Nat.zero_le _
theorem GV:∀ds st K,w9 ds st K->ds.length=2/\HG {nx:=fun _ st'=>K .aE st',rt:=K} (aU tG ds) st:=by
 rintro ds st K ⟨d,dr,A,r,N,w,f,rfl,hd,hr,⟨⟨hA,n1,n8,w8,⟨e0,hlo⟩,rm,go,bA⟩,lr,br⟩,h0,k⟩;refine⟨rfl,d,N,w,e0,60000000,A,f,rfl,hd,hA,n1,n8,by omega,hlo,Nat.le_refl _,rm,h0,fun st1 top c hC B=>?_⟩;obtain⟨ld,e,u,H,hu,hW⟩:=go top c hC;have lF:=hW.is.len;have hgF:∀i q,i<top->Mx.g (c.A.take top) i q=Mx.g c.A i q:=fun i q hi=>gu hi;generalize hF:c.A.take top=F at hW lF hgF;have br':∀c,c<w->(r.getD c 0).natAbs<=2^887:=fun c hc=>br _ (getD_mem (by omega));refine aD rfl rfl ?_;refine⟨dr,F,r,top,w,887,rfl,hW,qh h0 B.fr hr,lr,br',by decide,fun st2 X=>?_⟩;have B2:=B.ext X;have lR:=Mx.rj hW.is lr (Nat.le_refl top);have fal:=Mx.D9 hW.is lr hW.st (Nat.le_refl top);have sm:=Mx.DR hW.is lr (Nat.le_refl top);have ab:=Mx.vq hW.is lr hW.st hW.sm br' (Nat.le_refl top);have t8:=hW.m8;refine aD rfl rfl ⟨_,Mx.fw F r top,rfl,rfl,?_⟩;cases el:iX (Mx.fw F r top)with
 |some l=>
  have eD:gB (Mx.fw F r top)= .int (l:Int):=by unfold gB;rw[el]
  rw[eD];obtain⟨hl,hne,hz⟩:=vQ el;rw[lR]at hl;refine xm rfl (dM (aD rfl rfl ⟨F,Mx.fw F r top,top,w,887+top*(887+1),l,rfl,hW,lR,el,ab,by omega,fun st3 b X3 hb hP=>⟨Nat.le_of_ble_eq_true rfl,?_⟩⟩));have P:=Mx.pR.all b hW.st hl (Nat.le_refl top);have wF:∀i,i<top->Mx.Wh (Mx.dq (Mx.ox F top w l (Mx.kl w l b) top) w (Mx.g F i)):=fun i hi=>P.whole hW.st hl hb hne hi;refine k st3 _ (B2.ext X3) (.inr ⟨_,rfl,P.len,hP,fun n hn=>?_,fun z=>?_⟩)
  . have e1:Mx.dq (Mx.ox F top w l (Mx.kl w l b) top) w (Mx.g A n)=Mx.dq (Mx.ox F top w l (Mx.kl w l b) top) w fun q=>Mx.S top fun k=>Mx.g c.C k n*Mx.g F k q:=Mx.wg fun q hq=>by
     rw[H.back hn hq];exact Mx.aQ fun k hk=>by rw[hgF k q hk]
    rw[e1,Mx.BD];exact Mx.E2 fun i hi=>(wF i hi).mul _
  . have e1:Mx.dq (Mx.ox F top w l (Mx.kl w l b) top) w (fun q=>r.getD q 0)=Mx.dq (Mx.ox F top w l (Mx.kl w l b) top) w (fun q=>(Mx.fw F r top).getD q 0)+Mx.dq (Mx.ox F top w l (Mx.kl w l b) top) w (fun q=>Mx.S top fun j=>Mx.uC F (Mx.fw F r j) j*Mx.g F j q):=by
     rw[<-Mx.NB];exact Mx.wg fun q _=>sm q
    have w2:Mx.Wh (Mx.dq (Mx.ox F top w l (Mx.kl w l b) top) w (fun q=>Mx.S top fun j=>Mx.uC F (Mx.fw F r j) j*Mx.g F j q)):=by
     rw[Mx.BD];exact Mx.E2 fun i hi=>(wF i hi).mul _
    refine P.not hW.st hl hb hne hz (fun i hi=>fal.red i hi) ?_;have:=z.add w2.neg;rw[e1]at this;have e2:∀a b:Rat,a+b+ -b=a:=by grind
    rwa [e2]at this
 |none=>
  have eD:gB (Mx.fw F r top)= .aE:=by unfold gB;rw[el]
  rw[eD];refine xm rfl ?_;have lU:=H.tn.eB.len;have le:=H.le;refine aD rfl rfl (aD rfl rfl (cN rfl (k_ ?_)));rw[List.length_map,lF,xO,<-List.map_take];obtain⟨da,hda,ra⟩:=hd;refine cN (X.items (qh h0 B.fr hda)) ?_;have lda:da.length=N:=by rw[ra.len];exact hA.len
  rw[lda];have lw:(Mx.uH F r top).length=top:=by unfold Mx.uH;simp
  have wat:∀j,j<top->(Mx.uH F r top).getD j 0=Mx.uC F (Mx.fw F r j) j:=fun j hj=>by
   unfold Mx.uH;rw[Mx.aV (by simpa using hj),List.getElem_map,List.getElem_range]
  have bw:∀j,j<top->((Mx.uH F r top).getD j 0).natAbs<=2^(887+j*(887+1)):=fun j hj=>by
   rw[wat j hj];obtain⟨l1,l2,_⟩:=hW.lead hj;exact Nat.le_trans (Mx.pZ _ l2) (Mx.vq hW.is lr hW.st hW.sm br' (Nat.le_of_lt hj) _ l1)
  have bu:∀i p,i<top->(Mx.g (c.U.take top) i p).natAbs<=2^60000000:=fun i p hi=>by
   rw[gu hi];exact Nat.le_trans (H.hi i p hi).2.1 (Nat.pow_le_pow_right (by decide) hu)
  have wU:∀q∈c.U.take top,q.length=N:=fun q hq=>H.tn.eB.fx q (List.mem_of_mem_take hq);have lUt:(c.U.take top).length=top:=by rw[List.length_take];omega
  refine⟨_,_,N,Mx.uH F r top,c.U.take top,rfl,rfl,dX,wU,by omega,fun x hx q hq y hy=>?_,⟨Nat.le_of_ble_eq_true rfl,k st2 _ B2 (.inl ⟨_,rfl,Mx.nZ (by simp) wU,fun n=>?_,fun q hq=>?_⟩)⟩⟩
  . obtain⟨j,hj,rfl⟩:=List.mem_iff_getElem.mp hx;have bj:=bw j (by omega);rw[Mx.aV hj]at bj;obtain⟨i,hi,rfl⟩:=List.mem_iff_getElem.mp hq;obtain⟨p,hp,rfl⟩:=List.mem_iff_getElem.mp hy;have hU:=bu i p (by omega);unfold Mx.g at hU;rw[Mx.aV hi,Mx.aV hp]at hU;exact dD bj hU (by omega)
  . by_cases hn:n<N
    . rw[Mx.pS (n:=N) n (by simp) wU (by omega),Mx.eF,Int.zero_add,lUt]
      have e3:top*2^(7991+60000000)<=2^60010000:=by
       refine Nat.le_trans (Nat.mul_le_mul_right _ (show top<=2^3 by omega)) ?_;rw[<-Nat.pow_add];exact Nat.pow_le_pow_right (by decide) (by decide)
      refine Nat.le_trans (Mx.EY fun j hj=>?_) e3;rw[Int.natAbs_mul,Nat.pow_add];exact Nat.mul_le_mul (Nat.le_trans (bw j hj) (Nat.pow_le_pow_right (by decide) (by omega))) (bu j n hj)
    . rw[Mx.jX (by rw[Mx.nZ (by simp) wU];omega)];exact Nat.zero_le _
  . refine Mx.IX H lw (fun q hq=>?_) hq;rw[sm q,yr _ 0 el q,Int.zero_add];exact Mx.aQ fun j hj=>by rw[wat j hj,hgF j q hj]
def qW:cw:=fun ds st K=>∃(ps:List Rat) (w:Nat),ds=[.tup (ps.map ik),.int w]/\ps.length=w/\w<=1000/\K (.bl true) st
def nE:List Str:=["thing","many"]
def CY:DS:=(a_ (jz (aC fX (af (ae 0) (af (ae 1) ak))) (bY qZ (af (dA (d9 (ae 0)) [none] (cB 0) cH (aC ux (af (ae 0) ak))) ak))))
theorem yN:∀l:List D,iS (l.map fun _=>D.bl true)=some (l.map fun _=>true)
 | []=>rfl
 |_::l=>by simp[iS,yN l]
theorem Ka(l:List D):(l.map fun _=>true).all id=true:=by simp
theorem Cg:∀ds st K,qW ds st K->ds.length=2/\CY {nx:=fun _ st'=>K .aE st',rt:=K} (aU nE ds) st:=by
 rintro ds st K ⟨ps,w,rfl,lp,hw,k⟩;refine⟨rfl,?_⟩;refine⟨_,_,rfl,⟨_,rfl⟩,?_⟩;show if decide ((((ps.map ik).length:Nat):Int)=(w:Int))=true then _ else _
 rw[decide_eq_true (by rw[List.length_map,lp]),if_pos rfl];refine j0 ⟨bS (by rw[List.length_map];omega),?_⟩;refine comp_map (g:=fun _=> .bl true) trivial _ (fun d hd K' q=>?_) ?_
 . obtain⟨p,_,rfl⟩:=List.mem_map.mp hd;exact⟨_,rfl,p,rfl,q⟩
 refine uR (yN (ps.map ik)) ?_;rw[Ka];exact k
def oO:cw:=fun ds st K=>∃q:Rat,ds=[ik q]/\K (.bl (decide (q.den=1))) st
def oP:List Str:=["one"]
def Ek:DS:=(a_ (av e9 (av aX (ae 0) (dC (.int 1))) (dC (.int 1))))
theorem CW:∀ds st K,oO ds st K->ds.length=1/\Ek {nx:=fun _ st'=>K .aE st',rt:=K} (aU oP ds) st:=by
 rintro ds st K ⟨q,rfl,k⟩;refine⟨rfl,aD rfl rfl (eq2 (fun h=>?_) fun h=>?_)⟩
 . rw[decide_eq_true (by omega)]at k;exact k
 . rw[decide_eq_false (by omega)]at k;exact k
def pD:cw:=fun ds st K=>∃(A:List (List Int)) (r:List Int) (N w:Nat) (ps:List Rat),ds=[bI A,bL r,.tup (ps.map ik)]/\Jz A N w r/\ps.length=w/\Mx.Pb ps 10000000/\(∀n,n<N->Mx.Wh (Mx.dq ps w (Mx.g A n)))/\(¬Mx.Wh (Mx.dq ps w fun c=>r.getD c 0))/\K (.bl true) st
def mi:List Str:=["rows","row","parts"]
def Cp:DS:=(aF (cY (qL (jx (ba (aC qW (af (ae 2) (af (bY di (af (ae 1) ak)) ak))))) (ba (aC oO (af (aC ko (af (ae 2) (af (ae 1) ak))) ak)))) (a_ (dC (.bl false))) cK)
 (a_ (bY qZ (af (dA (d9 (ae 0)) [none,some 2] (cB 0) cH (aC oO (af (aC ko (af (ae 1) (af (ae 0) ak))) ak))) ak))))
theorem Ak:∀ds st K,pD ds st K->ds.length=3/\Cp {nx:=fun _ st'=>K .aE st',rt:=K} (aU mi ds) st:=by
 rintro ds st K ⟨A,r,N,w,ps,rfl,⟨⟨hA,n1,n8,w8,_,_,_,bA⟩,lr,br⟩,lp,hP,hw,hn,k⟩;refine⟨rfl,?_⟩;have lA:=hA.len;refine cN rfl ⟨ps,w,by rw[List.length_map,lr],lp,by omega,?_⟩;have pl8:ps.length*(887+1)<=8*888:=Nat.mul_le_mul (by omega) (by decide);refine⟨_,_,_,ps,r,_,887,rfl,rfl,xt.of,rfl,hP,br,by omega,?_⟩;rw[IK lp lr];refine⟨_,rfl,?_⟩;rw[decide_eq_false fun z=>hn (Mx.Wh.den.mpr z)];refine j0 ⟨bS (by rw[List.length_map];omega),?_⟩;refine comp_map (g:=fun _=> .bl true) trivial _ (fun d hd K' q=>?_) ?_
 . obtain⟨s,hs,rfl⟩:=List.mem_map.mp hd;obtain⟨i,hi,rfl⟩:=List.mem_iff_getElem.mp hs;have ls:=hA.fx _ hs;refine⟨_,rfl,_,_,_,ps,A[i],_,887,rfl,rfl,xt.of,rfl,hP,fun x hx=>bA _ hs x hx,by omega,?_⟩;rw[IK lp ls];refine⟨_,rfl,?_⟩
   have e:(fun c=>(A[i]).getD c 0)=Mx.g A i:=by
    funext c;unfold Mx.g;rw[Mx.aV hi]
   rw[e,decide_eq_true (Mx.Wh.den.mp (hw i (by omega)))];exact q
 refine uR (yN (A.map bL)) ?_;rw[Ka];exact k
def m6:cw:=fun ds st K=>∃(A:List (List Int)) (r:List Int) (N w:Nat) (W:List Int),ds=[bI A,bL r,bL W]/\Jz A N w r/\W.length=N/\(∀n,(W.getD n 0).natAbs<=2^60010000)/\(∀c,c<w->(Mx.S N fun n=>W.getD n 0*Mx.g A n c)=r.getD c 0)/\K (.bl true) st
def jZ:List Str:=["rows","row","weights"]
def yW:DS:=(a_ (jz (aC gw (af (ae 2) (af (bY di (af (ae 0) ak)) ak))) (av e9 (aC pP (af (ae 2) (af (ae 0) (af (bY di (af (ae 1) ak)) ak)))) (bY dU (af (ae 1) ak)))))
theorem IJ{st:ag}{W:List Int}:iq st (bL W) ((W.length:Nat):Int)=true:=by
 unfold iq;show(decide _&&_)=true;rw[decide_eq_true (by rw[List.length_map]),Bool.true_and];refine List.all_eq_true.mpr fun d hd=>?_;obtain⟨i,_,rfl⟩:=List.mem_map.mp hd;rfl
theorem xR:∀ds st K,m6 ds st K->ds.length=3/\yW {nx:=fun _ st'=>K .aE st',rt:=K} (aU jZ ds) st:=by
 rintro ds st K ⟨A,r,N,w,W,rfl,⟨⟨hA,n1,n8,w8,_,_,_,bA⟩,lr,br⟩,lW,bW,hs,k⟩;refine⟨rfl,?_⟩;have lA:=hA.len;refine cN rfl ⟨_,_,rfl,yq (by omega),?_⟩;rw[List.length_map,lA,<-lW,IJ];refine dM (cN rfl ?_);rw[List.length_map,lr];refine⟨_,_,w,W,A,rfl,rfl,dX,hA.fx,by omega,fun x hx q hq y hy=>?_,?_⟩
 . obtain⟨j,hj,rfl⟩:=List.mem_iff_getElem.mp hx;have bj:=bW j;rw[Mx.aV hj]at bj;exact dD bj (bA q hq y hy) (by decide)
 refine dw rfl (kK vj vj ?_)
 have e:Mx.dJ W A (List.replicate w 0)=r:=by
  refine Mx.D7 (Mx.nZ (by simp) hA.fx) lr fun j hj=>?_;rw[Mx.pS (n:=w) j (by simp) hA.fx (by omega),Mx.eF,Int.zero_add,lA];exact hs j hj
 rw[e,pq 40 _ vj];exact k
def mZ:cw:=fun ds st K=>∃(A:List (List Int)) (r:List Int) (N w:Nat) (x:D),ds=[bI A,bL r,x]/\Jz A N w r/\Ki A N w r x/\K (.bl true) st
def ka:List Str:=["rows","row","told"]
def yH:DS:=(aF (cY (jx (ba (aC fX (af (ae 2) (af (dC (.int 2)) ak))))) (a_ (dC (.bl false))) cK)
 (aF (cY (ba (av e9 (av aX (ae 2) (dC (.int 0))) (dC (.str "told")))) (a_ (aC m6 (af (ae 0) (af (ae 1) (af (av aX (ae 2) (dC (.int 1))) ak))))) cK)
 (a_ (jz (av e9 (av aX (ae 2) (dC (.int 0))) (dC (.str "none"))) (aC pD (af (ae 0) (af (ae 1) (af (av aX (ae 2) (dC (.int 1))) ak))))))))
theorem xv:∀ds st K,mZ ds st K->ds.length=3/\yH {nx:=fun _ st'=>K .aE st',rt:=K} (aU ka ds) st:=by
 rintro ds st K ⟨A,r,N,w,x,rfl,P,hS,k⟩;refine⟨rfl,?_⟩;rcases hS with⟨W,rfl,lW,bW,hs⟩|⟨ps,rfl,lp,hP,hw,hn⟩
 . refine⟨_,2,rfl,⟨_,rfl⟩,?_⟩;refine aD rfl rfl (kK rfl rfl ?_);exact aD rfl rfl ⟨A,r,N,w,W,rfl,P,lW,bW,hs,k⟩
 . refine⟨_,2,rfl,⟨_,rfl⟩,?_⟩;refine aD rfl rfl (kK rfl rfl ?_);refine aD rfl rfl (kK rfl rfl ?_);exact aD rfl rfl ⟨A,r,N,w,ps,rfl,P,lp,hP,hw,hn,k⟩
structure Hd(st:ag)(n:Nat)(b:Int):Prop where
 ex:∃(cs:List Int) (p q c:Int),st[n]?=some (.lst [.lst (aG cs),.int p,.int q,.int c])/\(∀x∈cs,0<=x)/\cs.length<=63/\0<=p/\0<=q/\0<=c/\c<=b
structure Upd(st:ag)(n:Nat)(st':ag):Prop where
 len:st'.length=st.length
 same:∀m,m≠n->st'[m]?=st[m]?
theorem Upd.refl{st:ag}{n:Nat}:Upd st n st:=⟨rfl,fun _ _=>rfl⟩
theorem Upd.trans{st st1 st2:ag}{n:Nat}(a:Upd st n st1)(b:Upd st1 n st2):Upd st n st2:=⟨b.len.trans a.len,fun m h=>(b.same m h).trans (a.same m h)⟩
theorem Upd.set{st:ag}{n:Nat}{c:Cell}:Upd st n (st.set n c):=⟨List.length_set,fun m h=>List.getElem?_set_ne (Ne.symm h)⟩
theorem Hd.mono{st:ag}{n:Nat}{b b':Int}(h:Hd st n b)(l:b<=b'):Hd st n b':=let⟨cs,p,q,c,e,h1,h2,h3,h4,h5,h6⟩:=h.ex;⟨cs,p,q,c,e,h1,h2,h3,h4,h5,by omega⟩
theorem vx{st:ag}{n:Nat}{xs ys:List D}{i:Int}{j:Nat}{d:D}{K:ag->Prop}(h:st[n]?=some (.lst xs))(e:mH xs.length i=some j)(ey:xs.set j d=ys)(k:∀st',st'[n]?=some (.lst ys)->Upd st n st'->K st'):wj (.ref n) (.int i) d st K:=gf h e (by
 rw[ey];exact k _ (List.getElem?_set_self (List.getElem?_eq_some_iff.mp h).1) Upd.set)
theorem K0{k:Nat}{te:DE}{B:DS}{E:oK}{σ:cu}{st:ag}(h:te σ st fun d st1=>B E (σ.set k (some d)) st1):aF (a8 k te) B E σ st:=h
def sS:cw:=fun ds st K=>∃ns:List Int,ds=[.lst (ns.map .int)]/\ns.length<=63/\∀st',Hd st' st.length 0->Ext st st'->K (.ref st.length) st'
def oR:List Str:=["_law_script"]
def E_:DS:=(a_ (BS (af (dA (d9 (kq (ae 0) i9 (m_ (dC (.int 63))))) [none] (cB 0) cH (bY tE (af (ae 0) ak))) (af (dC (.int 0)) (af (dC (.int 0)) (af (dC (.int 0)) ak))))))
theorem IW(r:List Int):(aG r).map (fun d=>match d with| .int x=> .int ((x.natAbs:Nat):Int)|_=> .aE)=aG (r.map fun x=>((x.natAbs:Nat):Int)):=by unfold aG;rw[List.map_map,List.map_map];rfl
theorem CZ:∀ds st K,sS ds st K->ds.length=1/\E_ {nx:=fun _ st'=>K .aE st',rt:=K} (aU oR ds) st:=by
 rintro ds st K ⟨ns,rfl,hl,k⟩;refine⟨rfl,?_⟩;refine zy (D5 ⟨?_,?_⟩)
 . refine bS ?_;unfold L3.cutD;simp only[List.length_take,List.length_drop,List.length_map];omega
 refine comp_map (g:=fun d=>match d with| .int x=> .int ((x.natAbs:Nat):Int)|_=> .aE) trivial _ (fun d hd K' q=>?_) ?_
 . have:d∈ns.map D.int:=List.mem_of_mem_drop (List.mem_of_mem_take hd);obtain⟨i,_,rfl⟩:=List.mem_map.mp this;exact⟨_,rfl,uS q⟩
 . have ec:∀lo hi,L3.cutD (ns.map D.int) lo hi=aG ((ns.drop (HT.cy (ns.map D.int).length 0 lo)).take (HT.cy (ns.map D.int).length (ns.map D.int).length hi-HT.cy (ns.map D.int).length 0 lo)):=fun lo hi=>by
    unfold L3.cutD aG;rw[List.map_take,List.map_drop]
   rw[ec,IW];refine⟨Nat.le_of_ble_eq_true rfl,?_⟩;refine k _ ⟨_,0,0,0,by rw[List.getElem?_append_right (Nat.le_refl _),Nat.sub_self];rfl,fun x hx=>?_,?_,Int.le_refl _,Int.le_refl _,Int.le_refl _,Int.le_refl _⟩ Ext.push
   . obtain⟨y,_,rfl⟩:=List.mem_map.mp hx;omega
   . simp only[List.length_map,List.length_take,List.length_drop];omega
def b_:cw:=fun ds st K=>∃(n:Nat) (m b:Int),ds=[.ref n,.int m]/\Hd st n b/\b<=1000000000/\0<m/\m<2^62/\∀r st',0<=r->r<m->Hd st' n (b+1)->Upd st n st'->K (.int r) st'
def oB:List Str:=["_law_hand_here","_law_many","_law_cell","_law_once","_law_twice","_law_found"]
def Fg:DS:=(aF (eO (ae 0) (dC (.int 3)) (av dm (av aX (ae 0) (dC (.int 3))) (dC (.int 1))))
 (aF (cY (ba (av e9 (av aX (ae 0) (dC (.int 2))) (dC (.int 0)))) (aF (a8 2 (dC (.int 0)))
 (aF (cY (ba (av qk (bY di (af (av aX (ae 0) (dC (.int 0))) ak)) (dC (.int 0)))) (a8 2 (av aX (av aX (ae 0) (dC (.int 0))) (av jr (av aX (ae 0) (dC (.int 1))) (bY di (af (av aX (ae 0) (dC (.int 0))) ak))))) cK)
 (aF (eO (ae 0) (dC (.int 1)) (av dm (av aX (ae 0) (dC (.int 1))) (dC (.int 1))))
 (aF (cY (qL (ba (av oA (ae 2) (av uN (dC (.int 10)) (dC (.int 18))))) (ba (av qk (av aX (ae 0) (dC (.int 1))) (bY di (af (av aX (ae 0) (dC (.int 0))) ak))))) (aF (a8 3 (av dm (av dm (av jr (ae 2) (dC (.int 2147483629))) (av cZ (dC (.int 7919)) (av aX (ae 0) (dC (.int 3))))) (dC (.int 11))))
 (aF (a8 3 (av jr (av cZ (ae 3) (av dm (dC (.int 48271)) (av cZ (dC (.int 2)) (av aX (ae 0) (dC (.int 3)))))) (dC (.int 2147483647))))
 (aF (a8 4 (av jr (av dm (av cZ (ae 3) (av dm (av jr (ae 3) (dC (.int 39373))) (av aX (ae 0) (dC (.int 3))))) (av cZ (dC (.int 31)) (av aX (ae 0) (dC (.int 3))))) (dC (.int 1999999973))))
 (a_ (av jr (av qE (ae 4) (dC (.int 7))) (ae 1)))))) cK)
 (eO (ae 0) (dC (.int 2)) (ae 2)))))) cK)
 (aF (a8 5 (av jr (av aX (ae 0) (dC (.int 2))) (ae 1)))
 (aF (eO (ae 0) (dC (.int 2)) (av qE (av aX (ae 0) (dC (.int 2))) (ae 1)))
 (a_ (ae 5))))))
theorem GX{m:Int}(h0:0<m)(h:m<2^62):m.natAbs.log2<9000:=by
 have:m.natAbs.log2<62:=(Nat.log2_lt (by omega)).mpr (by omega);omega
theorem C7:∀ds st K,b_ ds st K->ds.length=2/\Fg {nx:=fun _ st'=>K .aE st',rt:=K} (aU oB ds) st:=by
 rintro ds st K ⟨n,m,b,rfl,⟨cs,p,q,c,e,hcs,hcl,hp,hq,hc,hb⟩,hb2,hm0,hm1,k⟩;refine⟨rfl,?_⟩;refine aD (aJ e) (by rfl) (d6 (vx (ys:=[.lst (aG cs),.int p,.int q,.int (c+1)]) e (by rfl) (by rfl) fun st1 e1 U1=>?_));have c1: -(2^64)<c+1:=by omega
 have c2:c+1<2^64:=by omega
 dsimp only;refine fY (fun σ' st'=>∃(v2 v3 v4:Option D) (p q:Int),σ'=[some (.ref n),some (.int m),v2,v3,v4,none]/\st'[n]?=some (.lst [.lst (aG cs),.int p,.int q,.int (c+1)])/\0<=p/\0<=q/\Upd st n st') (fun nx hnx=>?_) ?_
 . refine aD (aJ e1) (by rfl) (eq2 (fun h=>dM ?_) fun h=>hnx _ _ ⟨_,_,_,p,q,rfl,e1,hp,hq,U1⟩);refine K0 ?_;dsimp only[dC];refine fY (fun σ' st'=>∃x:Int,0<=x/\σ'=[some (.ref n),some (.int m),some (.int x),none,none,none]/\st'=st1) (fun nx2 hnx2=>?_) ?_
   . refine aD (aJ e1) (by rfl) (cN rfl (vA ?_));rw[List.length_map];by_cases hl:(0:Int)<(cs.length:Int)
     . rw[decide_eq_true hl];refine dM (aD (aJ e1) (by rfl) (aD (aJ e1) (by rfl) (aD (aJ e1) (by rfl) (cN rfl (oa (by rw[List.length_map];omega) ?_)))));rw[List.length_map];have m1:=Int.fmod_nonneg_of_pos p hl;have m2:=Int.fmod_lt_of_pos p hl;obtain⟨j,ej⟩:=Int.eq_ofNat_of_zero_le m1;rw[ej]at m2⊢;have hj:j<cs.length:=by omega
       exact aD rfl (jd hj) (hnx2 _ _ ⟨_,hcs _ (getD_mem hj),rfl,rfl⟩)
     . rw[decide_eq_false hl];exact hnx2 _ _ ⟨0,Int.le_refl _,rfl,rfl⟩
   . rintro σ' st' ⟨x,hx,rfl,rfl⟩;refine aD (aJ e1) (by rfl) (d6 (vx (ys:=[.lst (aG cs),.int (p+1),.int q,.int (c+1)]) e1 (by rfl) (by rfl) fun st2 e2 U2=>?_))
     have mixed:(aF (a8 3 (av dm (av dm (av jr (ae 2) (dC (.int 2147483629))) (av cZ (dC (.int 7919)) (av aX (ae 0) (dC (.int 3))))) (dC (.int 11))))
      (aF (a8 3 (av jr (av cZ (ae 3) (av dm (dC (.int 48271)) (av cZ (dC (.int 2)) (av aX (ae 0) (dC (.int 3)))))) (dC (.int 2147483647))))
      (aF (a8 4 (av jr (av dm (av cZ (ae 3) (av dm (av jr (ae 3) (dC (.int 39373))) (av aX (ae 0) (dC (.int 3))))) (av cZ (dC (.int 31)) (av aX (ae 0) (dC (.int 3))))) (dC (.int 1999999973))))
      (a_ (av jr (av qE (ae 4) (dC (.int 7))) (ae 1)))))) {nx:=nx,rt:=K} [some (.ref n),some (.int m),some (.int x),none,none,none] st2:=by
      refine oa (by decide) (aD (aJ e2) (by rfl) (dW (hZ (by decide) (by decide)) (d6 (d6 ?_))));have m1:=Int.fmod_nonneg_of_pos x (show(0:Int)<2147483629 by decide);have m2:=Int.fmod_lt_of_pos x (show(0:Int)<2147483629 by decide);refine aD (aJ e2) (by rfl) (dW (hZ (by decide) (by decide)) (d6 (dW (hZ (by omega) (by omega)) (oa (by decide) ?_))));have u1:=Int.fmod_nonneg_of_pos ((x.fmod 2147483629+7919*(c+1)+11)*(48271+2*(c+1))) (show(0:Int)<2147483647 by decide);have u2:=Int.fmod_lt_of_pos ((x.fmod 2147483629+7919*(c+1)+11)*(48271+2*(c+1))) (show(0:Int)<2147483647 by decide);generalize((x.fmod 2147483629+7919*(c+1)+11)*(48271+2*(c+1))).fmod 2147483647=u at u1 u2⊢;refine oa (by decide) (aD (aJ e2) (by rfl) (d6 (dW (hZ (by omega) (by omega)) (aD (aJ e2) (by rfl) (dW (hZ (by decide) (by decide)) (d6 (oa (by decide) ?_)))))));refine zp (by decide) (by decide+kernel) (oa (by omega) ?_);exact k _ _ (Int.fmod_nonneg_of_pos _ hm0) (Int.fmod_lt_of_pos _ hm0) ⟨cs,_,_,_,e2,hcs,hcl,by omega,hq,by omega,by omega⟩ (U1.trans U2)
     refine OO ⟨by decide,by decide,by decide⟩ (yb ?_);by_cases hs:x<10^(18:Int).toNat
     . rw[decide_eq_true hs];exact mixed
     . rw[decide_eq_false hs];refine aD (aJ e2) (by rfl) (aD (aJ e2) (by rfl) (cN rfl (vA ?_)));rw[List.length_map];by_cases ho:(cs.length:Int)<p+1
       . rw[decide_eq_true ho];exact mixed
       . rw[decide_eq_false ho];refine vx (ys:=[.lst (aG cs),.int (p+1),.int x,.int (c+1)]) e2 (by rfl) (by rfl) fun st3 e3 U3=>?_;exact hnx _ _ ⟨_,_,_,p+1,x,rfl,e3,by omega,hx,(U1.trans U2).trans U3⟩
 . rintro σ' st' ⟨v2,v3,v4,p,q,rfl,e3,hp,hq,U3⟩;refine aD (aJ e3) (by rfl) (oa (by omega) (aD (aJ e3) (by rfl) (zp (by omega) (GX hm0 hm1) (vx (ys:=[.lst (aG cs),.int p,.int (q.fdiv m),.int (c+1)]) e3 (by rfl) (by rfl) fun st4 e4 U4=>?_))));refine k _ _ (Int.fmod_nonneg_of_pos _ hm0) (Int.fmod_lt_of_pos _ hm0) ⟨cs,_,_,_,e4,hcs,hcl,hp,?_,by omega,by omega⟩ (U3.trans U4);rw[Int.fdiv_eq_ediv_of_nonneg _ (by omega)];exact Int.ediv_nonneg hq (by omega)
def lZ:cw:=fun ds st K=>∃(n:Nat) (b kd:Int),ds=[.ref n,.int kd]/\kd≠7/\Hd st n b/\b<=900000000/\∀r st',r.natAbs<=9->Hd st' n (b+3)->Upd st n st'->K (.int r) st'
def mE:List Str:=["_law_hand_here","_law_kind","_law_far"]
def Bj:DS:=(aF (cY (ba (av e9 (ae 1) (dC (.int 7)))) (aF (a8 2 (av dm (av cZ (aC b_ (af (ae 0) (af (av uN (dC (.int 10)) (dC (.int 6))) ak))) (av uN (dC (.int 10)) (dC (.int 6)))) (aC b_ (af (ae 0) (af (av uN (dC (.int 10)) (dC (.int 6))) ak)))))
 (a_ (av cZ (ae 2) (av aX (sP (af (dC (.int 1)) (af (mG ir (dC (.int 1))) (af (dC (.int 0)) ak)))) (aC b_ (af (ae 0) (af (dC (.int 3)) ak))))))) cK)
 (a_ (av aX (sP (af (dC (.int 0)) (af (dC (.int 1)) (af (mG ir (dC (.int 1))) (af (av mK (aC b_ (af (ae 0) (af (dC (.int 19)) ak))) (dC (.int 9))) ak))))) (aC b_ (af (ae 0) (af (dC (.int 4)) ak))))))
theorem Aq:∀ds st K,lZ ds st K->ds.length=2/\Bj {nx:=fun _ st'=>K .aE st',rt:=K} (aU mE ds) st:=by
 rintro ds st K ⟨n,b,kd,rfl,h7,B,hb,k⟩;refine⟨rfl,?_⟩;refine eq2 (fun h=>absurd h h7) fun h=>?_
 . refine gI ⟨n,19,b,rfl,B,by omega,by decide,by decide,fun r1 st1 a1 a2 B1 U1=>my ⟨Nat.le_of_ble_eq_true rfl,?_⟩⟩;refine⟨n,4,b+1,rfl,B1,by omega,by decide,by decide,fun r2 st2 c1 c2 B2 U2=>?_⟩;have U:=U1.trans U2;have B4:=B2.mono (b':=b+3) (by omega);have:r2=0\/r2=1\/r2=2\/r2=3:=by omega
   rcases this with rfl|rfl|rfl|rfl
   . exact aD rfl rfl (k _ _ (by decide) B4 U)
   . exact aD rfl rfl (k _ _ (by decide) B4 U)
   . exact aD rfl rfl (k _ _ (by decide) B4 U)
   . exact aD rfl rfl (k _ _ (by omega) B4 U)
structure XU(st:ag)(n:Nat)(st':ag):Prop where
 len:st.length<=st'.length
 same:∀m,m<st.length->m≠n->st'[m]?=st[m]?
theorem XU.trans{st st1 st2:ag}{n:Nat}(a:XU st n st1)(b:XU st1 n st2):XU st n st2:=⟨Nat.le_trans a.len b.len,fun m h g=>(b.same m (Nat.lt_of_lt_of_le h a.len) g).trans (a.same m h g)⟩
theorem XU.upd{st st1:ag}{n:Nat}(a:Upd st n st1):XU st n st1:=⟨by rw[a.len];exact Nat.le_refl _,fun m _ g=>a.same m g⟩
theorem XU.ext{st st1:ag}{n:Nat}(a:Ext st st1):XU st n st1:=⟨a.len,fun m h _=>a.same m h⟩
theorem XU.set{st st1:ag}{n k:Nat}{c:Cell}(a:XU st n st1)(h:st.length<=k):XU st n (st1.set k c):=⟨by rw[List.length_set];exact a.len,fun m hm g=>by rw[List.getElem?_set_ne (by omega)];exact a.same m hm g⟩
theorem Hd.lt{st:ag}{n:Nat}{b:Int}(B:Hd st n b):n<st.length:=by
 obtain⟨_,_,_,_,e,_⟩:=B.ex;exact(List.getElem?_eq_some_iff.mp e).1
theorem Hd.cell{st st':ag}{n:Nat}{b:Int}(B:Hd st n b)(e:st'[n]?=st[n]?):Hd st' n b:=by
 obtain⟨cs,p,q,c,e1,r⟩:=B.ex;exact⟨cs,p,q,c,e.trans e1,r⟩
def l8:cw:=fun ds st K=>∃(n:Nat) (b:Int) (many wide:Nat) (kd:Int),ds=[.ref n,.int many,.int wide,.int kd]/\kd≠7/\Hd st n b/\b<=600000000/\many<=8/\wide<=8/\∀A st',Mx.cj many wide A->(∀r∈A,∀x∈r,x.natAbs<=9*256)->Hd st' n (b+300)->XU st n st'->K (bI A) st'
def oF:List Str:=["_law_hand_here","_law_many","_law_wide","_law_kind","_law_rows_here","_law_k","_law_row","_law_way"]
def El:DS:=(aF (a8 4 (BS ak))
 (aF (kh (ip (af (ae 1) ak)) (cB 5) (aF (a8 6 (dA (ip (af (ae 2) ak)) [none,some 0,some 3] (cB 0) cH (aC lZ (af (ae 1) (af (ae 2) ak)))))
 (aF (a8 7 (aC b_ (af (ae 0) (af (dC (.int 8)) ak))))
 (aF (cY (ba (av e9 (ae 7) (dC (.int 0)))) (a8 6 (av cZ (sP (af (dC (.int 0)) ak)) (ae 2))) cK)
 (aF (cY (l_ (ba (av e9 (ae 7) (dC (.int 1)))) (ba (av qk (ae 5) (dC (.int 0))))) (a8 6 (bY nk (af (av aX (ae 4) (av mK (ae 5) (dC (.int 1)))) ak))) cK)
 (aF (cY (l_ (ba (av e9 (ae 7) (dC (.int 2)))) (ba (av qk (ae 5) (dC (.int 1))))) (a8 6 (dA (qY (af (av aX (ae 4) (av mK (ae 5) (dC (.int 1)))) (af (av aX (ae 4) (av mK (ae 5) (dC (.int 2)))) ak))) [none,none] (g4 0 1) cH (av dm (ae 0) (ae 1)))) cK)
 (aF (cY (l_ (ba (av e9 (ae 3) (dC (.int 7)))) (ba (av oA (ae 7) (dC (.int 3))))) (a8 6 (dA (d9 (ae 6)) [none] (cB 0) cH (av jr (ae 0) (dC (.int 1000))))) cK)
 (mq (o8 (ae 4) (bY dU (af (ae 6) ak)))))))))))
 (a_ (bY dU (af (ae 4) ak)))))
theorem B_{n w:Nat}{b kd:Int}{st:ag}{K:List D->ag->Prop}(h7:kd≠7)(B:Hd st n b)(hb:b<=700000000)(hw:w<=8)
 (k:∀r st',r.length=w->(∀x∈r,x.natAbs<=9)->Hd st' n (b+24)->Upd st n st'->K (aG r) st'):
 dB (cB 0) cH (aC lZ (af (ae 1) (af (ae 2) ak))) (fun _=>True) [none,some (.ref n),some (.int kd)] (eV 0 w) [] st K:=by
 refine kO (fun rest acc st'=>∃r:List Int,acc=aG r/\r.length+rest.length=w/\(∀x∈r,x.natAbs<=9)/\Hd st' n (b+3*r.length)/\Upd st n st') ?_ ?_ _ _ _ ⟨[],rfl,by rw[j_];simp,by simp,B.mono (by simp),Upd.refl⟩
 . rintro acc st' ⟨r,rfl,hl,hr,B',U⟩;have hl:r.length=w:=by simpa using hl
   exact⟨trivial,k r st' hl hr (B'.mono (by omega)) U⟩
 . rintro x rest acc st' ⟨r,rfl,hl,hr,B',U⟩ next
   have hl2:r.length<w:=by simp at hl;omega
   refine⟨trivial,_,rfl,?_⟩;refine⟨n,_,kd,rfl,h7,B',by omega,fun y st2 a1 B2 U2=>?_⟩;show dB _ _ _ _ _ _ _ _ _;rw[ints_app];refine next _ _ ⟨r++[y],rfl,by simp at hl⊢;omega,fun z hz=>?_,B2.mono (by simp;omega),U.trans U2⟩
   rcases List.mem_append.mp hz with h|h
   . exact hr z h
   . have:z=y:=by simpa using h
     subst this;exact a1
theorem wR{A:List (List Int)}{k:Nat}(h:k<A.length):e8 (A.map bL) (k:Int)=some (bL (A.getD k [])):=by
 refine i5 ?_;rw[List.getElem?_map,List.getElem?_eq_getElem h,Mx.aV h];rfl
theorem BV:∀(r s:List Int),(fW (aG r) (aG s)).map (fun d=>match d with| .tup [.int a,.int b]=> .int (a+b)|_=> .aE)=aG (List.zipWith (· + ·) r s)
 | [],_=>rfl
 |_::_,[]=>rfl
 |a::r,b::s=>by
  have:=BV r s;unfold fW at this⊢;simp only[aG,List.map_cons,List.zip_cons_cons,List.zipWith_cons_cons]at this⊢;rw[this]
theorem Ql{M:Nat}{r s:List Int}(hr:∀x∈r,x.natAbs<=M)(hs:∀x∈s,x.natAbs<=M):∀x∈List.zipWith (· + ·) r s,x.natAbs<=2*M:=fun x hx=>by
 obtain⟨k,hk,e⟩:=List.mem_iff_getElem.mp hx;rw[List.getElem_zipWith]at e;have h1:=hr _ (List.getElem_mem (by simp at hk;omega:k<r.length));have h2:=hs _ (List.getElem_mem (by simp at hk;omega:k<s.length));omega
theorem C1:∀ds st K,l8 ds st K->ds.length=4/\El {nx:=fun _ st'=>K .aE st',rt:=K} (aU oF ds) st:=by
 rintro ds st K ⟨n,b,many,wide,kd,rfl,h7,B,hb,hm,hw,k⟩;refine⟨rfl,?_⟩;have hn:=B.lt;refine⟨Nat.le_of_ble_eq_true rfl,?_⟩;refine lj ⟨by omega,by omega⟩ ?_;rw[Int.toNat_natCast];refine nI many (fun j σ st'=>∃(A:List (List Int)) (v5 v6 v7:Option D),σ=[some (.ref n),some (.int many),some (.int wide),some (.int kd),some (.ref st.length),v5,v6,v7]/\st'[st.length]?=some (.lst (A.map bL))/\A.length=j/\(∀r∈A,r.length=wide)/\(∀r∈A,∀x∈r,x.natAbs<=9*2^j)/\Hd st' n (b+25*j)/\XU st n st') ?_ ?_ ⟨[],none,none,none,rfl,by simp,rfl,by simp,by simp,(B.cell (List.getElem?_append_left hn)).mono (by simp),XU.ext Ext.push⟩
 . rintro σ st' ⟨A,v5,v6,v7,rfl,e,hl,hA,hb2,B2,X⟩;refine dw (aJ e) (k A st' ⟨hl,hA⟩ (fun r hr x hx=>?_) (B2.mono (by omega)) X);have p:2^many<=2^8:=Nat.pow_le_pow_right (by decide) hm;have:=hb2 r hr x hx;exact Nat.le_trans this (Nat.mul_le_mul_left _ p)
 . rintro j σ st' rest hj ⟨A,v5,v6,v7,rfl,e,hl,hA,hb2,B2,X⟩ next
   refine⟨_,rfl,?_⟩;refine lj ⟨by omega,by omega⟩ ⟨bS (by rw[j_];omega),?_⟩;rw[Int.toNat_natCast];refine B_ (n:=n) (kd:=kd) h7 B2 (by omega) hw fun r0 st1 hr0 hr1 B3 U3=>?_;refine⟨n,8,_,rfl,B3,by omega,by decide,by decide,fun way st2 w0 w1 B4 U4=>?_⟩;have hlen:=(List.getElem?_eq_some_iff.mp e).1;have e2:st2[st.length]?=some (.lst (A.map bL)):=(U4.same _ (by omega)).trans ((U3.same _ (by omega)).trans e);have X2:XU st n st2:=X.trans ((XU.upd U3).trans (XU.upd U4));have p1:9<=9*2^(j+1):=Nat.le_mul_of_pos_right _ (Nat.pow_pos (by decide));have p2:9*2^j*2=9*2^(j+1):=by rw[Nat.pow_succ,Nat.mul_assoc]
   let J:cu->ag->Prop:=fun σ' st'=>st'=st2/\∃r:List Int,σ'=[some (.ref n),some (.int many),some (.int wide),some (.int kd),some (.ref st.length),some (.int (j:Int)),some (bo r),some (.int way)]/\r.length=wide/\∀x∈r,x.natAbs<=9*2^(j+1)
   have J0:J [some (.ref n),some (.int many),some (.int wide),some (.int kd),some (.ref st.length),some (.int (j:Int)),some (bo r0),some (.int way)] st2:=⟨rfl,r0,rfl,hr0,fun x hx=>Nat.le_trans (hr1 x hx) p1⟩
   dsimp only;refine fY J (fun nx hnx=>?_) ?_
   . refine eq2 (fun h=>dM ?_) fun h=>hnx _ _ J0;refine Ct (Nat.le_of_ble_eq_true rfl) (y8 ⟨by omega,by omega,bS (by simp;omega)⟩ ?_);rw[Int.toNat_natCast,tK];exact hnx _ _ ⟨rfl,_,rfl,by simp,fun x hx=>by rw[(List.mem_replicate.mp hx).2];exact Nat.zero_le _⟩
   rintro σ' st3 ⟨rfl,r,rfl,hr,hrb⟩;refine fY J (fun nx hnx=>?_) ?_
   . refine eq2 (fun h=>dM (vA ?_)) fun h=>hnx _ _ ⟨rfl,r,rfl,hr,hrb⟩;by_cases h0:(0:Int)<(j:Int)
     . rw[decide_eq_true h0];have ej:(j:Int)-1=((j-1:Nat):Int):=by omega
       refine dM (my ?_);rw[ej];refine aD (aJ e2) (wR (by omega)) (oZ rfl ?_);have hmem:A.getD (j-1) []∈A:=by rw[Mx.aV (by omega)];exact List.getElem_mem _
       exact hnx _ _ ⟨rfl,_,rfl,hA _ hmem,fun x hx=>Nat.le_trans (hb2 _ hmem x hx) (by omega)⟩
     . rw[decide_eq_false h0];exact hnx _ _ ⟨rfl,r,rfl,hr,hrb⟩
   clear hr hrb;rintro σ' st3 ⟨rfl,r,rfl,hr,hrb⟩;refine fY J (fun nx hnx=>?_) ?_
   . refine eq2 (fun h=>dM (vA ?_)) fun h=>hnx _ _ ⟨rfl,r,rfl,hr,hrb⟩;by_cases h0:(1:Int)<(j:Int)
     . rw[decide_eq_true h0];have ej:(j:Int)-1=((j-1:Nat):Int):=by omega
       have ej2:(j:Int)-2=((j-2:Nat):Int):=by omega
       refine dM (my ?_);rw[ej];refine aD (aJ e2) (wR (by omega)) (my ?_);rw[ej2];refine aD (aJ e2) (wR (by omega)) ?_;have hm1:A.getD (j-1) []∈A:=by rw[Mx.aV (by omega)];exact List.getElem_mem _
       have hm2:A.getD (j-2) []∈A:=by rw[Mx.aV (by omega)];exact List.getElem_mem _
       have l1:=hA _ hm1;have l2:=hA _ hm2;refine nO rfl rfl fun ok aP=>⟨bS (by rw[mN,List.length_map,List.length_map];omega),?_⟩
       refine comp_map (g:=fun d=>match d with| .tup [.int a,.int b]=> .int (a+b)|_=> .aE) (aP _ rfl rfl) _ (fun d hd K' q=>?_) ?_
       . obtain⟨a,c,_,_,rfl⟩:=pC hd;exact⟨_,rfl,d6 q⟩
       rw[BV];refine hnx _ _ ⟨rfl,_,rfl,by rw[List.length_zipWith];omega,fun x hx=>?_⟩;have:=Ql (hb2 _ hm1) (hb2 _ hm2) x hx;omega
     . rw[decide_eq_false h0];exact hnx _ _ ⟨rfl,r,rfl,hr,hrb⟩
   clear hr hrb;rintro σ' st3 ⟨rfl,r,rfl,hr,hrb⟩;refine fY J (fun nx hnx=>?_) ?_
   . exact eq2 (fun h=>absurd h h7) fun h=>hnx _ _ ⟨rfl,r,rfl,hr,hrb⟩
   clear hr hrb;rintro σ' st3 ⟨rfl,r,rfl,hr,hrb⟩;refine G_ (by rfl) e2 (dw rfl (DW e2 (by rw[sizeLine_eq,List.length_map];omega) ?_));have hl2:=(List.getElem?_eq_some_iff.mp e2).1;refine next _ _ ⟨A++[r],_,_,_,rfl,by rw[List.getElem?_set_self hl2,Ij],by simp[hl],fun q hq=>?_,fun q hq x hx=>?_,(B4.cell (List.getElem?_set_ne (by omega))).mono (by omega),X2.set (Nat.le_refl _)⟩
   . rcases List.mem_append.mp hq with h|h
     . exact hA q h
     . have:q=r:=by simpa using h
       subst this;exact hr
   . rcases List.mem_append.mp hq with h|h
     . exact Nat.le_trans (hb2 q h x hx) (by omega)
     . have:q=r:=by simpa using h
       subst this;exact hrb x hx
def rg:cw:=fun ds st K=>∃(n:Nat) (b:Int),ds=[.ref n]/\Hd st n b/\b<=900000000/\∀(x y:Nat) st',1<=x->x<=8->1<=y->y<=8->Hd st' n (b+3)->Upd st n st'->K (.tup [.int x,.int y]) st'
def nu:List Str:=["_law_hand_here"]
def C9:DS:=(aF (cY (ba (av e9 (aC b_ (af (ae 0) (af (dC (.int 8)) ak))) (dC (.int 0)))) (a_ (ji (af (av dm (dC (.int 5)) (aC b_ (af (ae 0) (af (dC (.int 4)) ak)))) (af (av dm (dC (.int 5)) (aC b_ (af (ae 0) (af (dC (.int 4)) ak)))) ak)))) cK)
 (a_ (ji (af (av dm (dC (.int 1)) (aC b_ (af (ae 0) (af (dC (.int 4)) ak)))) (af (av dm (dC (.int 1)) (aC b_ (af (ae 0) (af (dC (.int 4)) ak)))) ak)))))
theorem AS:∀ds st K,rg ds st K->ds.length=1/\C9 {nx:=fun _ st'=>K .aE st',rt:=K} (aU nu ds) st:=by
 rintro ds st K ⟨n,b,rfl,B,hb,k⟩;refine⟨rfl,?_⟩
 have fin:∀(x y:Int) st',1<=x->x<=8->1<=y->y<=8->Hd st' n (b+3)->Upd st n st'->K (.tup [.int x,.int y]) st':=fun x y st' h1 h2 h3 h4 H U=>by
  obtain⟨x,rfl⟩:=Int.eq_ofNat_of_zero_le (show 0<=x by omega);obtain⟨y,rfl⟩:=Int.eq_ofNat_of_zero_le (show 0<=y by omega);exact k x y st' (by omega) (by omega) (by omega) (by omega) H U
 refine⟨n,8,b,rfl,B,by omega,by decide,by decide,fun r0 st0 z1 z2 B0 U0=>?_⟩;refine eq2 (fun h=>dM ?_) fun h=>?_
 . refine⟨n,4,b+1,rfl,B0,by omega,by decide,by decide,fun r1 st1 a1 a2 B1 U1=>d6 ?_⟩;refine⟨n,4,b+1+1,rfl,B1,by omega,by decide,by decide,fun r2 st2 c1 c2 B2 U2=>d6 ⟨Nat.le_of_ble_eq_true rfl,?_⟩⟩;exact fin _ _ _ (by omega) (by omega) (by omega) (by omega) (B2.mono (by omega)) ((U0.trans U1).trans U2)
 . refine⟨n,4,b+1,rfl,B0,by omega,by decide,by decide,fun r1 st1 a1 a2 B1 U1=>d6 ?_⟩;refine⟨n,4,b+1+1,rfl,B1,by omega,by decide,by decide,fun r2 st2 c1 c2 B2 U2=>d6 ⟨Nat.le_of_ble_eq_true rfl,?_⟩⟩;exact fin _ _ _ (by omega) (by omega) (by omega) (by omega) (B2.mono (by omega)) ((U0.trans U1).trans U2)
def ma:cw:=fun ds st K=>∃(n:Nat) (b kinds:Int),ds=[.ref n,.int kinds]/\Hd st n b/\b<=500000000/\0<kinds/\kinds<=7/\∀(m w:Nat) A st',1<=m->m<=8->1<=w->w<=8->Mx.cj m w A->(∀r∈A,∀x∈r,x.natAbs<=9*256)->Hd st' n (b+310)->XU st n st'->K (bI A) st'
def ju:List Str:=["_law_hand_here","_law_kinds","_law_many","_law_wide"]
def xN:DS:=(aF (Iz (g4 2 3) (aC rg (af (ae 0) ak)))
 (a_ (aC l8 (af (ae 0) (af (ae 2) (af (ae 3) (af (aC b_ (af (ae 0) (af (ae 1) ak))) ak)))))))
theorem wV:∀ds st K,ma ds st K->ds.length=2/\xN {nx:=fun _ st'=>K .aE st',rt:=K} (aU ju ds) st:=by
 rintro ds st K ⟨n,b,kinds,rfl,B,hb,k0,k1,k⟩;refine⟨rfl,?_⟩;refine⟨n,b,rfl,B,by omega,fun m w st1 m1 m8 w1 w8 B1 U1=>?_⟩;refine⟨_,rfl,?_⟩;refine⟨n,kinds,_,rfl,B1,by omega,k0,by omega,fun kd st2 a1 a2 B2 U2=>?_⟩;refine⟨n,_,m,w,kd,rfl,by omega,B2,by omega,m8,w8,fun A st3 hA bA B3 X3=>?_⟩;exact k m w A st3 m1 m8 w1 w8 hA bA (B3.mono (by omega)) ((XU.upd (U1.trans U2)).trans X3)
def m7:cw:=fun ds st K=>∃(n:Nat) (b:Int) (A:List (List Int)) (N w:Nat),ds=[.ref n,bI A]/\Hd st n b/\b<=500000000/\Mx.cj N w A/\1<=N/\N<=8/\w<=8/\(∀r∈A,∀x∈r,x.natAbs<=9*256)/\∀B N' st',Mx.jQ A N w (9*256*8^10) B N'->Hd st' n (b+100)->XU st n st'->K (bI B) st'
def j8:List Str:=["_law_hand_here","_law_rows_here","_law_turn","_law_k","_law_other","_law_way","_law_often"]
def zd:DS:=(aF (a8 1 (nL (d9 (ae 1)) [none] (cB 0) cH (bY nk (af (ae 0) ak))))
 (aF (kh (ip (af (av dm (dC (.int 2)) (aC b_ (af (ae 0) (af (dC (.int 9)) ak)))) ak)) (cB 2) (aF (a8 3 (aC b_ (af (ae 0) (af (bY di (af (ae 1) ak)) ak))))
 (aF (a8 4 (aC b_ (af (ae 0) (af (bY di (af (ae 1) ak)) ak))))
 (aF (a8 5 (aC b_ (af (ae 0) (af (dC (.int 6)) ak))))
 (aF (cY (l_ (ba (av oA (ae 5) (dC (.int 3)))) (ba (av pX (ae 3) (ae 4)))) (aF (a8 6 (av aX (sP (af (dC (.int 1)) (af (mG ir (dC (.int 1))) (af (dC (.int 2)) (af (mG ir (dC (.int 3))) (af (dC (.int 7)) ak)))))) (aC b_ (af (ae 0) (af (dC (.int 5)) ak)))))
 (eO (ae 1) (ae 3) (dA (qY (af (av aX (ae 1) (ae 3)) (af (av aX (ae 1) (ae 4)) ak))) [none,none,some 6] (g4 0 1) cH (av dm (ae 0) (av cZ (ae 2) (ae 1)))))) cK)
 (aF (cY (ba (av e9 (ae 5) (dC (.int 3)))) (Fm (xj (vf (ae 1) (ae 3)) (vf (ae 1) (ae 4))) (ji (af (av aX (ae 1) (ae 4)) (af (av aX (ae 1) (ae 3)) ak)))) cK)
 (aF (cY (ba (av e9 (ae 5) (dC (.int 4)))) (eO (ae 1) (ae 3) (dA (d9 (av aX (ae 1) (ae 3))) [none] (cB 0) cH (mG ir (ae 0)))) cK)
 (cY (l_ (ba (av e9 (ae 5) (dC (.int 5)))) (ba (av oA (bY di (af (ae 1) ak)) (dC (.int 8))))) (mq (sI qI (ae 1) (af (ae 3) (af (dA (qY (af (av aX (ae 1) (ae 3)) (af (av aX (ae 1) (ae 4)) ak))) [none,none] (g4 0 1) cH (av mK (ae 0) (av cZ (dC (.int 2)) (ae 1)))) ak)))) cK))))))))
 (a_ (bY dU (af (dA (d9 (ae 1)) [none] (cB 0) cH (bY dU (af (ae 0) ak))) ak)))))
theorem kM{A:List (List Int)}{k:Nat}(h:k<A.length):e8 (A.map bo) (k:Int)=some (bo (A.getD k [])):=by
 refine i5 ?_;rw[List.getElem?_map,List.getElem?_eq_getElem h,Mx.aV h];rfl
theorem su{T:List (List Int)}{l:Nat}{r:List Int}:(T.map bo).set l (bo r)=(T.set l r).map bo:=by rw[List.map_set]
theorem A9{t:Int}:∀(r s:List Int),(fW (aG r) (aG s)).map (fun d=>match d with| .tup [.int a,.int b]=> .int (a-t*b)|_=> .aE)=aG (Mx.eH r (-t) s)
 | [],_=>rfl
 |_::_,[]=>rfl
 |a::r,b::s=>by
  have:=A9 (t:=t) r s;unfold fW Mx.eH at this⊢;simp only[aG,List.map_cons,List.zip_cons_cons,List.zipWith_cons_cons]at this⊢;rw[this,Int.neg_mul];congr 2
theorem Lj{σ:cu}{st:ag}{K:DK}{n:Nat}{xs:List D}{to:DE}{ta:DA}(ho:∀K',K' (.ref n) st->to σ st K')(e:st[n]?=some (.lst xs))(ha:ta σ st fun ds st2=>(∃ys,st2[n]?=some (.lst ys))/\qI n ds st2 K):sI qI to ta σ st K:=by
 unfold sI;refine ho _ ?_;simp only[e];exact ha
theorem RT{st2:ag}{K:DK}{n:Nat}{ys:List D}{i:Int}{d:D}(e2:st2[n]?=some (.lst ys))(h:0<=i/\i<=ys.length/\i<2^62/\ys.length<sizeLine)(k:K .aE (st2.set n (.lst (ys.take i.toNat++d::ys.drop i.toNat)))):(∃ys,st2[n]?=some (.lst ys))/\qI n [.int i,d] st2 K:=by
 refine⟨⟨ys,e2⟩,?_⟩;unfold qI;simp only[e2];exact⟨h,k⟩
theorem x_:∀ds st K,m7 ds st K->ds.length=2/\zd {nx:=fun _ st'=>K .aE st',rt:=K} (aU j8 ds) st:=by
 rintro ds st K ⟨n,b,A,N,w,rfl,B,hb,hA,hN1,hN8,hw,hbd,k⟩;refine⟨rfl,?_⟩;have hn:=B.lt;have hnL:st.length≠n:=Nat.ne_of_gt hn;refine j0 ⟨bS (by rw[List.length_map,hA.len];omega),?_⟩;refine iH bo trivial bG.tup (fun d r hr he K' q=>⟨_,rfl,oZ he q⟩) ?_;refine⟨n,9,b,rfl,B.cell (List.getElem?_append_left hn),by omega,by decide,by decide,fun r0 st1 z0 z1 B1 U1=>d6 ?_⟩;obtain⟨T,rfl⟩:=Int.eq_ofNat_of_zero_le z0;refine lj ⟨by omega,by omega⟩ ?_;have eT:(2+(T:Int)).toNat=2+T:=by omega
 rw[eT];have e1:st1[st.length]?=some (.lst (A.map bo)):=(U1.same _ hnL).trans (by simp);have X1:XU st n st1:=(XU.ext Ext.push).trans (XU.upd U1);refine nI (2+T) (fun j σ st'=>∃(X:List (List Int)) (m:Nat) (v2 v3 v4 v5 v6:Option D),σ=[some (.ref n),some (.ref st.length),v2,v3,v4,v5,v6]/\st'[st.length]?=some (.lst (X.map bo))/\Mx.jQ A N w (9*256*8^j) X m/\Hd st' n (b+1+4*j)/\XU st n st') ?_ ?_ ⟨A,N,none,none,none,none,none,rfl,e1,⟨hA,hN1,hN8,hbd,Mx.d8.refl _ _ _⟩,B1.mono (by simp),X1⟩
 . rintro σ st' ⟨X,m,v2,v3,v4,v5,v6,rfl,e,M,B',X'⟩;have lX:=M.is.len;have hm8:=M.hi;refine kv (aJ e) fun ok aP=>⟨bS (by rw[List.length_map];omega),?_⟩
   refine iH bL aP bG.lst (fun d r hr he K' q=>⟨_,rfl,dw he q⟩) (dw rfl ?_);exact k X m st' (M.more (Nat.mul_le_mul_left _ (Nat.pow_le_pow_right (by decide) (by omega)))) (B'.mono (by omega)) X'
 . rintro j σ st2 rest hj ⟨X,m,v2,v3,v4,v5,v6,rfl,e,M,B2,X2⟩ next
   refine⟨_,rfl,?_⟩;have lX:=M.is.len;have hm1:=M.lo;have hm8:=M.hi;have lM:(X.map bo).length=m:=by rw[List.length_map,lX]
   refine cN (aJ e) ?_;refine⟨n,_,_,rfl,B2,by omega,by omega,by omega,fun rk st3 a0 a1 B3 U3=>?_⟩;obtain⟨kk,rfl⟩:=Int.eq_ofNat_of_zero_le a0;have hk:kk<m:=by omega
   have e3:=(U3.same _ hnL).trans e;refine cN (aJ e3) ?_;refine⟨n,_,_,rfl,B3,by omega,by omega,by omega,fun ro st4 c0 c1 B4 U4=>?_⟩;obtain⟨o,rfl⟩:=Int.eq_ofNat_of_zero_le c0;have ho:o<m:=by omega
   have e4:=(U4.same _ hnL).trans e3;refine⟨n,6,_,rfl,B4,by omega,by decide,by decide,fun way st5 w0 w1 B5 U5=>?_⟩;have e5:=(U5.same _ hnL).trans e4;have X5:XU st n st5:=X2.trans (XU.upd ((U3.trans U4).trans U5));have l5:=(List.getElem?_eq_some_iff.mp e5).1;clear U3 U4 U5 e e3 e4 B2 B3 B4;have pj:9*256*8^(j+1)=9*256*8^j*8:=by rw[Nat.pow_succ,Nat.mul_assoc (9*256)]
   have M1:Mx.jQ A N w (9*256*8^(j+1)) X m:=M.more (by omega);have wk:=M.is.row hk;have wo:=M.is.row ho;have B6:Hd st5 n (b+1+4*((j+1:Nat):Int)):=B5.mono (by omega);by_cases h3:way<3
   . refine Q0 h3 (dM ?_);refine ne2 (fun hne=>dM ?_) fun heq=>?_
     . refine gI (gI ⟨Nat.le_of_ble_eq_true rfl,n,5,_,rfl,B5,by omega,by decide,by decide,fun q st6 q0 q1 B6 U6=>?_⟩);have e6:=(U6.same _ hnL).trans e5;have l6:=(List.getElem?_eq_some_iff.mp e6).1
       obtain⟨c,ec,hc⟩:∃c:Int,e8 [D.int 1,.int (-1),.int 2,.int (-3),.int 7] q=some (.int c)/\c.natAbs<=7:=by
        have:q=0\/q=1\/q=2\/q=3\/q=4:=by omega
        rcases this with rfl|rfl|rfl|rfl|rfl
        . exact⟨1,rfl,by decide⟩
        . exact⟨-1,rfl,by decide⟩
        . exact⟨2,rfl,by decide⟩
        . exact⟨-3,rfl,by decide⟩
        . exact⟨7,rfl,by decide⟩
       refine aD rfl ec ?_;refine aD (aJ e6) (kM (by omega)) (aD (aJ e6) (kM (by omega)) ?_);refine nO rfl rfl fun ok aP=>⟨bS (by rw[mN,List.length_map,List.length_map];omega),?_⟩
       refine comp_map (g:=fun d=>match d with| .tup [.int x,.int y]=> .int (x+c*y)|_=> .aE) (aP st6 rfl rfl) _ (fun d hd K' q=>?_) ?_
       . obtain⟨x,y,_,_,rfl⟩:=pC hd;exact⟨_,rfl,dW (hZ (by omega) (by omega)) (d6 q)⟩
       have ea:(fW (aG (X.getD kk [])) (aG (X.getD o []))).map (fun d=>match d with| .tup [.int x,.int y]=> .int (x+c*y)|_=> .aE)=aG (Mx.eH (X.getD kk []) c (X.getD o [])):=qv _ _;rw[ea];refine gf e6 (uQ (by omega) (by omega)) ?_;rw[Int.toNat_natCast];refine rN (by omega) (rN (by omega) (rN (by omega) ?_));refine next _ _ ⟨_,m,_,_,_,_,_,rfl,(List.getElem?_set_self l6).trans (congrArg (fun x=>some (Cell.lst x)) su),?_,(B6.cell (List.getElem?_set_ne hnL)).mono (by omega),(X5.trans (XU.upd U6)).set (Nat.le_refl _)⟩
       rw[pj];exact M.add hk ho (by omega) hc
     . refine rN (by omega) (rN (by omega) (rN (by omega) ?_));exact next _ _ ⟨X,m,_,_,_,_,_,rfl,e5,M1,B6,X5⟩
   . refine QO (by omega) ?_;by_cases h4:way=3
     . refine eqT h4 (dM ?_);refine aD (aJ e5) (kM (by omega)) (aD (aJ e5) (kM (by omega)) ⟨Nat.le_of_ble_eq_true rfl,?_⟩);refine gf e5 (uQ (by omega) (by omega)) ?_;rw[Int.toNat_natCast,su];refine gf (List.getElem?_set_self l5) (uQ (by omega) (by rw[List.length_map,List.length_set];omega)) ?_;rw[Int.toNat_natCast,su,List.set_set];refine rN (by omega) (rN (by omega) ?_);exact next _ _ ⟨_,m,_,_,_,_,_,rfl,List.getElem?_set_self l5,M1.swap hk ho,B6.cell (List.getElem?_set_ne hnL),X5.set (Nat.le_refl _)⟩
     refine rN h4 ?_;by_cases h5:way=4
     . refine eqT h5 (dM ?_);refine aD (aJ e5) (kM (by omega)) (D5 ⟨bS (by rw[List.length_map];omega),?_⟩);refine comp_map (g:=fun x=>match x with| .int a=> .int (-a)|_=> .aE) trivial _ (fun x hx K' q=>?_) ?_
       . unfold aG at hx;obtain⟨a,_,rfl⟩:=List.mem_map.mp hx;exact⟨_,rfl,gI q⟩
       have en:(aG (X.getD kk [])).map (fun x=>match x with| .int a=> .int (-a)|_=> .aE)=aG ((X.getD kk []).map fun x=> -x):=by unfold aG;rw[List.map_map,List.map_map];rfl
       rw[en];refine gf e5 (uQ (by omega) (by omega)) ?_;rw[Int.toNat_natCast];refine rN (by omega) ?_;exact next _ _ ⟨_,m,_,_,_,_,_,rfl,(List.getElem?_set_self l5).trans (congrArg (fun x=>some (Cell.lst x)) su),M1.neg hk,B6.cell (List.getElem?_set_ne hnL),X5.set (Nat.le_refl _)⟩
     refine rN h5 (eqT (by omega) (dM ?_));refine cN (aJ e5) (Kr (fun h8=>dM ?_) fun h8=>?_)
     . refine Lj (fun K' q=>q) e5 ?_;refine aD (aJ e5) (kM (by omega)) (aD (aJ e5) (kM (by omega)) ?_);refine nO rfl rfl fun ok aP=>⟨bS (by rw[mN,List.length_map,List.length_map];omega),?_⟩
       refine comp_map (g:=fun d=>match d with| .tup [.int x,.int y]=> .int (x-2*y)|_=> .aE) (aP st5 rfl rfl) _ (fun d hd K' q=>?_) ?_
       . obtain⟨x,y,_,_,rfl⟩:=pC hd;exact⟨_,rfl,dW (hZ (by decide) (by decide)) (my q)⟩
       rw[A9];refine RT e5 ⟨by omega,by omega,by omega,by rw[sizeLine_eq];omega⟩ ?_;rw[Int.toNat_natCast];refine next _ _ ⟨_,m+1,_,_,_,_,_,rfl,(List.getElem?_set_self l5).trans ?_,by rw[pj];exact M.ins hk ho (by omega) (c:= -2) (by decide),B6.cell (List.getElem?_set_ne hnL),X5.set (Nat.le_refl _)⟩
       rw[List.map_append,List.map_cons,List.map_take,List.map_drop]
     . exact next _ _ ⟨X,m,_,_,_,_,_,rfl,e5,M1,B6,X5⟩
def wL:cw:=fun ds st K=>∃(x y:D) (n:Nat) (ws:List Int) (A:List (List Int)),ds=[x,y,.int n]/\items? st x=some (aG ws)/\eP st y A/\(∀r∈A,r.length=n)/\n<=1000/\(∀w∈ws,∀r∈A,∀b∈r,IntMulOk w b)/\K (bL (Mx.dJ ws A (List.replicate n 0))) st
def sV:List Str:=["_law_weights","_law_rows_here","_law_wide","_law_row","_law_weight","_law_one"]
def Jg:DS:=(aF (a8 3 (av cZ (sP (af (dC (.int 0)) ak)) (ae 2)))
 (aF (kh (qY (af (ae 0) (af (ae 1) ak))) (g4 4 5) (a8 3 (dA (qY (af (ae 3) (af (ae 5) ak))) [none,none,some 4] (g4 0 1) cH (av dm (ae 0) (av cZ (ae 2) (ae 1))))))
 (a_ (bY dU (af (ae 3) ak)))))
theorem Gy:∀ds st K,wL ds st K->ds.length=3/\Jg {nx:=fun _ st'=>K .aE st',rt:=K} (aU sV ds) st:=by
 rintro ds st K ⟨x,y,n,ws,A,rfl,hx,⟨dr,hy,hr⟩,hw,hn,hm,k⟩;refine⟨rfl,?_⟩;refine Ct (Nat.le_of_ble_eq_true rfl) (y8 ⟨by omega,by omega,bS (by simp;omega)⟩ ?_);rw[Int.toNat_natCast,tK];refine nO hx hy fun ok aP=>?_
 refine g_ (fun rest σ st'=>∃(v4 v5:Option D) (ws':List Int) (ds':List D) (A':List (List Int)) (acc:List Int),st=st'/\rest=fW (aG ws') ds'/\bG st ds' A'/\σ=[some x,some y,some (.int n),some (bo acc),v4,v5]/\acc.length=n/\(∀r∈A',r∈A)/\(∀w∈ws',w∈ws)/\Mx.dJ ws' A' acc=Mx.dJ ws A (List.replicate n 0)) ?_ ?_ _ _ _
  ⟨none,none,ws,dr,A,List.replicate n 0,rfl,rfl,hr,rfl,by simp,fun _ h=>h,fun _ h=>h,rfl⟩
 . rintro σ st1 ⟨v4,v5,ws',ds',A',acc,rfl,he,hr',rfl,hl,_,_,hs⟩;refine⟨aP _ hx hy,dw rfl ?_⟩
   have:Mx.dJ ws' A' acc=acc:=by
    match ws',ds',A',hr',he with
    | [],_,_,_,_=>unfold Mx.dJ;rfl
    |_::_,[],[],_,_=>unfold Mx.dJ;rfl
    |_::_,_::_,_::_,_,he=>cases he
   rw[this]at hs;rw[hs];exact k
 . rintro d rest σ st1 ⟨v4,v5,ws',ds',A',acc,rfl,he,hr',rfl,hl,ha,hw',hs⟩ next
   match ws',ds',A',hr',he with
   |w::ws',e::ds',r::A',hr',he=>
    simp only[aG,List.map_cons,zD,List.cons.injEq]at he;obtain⟨rfl,rfl⟩:=he;refine⟨aP _ hx hy,_,rfl,?_⟩;have hrl:=hw r (ha r List.mem_cons_self);have e1:items? st (bo acc)=some (aG acc):=rfl;refine nO e1 hr'.1 fun ok2 hok2=>⟨bS (by rw[mN];simp;omega),?_⟩
    refine comp_map (g:=fun d=>match d with| .tup [.int a,.int b]=> .int (a+w*b)|_=> .aE) (hok2 st e1 hr'.1) _ (fun d hd K' q=>?_) ?_
    . obtain⟨a,b,_,hb,rfl⟩:=pC hd;exact⟨_,rfl,dW (hm w (hw' w List.mem_cons_self) r (ha r List.mem_cons_self) b hb) (d6 q)⟩
    have ea:(fW (aG acc) (aG r)).map (fun d=>match d with| .tup [.int a,.int b]=> .int (a+w*b)|_=> .aE)=aG (Mx.eH acc w r):=qv acc r;rw[ea];refine next _ _ ⟨_,_,ws',ds',A',Mx.eH acc w r,rfl,rfl,hr'.2,rfl,by rw[Mx.jF (by omega)];exact hl,fun q hq=>ha q (List.mem_cons_of_mem _ hq),fun q hq=>hw' q (List.mem_cons_of_mem _ hq),?_⟩
    rw[<-hs];rfl
   | [],_,_,_,he=>cases he
   |_::_,[],[],_,he=>cases he
def ow:cw:=fun ds st K=>∃(x y:D) (n:Nat) (A B:List (List Int)),ds=[x,y,.int n]/\eP st x A/\eP st y B/\(∀r∈B,r.length=n)/\n<=1000/\A.length<=1000/\(∀w∈A,∀c∈w,∀r∈B,∀b∈r,IntMulOk c b)/\K (bI (Mx.mulM A B n)) st
def kG:List Str:=["_law_one","_law_other","_law_wide"]
def Aj:DS:=(a_ (bY dU (af (dA (d9 (ae 0)) [none,some 1,some 2] (cB 0) cH (aC wL (af (ae 0) (af (ae 1) (af (ae 2) ak))))) ak)))
theorem zg:∀ds st K,ow ds st K->ds.length=3/\Aj {nx:=fun _ st'=>K .aE st',rt:=K} (aU kG ds) st:=by
 rintro ds st K ⟨x,y,n,A,B,rfl,⟨da,hx,ra⟩,hy,hw,hn,hl,hm,k⟩;refine⟨rfl,?_⟩;refine kv hx fun ok aP=>⟨bS (by rw[ra.len];exact hl),?_⟩
 refine iH (fun r=>bL (Mx.dJ r B (List.replicate n 0))) aP ra (fun d r hr he K' q=>⟨_,rfl,d,y,n,r,B,rfl,he,hy,hw,hn,fun c hc=>hm r hr c hc,q⟩) ?_;have e:A.map (fun r=>bL (Mx.dJ r B (List.replicate n 0)))=(Mx.mulM A B n).map bL:=by unfold Mx.mulM;rw[List.map_map];rfl
 rw[e];exact dw rfl k
def kY:cw:=fun ds st K=>∃(n:Nat) (b:Int) (A:List (List Int)) (N w:Nat),ds=[.ref n,bI A]/\Hd st n b/\b<=400000000/\Mx.cj N w A/\1<=N/\N<=8/\w<=8/\(∀r∈A,∀x∈r,x.natAbs<=9*256)/\∀B N' st',Mx.cj N' w B->1<=N'->N'<=8->(∀r∈B,∀x∈r,x.natAbs<=2^48)->XU st n st'->K (bI B) st'
def iK:List Str:=["_law_hand_here","_law_rows_here","_law_way","_law_k","_law_often","_law_bigger"]
def xa:DS:=(aF (a8 2 (aC b_ (af (ae 0) (af (dC (.int 4)) ak))))
 (aF (a8 3 (aC b_ (af (ae 0) (af (bY di (af (ae 1) ak)) ak))))
 (aF (cY (ba (av e9 (ae 2) (dC (.int 0)))) (a_ (aC m7 (af (ae 0) (af (ae 1) ak)))) cK)
 (aF (cY (ba (av e9 (ae 2) (dC (.int 1)))) (aF (a8 4 (av dm (dC (.int 2)) (aC b_ (af (ae 0) (af (dC (.int 3)) ak)))))
 (aF (a8 5 (bY dU (af (dA (d9 (av aX (ae 1) (ae 3))) [none,some 4] (cB 0) cH (av cZ (ae 1) (ae 0))) ak)))
 (a_ (av dm (av dm (kq (ae 1) i9 (m_ (ae 3))) (ji (af (ae 5) ak))) (kq (ae 1) (m_ (av dm (ae 3) (dC (.int 1)))) i9))))) cK)
 (aF (cY (l_ (ba (av e9 (ae 2) (dC (.int 2)))) (ba (av qk (bY di (af (ae 1) ak)) (dC (.int 1))))) (a_ (av dm (kq (ae 1) i9 (m_ (ae 3))) (kq (ae 1) (m_ (av dm (ae 3) (dC (.int 1)))) i9))) cK)
 (a_ (aC l8 (af (ae 0) (af (av dm (dC (.int 1)) (aC b_ (af (ae 0) (af (dC (.int 4)) ak)))) (af (bY di (af (av aX (ae 1) (dC (.int 0))) ak)) (af (dC (.int 0)) ak)))))))))))
theorem Cs{xs:List D}{j:Nat}:L3.cutD xs (some (j:Int)) none=xs.drop j:=by
 unfold L3.cutD;rw[HT.yP,HT.wB];by_cases h:j<=xs.length
 . rw[Nat.min_eq_left h,List.take_of_length_le (by rw[List.length_drop];omega)]
 . rw[Nat.min_eq_right (by omega),List.drop_of_length_le (Nat.le_refl _),List.drop_of_length_le (by omega)];simp
theorem vO:∀ds st K,kY ds st K->ds.length=2/\xa {nx:=fun _ st'=>K .aE st',rt:=K} (aU iK ds) st:=by
 rintro ds st K ⟨n,b,A,N,w,rfl,B,hb,hA,n1,n8,w8,bA,k⟩;refine⟨rfl,?_⟩;have lA:=hA.len;refine⟨n,4,b,rfl,B,by omega,by decide,by decide,fun way st1 a0 a1 B1 U1=>?_⟩;refine cN rfl ?_;rw[List.length_map,lA];refine⟨n,_,_,rfl,B1,by omega,by omega,by omega,fun kk st2 c0 c1 B2 U2=>?_⟩;obtain⟨j,rfl⟩:=Int.eq_ofNat_of_zero_le c0;have hj:j<N:=by omega
 have X2:XU st n st2:=XU.upd (U1.trans U2);have up:∀ {x:Nat},x<=9*256->x<=2^48:=fun h=>Nat.le_trans h (by decide);refine eq2 (fun h=>dM ?_) fun h=>?_
 . exact⟨n,_,A,N,w,rfl,B2,by omega,hA,n1,n8,w8,bA,fun B' N' st3 M B3 X3=>k B' N' st3 M.is M.lo M.hi (fun r hr x hx=>Nat.le_trans (M.bd r hr x hx) (by decide)) (X2.trans X3)⟩
 refine eq2 (fun h1=>dM ?_) fun h1=>?_
 . refine⟨n,3,_,rfl,B2,by omega,by decide,by decide,fun o st3 o0 o1 B3 U3=>d6 ?_⟩;have lr:=hA.row hj;have hmem:A.getD j []∈A:=by rw[Mx.aV (by omega)];exact List.getElem_mem _
   refine aD rfl (ve (by omega)) (j0 ⟨bS (by rw[List.length_map];omega),?_⟩);refine comp_map (g:=fun d=>match d with| .int x=> .int ((2+o)*x)|_=> .aE) trivial _ (fun d hd K' q=>?_) ?_
   . obtain⟨x,_,rfl⟩:=List.mem_map.mp hd;exact⟨_,rfl,dW (hZ (by omega) (by omega)) q⟩
   have ea:(aG (A.getD j [])).map (fun d=>match d with| .int x=> .int ((2+o)*x)|_=> .aE)=aG ((A.getD j []).map fun x=>(2+o)*x):=by unfold aG;rw[List.map_map,List.map_map];rfl
   rw[ea];have lR:((A.getD j []).map fun x=>(2+o)*x).length=w:=by rw[List.length_map];exact lr
   have bR:∀y∈(A.getD j []).map fun x=>(2+o)*x,y.natAbs<=2^48:=fun y hy=>by
    obtain⟨x,hx,rfl⟩:=List.mem_map.mp hy;rw[Int.natAbs_mul];exact Nat.le_trans (Nat.mul_le_mul (show(2+o).natAbs<=4 by omega) (bA _ hmem x hx)) (by decide)
   generalize(A.getD j []).map (fun x=>(2+o)*x)=R at lR bR;refine dw rfl (k_ ⟨Nat.le_of_ble_eq_true rfl,?_⟩);rw[xO,<-List.map_take];refine rV (bS (by rw[List.length_map,List.length_take];simp;omega)) (d6 (k_ ?_));rw[show(j:Int)+1=((j+1:Nat):Int)from rfl,Cs,<-List.map_drop];refine rV (bS (by rw[List.length_append,List.length_map,List.length_map,List.length_take,List.length_drop];simp;omega)) ?_;have em:(A.take j).map bL++[bL R]++(A.drop (j+1)).map bL=(A.take j++[R]++A.drop (j+1)).map bL:=by rw[List.map_append,List.map_append];rfl
   rw[em];refine k _ N st3 (Mx.Gj hA (fun r hr=>by rw[List.mem_singleton.mp hr];exact lR) (by omega) (by simp;omega)) n1 n8 (fun r hr x hx=>?_) (X2.trans (XU.upd U3));rcases List.mem_append.mp hr with z|z
   . rcases List.mem_append.mp z with z|z
     . exact up (bA r (List.mem_of_mem_take z) x hx)
     . rw[List.mem_singleton.mp z]at hx;exact bR x hx
   . exact up (bA r (List.mem_of_mem_drop z) x hx)
 have last:(a_ (aC l8 (af (ae 0) (af (av dm (dC (.int 1)) (aC b_ (af (ae 0) (af (dC (.int 4)) ak)))) (af (bY di (af (av aX (ae 1) (dC (.int 0))) ak)) (af (dC (.int 0)) ak)))))) {nx:=fun _ st'=>K .aE st',rt:=K} [some (.ref n),some (bI A),some (.int way),some (.int j),none,none] st2:=by
  refine⟨n,4,_,rfl,B2,by omega,by decide,by decide,fun o st3 o0 o1 B3 U3=>d6 (aD rfl (show e8 (A.map bL) 0=some (bL (A.getD 0 []))from ve (k:=0) (by omega)) (cN rfl ?_))⟩;rw[List.length_map,hA.row (i:=0) n1];obtain⟨o,rfl⟩:=Int.eq_ofNat_of_zero_le o0;exact⟨n,_,1+o,w,0,rfl,by decide,B3,by omega,by omega,w8,fun B' st4 hB bB B4 X4=>k B' _ st4 hB (by omega) (by omega) (fun r hr x hx=>up (bB r hr x hx)) ((X2.trans (XU.upd U3)).trans X4)⟩
 refine eq2 (fun h2=>dM ?_) fun h2=>last;refine cN rfl (Q8 (fun h3=>dM ?_) fun h3=>last);rw[List.length_map,lA]at h3;refine k_ ?_;rw[xO,<-List.map_take];refine d6 (k_ ?_);rw[show(j:Int)+1=((j+1:Nat):Int)from rfl,Cs,<-List.map_drop];refine rV (bS (by rw[List.length_map,List.length_map,List.length_take,List.length_drop];omega)) ?_;rw[<-List.map_append];have hI:=Mx.Gj (R:=[]) (k:=j) (l:=j+1) (m:=N-1) hA (fun r hr=>by cases hr) (by omega) (by simp;omega);rw[List.append_nil]at hI;refine k _ (N-1) st2 hI (by omega) (by omega) (fun r hr x hx=>?_) X2;rcases List.mem_append.mp hr with z|z
 . exact up (bA r (List.mem_of_mem_take z) x hx)
 . exact up (bA r (List.mem_of_mem_drop z) x hx)
def fi:cw:=fun ds st K=>∃(A B:List (List Int)) (N w:Nat) (f:Bool),ds=[bI A,bI B]/\Rn A N w/\(∀q∈B,q.length=w/\∀x∈q,x.natAbs<=2^887)/\st[0]?=some (g7 f)/\∀st' (t:Bool),(t=true↔∀q∈B,Mx.cE A N w fun c=>q.getD c 0)->Bk st st'->K (.bl t) st'
def iN:List Str:=["_law_rows_here","_law_others","_law_within","_law_row","_law_told"]
def we:DS:=(aF (a8 2 (dC (.bl true)))
 (aF (kh (d9 (ae 1)) (cB 3) (aF (a8 4 (aC w9 (af (ae 0) (af (ae 3) ak))))
 (aF (cY (jx (ba (aC mZ (af (ae 0) (af (ae 3) (af (ae 4) ak)))))) (a_ (dC .aE)) cK)
 (a8 2 (jz (ae 2) (av e9 (av aX (ae 4) (dC (.int 0))) (dC (.str "told"))))))))
 (a_ (ae 2))))
theorem Bk.trans{a b c:ag}(x:Bk a b)(y:Bk b c):Bk a c:=⟨Nat.le_trans x.le y.le,fun m hm h0=>(y.fr m (Nat.lt_of_lt_of_le hm x.le) h0).trans (x.fr m hm h0),y.tb⟩
theorem Ki.Sb{A:List (List Int)}{N w:Nat}{r:List Int}{x:D}(h:Ki A N w r x):∃s y,x= .tup [.str s,y]/\(c9 (.str s) (.str "told")=true↔Mx.cE A N w fun c=>r.getD c 0):=by
 rcases h with⟨W,rfl,lW,_,hs⟩|⟨ps,rfl,lp,hP,hw,hn⟩
 . exact⟨_,_,rfl,⟨fun _=>⟨fun n=>W.getD n 0,fun c hc=>(hs c hc).symm⟩,fun _=>rfl⟩⟩
 . refine⟨_,_,rfl,⟨fun h=>(by cases h),fun⟨z,hz⟩=>(hn ?_).elim⟩⟩;have e:Mx.dq ps w (fun c=>r.getD c 0)=Mx.dq ps w fun c=>Mx.S N fun k=>z k*Mx.g A k c:=Mx.wg fun c hc=>hz c hc;rw[e,Mx.BD];exact Mx.E2 fun i hi=>(hw i hi).mul _
theorem vI:∀ds st K,fi ds st K->ds.length=2/\we {nx:=fun _ st'=>K .aE st',rt:=K} (aU iN ds) st:=by
 rintro ds st K ⟨A,B,N,w,f,rfl,R,hB,t0,k⟩;refine⟨rfl,?_⟩;have l0:=(List.getElem?_eq_some_iff.mp t0).1;refine j0 ?_;refine g_ (fun rest σ st'=>∃(i:Nat) (t:Bool) (v3 v4:Option D),i<=B.length/\rest=(B.map bL).drop i/\σ=[some (bI A),some (bI B),some (.bl t),v3,v4]/\(t=true↔∀q∈B.take i,Mx.cE A N w fun c=>q.getD c 0)/\Bk st st') ?_ ?_ _ _ _ ⟨0,true,none,none,Nat.zero_le _,rfl,rfl,⟨fun _ q hq=>(by cases hq),fun _=>rfl⟩,⟨Nat.le_refl _,fun _ _ _=>rfl,f,t0⟩⟩
 . rintro σ st' ⟨i,t,v3,v4,hi,hrest,rfl,ht,X⟩;have hi2:=drop_nil hrest;rw[List.take_of_length_le hi2]at ht;exact⟨trivial,k st' t ht X⟩
 . rintro d rest σ st' ⟨i,t,v3,v4,hi,hrest,rfl,ht,X⟩ next
   obtain⟨hiB,rfl,rfl⟩:=drop_cons hrest;have e1:B.take (i+1)=B.take i++[B.getD i []]:=by rw[Mx.aV hiB];exact List.take_succ_eq_append_getElem hiB
   obtain⟨lq,bq⟩:=hB (B.getD i []) (by rw[Mx.aV hiB];exact List.getElem_mem _);generalize B.getD i []=q at lq bq e1;obtain⟨f',t'⟩:=X.tb;refine⟨trivial,_,rfl,?_⟩;refine⟨_,_,A,q,N,w,f',rfl,dX,rfl,⟨R,lq,bq⟩,t',fun st5 x X5 hS=>?_⟩;refine⟨A,q,N,w,_,rfl,⟨R,lq,bq⟩,hS,?_⟩;obtain⟨s,y,rfl,hs⟩:=hS.Sb
   have fin:∀t2:Bool,(t2=true↔(t=true/\Mx.cE A N w fun c=>q.getD c 0))->(t2=true↔∀q∈B.take (i+1),Mx.cE A N w fun c=>q.getD c 0):=fun t2 h2=>by
    rw[h2,e1,ht];constructor
    . rintro⟨h3,h4⟩ z hz;rcases List.mem_append.mp hz with hz|hz
      . exact h3 z hz
      . rw[List.mem_singleton.mp hz];exact h4
    . exact fun h=>⟨fun z hz=>h z (List.mem_append_left _ hz),h q (List.mem_append_right _ (List.mem_singleton.mpr rfl))⟩
   cases t with
   |true=>
    refine aD rfl rfl (kK rfl rfl ?_);exact next _ _ ⟨i+1,_,_,_,hiB,rfl,rfl,fin _ ⟨fun h=>⟨rfl,hs.mp h⟩,fun h=>hs.mpr h.2⟩,X.trans X5⟩
   |false=>
    exact next _ _ ⟨i+1,false,_,_,hiB,rfl,rfl,fin _ ⟨fun h=>(by cases h),fun h=>(by cases h.1)⟩,X.trans X5⟩
abbrev Jp:cw:=GK Ny
def Ay:List Str:=["_law_script","_law_hand_here","_law_rows_here","_law_others","_law_one","_law_other","_law_there","_law_back","_law_wide","_law_noughts","_law_due"]
def PK:DS:=(aF (a8 1 (aC sS (af (ae 0) ak)))
 (aF (a8 2 (aC ma (af (ae 1) (af (dC (.int 7)) ak))))
 (aF (a8 3 (aC kY (af (ae 1) (af (ae 2) ak))))
 (aF (Ie 4 5 (af (aC lS (af (ae 2) ak)) (af (aC lS (af (ae 3) ak)) ak)))
 (aF (a8 6 (aC fi (af (ae 2) (af (ae 3) ak))))
 (aF (a8 7 (aC fi (af (ae 3) (af (ae 2) ak))))
 (aF (cY (qL (ba (av BX (ae 6) (dC .aE))) (ba (av BX (ae 7) (dC .aE)))) (a_ (dC (.bl false))) cK)
 (aF (cY (ba (av pX (av e9 (av aX (ae 4) (dC (.int 0))) (av aX (ae 5) (dC (.int 0)))) (jz (ae 6) (ae 7)))) (a_ (dC (.bl false))) cK)
 (aF (cY (ba (av nD (aC fi (af (ae 2) (af (av aX (ae 4) (dC (.int 0))) ak))) (dC (.bl true)))) (a_ (dC (.bl false))) cK)
 (aF (cY (l_ (ba (av By (av aX (ae 4) (dC (.int 0))) (ji ak))) (ba (av nD (aC fi (af (av aX (ae 4) (dC (.int 0))) (af (ae 2) ak))) (dC (.bl true))))) (a_ (dC (.bl false))) cK)
 (aF (a8 8 (bY di (af (av aX (ae 2) (dC (.int 0))) ak)))
 (aF (a8 9 (av cZ (ji (af (av cZ (ji (af (dC (.int 0)) ak)) (ae 8)) ak)) (av mK (bY di (af (ae 3) ak)) (bY di (af (av aX (ae 4) (dC (.int 0))) ak)))))
 (aF (a8 10 (jz (av e9 (bY di (af (ae 2) ak)) (bY di (af (ae 3) ak))) (av e9 (aC ow (af (av aX (ae 4) (dC (.int 1))) (af (ae 3) (af (ae 8) ak)))) (av dm (av aX (ae 4) (dC (.int 0))) (ae 9)))))
 (a_ (av e9 (aC kZ (af (ae 3) (af (ae 4) ak))) (ae 10))))))))))))))))
structure Fo(A:List (List Int))(N w:Nat)(F:List (List Int))(m:Nat):Prop where
 wf:Wf F m w
 red:Mx.uq F m (Mx.dy F)
 same:Mx.d8 A N F m w
theorem Hu{A:List (List Int)}{N w top e u:Nat}{c:Mx.B3}{ld:Nat->Nat}(H:Mx.gg A N w c top w ld e u)(hA:Mx.cj N w A)(n8:N<=8)(w8:w<=8)(bA:∀r∈A,∀x∈r,x.natAbs<=2^48):Fo A N w (c.A.take top) top:=by
 have s:Mx.cq (c.A.take top) top w ld:=⟨fun i hi=>by
  obtain⟨h1,h2,h3⟩:=H.lead i hi;exact⟨h1,by rw[gu hi];exact h2,fun c hc=>by rw[gu hi];exact h3 c hc⟩,H.mono⟩
 refine⟨GN H hA n8 w8 bA,fun i j hij hj=>?_,fun k hk=>?_,fun k hk=>?_⟩
 . rw[s.dy hj,gu (Nat.lt_trans hij hj),gu hj];exact H.red i j hij hj
 . obtain⟨z,hz⟩:=H.out k hk;exact⟨z,fun q hq=>(hz q hq).trans (Mx.aQ fun i hi=>by rw[gu hi])⟩
 . exact(H.in k hk).eq fun q _=>gu hk
theorem Fo.one{A B:List (List Int)}{N N' w m m':Nat}{F G:List (List Int)}(f:Fo A N w F m)(g:Fo B N' w G m')(h:Mx.d8 A N B N' w):F=G:=by
 have h1:=(f.same.symm.trans h).trans g.same
 have e:m=m':=Nat.le_antisymm
  (Nat.le_of_not_lt fun l=>Nat.lt_irrefl _ (f.wf.st.same g.wf.st h1.to h1.of m' l).1)
  (Nat.le_of_not_lt fun l=>Nat.lt_irrefl _ (g.wf.st.same f.wf.st h1.of h1.to m l).1)
 subst e;exact f.wf.is.ext g.wf.is fun i j hi hj=>f.wf.st.only g.wf.st h1.to h1.of f.red g.red hi j hj
theorem vo{X:List (List Int)}{n w:Nat}{q:List Int}(hl:X.length=n)(h:q∈X):Mx.cE X n w fun c=>q.getD c 0:=by
 obtain⟨i,hi,rfl⟩:=List.mem_iff_getElem.mp h;refine(Mx.cE.row (k:=i) (by omega)).eq fun c _=>?_;unfold Mx.g;rw[Mx.aV hi]
theorem Dn{X Y:List (List Int)}{n m w:Nat}(hl:X.length=n)(h:∀q∈X,Mx.cE Y m w fun c=>q.getD c 0):∀k,k<n->Mx.cE Y m w (Mx.g X k):=fun k hk=>h _ (by rw[Mx.aV (by omega)];exact List.getElem_mem _)
structure Told(A:List (List Int))(N w:Nat)(top:Nat)(c:Mx.B3):Prop where
 tn:Mx.Tn A c.A c.U c.C N w
 le:top<=N
 zs:∀i q,top<=i->i<N->q<w->Mx.g c.A i q=0
 st:fB [] (-1) (c.A.take top)=true
 sA:∀i q,i<N->(Mx.g c.A i q).natAbs<=2^60000000
 sU:∀i q,i<N->(Mx.g c.U i q).natAbs<=2^60000000
 sC:∀i q,i<N->(Mx.g c.C i q).natAbs<=2^60000000
theorem N_{X:List (List Int)}{N w:Nat}(hX:Mx.cj N w X){r:List Int}(hr:r∈X){x:Int}(hx:x∈r):∃i q,i<N/\x=Mx.g X i q:=by
 obtain⟨i,hi,rfl⟩:=List.mem_iff_getElem.mp hr;refine⟨i,?_⟩;obtain⟨q,e⟩:=Az (X:=X) (i:=i) (x:=x) (by rw[Mx.aV hi];exact hx);exact⟨q,by rw[<-hX.len];exact hi,e⟩
theorem CB{A0:List (List Int)}{N w top e u:Nat}{c:Mx.B3}{ld:Nat->Nat}(S:Mx.gg A0 N w c top w ld e u):∀(m k:Nat) (a:Int),k+m=top->(k<top->a<(ld k:Int))->fB (c.A.take k) a ((c.A.take top).drop k)=true
 |0,k,a,hk,_=>by
  rw[List.drop_eq_nil_of_le (by rw[List.length_take];omega)];rfl
 |m+1,k,a,hk,ha=>by
  have hkt:k<top:=by omega
  have hA:=S.tn.isA;have hl:=hA.len;have hle:=S.le;have hk2:k<c.A.length:=by omega
  obtain⟨_,h2,h3⟩:=S.lead k hkt
  have e1:(c.A.take top).drop k=c.A.getD k []::(c.A.take top).drop (k+1):=by
   rw[Mx.aV hk2,List.drop_eq_getElem_cons (by rw[List.length_take];omega),List.getElem_take]
  have e2:c.A.take (k+1)=c.A.take k++[c.A.getD k []]:=by rw[Mx.aV hk2];exact List.take_succ_eq_append_getElem hk2
  have e3:iX (c.A.getD k [])=some (ld k):=by
   have:=wM (c.A.getD k []) 0 (ld k) h3 (Int.ne_of_gt h2);rw[Nat.zero_add]at this;exact this
  have h4:¬((ld k:Int)<=a\/(c.A.getD k []).getD (ld k) 0<0):=fun h=>h.elim (fun h=>Int.not_le.mpr (ha hkt) h) fun h=>Int.lt_irrefl _ (Int.lt_trans h2 h)
  have h5:((c.A.take k).all fun a=>decide (0<=a.getD (ld k) 0)&&decide (a.getD (ld k) 0<(c.A.getD k []).getD (ld k) 0))=true:=List.all_eq_true.mpr fun r hr=>by
   obtain⟨i,hi,rfl⟩:=List.mem_iff_getElem.mp hr;rw[List.length_take]at hi;have r1:=S.red i k (by omega) hkt;unfold Mx.g at r1;rw[Mx.aV (show i<c.A.length by omega)]at r1;rw[List.getElem_take,decide_eq_true r1.1,decide_eq_true r1.2];rfl
  rw[e1,r8,e3];simp only[if_neg h4,if_pos h5];rw[<-e2];exact CB S m (k+1) _ (by omega) fun h=>Int.ofNat_lt.mpr (S.mono k (k+1) (Nat.lt_succ_self _) h)
theorem Mm{A:List (List Int)}{N w top:Nat}{c:Mx.B3}{ld:Nat->Nat}(hN:N<9)(S:Mx.gg A N w c top w ld (Mx.Ez N 48 top) (Mx.Vz N 48 top)):Told A N w top c:=by
 have hz:=Mx.Ig N hN top (Nat.lt_succ_of_le S.le);have hE:2^Mx.Ez N 48 top<=2^60000000:=Nat.pow_le_pow_right (by decide) (Nat.le_trans hz.1 (by decide));have hV:2^Mx.Vz N 48 top<=2^60000000:=Nat.pow_le_pow_right (by decide) hz.2;refine⟨S.tn,S.le,S.zs,CB S top 0 (-1) (Nat.zero_add _) (fun _=>by omega),fun i q hi=>?_,fun i q hi=>?_,fun i q hi=>?_⟩
 . by_cases h:i<top
   . exact Nat.le_trans (S.hi i q h).1 hV
   . exact Nat.le_trans (S.lo.1 i q (Nat.le_of_not_lt h) hi) hE
 . by_cases h:i<top
   . exact Nat.le_trans (S.hi i q h).2.1 hV
   . exact Nat.le_trans (S.lo.2.1 i q (Nat.le_of_not_lt h) hi) hE
 . by_cases h:i<top
   . exact Nat.le_trans (S.hi i q h).2.2 hV
   . exact Nat.le_trans (S.lo.2.2 i q (Nat.le_of_not_lt h) hi) hE
theorem uW{st:ag}{d:D}{xs:List D}(e:items? st d=some xs):Any st d:=by
 cases d<;>first|(cases e;done)|exact⟨_,rfl⟩|exact⟨_,MO (ui e)⟩
theorem oQ{st:ag}:∀ {xs:List D} {F:List (List Int)},bG st xs F->∀x∈xs,∃r∈F,items? st x=some (aG r)
 | [],[],_,x,hx=>by cases hx
 |y::xs,r::F,h,x,hx=>by
  rcases List.mem_cons.mp hx with rfl|hx
  . exact⟨r,List.mem_cons_self,h.1⟩
  . obtain⟨r',h1,h2⟩:=oQ h.2 x hx;exact⟨r',List.mem_cons_of_mem _ h1,h2⟩
theorem xS{st:ag}:∀ {xs:List D} {F:List (List Int)},bG st xs F->xs.map (intsOf st)=F
 | [],[],_=>rfl
 |_::_,_::_,h=>by rw[List.map_cons,qD h.1,xS h.2]
theorem qV{st:ag}{d:D}{F:List (List Int)}(h:eP st d F)(hl:F.length<=1000)(hw:∀r∈F,r.length<=1000):pM st d:=by
 obtain⟨xs,e,ri⟩:=h.ex;refine⟨uW e,fun ys e'=>?_⟩;rw[e]at e';cases e';refine⟨fun x hx=>?_,bS (by rw[ri.len];exact hl)⟩;obtain⟨r,hr,er⟩:=oQ ri x hx;refine⟨uW er,fun zs ez=>?_⟩;rw[er]at ez;cases ez;refine⟨fun z hz=>?_,bS (by rw[List.length_map];exact hw r hr)⟩;obtain⟨i,_,rfl⟩:=List.mem_map.mp hz;exact⟨_,rfl⟩
theorem u_{st:ag}{d:D}{F:List (List Int)}(h:eP st d F)(hl:F.length<=1000)(hb:∀r∈F,∀x∈r,x.natAbs<=2^60000000):uF st d:=by
 obtain⟨xs,e,ri⟩:=h.ex;refine⟨fun ys e'=>?_,fun ys e' x hx zs ez i hi=>?_⟩
 . rw[e]at e';cases e';rw[ri.len];exact hl
 . rw[e]at e';cases e';obtain⟨r,hr,er⟩:=oQ ri x hx;rw[er]at ez;cases ez;obtain⟨j,hj,ej⟩:=List.mem_map.mp hi;cases ej;exact Nat.le_trans (hb r hr _ hj) (Nat.pow_le_pow_right (by decide) (by decide))
theorem tM{st:ag}{d m:D}{F:List (List Int)}{w:Nat}(h:eP st d F)(hw:∀r∈F,r.length=w)(hm:rK F.length m=true):dR st d m w=true/\rowsOf st d=F:=by
 obtain⟨xs,e,ri⟩:=h.ex;refine⟨?_,by unfold rowsOf;rw[e];exact xS ri⟩;unfold dR;rw[e];show(rK xs.length m&&_)=true;rw[ri.len,hm,Bool.true_and];refine List.all_eq_true.mpr fun x hx=>?_;obtain⟨r,hr,er⟩:=oQ ri x hx;unfold iq;rw[er];show(decide (((aG r).length:Int)=w)&&(aG r).all isInt)=true;rw[List.length_map,hw r hr,decide_eq_true rfl,Bool.true_and];refine List.all_eq_true.mpr fun z hz=>?_;obtain⟨i,_,rfl⟩:=List.mem_map.mp hz;rfl
theorem Rn.small{A:List (List Int)}{N w:Nat}(hA:Mx.cj N w A)(n1:1<=N)(n8:N<=8)(w8:w<=8)(bA:∀r∈A,∀x∈r,x.natAbs<=2^48):Rn A N w:=
 ⟨hA,n1,n8,w8,⟨48,p8 hA bA⟩,fun p t c hp h=>Mx.ib.Fl hA (p8 hA bA) n8 (fun t ht=>(Mx.Ig N (by omega) t (by omega)).2) hp h,fun t c h=>by
  obtain⟨ld,S⟩:=h.Ea hA (p8 hA bA) n8 (Nat.le_refl _);exact⟨ld,_,_,S,(Mx.Ig N (by omega) t (Nat.lt_succ_of_le S.le)).2,GN S hA n8 w8 bA⟩,fun r hr x hx=>Nat.le_trans (bA r hr x hx) (Nat.pow_le_pow_right (by decide) (by decide))⟩
theorem Wf.all{F:List (List Int)}{m w:Nat}(h:Wf F m w):∀r∈F,r.length=w/\∀x∈r,x.natAbs<=2^887:=fun r hr=>by
 obtain⟨i,hi,rfl⟩:=List.mem_iff_getElem.mp hr;have:=h.row (i:=i) (by rw[<-h.is.len];exact hi);rw[Mx.aV hi]at this;exact⟨h.is.fx _ hr,this⟩
theorem Rn.BQ{F:List (List Int)}{m w:Nat}(h:Wf F m w)(rd:Mx.uq F m (Mx.dy F))(m1:1<=m):Rn F m w:=by
 have lo:∀z,887<=z->Mx.gT F m 0 (2^z):=fun z hz=>Mx.Ow h.is fun r hr x hx=>Nat.le_trans ((h.all r hr).2 x hx) (Nat.pow_le_pow_right (by decide) hz);refine⟨h.is,m1,h.m8,h.w8,⟨887,lo _ (Nat.le_refl _)⟩,fun p t c _ hC=>hC.PX h.is h.st rd (lo _ (by decide)),fun t c hC=>?_,fun r hr=>(h.all r hr).2⟩;obtain⟨S,e,et⟩:=hC.Qx h.is h.st rd (lo 887 (Nat.le_refl _));subst et;exact⟨_,_,_,S,by decide,by rw[e];exact h⟩
theorem MF{st:ag}{B F U V:List (List Int)}{N N' w top:Nat}(iF:Mx.cj top w F)(hs:fB [] (-1) F=true)(iU:Mx.cj N N U)(iV:Mx.cj N N V)(hUV:Mx.mulM U V N=Mx.units N):xD st B N' w (.tup [bI F,bI U,bI V])=(decide (N=N')&&decide (Mx.mulM U B w=F++o_ (N'-F.length) w)):=by
 rw[BJ rfl];unfold EA;obtain⟨f1,f2⟩:=tM (st:=st) (m:= .aE) (dX (A:=F)) iF.fx rfl;obtain⟨_,u2⟩:=tM (st:=st) (m:= .aE) (dX (A:=U)) iU.fx rfl;rw[f1,f2,u2,hs,Bool.true_and,Bool.true_and];congr 1;unfold DU JZ;by_cases e:N=N'
 . subst e;obtain⟨t1,_⟩:=tM (st:=st) (m:= .int N) (dX (A:=U)) iU.fx (by rw[iU.len];exact decide_eq_true rfl);obtain⟨v1,v2⟩:=tM (st:=st) (m:= .int N) (dX (A:=V)) iV.fx (by rw[iV.len];exact decide_eq_true rfl);rw[t1,v1,u2,v2,hUV,decide_eq_true rfl,decide_eq_true rfl];rfl
 . have h:dR st (bI U) (.int N') N'=false:=by
    unfold dR;show(decide ((((U.map bL).length:Nat):Int)=(N':Int))&&_)=false;rw[List.length_map,iU.len,decide_eq_false (by omega),Bool.false_and]
   rw[h,decide_eq_false e];rfl
theorem Nj:∀ds st K,Jp ds st K->ds.length=1/\PK {nx:=fun _ st'=>K .aE st',rt:=K} (aU Ay ds) st:=by
 rintro ds st K ⟨ns,rfl,hl,hst,k⟩;refine⟨rfl,?_⟩;have l0:st.length=1:=by rw[hst];rfl
 have t0:st[0]?=some (g7 false):=by rw[hst];rfl
 clear hst;refine⟨ns,rfl,hl,fun st1 B1 X1=>?_⟩;refine⟨_,_,7,rfl,B1,by decide,by decide,by decide,fun N w A st2 n1 n8 w1 w8 hA hb B2 X2=>?_⟩;refine⟨_,_,A,N,w,rfl,B2,by decide,hA,n1,n8,w8,hb,fun B N' st3 hB m1 m8 bB X3=>?_⟩;have l1:=X1.len;have l2:=X2.len;have t1:st1[0]?=some (g7 false):=by rw[X1.same 0 (by omega)];exact t0
 have t2:=(X2.same 0 (by omega) (by omega)).trans t1;have t3:=(X3.same 0 (by omega) (by omega)).trans t2;have bA:∀r∈A,∀x∈r,x.natAbs<=2^48:=fun r hr x hx=>Nat.le_trans (hb r hr x hx) (by decide);clear hb B1 B2 X1 X2 X3 t0 t1 t2 l1 l2;have RA:=Rn.small hA n1 n8 w8 bA;have RB:=Rn.small hB m1 m8 w8 bB;have lA:=hA.len;have lB:=hB.len;refine⟨_,N,w,48,60000000,A,_,rfl,dX,hA,n1,n8,by omega,p8 hA bA,Nat.le_refl _,RA.rm,t3,fun st4 top c hC K4=>?_⟩;obtain⟨f4,t4⟩:=K4.tb;refine⟨_,N',w,48,60000000,B,_,rfl,dX,hB,m1,m8,by omega,p8 hB bB,Nat.le_refl _,RB.rm,t4,fun st5 top' c' hC' K5=>?_⟩;obtain⟨f5,t5⟩:=K5.tb;obtain⟨ld,S⟩:=hC.Ea hA (p8 hA bA) n8 (Nat.le_refl _);obtain⟨ld',S'⟩:=hC'.Ea hB (p8 hB bB) m8 (Nat.le_refl _);have fo:=Hu S hA n8 w8 bA;have fo':=Hu S' hB m8 w8 bB;have T:=Mm (by omega) S;have hs:=T.st;have le:=T.le;clear hC hC' S S' K4 K5 t3 t4;generalize hF:c.A.take top=F at fo hs⊢;generalize c'.A.take top'=G at fo'⊢;refine⟨A,B,N,w,_,rfl,RA,fun q hq=>⟨hB.fx q hq,RB.bA q hq⟩,t5,fun st6 t ht K6=>?_⟩;obtain⟨f6,t6⟩:=K6.tb;refine⟨B,A,N',w,_,rfl,RB,fun q hq=>⟨hA.fx q hq,RA.bA q hq⟩,t6,fun st7 t' ht' K7=>?_⟩;obtain⟨f7,t7⟩:=K7.tb
 have key:decide (F=G)=(t&&t'):=by
  have h:F=G↔t=true/\t'=true:=by
   rw[ht,ht'];constructor
   . rintro rfl;have e:top=top':=fo.wf.is.len.symm.trans fo'.wf.is.len;subst e;have h:=fo.same.trans fo'.same.symm;exact⟨fun q hq=>Mx.cE.trans h.of (vo lB hq),fun q hq=>Mx.cE.trans h.to (vo lA hq)⟩
   . rintro⟨h1,h2⟩;exact fo.one fo' ⟨Dn lA h2,Dn lB h1⟩
  cases t<;>cases t'<;>simp[h]
 have lF:=fo.wf.is.len;generalize hτ:D.tup [bI G,bI c'.U,bI (Mx.mx c'.C N')]=told';generalize hv:D.tup [bI F,bI c.U,bI (Mx.mx c.C N)]=told;have i0:∀s:ag,items? s told=some [bI F,bI c.U,bI (Mx.mx c.C N)]:=fun s=>by rw[<-hv];rfl
 have i1:∀s:ag,items? s told'=some [bI G,bI c'.U,bI (Mx.mx c'.C N')]:=fun s=>by rw[<-hτ];rfl
 clear hτ;dsimp only;refine fY (A:=cY _ _ _) (fun σ st'=>σ=[some (.lst (ns.map .int)),some (.ref st.length),some (bI A),some (bI B),some told,some told',some (.bl t),some (.bl t'),none,none,none]/\st'=st7) (fun nx hnx=>?_) ?_
 . exact xh rfl (xh rfl (hnx _ _ ⟨rfl,rfl⟩))
 rintro _ st7 ⟨rfl,rfl⟩;refine fY (A:=cY _ _ _) (fun σ st'=>σ=[some (.lst (ns.map .int)),some (.ref st.length),some (bI A),some (bI B),some told,some told',some (.bl t),some (.bl t'),none,none,none]/\st'=st7) (fun nx hnx=>?_) ?_
 . refine aD (i0 _) rfl (aD (i1 _) rfl (kK gL gL ?_));rw[p_,key];cases t<;>cases t'<;>exact NO (hnx _ _ ⟨rfl,rfl⟩)
 rintro _ st7 ⟨rfl,rfl⟩;refine fY (A:=cY _ _ _) (fun σ st'=>σ=[some (.lst (ns.map .int)),some (.ref st.length),some (bI A),some (bI B),some told,some told',some (.bl t),some (.bl t'),none,none,none]/\∃f,st'[0]?=some (g7 f)) (fun nx hnx=>?_) ?_
 . refine aD (i0 _) rfl ⟨A,F,N,w,_,rfl,RA,fo.wf.all,t7,fun st8 u hu K8=>?_⟩;have:u=true:=hu.mpr fun q hq=>Mx.cE.trans fo.same.of (vo lF hq);subst this;exact JR rfl (hnx _ _ ⟨rfl,K8.tb⟩)
 rintro _ st8 ⟨rfl,f8,t8⟩;refine fY (A:=cY _ _ _) (fun σ st'=>σ=[some (.lst (ns.map .int)),some (.ref st.length),some (bI A),some (bI B),some told,some told',some (.bl t),some (.bl t'),none,none,none]) (fun nx hnx=>?_) ?_
 . refine aD (i0 _) rfl ⟨Nat.zero_le _,O7 gL (gL (A:=[])) ?_⟩;have e0:c9 (bI F) (.tup [])=decide (F=[]):=p_ F [];rw[e0];by_cases h:F=[]
   . rw[decide_eq_true h];exact hnx _ _ rfl
   . rw[decide_eq_false h]
     have m1':1<=top:=by
      rw[<-lF];exact List.length_pos_iff.mpr h
     refine aD (i0 _) rfl ⟨F,A,top,w,_,rfl,Rn.BQ fo.wf fo.red m1',fun q hq=>⟨hA.fx q hq,RA.bA q hq⟩,t8,fun st9 u hu K9=>?_⟩;have:u=true:=hu.mpr fun q hq=>Mx.cE.trans fo.same.to (vo lA hq);subst this;exact JR rfl (hnx _ _ rfl)
 rintro _ st9 rfl;refine aD rfl (show e8 (A.map bL) 0=some (bL (A.getD 0 []))from ve (k:=0) (by omega)) (cN rfl ?_);rw[List.length_map,hA.row (i:=0) n1];refine Ct (Nat.le_of_ble_eq_true rfl) (vi ⟨by omega,by omega,bS (by simp;omega)⟩ ?_);rw[Int.toNat_natCast];refine Ct (Nat.le_of_ble_eq_true rfl) (cN rfl (aD (i0 _) rfl (cN rfl (my ?_))));rw[List.length_map,List.length_map,lB];refine vi ⟨by omega,by omega,bS (by simp;omega)⟩ ?_;rw[DJ,show((N':Int)-(F.length:Int)).toNat=N'-F.length by omega];have tn:=T.tn;have iV:Mx.cj N N (Mx.mx c.C N):=Mx.MV tn.gp
 have hUV:Mx.mulM c.U (Mx.mx c.C N) N=Mx.units N:=(Mx.KH tn.eB iV).ext (Mx.jE N) fun i j hi hj=>by
  rw[Mx.KD tn.eB iV hi,Mx.jM hi hj,<-tn.ub i j hi hj];exact Mx.aQ fun k hk=>by rw[Mx.Hq tn.gp hj hk]
 have bU:∀r∈c.U,∀x∈r,x.natAbs<=2^60000000:=fun r hr x hx=>by
  obtain⟨i,q,hi,rfl⟩:=N_ tn.eB hr hx;exact T.sU i q hi
 have bV:∀r∈Mx.mx c.C N,∀x∈r,x.natAbs<=2^60000000:=fun r hr x hx=>by
  obtain⟨i,hi,rfl⟩:=List.mem_iff_getElem.mp hr;obtain⟨q,hq,rfl⟩:=List.mem_iff_getElem.mp hx;have li:i<N:=by rw[<-iV.len];exact hi
  have lq:q<N:=by rw[<-Mx.c5 iV li,Mx.aV hi];exact hq
  have e:((Mx.mx c.C N)[i])[q]=Mx.g (Mx.mx c.C N) i q:=by unfold Mx.g;rw[Mx.aV hi,Mx.aV hq]
  rw[e,Mx.Hq tn.gp lq li];exact T.sC q i lq
 have thing:∀s,Hm s told:=fun s=>⟨uW (i0 s),fun xs ex=>by
  rw[i0 s]at ex;cases ex;intro x hx;simp only[List.mem_cons,List.not_mem_nil,or_false]at hx;have m8:=fo.wf.m8;rcases hx with rfl|rfl|rfl
  . exact⟨qV dX (by omega) (fun r hr=>by rw[fo.wf.is.fx r hr];omega),u_ dX (by omega) fun r hr x hx=>Nat.le_trans ((fo.wf.all r hr).2 x hx) (Nat.pow_le_pow_right (by decide) (by decide))⟩
  . exact⟨qV dX (by rw[tn.eB.len];omega) (fun r hr=>by rw[tn.eB.fx r hr];omega),u_ dX (by rw[tn.eB.len];omega) bU⟩
  . exact⟨qV dX (by rw[iV.len];omega) (fun r hr=>by rw[iV.fx r hr];omega),u_ dX (by rw[iV.len];omega) bV⟩⟩
 have hdue:∀s,xD s B N' w told=(decide (N=N')&&decide (Mx.mulM c.U B w=F++o_ (N'-F.length) w)):=fun s=>by
  rw[<-hv];exact MF fo.wf.is hs tn.eB iV hUV
 refine cN rfl (cN rfl ?_);rw[List.length_map,List.length_map,lA,lB];refine eq2 (fun h=>?_) fun h=>?_
 . have h':N=N':=by omega
   refine aD (i0 _) rfl ⟨_,_,w,c.U,B,rfl,dX,dX,hB.fx,by omega,by rw[tn.eB.len];omega,fun r hr x hx q hq y hy=>dD (bU r hr x hx) (bB q hq y hy) (by decide),?_⟩;refine aD (i0 _) rfl (rV (bS (by rw[List.length_map,List.length_map,List.length_replicate];omega)) ?_);rw[<-List.map_append];refine kK gL gL ?_;rw[p_];refine⟨_,told,B,N',w,rfl,dX,hB,m1,m8,by omega,bB,thing _,kK rfl rfl ?_⟩;rw[hdue,decide_eq_true h',Bool.true_and];unfold o_;rw[pq 40 _ rfl];exact k _
 . refine⟨_,told,B,N',w,rfl,dX,hB,m1,m8,by omega,bB,thing _,kK rfl rfl ?_⟩;rw[hdue,decide_eq_false (by omega),Bool.false_and,pq 40 _ rfl];exact k _
end Prog
namespace Row
open PySem L2 L3 Prog
open PySem.Spec hiding items?
open PyProof.Rows hiding St
theorem M_:(("int":Str))≠"__name__":=by decide+kernel
theorem oj:(("isinstance":Str))≠"__name__":=by decide+kernel
theorem Lf:(("bool":Str))≠"__name__":=by decide+kernel
theorem dg:(("tuple":Str))≠"__name__":=by decide+kernel
theorem k9:(("list":Str))≠"__name__":=by decide+kernel
theorem cO:(("len":Str))≠"__name__":=by decide+kernel
theorem uI:(("all":Str))≠"__name__":=by decide+kernel
theorem uE:(("abs":Str))≠"__name__":=by decide+kernel
structure Bl(mg:Str->Option Value):Prop where
 QH:mg "int"=none
 pQ:mg "isinstance"=none
 Nx:mg "bool"=none
 dN:mg "tuple"=none
 nK:mg "list"=none
 c8:mg "len"=none
 xp:mg "all"=none
 qG:mg "zip"=none
 jb:mg "range"=none
 vP:mg "enumerate"=none
 x5:mg "abs"=none
 HU:mg "sorted"=none
structure Kl(K:PySem.W.Frag)(mg:Str->Option Value):Prop where
 bg:ClsAt K mg "Bench" aK
 cM:gJ K aK "body"
 eS:gJ K aK "turn"
 cR:gJ K aK "back_columns"
theorem eR:VS (ai ja) nB ["int","isinstance","bool"]:=⟨by decide+kernel⟩
theorem A6:aO nB ["thing"] (ai ja):=⟨rfl,rfl,rfl,by decide+kernel,rfl,by decide+kernel,by decide+kernel⟩
theorem gS:VS (ai i7) nq ["tuple","list","isinstance"]:=⟨by decide+kernel⟩
theorem CA:aO nq ["thing"] (ai i7):=⟨rfl,rfl,rfl,by decide+kernel,rfl,by decide+kernel,by decide+kernel⟩
theorem fg:VS (ai fZ) j4 ["is_listed","len"]:=⟨by decide+kernel⟩
theorem xq:aO j4 ["thing","many"] (ai fZ):=⟨rfl,rfl,rfl,by decide+kernel,rfl,by decide+kernel,by decide+kernel⟩
theorem fN:VS (ai fL) kC ["is_listed_of","all"]:=⟨by decide+kernel⟩
theorem zt:aO kC ["thing","many"] (ai fL):=⟨rfl,rfl,rfl,by decide+kernel,rfl,by decide+kernel,by decide+kernel⟩
theorem uU:VS (ai jP) qH ["tuple"]:=⟨by decide+kernel⟩
theorem E8:aO qH ["rows"] (ai jP):=⟨rfl,rfl,rfl,by decide+kernel,rfl,by decide+kernel,by decide+kernel⟩
theorem yY:VS (ai mS) vw ["zip"]:=⟨by decide+kernel⟩
theorem Iv:aO vw ["row","times","other"] (ai mS):=⟨rfl,rfl,rfl,by decide+kernel,rfl,by decide+kernel,by decide+kernel⟩
theorem eZ:VS (ai mJ) sj ["zip","added","tuple"]:=⟨by decide+kernel⟩
theorem qg:aO sj ["weights","rows","wide"] (ai mJ):=⟨rfl,rfl,rfl,by decide+kernel,rfl,by decide+kernel,by decide+kernel⟩
theorem jB:VS (ai jR) qd ["len","tuple"]:=⟨by decide+kernel⟩
theorem xT:aO qd ["one","other"] (ai jR):=⟨rfl,rfl,rfl,by decide+kernel,rfl,by decide+kernel,by decide+kernel⟩
theorem wK:VS (ai kT) sW ["tuple"]:=⟨by decide+kernel⟩
theorem Gd:aO sW ["rows","place"] (ai kT):=⟨rfl,rfl,rfl,by decide+kernel,rfl,by decide+kernel,by decide+kernel⟩
theorem kH:VS (ai fM) kL ["range","tuple"]:=⟨by decide+kernel⟩
theorem y_:aO kL ["rows","wide"] (ai fM):=⟨rfl,rfl,rfl,by decide+kernel,rfl,by decide+kernel,by decide+kernel⟩
theorem oH:VS (ai iM) oC ["range","tuple"]:=⟨by decide+kernel⟩
theorem CU:aO oC ["n","place"] (ai iM):=⟨rfl,rfl,rfl,by decide+kernel,rfl,by decide+kernel,by decide+kernel⟩
theorem ni:VS (ai gO) nA ["range","tuple"]:=⟨by decide+kernel⟩
theorem A4:aO nA ["n"] (ai gO):=⟨rfl,rfl,rfl,by decide+kernel,rfl,by decide+kernel,by decide+kernel⟩
theorem tU:VS (ai gv) kJ []:=⟨by decide+kernel⟩
theorem yM:aO kJ ["many","wide"] (ai gv):=⟨rfl,rfl,rfl,by decide+kernel,rfl,by decide+kernel,by decide+kernel⟩
theorem fD:VS (ai jS) nX ["is_listed","len","all"]:=⟨by decide+kernel⟩
theorem ET:aO nX ["thing","many","wide"] (ai jS):=⟨rfl,rfl,rfl,by decide+kernel,rfl,by decide+kernel,by decide+kernel⟩
theorem bQ:VS (ai j5) oX ["is_listed","len","is_rows","product","unit_rows"]:=⟨by decide+kernel⟩
theorem vW:aO oX ["turn","back"] (ai j5):=⟨rfl,rfl,rfl,by decide+kernel,rfl,by decide+kernel,by decide+kernel⟩
theorem e7:VS (ai ia) mr ["is_rows","are_back"]:=⟨by decide+kernel⟩
theorem Ad:aO mr ["turn","back","many"] (ai ia):=⟨rfl,rfl,rfl,by decide+kernel,rfl,by decide+kernel,by decide+kernel⟩
theorem qj:VS (ai lu) qz ["enumerate"]:=⟨by decide+kernel⟩
theorem xM:aO qz ["row"] (ai lu):=⟨rfl,rfl,rfl,by decide+kernel,rfl,by decide+kernel,by decide+kernel⟩
theorem cf:VS (ai fK) kB ["enumerate","lead_of","all"]:=⟨by decide+kernel⟩
theorem hO:aO kB ["rows"] (ai fK):=⟨rfl,rfl,rfl,by decide+kernel,rfl,by decide+kernel,by decide+kernel⟩
theorem jG:VS (ai eL) gG []:=⟨by decide+kernel⟩
theorem jq:aO gG ["top","bottom"] (ai eL):=⟨rfl,rfl,rfl,by decide+kernel,rfl,by decide+kernel,by decide+kernel⟩
theorem dE:VS (ai je) nF ["list"]:=⟨by decide+kernel⟩
theorem u5:aO nF ["rows","k","other"] (ai je):=⟨rfl,rfl,rfl,by decide+kernel,rfl,by decide+kernel,by decide+kernel⟩
theorem FJ:VS (ai jT) qu []:=⟨by decide+kernel⟩
theorem Fi:aO qu ["row"] (ai jT):=⟨rfl,rfl,rfl,by decide+kernel,rfl,by decide+kernel,by decide+kernel⟩
theorem ck:VS (ai dv) iQ ["len","unit_rows"]:=⟨by decide+kernel⟩
theorem vN:aO iQ ["self","rows"] (ai dv):=⟨rfl,rfl,rfl,by decide+kernel,rfl,by decide+kernel,by decide+kernel⟩
theorem bc:VS (ai iu) mz ["added"]:=⟨by decide+kernel⟩
theorem Am:aO mz ["self","k","times","other"] (ai iu):=⟨rfl,rfl,rfl,by decide+kernel,rfl,by decide+kernel,by decide+kernel⟩
theorem bE:VS (ai fj) iR ["exchanged"]:=⟨by decide+kernel⟩
theorem vH:aO iR ["self","k","other"] (ai fj):=⟨rfl,rfl,rfl,by decide+kernel,rfl,by decide+kernel,by decide+kernel⟩
theorem a6:VS (ai eg) gn ["negated"]:=⟨by decide+kernel⟩
theorem sD:aO gn ["self","k"] (ai eg):=⟨rfl,rfl,rfl,by decide+kernel,rfl,by decide+kernel,by decide+kernel⟩
theorem dF:VS (ai dG) gX ["len","range","sorted"]:=⟨by decide+kernel⟩
theorem n_:aO gX ["self","top","place"] (ai dG):=⟨rfl,rfl,rfl,by decide+kernel,rfl,by decide+kernel,by decide+kernel⟩
theorem aI:VS (ai gb) kb ["len","nearest_quotient"]:=⟨by decide+kernel⟩
theorem gD:aO kb ["self","top","place"] (ai gb):=⟨rfl,rfl,rfl,by decide+kernel,rfl,by decide+kernel,by decide+kernel⟩
theorem cA:VS (ai eh) gm ["range"]:=⟨by decide+kernel⟩
theorem fV:aO gm ["self","top","place"] (ai eh):=⟨rfl,rfl,rfl,by decide+kernel,rfl,by decide+kernel,by decide+kernel⟩
theorem bz:VS (ai jW) oJ ["Bench","len","range","turned_over","as_rows"]:=⟨by decide+kernel⟩
theorem i6:aO oJ ["rows"] (ai jW):=⟨rfl,rfl,rfl,by decide+kernel,rfl,by decide+kernel,by decide+kernel⟩
theorem aB:VS (ai fh) iL ["len","is_listed_of","is_rows","is_standing","is_turn_of","product","as_rows","nought_rows"]:=⟨by decide+kernel⟩
theorem fP:aO iL ["rows","told"] (ai fh):=⟨rfl,rfl,rfl,by decide+kernel,rfl,by decide+kernel,by decide+kernel⟩
theorem bO:VS (ai lJ) qy ["list","lead_of","added","tuple"]:=⟨by decide+kernel⟩
theorem iE:aO qy ["form","row"] (ai lJ):=⟨rfl,rfl,rfl,by decide+kernel,rfl,by decide+kernel,by decide+kernel⟩
theorem dS:VS (ai mX) sQ ["abs"]:=⟨by decide+kernel⟩
theorem lE:aO sQ ["one","other"] (ai mX):=⟨rfl,rfl,rfl,by decide+kernel,rfl,by decide+kernel,by decide+kernel⟩
theorem iY:VS (ai rW) xi ["common"]:=⟨by decide+kernel⟩
theorem mM:aO xi ["top","bottom"] (ai rW):=⟨rfl,rfl,rfl,by decide+kernel,rfl,by decide+kernel,by decide+kernel⟩
theorem nH:VS (ai rO) xV ["part"]:=⟨by decide+kernel⟩
theorem LB:aO xV ["one","other"] (ai rO):=⟨rfl,rfl,rfl,by decide+kernel,rfl,by decide+kernel,by decide+kernel⟩
theorem lI:VS (ai pk) vm ["part"]:=⟨by decide+kernel⟩
theorem HH:aO vm ["one","other"] (ai pk):=⟨rfl,rfl,rfl,by decide+kernel,rfl,by decide+kernel,by decide+kernel⟩
theorem ph:VS (ai pe) vB ["part"]:=⟨by decide+kernel⟩
theorem IE:aO vB ["one","other"] (ai pe):=⟨rfl,rfl,rfl,by decide+kernel,rfl,by decide+kernel,by decide+kernel⟩
theorem rS:VS (ai r_) x4 ["part"]:=⟨by decide+kernel⟩
theorem Ln:aO x4 ["one","other"] (ai r_):=⟨rfl,rfl,rfl,by decide+kernel,rfl,by decide+kernel,by decide+kernel⟩
theorem Kx:VS (ai o7) vp []:=⟨by decide+kernel⟩
theorem IS:aO vp ["n"] (ai o7):=⟨rfl,rfl,rfl,by decide+kernel,rfl,by decide+kernel,by decide+kernel⟩
theorem ix:VS (ai lQ) qm ["are_numbers","common"]:=⟨by decide+kernel⟩
theorem Fp:aO qm ["thing"] (ai lQ):=⟨rfl,rfl,rfl,by decide+kernel,rfl,by decide+kernel,by decide+kernel⟩
theorem cU:VS (ai i8) nc ["whole","zip","times","plus"]:=⟨by decide+kernel⟩
theorem mv:aO nc ["parts","row"] (ai i8):=⟨rfl,rfl,rfl,by decide+kernel,rfl,by decide+kernel,by decide+kernel⟩
theorem eA:VS (ai i_) ny ["lead_of","abs"]:=⟨by decide+kernel⟩
theorem u4:aO ny ["form","rest","place"] (ai i_):=⟨rfl,rfl,rfl,by decide+kernel,rfl,by decide+kernel,by decide+kernel⟩
theorem ax:VS (ai fF) js ["lead_of","whole","len","bottom_at","part","range","parts_dot","minus","over","tuple"]:=⟨by decide+kernel⟩
theorem ff:aO js ["form","rest"] (ai fF):=⟨rfl,rfl,rfl,by decide+kernel,rfl,by decide+kernel,by decide+kernel⟩
theorem cv:VS (ai mQ) tG ["standing","weighed","lead_of","parts_against","len","sum_by"]:=⟨by decide+kernel⟩
theorem ql:aO tG ["rows","row"] (ai mQ):=⟨rfl,rfl,rfl,by decide+kernel,rfl,by decide+kernel,by decide+kernel⟩
theorem gR:VS (ai gQ) nE ["is_listed_of","all"]:=⟨by decide+kernel⟩
theorem B8:aO nE ["thing","many"] (ai gQ):=⟨rfl,rfl,rfl,by decide+kernel,rfl,by decide+kernel,by decide+kernel⟩
theorem EB:VS (ai j6) oP []:=⟨by decide+kernel⟩
theorem C3:aO oP ["one"] (ai j6):=⟨rfl,rfl,rfl,by decide+kernel,rfl,by decide+kernel,by decide+kernel⟩
theorem cX:VS (ai gj) mi ["len","are_parts","parts_dot","is_whole","all"]:=⟨by decide+kernel⟩
theorem As:aO mi ["rows","row","parts"] (ai gj):=⟨rfl,rfl,rfl,by decide+kernel,rfl,by decide+kernel,by decide+kernel⟩
theorem cm:VS (ai f_) jZ ["len","are_numbers","sum_by","tuple"]:=⟨by decide+kernel⟩
theorem ym:aO jZ ["rows","row","weights"] (ai f_):=⟨rfl,rfl,rfl,by decide+kernel,rfl,by decide+kernel,by decide+kernel⟩
theorem cF:VS (ai f9) ka ["is_listed_of","weights_show","parts_show"]:=⟨by decide+kernel⟩
theorem yi:aO ka ["rows","row","told"] (ai f9):=⟨rfl,rfl,rfl,by decide+kernel,rfl,by decide+kernel,by decide+kernel⟩
theorem Ew:VS (ai iG) oR []:=⟨by decide+kernel⟩
theorem CS:aO oR ["_law_script"] (ai iG):=⟨rfl,rfl,rfl,by decide+kernel,rfl,by decide+kernel,by decide+kernel⟩
theorem aS:VS (ai j7) oB ["len"]:=⟨by decide+kernel⟩
theorem gK:aO oB ["_law_hand_here","_law_many"] (ai j7):=⟨rfl,rfl,rfl,by decide+kernel,rfl,by decide+kernel,by decide+kernel⟩
theorem cC:VS (ai h_) mE ["_law_draw"]:=⟨by decide+kernel⟩
theorem tV:aO mE ["_law_hand_here","_law_kind"] (ai h_):=⟨rfl,rfl,rfl,by decide+kernel,rfl,by decide+kernel,by decide+kernel⟩
theorem aW:VS (ai fS) oF ["range","_law_draw","list","zip","tuple"]:=⟨by decide+kernel⟩
theorem fv:aO oF ["_law_hand_here","_law_many","_law_wide","_law_kind"] (ai fS):=⟨rfl,rfl,rfl,by decide+kernel,rfl,by decide+kernel,by decide+kernel⟩
theorem dc:VS (ai i4) nu ["_law_draw"]:=⟨by decide+kernel⟩
theorem CL:aO nu ["_law_hand_here"] (ai i4):=⟨rfl,rfl,rfl,by decide+kernel,rfl,by decide+kernel,by decide+kernel⟩
theorem cW:VS (ai fG) ju ["_law_sizes","_law_draw","_law_rows"]:=⟨by decide+kernel⟩
theorem pE:aO ju ["_law_hand_here","_law_kinds"] (ai fG):=⟨rfl,rfl,rfl,by decide+kernel,rfl,by decide+kernel,by decide+kernel⟩
theorem au:VS (ai df) j8 ["_law_draw","range","len","zip","tuple"]:=⟨by decide+kernel⟩
theorem eU:aO j8 ["_law_hand_here","_law_rows_here"] (ai df):=⟨rfl,rfl,rfl,by decide+kernel,rfl,by decide+kernel,by decide+kernel⟩
theorem fJ:VS (ai kP) sV ["zip","tuple"]:=⟨by decide+kernel⟩
theorem qA:aO sV ["_law_weights","_law_rows_here","_law_wide"] (ai kP):=⟨rfl,rfl,rfl,by decide+kernel,rfl,by decide+kernel,by decide+kernel⟩
theorem oo:VS (ai fI) kG ["tuple"]:=⟨by decide+kernel⟩
theorem y9:aO kG ["_law_one","_law_other","_law_wide"] (ai fI):=⟨rfl,rfl,rfl,by decide+kernel,rfl,by decide+kernel,by decide+kernel⟩
theorem ay:VS (ai eG) iK ["_law_draw","len","_law_mixed_up","tuple","_law_rows"]:=⟨by decide+kernel⟩
theorem fR:aO iK ["_law_hand_here","_law_rows_here"] (ai eG):=⟨rfl,rfl,rfl,by decide+kernel,rfl,by decide+kernel,by decide+kernel⟩
theorem bN:VS (ai fe) iN ["inside","shows_inside"]:=⟨by decide+kernel⟩
theorem fO:aO iN ["_law_rows_here","_law_others"] (ai fe):=⟨rfl,rfl,rfl,by decide+kernel,rfl,by decide+kernel,by decide+kernel⟩
theorem aY:VS (ai nz) Ay ["_law_hand","_law_some_rows","_law_other_rows","standing","_law_all_inside","len","_law_product","shows_standing"]:=⟨by decide+kernel⟩
theorem kn:aO Ay ["_law_script"] (ai nz):=⟨rfl,rfl,rfl,by decide+kernel,rfl,by decide+kernel,by decide+kernel⟩
structure Ev(w:World)(mg:Str->Option Value)(h:Heap):Prop where
 X:(KX w.params).In h
 G:h.Ns mainGlobals mg
section
variable {w:World}{mg:Str->Option Value}{h base:Heap}(e:Ev w mg h)
include e
theorem Bt:Bl mg:=⟨PySem.W.mg_none_of e.X e.G (by kernel_rfl),PySem.W.mg_none_of e.X e.G (by kernel_rfl),PySem.W.mg_none_of e.X e.G (by kernel_rfl),PySem.W.mg_none_of e.X e.G (by kernel_rfl),PySem.W.mg_none_of e.X e.G (by kernel_rfl),PySem.W.mg_none_of e.X e.G (by kernel_rfl),PySem.W.mg_none_of e.X e.G (by kernel_rfl),PySem.W.mg_none_of e.X e.G (by kernel_rfl),PySem.W.mg_none_of e.X e.G (by kernel_rfl),PySem.W.mg_none_of e.X e.G (by kernel_rfl),PySem.W.mg_none_of e.X e.G (by kernel_rfl),PySem.W.mg_none_of e.X e.G (by kernel_rfl)⟩
theorem Qt:Kl (KX w.params) mg:=⟨⟨⟨by kernel_rfl,by kernel_rfl,by kernel_rfl,by kernel_rfl⟩,PySem.W.mg_of e.X e.G (by kernel_rfl),by kernel_rfl,by kernel_rfl⟩,Hd.na (by kernel_rfl),Hd.na (by kernel_rfl),Hd.na (by kernel_rfl)⟩
theorem v8:bD (KX w.params) mg "is_number" "is_number" ja ["thing"] 21 (Hd.fd ja "is_number" "is_number" tT 20):=Hd.qi e.X e.G (by kernel_rfl) fun _ _ _ _ _ _ _=>rfl
theorem C2:bh PW w (KX w.params) mg base cz 1 21 (Hd.fd ja "is_number" "is_number" tT 20) ["thing"] (cG qO):=by
 have B:=Bt e;have Q:=Qt e;exact bH (N:=nB) (v8 e).fn A6 (fun cdv A outer s H E hr=>(az (aL (kI (cV Fe (aa (eR.nm 0) (aa (Fh B.QH rfl M_ (eR.d 0) (eR.g 0)) aj)) B.pQ rfl oj (eR.d 1) (eR.g 1)) (kD (Qb (cV Fe (aa (eR.nm 0) (aa (Fh B.Nx rfl Lf (eR.d 2) (eR.g 2)) aj)) B.pQ rfl oj (eR.d 1) (eR.g 1)))))))) CJ
theorem nv:bD (KX w.params) mg "is_listed" "is_listed" i7 ["thing"] 28 (Hd.fd i7 "is_listed" "is_listed" tT 27):=Hd.qi e.X e.G (by kernel_rfl) fun _ _ _ _ _ _ _=>rfl
theorem qK:bh PW w (KX w.params) mg base cz 1 28 (Hd.fd i7 "is_listed" "is_listed" tT 27) ["thing"] (cG km):=by
 have B:=Bt e;have Q:=Qt e;exact bH (N:=nq) (nv e).fn CA (fun cdv A outer s H E hr=>(az (aL (cV Fe (aa (gS.nm 0) (aa (gY (aa (Fh B.nK rfl k9 (gS.d 1) (gS.g 1)) (aa (Fh B.dN rfl dg (gS.d 0) (gS.g 0)) aj))) aj)) B.pQ rfl oj (gS.d 2) (gS.g 2))))) Br
theorem hJ:bD (KX w.params) mg "is_listed_of" "is_listed_of" fZ ["thing","many"] 35 (Hd.fd fZ "is_listed_of" "is_listed_of" tT 34):=Hd.h9 e.X e.G (by kernel_rfl) fun _ _ _ _ _ _ _ _=>rfl
theorem j9:bh PW w (KX w.params) mg base cz 2 35 (Hd.fd fZ "is_listed_of" "is_listed_of" tT 34) ["thing","many"] (cG fX):=by
 have B:=Bt e;have Q:=Qt e;exact bH (N:=j4) (hJ e).fn xq (fun cdv A outer s H E hr=>(az (aL (kI (aN (nv e) (qK e) (hr.mono (by decide)) (aa (fg.nm 0) aj) (fg.d 0) (fg.g 0)) (kD (jt (eQ hr) (aZ _) (cV c6 (aa (fg.nm 0) aj) B.c8 rfl cO (fg.d 1) (fg.g 1)) (fg.nm 1))))))) xB
theorem kF:bD (KX w.params) mg "are_numbers" "are_numbers" fL ["thing","many"] 40 (Hd.fd fL "are_numbers" "are_numbers" tT 39):=Hd.h9 e.X e.G (by kernel_rfl) fun _ _ _ _ _ _ _ _=>rfl
theorem ot:bh PW w (KX w.params) mg base cz 3 40 (Hd.fd fL "are_numbers" "are_numbers" tT 39) ["thing","many"] (cG gw):=by
 have B:=Bt e;have Q:=Qt e;exact bH (N:=kC) (kF e).fn zt (fun cdv A outer s H E hr=>(az (aL (kI (aN (hJ e) (j9 e) (hr.mono (by decide)) (aa (fN.nm 0) (aa (fN.nm 1) aj)) (fN.d 0) (fN.g 0)) (kD (cV (xy rfl) (aa (eN (Nc:=["each"]) (bK.look (ai fL) ["thing","many"] (by decide+kernel)) (e_ (fN.nm 0)) (fun _ _ _ _=>(eC (show(["each"]:List Str).Nodup by decide+kernel) (by first|exact Or.inl rfl|exact Or.inr rfl) (by first|exact .inl rfl|exact .inr rfl))) (fun _ _ _ _=>cQ) (fun _ _ _ _=>(aN (v8 e) (C2 e) (hr.mono (by decide)) (aa c_ aj) (by decide+kernel) rfl)) cS) aj) B.xp rfl uI (fN.d 1) (fN.g 1))))))) yT
theorem qo:bD (KX w.params) mg "as_rows" "as_rows" jP ["rows"] 45 (Hd.fd jP "as_rows" "as_rows" fm 44):=Hd.qi e.X e.G (by kernel_rfl) fun _ _ _ _ _ _ _=>rfl
theorem u3:bh PW w (KX w.params) mg base cz 1 45 (Hd.fd jP "as_rows" "as_rows" fm 44) ["rows"] (cG nP):=by
 have B:=Bt e;have Q:=Qt e;exact bH (N:=qH) (qo e).fn E8 (fun cdv A outer s H E hr=>(az (aL (fA dZ (aa (eN (Nc:=["row"]) (bK.look (ai jP) ["rows"] (by decide+kernel)) (e_ (uU.nm 0)) (fun _ _ _ _=>(eC (show(["row"]:List Str).Nodup by decide+kernel) (by first|exact Or.inl rfl|exact Or.inr rfl) (by first|exact .inl rfl|exact .inr rfl))) (fun _ _ _ _=>cQ) (fun _ _ _ _=>(fA dZ (aa c_ aj) B.dN rfl dg (by decide+kernel) rfl)) cS) aj) B.dN rfl dg (uU.d 0) (uU.g 0))))) EU
theorem o6:bD (KX w.params) mg "added" "added" mS ["row","times","other"] 50 (Hd.fd mS "added" "added" fm 49):=Hd.uw e.X e.G (by kernel_rfl) fun _ _ _ _ _ _ _ _ _=>rfl
theorem rD:bh PW w (KX w.params) mg base cz 1 50 (Hd.fd mS "added" "added" fm 49) ["row","times","other"] (cG mT):=by
 have B:=Bt e;have Q:=Qt e;exact bH (N:=vw) (o6 e).fn Iv (fun cdv A outer s H E hr=>(az (aL (eN (Nc:=["one","two","times"]) (bK.look (ai mS) ["row","times","other"] (by decide+kernel)) (qf (yY.g 0) B.qG (aa (yY.nm 0) (aa (yY.nm 2) aj))) (fun _ _ _ _=>(l7 rfl (show(["one","two","times"]:List Str).Nodup by decide+kernel) (by first|exact Or.inl rfl|exact Or.inr rfl) (by first|exact .inl rfl|exact .inr rfl) (by first|exact Or.inl rfl|exact Or.inr rfl) (by first|exact .inl rfl|exact .inr rfl))) (fun _ _ _ _=>cQ) (fun _ _ _ _=>(a5 dP c_ (a5 dh c_ c_))) rh)))) HB
theorem tj:bD (KX w.params) mg "sum_by" "sum_by" mJ ["weights","rows","wide"] 57 (Hd.fd mJ "sum_by" "sum_by" fm 56):=Hd.uw e.X e.G (by kernel_rfl) fun _ _ _ _ _ _ _ _ _=>rfl
theorem wm:bh PW w (KX w.params) mg base cz 2 57 (Hd.fd mJ "sum_by" "sum_by" fm 56) ["weights","rows","wide"] (cG pP):=by
 have B:=Bt e;have Q:=Qt e
 exact bH (N:=sj) (tj e).fn qg (fun cdv A outer s H E hr=>(aq (aR qg.nd (eZ.l 3) (a5 dh (tw (aa ao aj)) (eZ.nm 2)))
  (aq (ij (qf (eZ.g 0) B.qG (aa (eZ.nm 0) (aa (eZ.nm 1) aj))) (l7 rfl qg.nd (by first|exact Or.inl rfl|exact Or.inr rfl) (by first|exact .inl rfl|exact .inr rfl) (by first|exact Or.inl rfl|exact Or.inr rfl) (by first|exact .inl rfl|exact .inr rfl)) (az (aR qg.nd (eZ.l 3) (aN (o6 e) (rD e) (hr.mono (by decide)) (aa (eZ.nm 3) (aa (eZ.nm 4) (aa (eZ.nm 5) aj))) (eZ.d 1) (eZ.g 1)))))
  (az (aL (fA dZ (aa (eZ.nm 3) aj) B.dN rfl dg (eZ.d 2) (eZ.g 2))))))) GW
theorem u7:bD (KX w.params) mg "product" "product" jR ["one","other"] 62 (Hd.fd jR "product" "product" fm 61):=Hd.h9 e.X e.G (by kernel_rfl) fun _ _ _ _ _ _ _ _=>rfl
theorem zY:bh PW w (KX w.params) mg base cz 3 62 (Hd.fd jR "product" "product" fm 61) ["one","other"] (cG qB):=by
 have B:=Bt e;have Q:=Qt e
 exact bH (N:=qd) (u7 e).fn xT (fun cdv A outer s H E hr=>(aq (aR xT.nd (jB.l 2) (cV c6 (aa (aM (jB.nm 1) ao) aj) B.c8 rfl cO (jB.d 0) (jB.g 0)))
  (az (aL (fA dZ (aa (eN (Nc:=["weights","other","wide"]) (bK.look (ai jR) ["one","other","wide"] (by decide+kernel)) (e_ (jB.nm 0)) (fun _ _ _ _=>(eC (show(["weights","other","wide"]:List Str).Nodup by decide+kernel) (by first|exact Or.inl rfl|exact Or.inr rfl) (by first|exact .inl rfl|exact .inr rfl))) (fun _ _ _ _=>cQ) (fun _ _ _ _=>(aN (tj e) (wm e) (hr.mono (by decide)) (aa c_ (aa c_ (aa c_ aj))) (by decide+kernel) rfl)) cS) aj) B.dN rfl dg (jB.d 1) (jB.g 1)))))) EM
theorem Ba:bD (KX w.params) mg "column" "column" kT ["rows","place"] 67 (Hd.fd kT "column" "column" fm 66):=Hd.h9 e.X e.G (by kernel_rfl) fun _ _ _ _ _ _ _ _=>rfl
theorem Jb:bh PW w (KX w.params) mg base cz 1 67 (Hd.fd kT "column" "column" fm 66) ["rows","place"] (cG wQ):=by
 have B:=Bt e;have Q:=Qt e;exact bH (N:=sW) (Ba e).fn Gd (fun cdv A outer s H E hr=>(az (aL (fA dZ (aa (eN (Nc:=["row","place"]) (bK.look (ai kT) ["rows","place"] (by decide+kernel)) (e_ (wK.nm 0)) (fun _ _ _ _=>(eC (show(["row","place"]:List Str).Nodup by decide+kernel) (by first|exact Or.inl rfl|exact Or.inr rfl) (by first|exact .inl rfl|exact .inr rfl))) (fun _ _ _ _=>cQ) (fun _ _ _ _=>(aM c_ c_)) cS) aj) B.dN rfl dg (wK.d 0) (wK.g 0))))) Hk
theorem tO:bD (KX w.params) mg "turned_over" "turned_over" fM ["rows","wide"] 72 (Hd.fd fM "turned_over" "turned_over" fm 71):=Hd.h9 e.X e.G (by kernel_rfl) fun _ _ _ _ _ _ _ _=>rfl
theorem Ac:bh PW w (KX w.params) mg base cz 2 72 (Hd.fd fM "turned_over" "turned_over" fm 71) ["rows","wide"] (cG om):=by
 have B:=Bt e;have Q:=Qt e;exact bH (N:=kL) (tO e).fn y_ (fun cdv A outer s H E hr=>(az (aL (fA dZ (aa (eN (Nc:=["place","rows"]) (bK.look (ai fM) ["rows","wide"] (by decide+kernel)) (jU (kH.g 0) B.jb (aa (kH.nm 1) aj)) (fun _ _ _ _=>(eC (show(["place","rows"]:List Str).Nodup by decide+kernel) (by first|exact Or.inl rfl|exact Or.inr rfl) (by first|exact .inl rfl|exact .inr rfl))) (fun _ _ _ _=>cQ) (fun _ _ _ _=>(aN (Ba e) (Jb e) (hr.mono (by decide)) (aa c_ (aa c_ aj)) (by decide+kernel) rfl)) cS) aj) B.dN rfl dg (kH.d 1) (kH.g 1))))) za
theorem xJ:bD (KX w.params) mg "unit_row" "unit_row" iM ["n","place"] 77 (Hd.fd iM "unit_row" "unit_row" fm 76):=Hd.h9 e.X e.G (by kernel_rfl) fun _ _ _ _ _ _ _ _=>rfl
theorem Ft:bh PW w (KX w.params) mg base cz 1 77 (Hd.fd iM "unit_row" "unit_row" fm 76) ["n","place"] (cG sO):=by
 have B:=Bt e;have Q:=Qt e;exact bH (N:=oC) (xJ e).fn CU (fun cdv A outer s H E hr=>(az (aL (fA dZ (aa (eN (Nc:=["k","place"]) (bK.look (ai iM) ["n","place"] (by decide+kernel)) (jU (oH.g 0) B.jb (aa (oH.nm 0) aj)) (fun _ _ _ _=>(eC (show(["k","place"]:List Str).Nodup by decide+kernel) (by first|exact Or.inl rfl|exact Or.inr rfl) (by first|exact .inl rfl|exact .inr rfl))) (fun _ _ _ _=>cQ) (fun _ _ _ _=>(P_ (bJ (eQ hr) (aZ _) c_ c_) ao ao)) cS) aj) B.dN rfl dg (oH.d 1) (oH.g 1))))) De
theorem nj:bD (KX w.params) mg "unit_rows" "unit_rows" gO ["n"] 82 (Hd.fd gO "unit_rows" "unit_rows" fm 81):=Hd.qi e.X e.G (by kernel_rfl) fun _ _ _ _ _ _ _=>rfl
theorem qR:bh PW w (KX w.params) mg base cz 2 82 (Hd.fd gO "unit_rows" "unit_rows" fm 81) ["n"] (cG kr):=by
 have B:=Bt e;have Q:=Qt e;exact bH (N:=nA) (nj e).fn A4 (fun cdv A outer s H E hr=>(az (aL (fA dZ (aa (eN (Nc:=["place","n"]) (bK.look (ai gO) ["n"] (by decide+kernel)) (jU (ni.g 0) B.jb (aa (ni.nm 0) aj)) (fun _ _ _ _=>(eC (show(["place","n"]:List Str).Nodup by decide+kernel) (by first|exact Or.inl rfl|exact Or.inr rfl) (by first|exact .inl rfl|exact .inr rfl))) (fun _ _ _ _=>cQ) (fun _ _ _ _=>(aN (xJ e) (Ft e) (hr.mono (by decide)) (aa c_ (aa c_ aj)) (by decide+kernel) rfl)) cS) aj) B.dN rfl dg (ni.d 1) (ni.g 1))))) Cq
theorem tQ:bD (KX w.params) mg "nought_rows" "nought_rows" gv ["many","wide"] 89 (Hd.fd gv "nought_rows" "nought_rows" fm 88):=Hd.h9 e.X e.G (by kernel_rfl) fun _ _ _ _ _ _ _ _=>rfl
theorem Al:bh PW w (KX w.params) mg base cz 1 89 (Hd.fd gv "nought_rows" "nought_rows" fm 88) ["many","wide"] (cG ou):=by
 have B:=Bt e;have Q:=Qt e;exact bH (N:=kJ) (tQ e).fn yM (fun cdv A outer s H E hr=>(az (aL (a5 dh (gY (aa (a5 dh (gY (aa ao aj)) (tU.nm 1)) aj)) (tU.nm 0))))) yJ
theorem oh:bD (KX w.params) mg "is_rows" "is_rows" jS ["thing","many","wide"] 94 (Hd.fd jS "is_rows" "is_rows" fm 93):=Hd.uw e.X e.G (by kernel_rfl) fun _ _ _ _ _ _ _ _ _=>rfl
theorem qw:bh PW w (KX w.params) mg base cz 4 94 (Hd.fd jS "is_rows" "is_rows" fm 93) ["thing","many","wide"] (cG la):=by
 have B:=Bt e;have Q:=Qt e
 exact bH (N:=nX) (oh e).fn ET (fun cdv A outer s H E hr=>(aq (cP (i3 (gF (aN (nv e) (qK e) (hr.mono (by decide)) (aa (fD.nm 0) aj) (fD.d 0) (fD.g 0)))) (az (aL gM)) bX)
  (aq (cP (jy (nS (bJ yB (aZ _) (fD.nm 1) qF) (lg (bJ yQ (aZ _) (cV c6 (aa (fD.nm 0) aj) B.c8 rfl cO (fD.d 1) (fD.g 1)) (fD.nm 1))))) (az (aL gM)) bX)
  (az (aL (cV (xy rfl) (aa (eN (Nc:=["row","wide"]) (bK.look (ai jS) ["thing","many","wide"] (by decide+kernel)) (e_ (fD.nm 0)) (fun _ _ _ _=>(eC (show(["row","wide"]:List Str).Nodup by decide+kernel) (by first|exact Or.inl rfl|exact Or.inr rfl) (by first|exact .inl rfl|exact .inr rfl))) (fun _ _ _ _=>cQ) (fun _ _ _ _=>(aN (kF e) (ot e) (hr.mono (by decide)) (aa c_ (aa c_ aj)) (by decide+kernel) rfl)) cS) aj) B.xp rfl uI (fD.d 2) (fD.g 2))))))) EN
theorem xU:bD (KX w.params) mg "are_back" "are_back" j5 ["turn","back"] 101 (Hd.fd j5 "are_back" "are_back" fm 100):=Hd.h9 e.X e.G (by kernel_rfl) fun _ _ _ _ _ _ _ _=>rfl
theorem EC:bh PW w (KX w.params) mg base cz 5 101 (Hd.fd j5 "are_back" "are_back" fm 100) ["turn","back"] (cG sh):=by
 have B:=Bt e;have Q:=Qt e
 exact bH (N:=oX) (xU e).fn vW (fun cdv A outer s H E hr=>(aq (cP (i3 (gF (aN (nv e) (qK e) (hr.mono (by decide)) (aa (bQ.nm 0) aj) (bQ.d 0) (bQ.g 0)))) (az (aL gM)) bX)
  (aq (aR vW.nd (bQ.l 2) (cV c6 (aa (bQ.nm 0) aj) B.c8 rfl cO (bQ.d 1) (bQ.g 1)))
  (aq (cP (jy (sZ (i3 (gF (aN (oh e) (qw e) (hr.mono (by decide)) (aa (bQ.nm 0) (aa (bQ.nm 2) (aa (bQ.nm 2) aj))) (bQ.d 2) (bQ.g 2)))) (rJ (i3 (gF (aN (oh e) (qw e) (hr.mono (by decide)) (aa (bQ.nm 1) (aa (bQ.nm 2) (aa (bQ.nm 2) aj))) (bQ.d 2) (bQ.g 2))))))) (az (aL gM)) bX)
  (az (aL (R0 (jt (eQ hr) (aZ _) (bQ.nm 2) ao) (kD (jt (eQ hr) (aZ _) (aN (u7 e) (zY e) (hr.mono (by decide)) (aa (bQ.nm 0) (aa (bQ.nm 1) aj)) (bQ.d 3) (bQ.g 3)) (aN (nj e) (qR e) (hr.mono (by decide)) (aa (bQ.nm 2) aj) (bQ.d 4) (bQ.g 4))))))))))) C4
theorem uT:bD (KX w.params) mg "is_turn_of" "is_turn_of" ia ["turn","back","many"] 108 (Hd.fd ia "is_turn_of" "is_turn_of" fm 107):=Hd.uw e.X e.G (by kernel_rfl) fun _ _ _ _ _ _ _ _ _=>rfl
theorem Bq:bh PW w (KX w.params) mg base cz 6 108 (Hd.fd ia "is_turn_of" "is_turn_of" fm 107) ["turn","back","many"] (cG pF):=by
 have B:=Bt e;have Q:=Qt e;exact bH (N:=mr) (uT e).fn Ad (fun cdv A outer s H E hr=>(az (aL (kI (aN (oh e) (qw e) (hr.mono (by decide)) (aa (e7.nm 0) (aa (e7.nm 2) (aa (e7.nm 2) aj))) (e7.d 0) (e7.g 0)) (kD (aN (xU e) (EC e) (hr.mono (by decide)) (aa (e7.nm 0) (aa (e7.nm 1) aj)) (e7.d 1) (e7.g 1))))))) Ah
theorem jL:bD (KX w.params) mg "lead_of" "lead_of" lu ["row"] 115 (Hd.fd lu "lead_of" "lead_of" d5 114):=Hd.qi e.X e.G (by kernel_rfl) fun _ _ _ _ _ _ _=>rfl
theorem lH:bh PW w (KX w.params) mg base cz 1 115 (Hd.fd lu "lead_of" "lead_of" d5 114) ["row"] (cG iz):=by
 have B:=Bt e;have Q:=Qt e
 exact bH (N:=qz) (jL e).fn xM (fun cdv A outer s H E hr=>(aq (ij (GA (qj.g 0) B.vP (aa (qj.nm 0) aj)) (l7 rfl xM.nd (by first|exact Or.inl rfl|exact Or.inr rfl) (by first|exact .inl rfl|exact .inr rfl) (by first|exact Or.inl rfl|exact Or.inr rfl) (by first|exact .inl rfl|exact .inr rfl)) (az (cP (bJ yQ (aZ _) (qj.nm 2) ao) (az (aL (qj.nm 1))) bX)))
  (az (aL qF)))) Ec
theorem tW:bD (KX w.params) mg "is_standing" "is_standing" fK ["rows"] 120 (Hd.fd fK "is_standing" "is_standing" d5 119):=Hd.qi e.X e.G (by kernel_rfl) fun _ _ _ _ _ _ _=>rfl
theorem Ai:bh PW w (KX w.params) mg base cz 2 120 (Hd.fd fK "is_standing" "is_standing" d5 119) ["rows"] (cG oi):=by
 have B:=Bt e;have Q:=Qt e
 exact bH (N:=kB) (tW e).fn hO (fun cdv A outer s H E hr=>(aq (aR hO.nd (cf.l 1) (iD ao))
  (aq (ij (GA (cf.g 0) B.vP (aa (cf.nm 0) aj)) (l7 rfl hO.nd (by first|exact Or.inl rfl|exact Or.inr rfl) (by first|exact .inl rfl|exact .inr rfl) (by first|exact Or.inl rfl|exact Or.inr rfl) (by first|exact .inl rfl|exact .inr rfl)) (aq (aR hO.nd (cf.l 4) (aN (jL e) (lH e) (hr.mono (by decide)) (aa (cf.nm 3) aj) (cf.d 1) (cf.g 1)))
  (aq (cP (jy (sZ (bJ HE (aZ _) (cf.nm 4) qF) (sZ (bJ Nd (aZ _) (cf.nm 4) (cf.nm 1)) (rJ (bJ tH (aZ _) (aM (cf.nm 3) (cf.nm 4)) ao))))) (az (aL gM)) bX)
  (aq (cP (i3 (gF (cV (xy rfl) (aa (eN (Nc:=["above","lead","row"]) (bK.look (ai fK) ["rows","ahead","k","row","lead"] (by decide+kernel)) (e_ (lO (cf.nm 0) lG (lz (cf.nm 2)))) (fun _ _ _ _=>(eC (show(["above","lead","row"]:List Str).Nodup by decide+kernel) (by first|exact Or.inl rfl|exact Or.inr rfl) (by first|exact .inl rfl|exact .inr rfl))) (fun _ _ _ _=>cQ) (fun _ _ _ _=>(Mn Nd tH ao (aM c_ c_) (aM c_ c_))) cS) aj) B.xp rfl uI (cf.d 2) (cf.g 2)))) (az (aL gM)) bX)
  (az (aR hO.nd (cf.l 1) (cf.nm 4)))))))
  (az (aL gM))))) yS
theorem nG:bD (KX w.params) mg "nearest_quotient" "nearest_quotient" eL ["top","bottom"] 127 (Hd.fd eL "nearest_quotient" "nearest_quotient" d5 126):=Hd.h9 e.X e.G (by kernel_rfl) fun _ _ _ _ _ _ _ _=>rfl
theorem uh:bh PW w (KX w.params) mg base cz 1 127 (Hd.fd eL "nearest_quotient" "nearest_quotient" d5 126) ["top","bottom"] (cG jK):=by
 have B:=Bt e;have Q:=Qt e;exact bH (N:=gG) (nG e).fn jq (fun cdv A outer s H E hr=>(az (aL (a5 (vk hr rfl jq.gen jq.co) (a5 dP (a5 dh ao (jG.nm 0)) (jG.nm 1)) (a5 dh ao (jG.nm 1)))))) t9
theorem nC:bD (KX w.params) mg "exchanged" "exchanged" je ["rows","k","other"] 134 (Hd.fd je "exchanged" "exchanged" d5 133):=Hd.uw e.X e.G (by kernel_rfl) fun _ _ _ _ _ _ _ _ _=>rfl
theorem qX:bh PW w (KX w.params) mg base cz 1 134 (Hd.fd je "exchanged" "exchanged" d5 133) ["rows","k","other"] (cG ki):=by
 have B:=Bt e;have Q:=Qt e
 exact bH (N:=nF) (nC e).fn u5 (fun cdv A outer s H E hr=>(aq (aR u5.nd (dE.l 3) (fA L5 (aa (dE.nm 0) aj) B.nK rfl k9 (dE.d 0) (dE.g 0)))
  (aq (eY (aM (dE.nm 0) (dE.nm 2)) (dE.nm 3) (dE.nm 1))
  (aq (eY (aM (dE.nm 0) (dE.nm 1)) (dE.nm 3) (dE.nm 2))
  (az (aL (dE.nm 3))))))) BH
theorem qc:bD (KX w.params) mg "negated" "negated" jT ["row"] 139 (Hd.fd jT "negated" "negated" d5 138):=Hd.qi e.X e.G (by kernel_rfl) fun _ _ _ _ _ _ _=>rfl
theorem uo:bh PW w (KX w.params) mg base cz 1 139 (Hd.fd jT "negated" "negated" d5 138) ["row"] (cG nW):=by
 have B:=Bt e;have Q:=Qt e;exact bH (N:=qu) (qc e).fn Fi (fun cdv A outer s H E hr=>(az (aL (eN (Nc:=["number"]) (bK.look (ai jT) ["row"] (by decide+kernel)) (e_ (FJ.nm 0)) (fun _ _ _ _=>(eC (show(["number"]:List Str).Nodup by decide+kernel) (by first|exact Or.inl rfl|exact Or.inr rfl) (by first|exact .inl rfl|exact .inr rfl))) (fun _ _ _ _=>cQ) (fun _ _ _ _=>(iD c_)) cS)))) Ey
theorem iC:MethAt (KX w.params) aK "__init__" "Bench.__init__" dv ["self","rows"] 151 (Hd.fd dv "__init__" "Bench.__init__" d5 150):=Hd.Q1 (by kernel_rfl) fun _ _ _ _ _ _ _ _=>rfl
theorem xg:bh PW w (KX w.params) mg base cz 3 151 (Hd.fd dv "__init__" "Bench.__init__" d5 150) ["self","rows"] (cG kR):=by
 have B:=Bt e;have Q:=Qt e
 exact bH (N:=iQ) (iC e).fn vN (fun cdv A outer s H E hr=>(aq (pd Q.bg.cl Q.cM (ck.nm 0) (zc (Nc:=["row"]) (bK.look (ai dv) ["self","rows"] (by decide+kernel)) (e_ (ck.nm 1)) (fun _ _ _ _=>(eC (show(["row"]:List Str).Nodup by decide+kernel) (by first|exact Or.inl rfl|exact Or.inr rfl) (by first|exact .inl rfl|exact .inr rfl))) (fun _ _ _ _=>cQ) (fun _ _ _ _=>(fA rQ (aa c_ aj) B.nK rfl k9 (by decide+kernel) rfl)) cS))
  (aq (pd Q.bg.cl Q.eS (ck.nm 0) (zc (Nc:=["row"]) (bK.look (ai dv) ["self","rows"] (by decide+kernel)) (e_ (aN (nj e) (qR e) (hr.mono (by decide)) (aa (cV c6 (aa (ck.nm 1) aj) B.c8 rfl cO (ck.d 0) (ck.g 0)) aj) (ck.d 1) (ck.g 1))) (fun _ _ _ _=>(eC (show(["row"]:List Str).Nodup by decide+kernel) (by first|exact Or.inl rfl|exact Or.inr rfl) (by first|exact .inl rfl|exact .inr rfl))) (fun _ _ _ _=>cQ) (fun _ _ _ _=>(fA rQ (aa c_ aj) B.nK rfl k9 (by decide+kernel) rfl)) cS))
  (az (pd Q.bg.cl Q.cR (ck.nm 0) (zc (Nc:=["row"]) (bK.look (ai dv) ["self","rows"] (by decide+kernel)) (e_ (aN (nj e) (qR e) (hr.mono (by decide)) (aa (cV c6 (aa (ck.nm 1) aj) B.c8 rfl cO (ck.d 0) (ck.g 0)) aj) (ck.d 1) (ck.g 1))) (fun _ _ _ _=>(eC (show(["row"]:List Str).Nodup by decide+kernel) (by first|exact Or.inl rfl|exact Or.inr rfl) (by first|exact .inl rfl|exact .inr rfl))) (fun _ _ _ _=>cQ) (fun _ _ _ _=>(fA rQ (aa c_ aj) B.nK rfl k9 (by decide+kernel) rfl)) cS)))))) vL
theorem jI:MethAt (KX w.params) aK "take" "Bench.take" iu ["self","k","times","other"] 158 (Hd.fd iu "take" "Bench.take" d5 157):=Hd.Su (by kernel_rfl) fun _ _ _ _ _ _ _ _ _ _=>rfl
theorem uK:bh PW w (KX w.params) mg base cz 2 158 (Hd.fd iu "take" "Bench.take" d5 157) ["self","k","times","other"] (cG lT):=by
 have B:=Bt e;have Q:=Qt e
 exact bH (N:=mz) (jI e).fn Am (fun cdv A outer s H E hr=>(aq (eY (aN (o6 e) (rD e) (hr.mono (by decide)) (aa (aM (dH Q.bg.cl Q.cM (bc.nm 0)) (bc.nm 1)) (aa (iD (bc.nm 2)) (aa (aM (dH Q.bg.cl Q.cM (bc.nm 0)) (bc.nm 3)) aj))) (bc.d 0) (bc.g 0)) (dH Q.bg.cl Q.cM (bc.nm 0)) (bc.nm 1))
  (aq (eY (aN (o6 e) (rD e) (hr.mono (by decide)) (aa (aM (dH Q.bg.cl Q.eS (bc.nm 0)) (bc.nm 1)) (aa (iD (bc.nm 2)) (aa (aM (dH Q.bg.cl Q.eS (bc.nm 0)) (bc.nm 3)) aj))) (bc.d 0) (bc.g 0)) (dH Q.bg.cl Q.eS (bc.nm 0)) (bc.nm 1))
  (az (eY (aN (o6 e) (rD e) (hr.mono (by decide)) (aa (aM (dH Q.bg.cl Q.cR (bc.nm 0)) (bc.nm 3)) (aa (bc.nm 2) (aa (aM (dH Q.bg.cl Q.cR (bc.nm 0)) (bc.nm 1)) aj))) (bc.d 0) (bc.g 0)) (dH Q.bg.cl Q.cR (bc.nm 0)) (bc.nm 3)))))) Av
theorem k6:MethAt (KX w.params) aK "exchange" "Bench.exchange" fj ["self","k","other"] 165 (Hd.fd fj "exchange" "Bench.exchange" d5 164):=Hd.Kk (by kernel_rfl) fun _ _ _ _ _ _ _ _ _=>rfl
theorem wW:bh PW w (KX w.params) mg base cz 2 165 (Hd.fd fj "exchange" "Bench.exchange" d5 164) ["self","k","other"] (cG kU):=by
 have B:=Bt e;have Q:=Qt e
 exact bH (N:=iR) (k6 e).fn vH (fun cdv A outer s H E hr=>(aq (pd Q.bg.cl Q.cM (bE.nm 0) (aN (nC e) (qX e) (hr.mono (by decide)) (aa (dH Q.bg.cl Q.cM (bE.nm 0)) (aa (bE.nm 1) (aa (bE.nm 2) aj))) (bE.d 0) (bE.g 0)))
  (aq (pd Q.bg.cl Q.eS (bE.nm 0) (aN (nC e) (qX e) (hr.mono (by decide)) (aa (dH Q.bg.cl Q.eS (bE.nm 0)) (aa (bE.nm 1) (aa (bE.nm 2) aj))) (bE.d 0) (bE.g 0)))
  (az (pd Q.bg.cl Q.cR (bE.nm 0) (aN (nC e) (qX e) (hr.mono (by decide)) (aa (dH Q.bg.cl Q.cR (bE.nm 0)) (aa (bE.nm 1) (aa (bE.nm 2) aj))) (bE.d 0) (bE.g 0))))))) vK
theorem jh:MethAt (KX w.params) aK "change_sign" "Bench.change_sign" eg ["self","k"] 172 (Hd.fd eg "change_sign" "Bench.change_sign" d5 171):=Hd.Q1 (by kernel_rfl) fun _ _ _ _ _ _ _ _=>rfl
theorem uc:bh PW w (KX w.params) mg base cz 2 172 (Hd.fd eg "change_sign" "Bench.change_sign" d5 171) ["self","k"] (cG jo):=by
 have B:=Bt e;have Q:=Qt e
 exact bH (N:=gn) (jh e).fn sD (fun cdv A outer s H E hr=>(aq (eY (aN (qc e) (uo e) (hr.mono (by decide)) (aa (aM (dH Q.bg.cl Q.cM (a6.nm 0)) (a6.nm 1)) aj) (a6.d 0) (a6.g 0)) (dH Q.bg.cl Q.cM (a6.nm 0)) (a6.nm 1))
  (aq (eY (aN (qc e) (uo e) (hr.mono (by decide)) (aa (aM (dH Q.bg.cl Q.eS (a6.nm 0)) (a6.nm 1)) aj) (a6.d 0) (a6.g 0)) (dH Q.bg.cl Q.eS (a6.nm 0)) (a6.nm 1))
  (az (eY (aN (qc e) (uo e) (hr.mono (by decide)) (aa (aM (dH Q.bg.cl Q.cR (a6.nm 0)) (a6.nm 1)) aj) (a6.d 0) (a6.g 0)) (dH Q.bg.cl Q.cR (a6.nm 0)) (a6.nm 1)))))) sF
theorem gZ:MethAt (KX w.params) aK "live_rows" "Bench.live_rows" dG ["self","top","place"] 177 (Hd.fd dG "live_rows" "Bench.live_rows" d5 176):=Hd.Kk (by kernel_rfl) fun _ _ _ _ _ _ _ _ _=>rfl
theorem oz:bh PW w (KX w.params) mg base cz 3 177 (Hd.fd dG "live_rows" "Bench.live_rows" d5 176) ["self","top","place"] (cG g5):=by
 have B:=Bt e;have Q:=Qt e;have hC:PySem.W.codeHdIn (KX w.params) 176 174=true:=by kernel_rfl
 exact NH (N:=gX) (Hd.fc (by kernel_rfl)) n_ (fun A outer s H E hr=>(aq (se n_.nd (dF.l 3) (Nc:=["k","self","place"]) (bK.look (ai dG) ["self","top","place","live"] (by decide+kernel)) (IV (dF.g 1) B.jb (aa (dF.nm 1) (aa (cV c6 (aa (dH Q.bg.cl Q.cM (dF.nm 0)) aj) B.c8 rfl cO (dF.d 0) (dF.g 0)) aj))) (fun _ _ _ _=>(eC (show(["k","self","place"]:List Str).Nodup by decide+kernel) (by first|exact Or.inl rfl|exact Or.inr rfl) (by first|exact .inl rfl|exact .inr rfl))) (fun _ _ _ _=>(OJ (bJ yQ (aZ _) (aM (aM (dH Q.bg.cl Q.cM c_) c_) c_) ao))) (fun _ _ _ _=>c_) cS)
  (az (aL (LZ (c0:=176) (oV.look (Nc:=["k","self","place"]) (fr:=[none,some 0,some 2]) (p:="k") (bK.look (ai dG) ["self","top","place","live"] (by decide+kernel))) rfl hr rfl hC (fun _ _ _ _=>(cV yg (aa (aM (aM (dH Q.bg.cl Q.cM c_) c_) c_) aj) B.x5 rfl uE (by decide+kernel) rfl)) (dF.nm 3) (dF.g 2) B.HU))))) uz
theorem mV:MethAt (KX w.params) aK "gather" "Bench.gather" gb ["self","top","place"] 184 (Hd.fd gb "gather" "Bench.gather" d5 183):=Hd.Kk (by kernel_rfl) fun _ _ _ _ _ _ _ _ _=>rfl
theorem yX:bh PW w (KX w.params) mg base cz 4 184 (Hd.fd gb "gather" "Bench.gather" d5 183) ["self","top","place"] (cG mL):=by
 have B:=Bt e;have Q:=Qt e
 exact bH (N:=kb) (mV e).fn gD (fun cdv A outer s H E hr=>(aq (aR gD.nd (aI.l 3) (nM (aI.nm 0) Q.bg.cl (gZ e).me (oz e) (hr.mono (by decide)) (gZ e).bd (aa (aI.nm 1) (aa (aI.nm 2) aj))))
  (aq (AU (bJ wC (aZ _) (cV c6 (aa (aI.nm 3) aj) B.c8 rfl cO (aI.d 0) (aI.g 0)) ao) (aq (aR gD.nd (aI.l 4) (aM (aI.nm 3) (iD ao)))
  (aq (aR gD.nd (aI.l 5) (aM (aI.nm 3) (iD ao)))
  (aq (lb (nM (aI.nm 0) Q.bg.cl (jI e).me (uK e) (hr.mono (by decide)) (jI e).bd (aa (aI.nm 4) (aa (aN (nG e) (uh e) (hr.mono (by decide)) (aa (aM (aM (dH Q.bg.cl Q.cM (aI.nm 0)) (aI.nm 4)) (aI.nm 2)) (aa (aM (aM (dH Q.bg.cl Q.cM (aI.nm 0)) (aI.nm 5)) (aI.nm 2)) aj)) (aI.d 1) (aI.g 1)) (aa (aI.nm 5) aj)))))
  (az (aR gD.nd (aI.l 3) (nM (aI.nm 0) Q.bg.cl (gZ e).me (oz e) (hr.mono (by decide)) (gZ e).bd (aa (aI.nm 1) (aa (aI.nm 2) aj)))))))))
  (aq (cP (bJ (eQ hr) (aZ _) (cV c6 (aa (aI.nm 3) aj) B.c8 rfl cO (aI.d 0) (aI.g 0)) ao) (az (aL gM)) bX)
  (aq (lb (nM (aI.nm 0) Q.bg.cl (k6 e).me (wW e) (hr.mono (by decide)) (k6 e).bd (aa (aI.nm 1) (aa (aM (aI.nm 3) ao) aj))))
  (aq (cP (bJ tH (aZ _) (aM (aM (dH Q.bg.cl Q.cM (aI.nm 0)) (aI.nm 1)) (aI.nm 2)) ao) (az (lb (nM (aI.nm 0) Q.bg.cl (jh e).me (uc e) (hr.mono (by decide)) (jh e).bd (aa (aI.nm 1) aj)))) bX)
  (az (aL gM)))))))) x3
theorem jj:MethAt (KX w.params) aK "lower_above" "Bench.lower_above" eh ["self","top","place"] 191 (Hd.fd eh "lower_above" "Bench.lower_above" d5 190):=Hd.Kk (by kernel_rfl) fun _ _ _ _ _ _ _ _ _=>rfl
theorem tZ:bh PW w (KX w.params) mg base cz 3 191 (Hd.fd eh "lower_above" "Bench.lower_above" d5 190) ["self","top","place"] (cG jn):=by
 have B:=Bt e;have Q:=Qt e;exact bH (N:=gm) (jj e).fn fV (fun cdv A outer s H E hr=>(az (ij (jU (cA.g 0) B.jb (aa (cA.nm 1) aj)) (eC fV.nd (by first|exact Or.inl rfl|exact Or.inr rfl) (by first|exact .inl rfl|exact .inr rfl)) (az (lb (nM (cA.nm 0) Q.bg.cl (jI e).me (uK e) (hr.mono (by decide)) (jI e).bd (aa (cA.nm 3) (aa (a5 (vk hr rfl fV.gen fV.co) (aM (aM (dH Q.bg.cl Q.cM (cA.nm 0)) (cA.nm 3)) (cA.nm 2)) (aM (aM (dH Q.bg.cl Q.cM (cA.nm 0)) (cA.nm 1)) (cA.nm 2))) (aa (cA.nm 1) aj))))))))) tL
theorem oE:bD (KX w.params) mg "standing" "standing" jW ["rows"] 205 (Hd.fd jW "standing" "standing" d5 204):=Hd.qi e.X e.G (by kernel_rfl) fun _ _ _ _ _ _ _=>rfl
theorem tm:bh PW w (KX w.params) mg base cz 5 205 (Hd.fd jW "standing" "standing" d5 204) ["rows"] (cG lS):=by
 have B:=Bt e;have Q:=Qt e
 exact bH (N:=oJ) (oE e).fn i6 (fun cdv A outer s H E hr=>(aq (aR i6.nd (bz.l 1) (Oy ⟨Q.bg.Sa,(iC e).me.at_,(iC e).me.fn,Q.bg.kp⟩ (xg e) (hr.mono (by decide)) (bz.g 0) Q.bg.mg (iC e).bd (aa (bz.nm 0) aj) (bz.d 0)))
  (aq (aR i6.nd (bz.l 2) ao)
  (aq (ij (jU (bz.g 2) B.jb (aa (cV c6 (aa (aM (bz.nm 0) ao) aj) B.c8 rfl cO (bz.d 1) (bz.g 1)) aj)) (eC i6.nd (by first|exact Or.inl rfl|exact Or.inr rfl) (by first|exact .inl rfl|exact .inr rfl)) (az (cP (gF (nM (bz.nm 1) Q.bg.cl (mV e).me (yX e) (hr.mono (by decide)) (mV e).bd (aa (bz.nm 2) (aa (bz.nm 3) aj)))) (aq (lb (nM (bz.nm 1) Q.bg.cl (jj e).me (tZ e) (hr.mono (by decide)) (jj e).bd (aa (bz.nm 2) (aa (bz.nm 3) aj))))
  (az (OD i6.nd (bz.l 2) ao Oq))) bX)))
  (aq (aR i6.nd (bz.l 4) (aN (tO e) (Ac e) (hr.mono (by decide)) (aa (dH Q.bg.cl Q.cR (bz.nm 1)) (aa (cV c6 (aa (bz.nm 0) aj) B.c8 rfl cO (bz.d 1) (bz.g 1)) aj)) (bz.d 3) (bz.g 3)))
  (az (aL (gY (aa (aN (qo e) (u3 e) (hr.mono (by decide)) (aa (lO (dH Q.bg.cl Q.cM (bz.nm 1)) lG (lz (bz.nm 2))) aj) (bz.d 4) (bz.g 4)) (aa (aN (qo e) (u3 e) (hr.mono (by decide)) (aa (dH Q.bg.cl Q.eS (bz.nm 1)) aj) (bz.d 4) (bz.g 4)) (aa (bz.nm 4) aj))))))))))) C_
theorem pV:bD (KX w.params) mg "shows_standing" "shows_standing" fh ["rows","told"] 212 (Hd.fd fh "shows_standing" "shows_standing" d5 211):=Hd.h9 e.X e.G (by kernel_rfl) fun _ _ _ _ _ _ _ _=>rfl
theorem w_:bh PW w (KX w.params) mg base cz 7 212 (Hd.fd fh "shows_standing" "shows_standing" d5 211) ["rows","told"] (cG kZ):=by
 have B:=Bt e;have Q:=Qt e
 exact bH (N:=iL) (pV e).fn fP (fun cdv A outer s H E hr=>(aq (aR fP.nd (aB.l 2) (cV c6 (aa (aB.nm 0) aj) B.c8 rfl cO (aB.d 0) (aB.g 0)))
  (aq (aR fP.nd (aB.l 3) (cV c6 (aa (aM (aB.nm 0) ao) aj) B.c8 rfl cO (aB.d 0) (aB.g 0)))
  (aq (cP (i3 (gF (aN (hJ e) (j9 e) (hr.mono (by decide)) (aa (aB.nm 1) (aa ao aj)) (aB.d 1) (aB.g 1)))) (az (aL gM)) bX)
  (aq (aR fP.nd (aB.l 4) (aM (aB.nm 1) ao))
  (aq (aR fP.nd (aB.l 5) (aM (aB.nm 1) ao))
  (aq (cP (jy (sZ (i3 (gF (aN (oh e) (qw e) (hr.mono (by decide)) (aa (aB.nm 4) (aa qF (aa (aB.nm 3) aj))) (aB.d 2) (aB.g 2)))) (rJ (i3 (gF (aN (tW e) (Ai e) (hr.mono (by decide)) (aa (aB.nm 4) aj) (aB.d 3) (aB.g 3))))))) (az (aL gM)) bX)
  (aq (cP (i3 (gF (aN (uT e) (Bq e) (hr.mono (by decide)) (aa (aB.nm 5) (aa (aM (aB.nm 1) ao) (aa (aB.nm 2) aj))) (aB.d 4) (aB.g 4)))) (az (aL gM)) bX)
  (az (aL (jt (eQ hr) (aZ _) (aN (u7 e) (zY e) (hr.mono (by decide)) (aa (aB.nm 5) (aa (aB.nm 0) aj)) (aB.d 5) (aB.g 5)) (a5 dP (aN (qo e) (u3 e) (hr.mono (by decide)) (aa (aB.nm 4) aj) (aB.d 6) (aB.g 6)) (aN (tQ e) (Al e) (hr.mono (by decide)) (aa (a5 oW (aB.nm 2) (cV c6 (aa (aB.nm 4) aj) B.c8 rfl cO (aB.d 0) (aB.g 0))) (aa (aB.nm 3) aj)) (aB.d 7) (aB.g 7)))))))))))))) vM
theorem zG:bD (KX w.params) mg "weighed" "weighed" lJ ["form","row"] 219 (Hd.fd lJ "weighed" "weighed" d5 218):=Hd.h9 e.X e.G (by kernel_rfl) fun _ _ _ _ _ _ _ _=>rfl
theorem FT:bh PW w (KX w.params) mg base cz 2 219 (Hd.fd lJ "weighed" "weighed" d5 218) ["form","row"] (cG uf):=by
 have B:=Bt e;have Q:=Qt e
 exact bH (N:=qy) (zG e).fn iE (fun cdv A outer s H E hr=>(aq (aR iE.nd (bO.l 2) (EE aj))
  (aq (aR iE.nd (bO.l 3) (fA rQ (aa (bO.nm 1) aj) B.nK rfl k9 (bO.d 0) (bO.g 0)))
  (aq (ij (e_ (bO.nm 0)) (eC iE.nd (by first|exact Or.inl rfl|exact Or.inr rfl) (by first|exact .inl rfl|exact .inr rfl)) (aq (aR iE.nd (bO.l 5) (aN (jL e) (lH e) (hr.mono (by decide)) (aa (bO.nm 4) aj) (bO.d 1) (bO.g 1)))
  (aq (aR iE.nd (bO.l 6) (a5 AZ (aM (bO.nm 3) (bO.nm 5)) (aM (bO.nm 4) (bO.nm 5))))
  (aq (lb (zQ (bO.nm 2) (bO.nm 6)))
  (az (aR iE.nd (bO.l 3) (aN (o6 e) (rD e) (hr.mono (by decide)) (aa (bO.nm 3) (aa (iD (bO.nm 6)) (aa (bO.nm 4) aj))) (bO.d 2) (bO.g 2))))))))
  (az (aL (gY (aa (fA dZ (aa (bO.nm 2) aj) B.dN rfl dg (bO.d 3) (bO.g 3)) (aa (fA dZ (aa (bO.nm 3) aj) B.dN rfl dg (bO.d 3) (bO.g 3)) aj))))))))) En
theorem wx:bD (KX w.params) mg "common" "common" mX ["one","other"] 226 (Hd.fd mX "common" "common" jw 225):=Hd.h9 e.X e.G (by kernel_rfl) fun _ _ _ _ _ _ _ _=>rfl
theorem CI:bh PW w (KX w.params) mg base cz 1 226 (Hd.fd mX "common" "common" jw 225) ["one","other"] (cG sr):=by
 have B:=Bt e;have Q:=Qt e
 exact bH (N:=sQ) (wx e).fn lE (fun cdv A outer s H E hr=>(aq (aR lE.nd (dS.l 2) (cV yg (aa (dS.nm 0) aj) B.x5 rfl uE (dS.d 0) (dS.g 0)))
  (aq (aR lE.nd (dS.l 3) (cV yg (aa (dS.nm 1) aj) B.x5 rfl uE (dS.d 0) (dS.g 0)))
  (aq (AU (bJ yQ (aZ _) (dS.nm 3) ao) (aq (aR lE.nd (dS.l 4) (a5 oU (dS.nm 2) (dS.nm 3)))
  (aq (aR lE.nd (dS.l 2) (dS.nm 3))
  (az (aR lE.nd (dS.l 3) (dS.nm 4))))))
  (az (aL (dS.nm 2))))))) Hr
theorem rP:bD (KX w.params) mg "part" "part" rW ["top","bottom"] 233 (Hd.fd rW "part" "part" jw 232):=Hd.h9 e.X e.G (by kernel_rfl) fun _ _ _ _ _ _ _ _=>rfl
theorem uP:bh PW w (KX w.params) mg base cz 2 233 (Hd.fd rW "part" "part" jw 232) ["top","bottom"] (cG pK):=by
 have B:=Bt e;have Q:=Qt e
 exact bH (N:=xi) (rP e).fn mM (fun cdv A outer s H E hr=>(aq (aR mM.nd (iY.l 2) (aN (wx e) (CI e) (hr.mono (by decide)) (aa (iY.nm 0) (aa (iY.nm 1) aj)) (iY.d 0) (iY.g 0)))
  (aq (cP (bJ tH (aZ _) (iY.nm 1) ao) (az (aR mM.nd (iY.l 2) (iD (iY.nm 2)))) bX)
  (az (aL (gY (aa (a5 (vk hr rfl mM.gen mM.co) (iY.nm 0) (iY.nm 2)) (aa (a5 (vk hr rfl mM.gen mM.co) (iY.nm 1) (iY.nm 2)) aj)))))))) Mr
theorem F9:bD (KX w.params) mg "plus" "plus" rO ["one","other"] 240 (Hd.fd rO "plus" "plus" jw 239):=Hd.h9 e.X e.G (by kernel_rfl) fun _ _ _ _ _ _ _ _=>rfl
theorem MQ:bh PW w (KX w.params) mg base cz 3 240 (Hd.fd rO "plus" "plus" jw 239) ["one","other"] (cG Cr):=by
 have B:=Bt e;have Q:=Qt e;exact bH (N:=xV) (F9 e).fn LB (fun cdv A outer s H E hr=>(az (aL (aN (rP e) (uP e) (hr.mono (by decide)) (aa (a5 dP (a5 dh (aM (nH.nm 0) ao) (aM (nH.nm 1) ao)) (a5 dh (aM (nH.nm 1) ao) (aM (nH.nm 0) ao))) (aa (a5 dh (aM (nH.nm 0) ao) (aM (nH.nm 1) ao)) aj)) (nH.d 0) (nH.g 0))))) KW
theorem DY:bD (KX w.params) mg "minus" "minus" pk ["one","other"] 247 (Hd.fd pk "minus" "minus" jw 246):=Hd.h9 e.X e.G (by kernel_rfl) fun _ _ _ _ _ _ _ _=>rfl
theorem KU:bh PW w (KX w.params) mg base cz 3 247 (Hd.fd pk "minus" "minus" jw 246) ["one","other"] (cG yV):=by
 have B:=Bt e;have Q:=Qt e;exact bH (N:=vm) (DY e).fn HH (fun cdv A outer s H E hr=>(az (aL (aN (rP e) (uP e) (hr.mono (by decide)) (aa (a5 oW (a5 dh (aM (lI.nm 0) ao) (aM (lI.nm 1) ao)) (a5 dh (aM (lI.nm 1) ao) (aM (lI.nm 0) ao))) (aa (a5 dh (aM (lI.nm 0) ao) (aM (lI.nm 1) ao)) aj)) (lI.d 0) (lI.g 0))))) HC
theorem DL:bD (KX w.params) mg "times" "times" pe ["one","other"] 254 (Hd.fd pe "times" "times" jw 253):=Hd.h9 e.X e.G (by kernel_rfl) fun _ _ _ _ _ _ _ _=>rfl
theorem Lh:bh PW w (KX w.params) mg base cz 3 254 (Hd.fd pe "times" "times" jw 253) ["one","other"] (cG yD):=by
 have B:=Bt e;have Q:=Qt e;exact bH (N:=vB) (DL e).fn IE (fun cdv A outer s H E hr=>(az (aL (aN (rP e) (uP e) (hr.mono (by decide)) (aa (a5 dh (aM (ph.nm 0) ao) (aM (ph.nm 1) ao)) (aa (a5 dh (aM (ph.nm 0) ao) (aM (ph.nm 1) ao)) aj)) (ph.d 0) (ph.g 0))))) Im
theorem Hl:bD (KX w.params) mg "over" "over" r_ ["one","other"] 261 (Hd.fd r_ "over" "over" jw 260):=Hd.h9 e.X e.G (by kernel_rfl) fun _ _ _ _ _ _ _ _=>rfl
theorem Oi:bh PW w (KX w.params) mg base cz 3 261 (Hd.fd r_ "over" "over" jw 260) ["one","other"] (cG CN):=by
 have B:=Bt e;have Q:=Qt e;exact bH (N:=x4) (Hl e).fn Ln (fun cdv A outer s H E hr=>(az (aL (aN (rP e) (uP e) (hr.mono (by decide)) (aa (a5 dh (aM (rS.nm 0) ao) (aM (rS.nm 1) ao)) (aa (a5 dh (aM (rS.nm 0) ao) (aM (rS.nm 1) ao)) aj)) (rS.d 0) (rS.g 0))))) KN
theorem pf:bD (KX w.params) mg "whole" "whole" o7 ["n"] 268 (Hd.fd o7 "whole" "whole" jw 267):=Hd.qi e.X e.G (by kernel_rfl) fun _ _ _ _ _ _ _=>rfl
theorem sf:bh PW w (KX w.params) mg base cz 1 268 (Hd.fd o7 "whole" "whole" jw 267) ["n"] (cG mP):=by
 have B:=Bt e;have Q:=Qt e;exact bH (N:=vp) (pf e).fn IS (fun cdv A outer s H E hr=>(az (aL (gY (aa (Kx.nm 0) (aa ao aj)))))) IU
theorem zR:bD (KX w.params) mg "is_part" "is_part" lQ ["thing"] 275 (Hd.fd lQ "is_part" "is_part" jw 274):=Hd.qi e.X e.G (by kernel_rfl) fun _ _ _ _ _ _ _=>rfl
theorem He:bh PW w (KX w.params) mg base cz 4 275 (Hd.fd lQ "is_part" "is_part" jw 274) ["thing"] (cG ux):=by
 have B:=Bt e;have Q:=Qt e;exact bH (N:=qm) (zR e).fn Fp (fun cdv A outer s H E hr=>(az (aL (kI (aN (kF e) (ot e) (hr.mono (by decide)) (aa (ix.nm 0) (aa ao aj)) (ix.d 0) (ix.g 0)) (kI (jt wC (aZ _) (aM (ix.nm 0) ao) ao) (kD (jt (eQ hr) (aZ _) (aN (wx e) (CI e) (hr.mono (by decide)) (aa (aM (ix.nm 0) ao) (aa (aM (ix.nm 0) ao) aj)) (ix.d 1) (ix.g 1)) ao))))))) EV
theorem nh:bD (KX w.params) mg "parts_dot" "parts_dot" i8 ["parts","row"] 282 (Hd.fd i8 "parts_dot" "parts_dot" g8 281):=Hd.h9 e.X e.G (by kernel_rfl) fun _ _ _ _ _ _ _ _=>rfl
theorem qP:bh PW w (KX w.params) mg base cz 4 282 (Hd.fd i8 "parts_dot" "parts_dot" g8 281) ["parts","row"] (cG ko):=by
 have B:=Bt e;have Q:=Qt e
 exact bH (N:=nc) (nh e).fn mv (fun cdv A outer s H E hr=>(aq (aR mv.nd (cU.l 2) (aN (pf e) (sf e) (hr.mono (by decide)) (aa ao aj) (cU.d 0) (cU.g 0)))
  (aq (ij (qf (cU.g 1) B.qG (aa (cU.nm 0) (aa (cU.nm 1) aj))) (l7 rfl mv.nd (by first|exact Or.inl rfl|exact Or.inr rfl) (by first|exact .inl rfl|exact .inr rfl) (by first|exact Or.inl rfl|exact Or.inr rfl) (by first|exact .inl rfl|exact .inr rfl)) (az (aR mv.nd (cU.l 2) (aN (F9 e) (MQ e) (hr.mono (by decide)) (aa (cU.nm 2) (aa (aN (DL e) (Lh e) (hr.mono (by decide)) (aa (cU.nm 3) (aa (aN (pf e) (sf e) (hr.mono (by decide)) (aa (cU.nm 4) aj) (cU.d 0) (cU.g 0)) aj)) (cU.d 2) (cU.g 2)) aj)) (cU.d 3) (cU.g 3)))))
  (az (aL (cU.nm 2)))))) Cn
theorem wc:bD (KX w.params) mg "bottom_at" "bottom_at" i_ ["form","rest","place"] 289 (Hd.fd i_ "bottom_at" "bottom_at" g8 288):=Hd.uw e.X e.G (by kernel_rfl) fun _ _ _ _ _ _ _ _ _=>rfl
theorem C0:bh PW w (KX w.params) mg base cz 2 289 (Hd.fd i_ "bottom_at" "bottom_at" g8 288) ["form","rest","place"] (cG qM):=by
 have B:=Bt e;have Q:=Qt e
 exact bH (N:=ny) (wc e).fn u4 (fun cdv A outer s H E hr=>(aq (ij (e_ (eA.nm 0)) (eC u4.nd (by first|exact Or.inl rfl|exact Or.inr rfl) (by first|exact .inl rfl|exact .inr rfl)) (az (cP (bJ (eQ hr) (aZ _) (aN (jL e) (lH e) (hr.mono (by decide)) (aa (eA.nm 3) aj) (eA.d 0) (eA.g 0)) (eA.nm 2)) (az (aL (aM (eA.nm 3) (eA.nm 2)))) bX)))
  (az (aL (a5 dh ao (cV yg (aa (aM (eA.nm 1) (eA.nm 2)) aj) B.x5 rfl uE (eA.d 1) (eA.g 1))))))) Cv
theorem qr:bD (KX w.params) mg "parts_against" "parts_against" fF ["form","rest"] 296 (Hd.fd fF "parts_against" "parts_against" g8 295):=Hd.h9 e.X e.G (by kernel_rfl) fun _ _ _ _ _ _ _ _=>rfl
theorem yo:bh PW w (KX w.params) mg base cz 5 296 (Hd.fd fF "parts_against" "parts_against" g8 295) ["form","rest"] (cG mf):=by
 have B:=Bt e;have Q:=Qt e
 exact bH (N:=js) (qr e).fn ff (fun cdv A outer s H E hr=>(aq (aR ff.nd (ax.l 2) (aN (jL e) (lH e) (hr.mono (by decide)) (aa (ax.nm 1) aj) (ax.d 0) (ax.g 0)))
  (aq (aR ff.nd (ax.l 3) (a5 OI (tw (aa (aN (pf e) (sf e) (hr.mono (by decide)) (aa ao aj) (ax.d 1) (ax.g 1)) aj)) (cV c6 (aa (ax.nm 1) aj) B.c8 rfl cO (ax.d 2) (ax.g 2))))
  (aq (eY (aN (rP e) (uP e) (hr.mono (by decide)) (aa ao (aa (aN (wc e) (C0 e) (hr.mono (by decide)) (aa (ax.nm 0) (aa (ax.nm 1) (aa (ax.nm 2) aj))) (ax.d 3) (ax.g 3)) aj)) (ax.d 4) (ax.g 4)) (ax.nm 3) (ax.nm 2))
  (aq (ij (Hy (ax.g 5) B.jb (aa (a5 oW (cV c6 (aa (ax.nm 0) aj) B.c8 rfl cO (ax.d 2) (ax.g 2)) ao) (aa (iD ao) (aa (iD ao) aj)))) (eC ff.nd (by first|exact Or.inl rfl|exact Or.inr rfl) (by first|exact .inl rfl|exact .inr rfl)) (aq (aR ff.nd (ax.l 5) (aN (jL e) (lH e) (hr.mono (by decide)) (aa (aM (ax.nm 0) (ax.nm 4)) aj) (ax.d 0) (ax.g 0)))
  (az (cP (bJ tH (aZ _) (ax.nm 5) (ax.nm 2)) (aq (aR ff.nd (ax.l 6) (aN (DY e) (KU e) (hr.mono (by decide)) (aa (aN (pf e) (sf e) (hr.mono (by decide)) (aa ao aj) (ax.d 1) (ax.g 1)) (aa (aN (nh e) (qP e) (hr.mono (by decide)) (aa (ax.nm 3) (aa (aM (ax.nm 0) (ax.nm 4)) aj)) (ax.d 6) (ax.g 6)) aj)) (ax.d 7) (ax.g 7)))
  (az (eY (aN (Hl e) (Oi e) (hr.mono (by decide)) (aa (ax.nm 6) (aa (aN (pf e) (sf e) (hr.mono (by decide)) (aa (aM (aM (ax.nm 0) (ax.nm 4)) (ax.nm 5)) aj) (ax.d 1) (ax.g 1)) aj)) (ax.d 8) (ax.g 8)) (ax.nm 3) (ax.nm 5)))) bX))))
  (az (aL (fA dZ (aa (ax.nm 3) aj) B.dN rfl dg (ax.d 9) (ax.g 9))))))))) wH
theorem Ci:bD (KX w.params) mg "inside" "inside" mQ ["rows","row"] 303 (Hd.fd mQ "inside" "inside" g8 302):=Hd.h9 e.X e.G (by kernel_rfl) fun _ _ _ _ _ _ _ _=>rfl
theorem HW:bh PW w (KX w.params) mg base cz 6 303 (Hd.fd mQ "inside" "inside" g8 302) ["rows","row"] (cG w9):=by
 have B:=Bt e;have Q:=Qt e
 exact bH (N:=tG) (Ci e).fn ql (fun cdv A outer s H E hr=>(aq (aR ql.nd (cv.l 2) (aN (oE e) (tm e) (hr.mono (by decide)) (aa (cv.nm 0) aj) (cv.d 0) (cv.g 0)))
  (aq (aR ql.nd (cv.l 3) (aM (cv.nm 2) ao))
  (aq (aR ql.nd (cv.l 4) (aN (zG e) (FT e) (hr.mono (by decide)) (aa (cv.nm 3) (aa (cv.nm 1) aj)) (cv.d 1) (cv.g 1)))
  (aq (cP (bJ yB (aZ _) (aN (jL e) (lH e) (hr.mono (by decide)) (aa (aM (cv.nm 4) ao) aj) (cv.d 2) (cv.g 2)) qF) (az (aL (gY (aa xH (aa (aN (qr e) (yo e) (hr.mono (by decide)) (aa (cv.nm 3) (aa (aM (cv.nm 4) ao) aj)) (cv.d 3) (cv.g 3)) aj))))) bX)
  (az (aL (gY (aa xH (aa (aN (tj e) (wm e) (hr.mono (by decide)) (aa (aM (cv.nm 4) ao) (aa (lO (aM (cv.nm 2) ao) lG (lz (cV c6 (aa (cv.nm 3) aj) B.c8 rfl cO (cv.d 4) (cv.g 4)))) (aa (cV c6 (aa (cv.nm 0) aj) B.c8 rfl cO (cv.d 4) (cv.g 4)) aj))) (cv.d 5) (cv.g 5)) aj)))))))))) GV
theorem vZ:bD (KX w.params) mg "are_parts" "are_parts" gQ ["thing","many"] 308 (Hd.fd gQ "are_parts" "are_parts" g8 307):=Hd.h9 e.X e.G (by kernel_rfl) fun _ _ _ _ _ _ _ _=>rfl
theorem Df:bh PW w (KX w.params) mg base cz 5 308 (Hd.fd gQ "are_parts" "are_parts" g8 307) ["thing","many"] (cG qW):=by
 have B:=Bt e;have Q:=Qt e;exact bH (N:=nE) (vZ e).fn B8 (fun cdv A outer s H E hr=>(az (aL (kI (aN (hJ e) (j9 e) (hr.mono (by decide)) (aa (gR.nm 0) (aa (gR.nm 1) aj)) (gR.d 0) (gR.g 0)) (kD (cV (xy rfl) (aa (eN (Nc:=["each"]) (bK.look (ai gQ) ["thing","many"] (by decide+kernel)) (e_ (gR.nm 0)) (fun _ _ _ _=>(eC (show(["each"]:List Str).Nodup by decide+kernel) (by first|exact Or.inl rfl|exact Or.inr rfl) (by first|exact .inl rfl|exact .inr rfl))) (fun _ _ _ _=>cQ) (fun _ _ _ _=>(aN (zR e) (He e) (hr.mono (by decide)) (aa c_ aj) (by decide+kernel) rfl)) cS) aj) B.xp rfl uI (gR.d 1) (gR.g 1))))))) Cg
theorem sJ:bD (KX w.params) mg "is_whole" "is_whole" j6 ["one"] 315 (Hd.fd j6 "is_whole" "is_whole" g8 314):=Hd.qi e.X e.G (by kernel_rfl) fun _ _ _ _ _ _ _=>rfl
theorem xX:bh PW w (KX w.params) mg base cz 1 315 (Hd.fd j6 "is_whole" "is_whole" g8 314) ["one"] (cG oO):=by
 have B:=Bt e;have Q:=Qt e;exact bH (N:=oP) (sJ e).fn C3 (fun cdv A outer s H E hr=>(az (aL (jt (eQ hr) (aZ _) (aM (EB.nm 0) ao) ao)))) CW
theorem uO:bD (KX w.params) mg "parts_show" "parts_show" gj ["rows","row","parts"] 320 (Hd.fd gj "parts_show" "parts_show" g8 319):=Hd.uw e.X e.G (by kernel_rfl) fun _ _ _ _ _ _ _ _ _=>rfl
theorem BB:bh PW w (KX w.params) mg base cz 6 320 (Hd.fd gj "parts_show" "parts_show" g8 319) ["rows","row","parts"] (cG pD):=by
 have B:=Bt e;have Q:=Qt e
 exact bH (N:=mi) (uO e).fn As (fun cdv A outer s H E hr=>(aq (cP (jy (sZ (i3 (gF (aN (vZ e) (Df e) (hr.mono (by decide)) (aa (cX.nm 2) (aa (cV c6 (aa (cX.nm 1) aj) B.c8 rfl cO (cX.d 0) (cX.g 0)) aj)) (cX.d 1) (cX.g 1)))) (rJ (gF (aN (sJ e) (xX e) (hr.mono (by decide)) (aa (aN (nh e) (qP e) (hr.mono (by decide)) (aa (cX.nm 2) (aa (cX.nm 1) aj)) (cX.d 2) (cX.g 2)) aj) (cX.d 3) (cX.g 3)))))) (az (aL gM)) bX)
  (az (aL (cV (xy rfl) (aa (eN (Nc:=["each","parts"]) (bK.look (ai gj) ["rows","row","parts"] (by decide+kernel)) (e_ (cX.nm 0)) (fun _ _ _ _=>(eC (show(["each","parts"]:List Str).Nodup by decide+kernel) (by first|exact Or.inl rfl|exact Or.inr rfl) (by first|exact .inl rfl|exact .inr rfl))) (fun _ _ _ _=>cQ) (fun _ _ _ _=>(aN (sJ e) (xX e) (hr.mono (by decide)) (aa (aN (nh e) (qP e) (hr.mono (by decide)) (aa c_ (aa c_ aj)) (by decide+kernel) rfl) aj) (by decide+kernel) rfl)) cS) aj) B.xp rfl uI (cX.d 4) (cX.g 4)))))) Ak
theorem rl:bD (KX w.params) mg "weights_show" "weights_show" f_ ["rows","row","weights"] 327 (Hd.fd f_ "weights_show" "weights_show" g8 326):=Hd.uw e.X e.G (by kernel_rfl) fun _ _ _ _ _ _ _ _ _=>rfl
theorem ze:bh PW w (KX w.params) mg base cz 4 327 (Hd.fd f_ "weights_show" "weights_show" g8 326) ["rows","row","weights"] (cG m6):=by
 have B:=Bt e;have Q:=Qt e;exact bH (N:=jZ) (rl e).fn ym (fun cdv A outer s H E hr=>(az (aL (kI (aN (kF e) (ot e) (hr.mono (by decide)) (aa (cm.nm 2) (aa (cV c6 (aa (cm.nm 0) aj) B.c8 rfl cO (cm.d 0) (cm.g 0)) aj)) (cm.d 1) (cm.g 1)) (kD (jt (eQ hr) (aZ _) (aN (tj e) (wm e) (hr.mono (by decide)) (aa (cm.nm 2) (aa (cm.nm 0) (aa (cV c6 (aa (cm.nm 1) aj) B.c8 rfl cO (cm.d 0) (cm.g 0)) aj))) (cm.d 2) (cm.g 2)) (fA dZ (aa (cm.nm 1) aj) B.dN rfl dg (cm.d 3) (cm.g 3)))))))) xR
theorem rB:bD (KX w.params) mg "shows_inside" "shows_inside" f9 ["rows","row","told"] 334 (Hd.fd f9 "shows_inside" "shows_inside" g8 333):=Hd.uw e.X e.G (by kernel_rfl) fun _ _ _ _ _ _ _ _ _=>rfl
theorem yF:bh PW w (KX w.params) mg base cz 7 334 (Hd.fd f9 "shows_inside" "shows_inside" g8 333) ["rows","row","told"] (cG mZ):=by
 have B:=Bt e;have Q:=Qt e
 exact bH (N:=ka) (rB e).fn yi (fun cdv A outer s H E hr=>(aq (cP (i3 (gF (aN (hJ e) (j9 e) (hr.mono (by decide)) (aa (cF.nm 2) (aa ao aj)) (cF.d 0) (cF.g 0)))) (az (aL gM)) bX)
  (aq (cP (bJ (eQ hr) (aZ _) (aM (cF.nm 2) ao) xH) (az (aL (aN (rl e) (ze e) (hr.mono (by decide)) (aa (cF.nm 0) (aa (cF.nm 1) (aa (aM (cF.nm 2) ao) aj))) (cF.d 1) (cF.g 1)))) bX)
  (az (aL (kI (jt (eQ hr) (aZ _) (aM (cF.nm 2) ao) xH) (kD (aN (uO e) (BB e) (hr.mono (by decide)) (aa (cF.nm 0) (aa (cF.nm 1) (aa (aM (cF.nm 2) ao) aj))) (cF.d 2) (cF.g 2))))))))) xv
theorem xw:bD (KX w.params) mg "_law_hand" "_law_hand" iG ["_law_script"] 339 (Hd.fd iG "_law_hand" "_law_hand" fb 338):=Hd.qi e.X e.G (by kernel_rfl) fun _ _ _ _ _ _ _=>rfl
theorem Er:bh PW w (KX w.params) mg base cz 1 339 (Hd.fd iG "_law_hand" "_law_hand" fb 338) ["_law_script"] (cG sS):=by
 have B:=Bt e;have Q:=Qt e;exact bH (N:=oR) (xw e).fn CS (fun cdv A outer s H E hr=>(az (aL (EE (aa (eN (Nc:=["_law_cell"]) (bK.look (ai iG) ["_law_script"] (by decide+kernel)) (e_ (lO (Ew.nm 0) lG (lz ao))) (fun _ _ _ _=>(eC (show(["_law_cell"]:List Str).Nodup by decide+kernel) (by first|exact Or.inl rfl|exact Or.inr rfl) (by first|exact .inl rfl|exact .inr rfl))) (fun _ _ _ _=>cQ) (fun _ _ _ _=>(cV yg (aa c_ aj) B.x5 rfl uE (by decide+kernel) rfl)) cS) (aa ao (aa ao (aa ao aj)))))))) CZ
theorem cx:bD (KX w.params) mg "_law_draw" "_law_draw" j7 ["_law_hand_here","_law_many"] 346 (Hd.fd j7 "_law_draw" "_law_draw" fb 345):=Hd.h9 e.X e.G (by kernel_rfl) fun _ _ _ _ _ _ _ _=>rfl
theorem cJ:bh PW w (KX w.params) mg base cz 1 346 (Hd.fd j7 "_law_draw" "_law_draw" fb 345) ["_law_hand_here","_law_many"] (cG b_):=by
 have B:=Bt e;have Q:=Qt e
 exact bH (N:=oB) (cx e).fn gK (fun cdv A outer s H E hr=>(aq (eY (a5 dP (aM (aS.nm 0) ao) ao) (aS.nm 0) ao)
  (aq (cP (bJ (eQ hr) (aZ _) (aM (aS.nm 0) ao) ao) (aq (aR gK.nd (aS.l 2) ao)
  (aq (cP (bJ wC (aZ _) (cV c6 (aa (aM (aS.nm 0) ao) aj) B.c8 rfl cO (aS.d 0) (aS.g 0)) ao) (az (aR gK.nd (aS.l 2) (aM (aM (aS.nm 0) ao) (a5 oU (aM (aS.nm 0) ao) (cV c6 (aa (aM (aS.nm 0) ao) aj) B.c8 rfl cO (aS.d 0) (aS.g 0)))))) bX)
  (aq (eY (a5 dP (aM (aS.nm 0) ao) ao) (aS.nm 0) ao)
  (aq (cP (jy (sZ (bJ tH (aZ _) (aS.nm 2) (a5 AD ao ao)) (rJ (bJ wC (aZ _) (aM (aS.nm 0) ao) (cV c6 (aa (aM (aS.nm 0) ao) aj) B.c8 rfl cO (aS.d 0) (aS.g 0)))))) (aq (aR gK.nd (aS.l 3) (a5 dP (a5 dP (a5 oU (aS.nm 2) ao) (a5 dh ao (aM (aS.nm 0) ao))) ao))
  (aq (aR gK.nd (aS.l 3) (a5 oU (a5 dh (aS.nm 3) (a5 dP ao (a5 dh ao (aM (aS.nm 0) ao)))) ao))
  (aq (aR gK.nd (aS.l 4) (a5 oU (a5 dP (a5 dh (aS.nm 3) (a5 dP (a5 oU (aS.nm 3) ao) (aM (aS.nm 0) ao))) (a5 dh ao (aM (aS.nm 0) ao))) ao))
  (az (aL (a5 oU (a5 AZ (aS.nm 4) ao) (aS.nm 1))))))) bX)
  (az (eY (aS.nm 2) (aS.nm 0) ao)))))) bX)
  (aq (aR gK.nd (aS.l 5) (a5 oU (aM (aS.nm 0) ao) (aS.nm 1)))
  (aq (eY (a5 AZ (aM (aS.nm 0) ao) (aS.nm 1)) (aS.nm 0) ao)
  (az (aL (aS.nm 5)))))))) C7
theorem u6:bD (KX w.params) mg "_law_number" "_law_number" h_ ["_law_hand_here","_law_kind"] 353 (Hd.fd h_ "_law_number" "_law_number" fb 352):=Hd.h9 e.X e.G (by kernel_rfl) fun _ _ _ _ _ _ _ _=>rfl
theorem Bv:bh PW w (KX w.params) mg base cz 2 353 (Hd.fd h_ "_law_number" "_law_number" fb 352) ["_law_hand_here","_law_kind"] (cG lZ):=by
 have B:=Bt e;have Q:=Qt e
 exact bH (N:=mE) (u6 e).fn tV (fun cdv A outer s H E hr=>(aq (cP (bJ (eQ hr) (aZ _) (cC.nm 1) ao) (aq (aR tV.nd (cC.l 2) (a5 dP (a5 dh (aN (cx e) (cJ e) (hr.mono (by decide)) (aa (cC.nm 0) (aa (a5 AD ao ao) aj)) (cC.d 0) (cC.g 0)) (a5 AD ao ao)) (aN (cx e) (cJ e) (hr.mono (by decide)) (aa (cC.nm 0) (aa (a5 AD ao ao) aj)) (cC.d 0) (cC.g 0))))
  (az (aL (a5 dh (cC.nm 2) (aM (tw (aa ao (aa (iD ao) (aa ao aj)))) (aN (cx e) (cJ e) (hr.mono (by decide)) (aa (cC.nm 0) (aa ao aj)) (cC.d 0) (cC.g 0))))))) bX)
  (az (aL (aM (tw (aa ao (aa ao (aa (iD ao) (aa (a5 oW (aN (cx e) (cJ e) (hr.mono (by decide)) (aa (cC.nm 0) (aa ao aj)) (cC.d 0) (cC.g 0)) ao) aj))))) (aN (cx e) (cJ e) (hr.mono (by decide)) (aa (cC.nm 0) (aa ao aj)) (cC.d 0) (cC.g 0))))))) Aq
theorem tu:bD (KX w.params) mg "_law_rows" "_law_rows" fS ["_law_hand_here","_law_many","_law_wide","_law_kind"] 358 (Hd.fd fS "_law_rows" "_law_rows" fb 357):=Hd.Sy e.X e.G (by kernel_rfl) fun _ _ _ _ _ _ _ _ _ _=>rfl
theorem xY:bh PW w (KX w.params) mg base cz 3 358 (Hd.fd fS "_law_rows" "_law_rows" fb 357) ["_law_hand_here","_law_many","_law_wide","_law_kind"] (cG l8):=by
 have B:=Bt e;have Q:=Qt e
 exact bH (N:=oF) (tu e).fn fv (fun cdv A outer s H E hr=>(aq (aR fv.nd (aW.l 4) (EE aj))
  (aq (ij (jU (aW.g 0) B.jb (aa (aW.nm 1) aj)) (eC fv.nd (by first|exact Or.inl rfl|exact Or.inr rfl) (by first|exact .inl rfl|exact .inr rfl)) (aq (se fv.nd (aW.l 6) (Nc:=["_law_j","_law_hand_here","_law_kind"]) (bK.look (ai fS) ["_law_hand_here","_law_many","_law_wide","_law_kind","_law_rows_here","_law_k","_law_row","_law_way"] (by decide+kernel)) (jU (aW.g 0) B.jb (aa (aW.nm 2) aj)) (fun _ _ _ _=>(eC (show(["_law_j","_law_hand_here","_law_kind"]:List Str).Nodup by decide+kernel) (by first|exact Or.inl rfl|exact Or.inr rfl) (by first|exact .inl rfl|exact .inr rfl))) (fun _ _ _ _=>cQ) (fun _ _ _ _=>(aN (u6 e) (Bv e) (hr.mono (by decide)) (aa c_ (aa c_ aj)) (by decide+kernel) rfl)) cS)
  (aq (aR fv.nd (aW.l 7) (aN (cx e) (cJ e) (hr.mono (by decide)) (aa (aW.nm 0) (aa ao aj)) (aW.d 1) (aW.g 1)))
  (aq (cP (bJ (eQ hr) (aZ _) (aW.nm 7) ao) (az (aR fv.nd (aW.l 6) (a5 dh (tw (aa ao aj)) (aW.nm 2)))) bX)
  (aq (cP (jy (nS (bJ (eQ hr) (aZ _) (aW.nm 7) ao) (lg (bJ wC (aZ _) (aW.nm 5) ao)))) (az (aR fv.nd (aW.l 6) (fA rQ (aa (aM (aW.nm 4) (a5 oW (aW.nm 5) ao)) aj) B.nK rfl k9 (aW.d 2) (aW.g 2)))) bX)
  (aq (cP (jy (nS (bJ (eQ hr) (aZ _) (aW.nm 7) ao) (lg (bJ wC (aZ _) (aW.nm 5) ao)))) (az (se fv.nd (aW.l 6) (Nc:=["_law_one","_law_other"]) (bK.look (ai fS) ["_law_hand_here","_law_many","_law_wide","_law_kind","_law_rows_here","_law_k","_law_row","_law_way"] (by decide+kernel)) (qf (aW.g 3) B.qG (aa (aM (aW.nm 4) (a5 oW (aW.nm 5) ao)) (aa (aM (aW.nm 4) (a5 oW (aW.nm 5) ao)) aj))) (fun _ _ _ _=>(l7 rfl (show(["_law_one","_law_other"]:List Str).Nodup by decide+kernel) (by first|exact Or.inl rfl|exact Or.inr rfl) (by first|exact .inl rfl|exact .inr rfl) (by first|exact Or.inl rfl|exact Or.inr rfl) (by first|exact .inl rfl|exact .inr rfl))) (fun _ _ _ _=>cQ) (fun _ _ _ _=>(a5 dP c_ c_)) rh)) bX)
  (aq (cP (jy (nS (bJ (eQ hr) (aZ _) (aW.nm 3) ao) (lg (bJ tH (aZ _) (aW.nm 7) ao)))) (az (se fv.nd (aW.l 6) (Nc:=["_law_number_here"]) (bK.look (ai fS) ["_law_hand_here","_law_many","_law_wide","_law_kind","_law_rows_here","_law_k","_law_row","_law_way"] (by decide+kernel)) (e_ (aW.nm 6)) (fun _ _ _ _=>(eC (show(["_law_number_here"]:List Str).Nodup by decide+kernel) (by first|exact Or.inl rfl|exact Or.inr rfl) (by first|exact .inl rfl|exact .inr rfl))) (fun _ _ _ _=>cQ) (fun _ _ _ _=>(a5 oU c_ ao)) cS)) bX)
  (az (lb (zQ (aW.nm 4) (fA dZ (aa (aW.nm 6) aj) B.dN rfl dg (aW.d 4) (aW.g 4))))))))))))
  (az (aL (fA dZ (aa (aW.nm 4) aj) B.dN rfl dg (aW.d 4) (aW.g 4))))))) C1
theorem v9:bD (KX w.params) mg "_law_sizes" "_law_sizes" i4 ["_law_hand_here"] 365 (Hd.fd i4 "_law_sizes" "_law_sizes" fb 364):=Hd.qi e.X e.G (by kernel_rfl) fun _ _ _ _ _ _ _=>rfl
theorem C5:bh PW w (KX w.params) mg base cz 2 365 (Hd.fd i4 "_law_sizes" "_law_sizes" fb 364) ["_law_hand_here"] (cG rg):=by
 have B:=Bt e;have Q:=Qt e
 exact bH (N:=nu) (v9 e).fn CL (fun cdv A outer s H E hr=>(aq (cP (bJ (eQ hr) (aZ _) (aN (cx e) (cJ e) (hr.mono (by decide)) (aa (dc.nm 0) (aa ao aj)) (dc.d 0) (dc.g 0)) ao) (az (aL (gY (aa (a5 dP ao (aN (cx e) (cJ e) (hr.mono (by decide)) (aa (dc.nm 0) (aa ao aj)) (dc.d 0) (dc.g 0))) (aa (a5 dP ao (aN (cx e) (cJ e) (hr.mono (by decide)) (aa (dc.nm 0) (aa ao aj)) (dc.d 0) (dc.g 0))) aj))))) bX)
  (az (aL (gY (aa (a5 dP ao (aN (cx e) (cJ e) (hr.mono (by decide)) (aa (dc.nm 0) (aa ao aj)) (dc.d 0) (dc.g 0))) (aa (a5 dP ao (aN (cx e) (cJ e) (hr.mono (by decide)) (aa (dc.nm 0) (aa ao aj)) (dc.d 0) (dc.g 0))) aj))))))) AS
theorem qC:bD (KX w.params) mg "_law_some_rows" "_law_some_rows" fG ["_law_hand_here","_law_kinds"] 372 (Hd.fd fG "_law_some_rows" "_law_some_rows" fb 371):=Hd.h9 e.X e.G (by kernel_rfl) fun _ _ _ _ _ _ _ _=>rfl
theorem yf:bh PW w (KX w.params) mg base cz 4 372 (Hd.fd fG "_law_some_rows" "_law_some_rows" fb 371) ["_law_hand_here","_law_kinds"] (cG ma):=by
 have B:=Bt e;have Q:=Qt e
 exact bH (N:=ju) (qC e).fn pE (fun cdv A outer s H E hr=>(aq (M9 (aN (v9 e) (C5 e) (hr.mono (by decide)) (aa (cW.nm 0) aj) (cW.d 0) (cW.g 0)) (l7 rfl pE.nd (by first|exact Or.inl rfl|exact Or.inr rfl) (by first|exact .inl rfl|exact .inr rfl) (by first|exact Or.inl rfl|exact Or.inr rfl) (by first|exact .inl rfl|exact .inr rfl)))
  (az (aL (aN (tu e) (xY e) (hr.mono (by decide)) (aa (cW.nm 0) (aa (cW.nm 2) (aa (cW.nm 3) (aa (aN (cx e) (cJ e) (hr.mono (by decide)) (aa (cW.nm 0) (aa (cW.nm 1) aj)) (cW.d 1) (cW.g 1)) aj)))) (cW.d 2) (cW.g 2)))))) wV
theorem rT:bD (KX w.params) mg "_law_mixed_up" "_law_mixed_up" df ["_law_hand_here","_law_rows_here"] 377 (Hd.fd df "_law_mixed_up" "_law_mixed_up" fb 376):=Hd.h9 e.X e.G (by kernel_rfl) fun _ _ _ _ _ _ _ _=>rfl
theorem zl:bh PW w (KX w.params) mg base cz 2 377 (Hd.fd df "_law_mixed_up" "_law_mixed_up" fb 376) ["_law_hand_here","_law_rows_here"] (cG m7):=by
 have B:=Bt e;have Q:=Qt e
 exact bH (N:=j8) (rT e).fn eU (fun cdv A outer s H E hr=>(aq (IH eU.nd (au.l 1) (Nc:=["_law_row"]) (bK.look (ai df) ["_law_hand_here","_law_rows_here","_law_turn","_law_k","_law_other","_law_way","_law_often"] (by decide+kernel)) (e_ (au.nm 1)) (fun _ _ _ _=>(eC (show(["_law_row"]:List Str).Nodup by decide+kernel) (by first|exact Or.inl rfl|exact Or.inr rfl) (by first|exact .inl rfl|exact .inr rfl))) (fun _ _ _ _=>cQ) (fun _ _ _ _=>(fA rQ (aa c_ aj) B.nK rfl k9 (by decide+kernel) rfl)) cS)
  (aq (ij (jU (au.g 1) B.jb (aa (a5 dP ao (aN (cx e) (cJ e) (hr.mono (by decide)) (aa (au.nm 0) (aa ao aj)) (au.d 0) (au.g 0))) aj)) (eC eU.nd (by first|exact Or.inl rfl|exact Or.inr rfl) (by first|exact .inl rfl|exact .inr rfl)) (aq (aR eU.nd (au.l 3) (aN (cx e) (cJ e) (hr.mono (by decide)) (aa (au.nm 0) (aa (cV c6 (aa (au.nm 1) aj) B.c8 rfl cO (au.d 2) (au.g 2)) aj)) (au.d 0) (au.g 0)))
  (aq (aR eU.nd (au.l 4) (aN (cx e) (cJ e) (hr.mono (by decide)) (aa (au.nm 0) (aa (cV c6 (aa (au.nm 1) aj) B.c8 rfl cO (au.d 2) (au.g 2)) aj)) (au.d 0) (au.g 0)))
  (aq (aR eU.nd (au.l 5) (aN (cx e) (cJ e) (hr.mono (by decide)) (aa (au.nm 0) (aa ao aj)) (au.d 0) (au.g 0)))
  (aq (cP (jy (nS (bJ tH (aZ _) (au.nm 5) ao) (lg (bJ yQ (aZ _) (au.nm 3) (au.nm 4))))) (aq (aR eU.nd (au.l 6) (aM (tw (aa ao (aa (iD ao) (aa ao (aa (iD ao) (aa ao aj)))))) (aN (cx e) (cJ e) (hr.mono (by decide)) (aa (au.nm 0) (aa ao aj)) (au.d 0) (au.g 0))))
  (az (zF (eN (Nc:=["_law_one","_law_two","_law_often"]) (bK.look (ai df) ["_law_hand_here","_law_rows_here","_law_turn","_law_k","_law_other","_law_way","_law_often"] (by decide+kernel)) (qf (au.g 3) B.qG (aa (aM (au.nm 1) (au.nm 3)) (aa (aM (au.nm 1) (au.nm 4)) aj))) (fun _ _ _ _=>(l7 rfl (show(["_law_one","_law_two","_law_often"]:List Str).Nodup by decide+kernel) (by first|exact Or.inl rfl|exact Or.inr rfl) (by first|exact .inl rfl|exact .inr rfl) (by first|exact Or.inl rfl|exact Or.inr rfl) (by first|exact .inl rfl|exact .inr rfl))) (fun _ _ _ _=>cQ) (fun _ _ _ _=>(a5 dP c_ (a5 dh c_ c_))) rh) (au.nm 1) (au.nm 3)))) bX)
  (aq (cP (bJ (eQ hr) (aZ _) (au.nm 5) ao) (az (La (au.nm 1) (au.nm 3) (au.nm 1) (au.nm 4) (gY (aa (aM (au.nm 1) (au.nm 4)) (aa (aM (au.nm 1) (au.nm 3)) aj))))) bX)
  (aq (cP (bJ (eQ hr) (aZ _) (au.nm 5) ao) (az (zF (eN (Nc:=["_law_one"]) (bK.look (ai df) ["_law_hand_here","_law_rows_here","_law_turn","_law_k","_law_other","_law_way","_law_often"] (by decide+kernel)) (e_ (aM (au.nm 1) (au.nm 3))) (fun _ _ _ _=>(eC (show(["_law_one"]:List Str).Nodup by decide+kernel) (by first|exact Or.inl rfl|exact Or.inr rfl) (by first|exact .inl rfl|exact .inr rfl))) (fun _ _ _ _=>cQ) (fun _ _ _ _=>(iD c_)) cS) (au.nm 1) (au.nm 3))) bX)
  (az (cP (jy (nS (bJ (eQ hr) (aZ _) (au.nm 5) ao) (lg (bJ tH (aZ _) (cV c6 (aa (au.nm 1) aj) B.c8 rfl cO (au.d 2) (au.g 2)) ao)))) (az (lb (Pp (au.nm 1) (au.nm 3) (eN (Nc:=["_law_one","_law_two"]) (bK.look (ai df) ["_law_hand_here","_law_rows_here","_law_turn","_law_k","_law_other","_law_way","_law_often"] (by decide+kernel)) (qf (au.g 3) B.qG (aa (aM (au.nm 1) (au.nm 3)) (aa (aM (au.nm 1) (au.nm 4)) aj))) (fun _ _ _ _=>(l7 rfl (show(["_law_one","_law_two"]:List Str).Nodup by decide+kernel) (by first|exact Or.inl rfl|exact Or.inr rfl) (by first|exact .inl rfl|exact .inr rfl) (by first|exact Or.inl rfl|exact Or.inr rfl) (by first|exact .inl rfl|exact .inr rfl))) (fun _ _ _ _=>cQ) (fun _ _ _ _=>(a5 oW c_ (a5 dh ao c_))) rh)))) bX)))))))))
  (az (aL (fA dZ (aa (eN (Nc:=["_law_row"]) (bK.look (ai df) ["_law_hand_here","_law_rows_here","_law_turn","_law_k","_law_other","_law_way","_law_often"] (by decide+kernel)) (e_ (au.nm 1)) (fun _ _ _ _=>(eC (show(["_law_row"]:List Str).Nodup by decide+kernel) (by first|exact Or.inl rfl|exact Or.inr rfl) (by first|exact .inl rfl|exact .inr rfl))) (fun _ _ _ _=>cQ) (fun _ _ _ _=>(fA dZ (aa c_ aj) B.dN rfl dg (by decide+kernel) rfl)) cS) aj) B.dN rfl dg (au.d 4) (au.g 4))))))) x_
theorem BR:bD (KX w.params) mg "_law_by" "_law_by" kP ["_law_weights","_law_rows_here","_law_wide"] 382 (Hd.fd kP "_law_by" "_law_by" fb 381):=Hd.uw e.X e.G (by kernel_rfl) fun _ _ _ _ _ _ _ _ _=>rfl
theorem Io:bh PW w (KX w.params) mg base cz 1 382 (Hd.fd kP "_law_by" "_law_by" fb 381) ["_law_weights","_law_rows_here","_law_wide"] (cG wL):=by
 have B:=Bt e;have Q:=Qt e
 exact bH (N:=sV) (BR e).fn qA (fun cdv A outer s H E hr=>(aq (aR qA.nd (fJ.l 3) (a5 dh (tw (aa ao aj)) (fJ.nm 2)))
  (aq (ij (qf (fJ.g 0) B.qG (aa (fJ.nm 0) (aa (fJ.nm 1) aj))) (l7 rfl qA.nd (by first|exact Or.inl rfl|exact Or.inr rfl) (by first|exact .inl rfl|exact .inr rfl) (by first|exact Or.inl rfl|exact Or.inr rfl) (by first|exact .inl rfl|exact .inr rfl)) (az (se qA.nd (fJ.l 3) (Nc:=["_law_left","_law_number_here","_law_weight"]) (bK.look (ai kP) ["_law_weights","_law_rows_here","_law_wide","_law_row","_law_weight","_law_one"] (by decide+kernel)) (qf (fJ.g 0) B.qG (aa (fJ.nm 3) (aa (fJ.nm 5) aj))) (fun _ _ _ _=>(l7 rfl (show(["_law_left","_law_number_here","_law_weight"]:List Str).Nodup by decide+kernel) (by first|exact Or.inl rfl|exact Or.inr rfl) (by first|exact .inl rfl|exact .inr rfl) (by first|exact Or.inl rfl|exact Or.inr rfl) (by first|exact .inl rfl|exact .inr rfl))) (fun _ _ _ _=>cQ) (fun _ _ _ _=>(a5 dP c_ (a5 dh c_ c_))) rh)))
  (az (aL (fA dZ (aa (fJ.nm 3) aj) B.dN rfl dg (fJ.d 1) (fJ.g 1))))))) Gy
theorem tR:bD (KX w.params) mg "_law_product" "_law_product" fI ["_law_one","_law_other","_law_wide"] 387 (Hd.fd fI "_law_product" "_law_product" fb 386):=Hd.uw e.X e.G (by kernel_rfl) fun _ _ _ _ _ _ _ _ _=>rfl
theorem Ao:bh PW w (KX w.params) mg base cz 2 387 (Hd.fd fI "_law_product" "_law_product" fb 386) ["_law_one","_law_other","_law_wide"] (cG ow):=by
 have B:=Bt e;have Q:=Qt e;exact bH (N:=kG) (tR e).fn y9 (fun cdv A outer s H E hr=>(az (aL (fA dZ (aa (eN (Nc:=["_law_row","_law_other","_law_wide"]) (bK.look (ai fI) ["_law_one","_law_other","_law_wide"] (by decide+kernel)) (e_ (oo.nm 0)) (fun _ _ _ _=>(eC (show(["_law_row","_law_other","_law_wide"]:List Str).Nodup by decide+kernel) (by first|exact Or.inl rfl|exact Or.inr rfl) (by first|exact .inl rfl|exact .inr rfl))) (fun _ _ _ _=>cQ) (fun _ _ _ _=>(aN (BR e) (Io e) (hr.mono (by decide)) (aa c_ (aa c_ (aa c_ aj))) (by decide+kernel) rfl)) cS) aj) B.dN rfl dg (oo.d 0) (oo.g 0))))) zg
theorem pU:bD (KX w.params) mg "_law_other_rows" "_law_other_rows" eG ["_law_hand_here","_law_rows_here"] 392 (Hd.fd eG "_law_other_rows" "_law_other_rows" fb 391):=Hd.h9 e.X e.G (by kernel_rfl) fun _ _ _ _ _ _ _ _=>rfl
theorem wA:bh PW w (KX w.params) mg base cz 4 392 (Hd.fd eG "_law_other_rows" "_law_other_rows" fb 391) ["_law_hand_here","_law_rows_here"] (cG kY):=by
 have B:=Bt e;have Q:=Qt e
 exact bH (N:=iK) (pU e).fn fR (fun cdv A outer s H E hr=>(aq (aR fR.nd (ay.l 2) (aN (cx e) (cJ e) (hr.mono (by decide)) (aa (ay.nm 0) (aa ao aj)) (ay.d 0) (ay.g 0)))
  (aq (aR fR.nd (ay.l 3) (aN (cx e) (cJ e) (hr.mono (by decide)) (aa (ay.nm 0) (aa (cV c6 (aa (ay.nm 1) aj) B.c8 rfl cO (ay.d 1) (ay.g 1)) aj)) (ay.d 0) (ay.g 0)))
  (aq (cP (bJ (eQ hr) (aZ _) (ay.nm 2) ao) (az (aL (aN (rT e) (zl e) (hr.mono (by decide)) (aa (ay.nm 0) (aa (ay.nm 1) aj)) (ay.d 2) (ay.g 2)))) bX)
  (aq (cP (bJ (eQ hr) (aZ _) (ay.nm 2) ao) (aq (aR fR.nd (ay.l 4) (a5 dP ao (aN (cx e) (cJ e) (hr.mono (by decide)) (aa (ay.nm 0) (aa ao aj)) (ay.d 0) (ay.g 0))))
  (aq (aR fR.nd (ay.l 5) (fA dZ (aa (eN (Nc:=["_law_one","_law_often"]) (bK.look (ai eG) ["_law_hand_here","_law_rows_here","_law_way","_law_k","_law_often","_law_bigger"] (by decide+kernel)) (e_ (aM (ay.nm 1) (ay.nm 3))) (fun _ _ _ _=>(eC (show(["_law_one","_law_often"]:List Str).Nodup by decide+kernel) (by first|exact Or.inl rfl|exact Or.inr rfl) (by first|exact .inl rfl|exact .inr rfl))) (fun _ _ _ _=>cQ) (fun _ _ _ _=>(a5 dh c_ c_)) cS) aj) B.dN rfl dg (ay.d 3) (ay.g 3)))
  (az (aL (a5 dP (a5 dP (lO (ay.nm 1) lG (lz (ay.nm 3))) (gY (aa (ay.nm 5) aj))) (lO (ay.nm 1) (lz (a5 dP (ay.nm 3) ao)) lG)))))) bX)
  (aq (cP (jy (nS (bJ (eQ hr) (aZ _) (ay.nm 2) ao) (lg (bJ wC (aZ _) (cV c6 (aa (ay.nm 1) aj) B.c8 rfl cO (ay.d 1) (ay.g 1)) ao)))) (az (aL (a5 dP (lO (ay.nm 1) lG (lz (ay.nm 3))) (lO (ay.nm 1) (lz (a5 dP (ay.nm 3) ao)) lG)))) bX)
  (az (aL (aN (tu e) (xY e) (hr.mono (by decide)) (aa (ay.nm 0) (aa (a5 dP ao (aN (cx e) (cJ e) (hr.mono (by decide)) (aa (ay.nm 0) (aa ao aj)) (ay.d 0) (ay.g 0))) (aa (cV c6 (aa (aM (ay.nm 1) ao) aj) B.c8 rfl cO (ay.d 1) (ay.g 1)) (aa ao aj)))) (ay.d 4) (ay.g 4)))))))))) vO
theorem gd:bD (KX w.params) mg "_law_all_inside" "_law_all_inside" fe ["_law_rows_here","_law_others"] 399 (Hd.fd fe "_law_all_inside" "_law_all_inside" fb 398):=Hd.h9 e.X e.G (by kernel_rfl) fun _ _ _ _ _ _ _ _=>rfl
theorem iO:bh PW w (KX w.params) mg base cz 8 399 (Hd.fd fe "_law_all_inside" "_law_all_inside" fb 398) ["_law_rows_here","_law_others"] (cG fi):=by
 have B:=Bt e;have Q:=Qt e
 exact bH (N:=iN) (gd e).fn fO (fun cdv A outer s H E hr=>(aq (aR fO.nd (bN.l 2) gM)
  (aq (ij (e_ (bN.nm 1)) (eC fO.nd (by first|exact Or.inl rfl|exact Or.inr rfl) (by first|exact .inl rfl|exact .inr rfl)) (aq (aR fO.nd (bN.l 4) (aN (Ci e) (HW e) (hr.mono (by decide)) (aa (bN.nm 0) (aa (bN.nm 3) aj)) (bN.d 0) (bN.g 0)))
  (aq (cP (i3 (gF (aN (rB e) (yF e) (hr.mono (by decide)) (aa (bN.nm 0) (aa (bN.nm 3) (aa (bN.nm 4) aj))) (bN.d 1) (bN.g 1)))) (az (aL qF)) bX)
  (az (aR fO.nd (bN.l 2) (kI (bN.nm 2) (kD (jt (eQ hr) (aZ _) (aM (bN.nm 4) ao) xH))))))))
  (az (aL (bN.nm 2)))))) vI
theorem QF:bD (KX w.params) mg "law" "law" nz ["_law_script"] 406 (Hd.fd nz "law" "law" fb 405):=Hd.qi e.X e.G (by kernel_rfl) fun _ _ _ _ _ _ _=>rfl
theorem PJ:bh PW w (KX w.params) mg base cz 9 406 (Hd.fd nz "law" "law" fb 405) ["_law_script"] (cG Jp):=by
 have B:=Bt e;have Q:=Qt e
 exact bH (N:=Ay) (QF e).fn kn (fun cdv A outer s H E hr=>(aq (aR kn.nd (aY.l 1) (aN (xw e) (Er e) (hr.mono (by decide)) (aa (aY.nm 0) aj) (aY.d 0) (aY.g 0)))
  (aq (aR kn.nd (aY.l 2) (aN (qC e) (yf e) (hr.mono (by decide)) (aa (aY.nm 1) (aa ao aj)) (aY.d 1) (aY.g 1)))
  (aq (aR kn.nd (aY.l 3) (aN (pU e) (wA e) (hr.mono (by decide)) (aa (aY.nm 1) (aa (aY.nm 2) aj)) (aY.d 2) (aY.g 2)))
  (aq (MT kn.nd (by decide) (show(ai nz).names.lookup ("_law_one":Str)=some .local by decide+kernel) (show(ai nz).names.lookup ("_law_other":Str)=some .local by decide+kernel) (aa (aN (oE e) (tm e) (hr.mono (by decide)) (aa (aY.nm 2) aj) (aY.d 3) (aY.g 3)) (aa (aN (oE e) (tm e) (hr.mono (by decide)) (aa (aY.nm 3) aj) (aY.d 3) (aY.g 3)) aj)))
  (aq (aR kn.nd (aY.l 6) (aN (gd e) (iO e) (hr.mono (by decide)) (aa (aY.nm 2) (aa (aY.nm 3) aj)) (aY.d 4) (aY.g 4)))
  (aq (aR kn.nd (aY.l 7) (aN (gd e) (iO e) (hr.mono (by decide)) (aa (aY.nm 3) (aa (aY.nm 2) aj)) (aY.d 4) (aY.g 4)))
  (aq (cP (jy (sZ (bJ HE (aZ _) (aY.nm 6) qF) (rJ (bJ HE (aZ _) (aY.nm 7) qF)))) (az (aL gM)) bX)
  (aq (cP (bJ yQ (aZ _) (jt (eQ hr) (aZ _) (aM (aY.nm 4) ao) (aM (aY.nm 5) ao)) (kI (aY.nm 6) (kD (aY.nm 7)))) (az (aL gM)) bX)
  (aq (cP (bJ yB (aZ _) (aN (gd e) (iO e) (hr.mono (by decide)) (aa (aY.nm 2) (aa (aM (aY.nm 4) ao) aj)) (aY.d 4) (aY.g 4)) gM) (az (aL gM)) bX)
  (aq (cP (jy (nS (bJ (QI hr) (aZ _) (aM (aY.nm 4) ao) (gY aj)) (lg (bJ yB (aZ _) (aN (gd e) (iO e) (hr.mono (by decide)) (aa (aM (aY.nm 4) ao) (aa (aY.nm 2) aj)) (aY.d 4) (aY.g 4)) gM)))) (az (aL gM)) bX)
  (aq (aR kn.nd (aY.l 8) (cV c6 (aa (aM (aY.nm 2) ao) aj) B.c8 rfl cO (aY.d 5) (aY.g 5)))
  (aq (aR kn.nd (aY.l 9) (a5 dh (gY (aa (a5 dh (gY (aa ao aj)) (aY.nm 8)) aj)) (a5 oW (cV c6 (aa (aY.nm 3) aj) B.c8 rfl cO (aY.d 5) (aY.g 5)) (cV c6 (aa (aM (aY.nm 4) ao) aj) B.c8 rfl cO (aY.d 5) (aY.g 5)))))
  (aq (aR kn.nd (aY.l 10) (kI (jt (eQ hr) (aZ _) (cV c6 (aa (aY.nm 2) aj) B.c8 rfl cO (aY.d 5) (aY.g 5)) (cV c6 (aa (aY.nm 3) aj) B.c8 rfl cO (aY.d 5) (aY.g 5))) (kD (jt (eQ hr) (aZ _) (aN (tR e) (Ao e) (hr.mono (by decide)) (aa (aM (aY.nm 4) ao) (aa (aY.nm 3) (aa (aY.nm 8) aj))) (aY.d 6) (aY.g 6)) (a5 dP (aM (aY.nm 4) ao) (aY.nm 9))))))
  (az (aL (jt (eQ hr) (aZ _) (aN (pV e) (w_ e) (hr.mono (by decide)) (aa (aY.nm 3) (aa (aY.nm 4) aj)) (aY.d 7) (aY.g 7)) (aY.nm 10)))))))))))))))))) Nj
end
def dL:DefRec:=match nz with
 | .FunctionDef n a b _ _ _ sc _ _ pos=>⟨n,a,b,sc,pos⟩
 |_=>⟨"",L2.jY (.Pass ⟨0,0,0,0⟩),[],L2.ai (.Pass ⟨0,0,0,0⟩),⟨0,0,0,0⟩⟩
theorem Jl:PySem.Challenge.rw_latticeworks_k19_whole_same_sums.wellSaid=true:=by decide+kernel
end Row
open PySem PySem.W PyProof.Rows
set_option maxRecDepth 100000 in
set_option maxHeartbeats 0 in
theorem PySem.Challenge.cw_latticeworks_k19_whole_same_sums_holds : PySem.Challenge.rw_latticeworks_k19_whole_same_sums.Holds := by
 refine PySem.W.holds_law Row.Jl fun Jl=>?_;refine PySem.W.holds_open (r:=PySem.Challenge.rw_latticeworks_k19_whole_same_sums.row) (q:=PySem.W.view Row.PW [1,2,3,4,6,7,8,9,10,11,12,13,14,15,16,17,19,20,21,22,23,24,25,26,27,29,30,31,32,33,34,35,36,38,39,40,41,42,43,44,45,46,48,49,50,51,52,53,54,55,56,57,58,59]) (loose:=[]) (Xt:=fun _=>true) (XP:=fun _ _=>True) (YP:=(PySem.W.kmHook Row.KX Row.KA (fun _=>rfl) [174]).says) (d:=Row.dL) (kwd:=[]) Row.left ((PySem.W.kmHook Row.KX Row.KA (fun _=>rfl) [174]).of) ((PySem.W.kmHook Row.KX Row.KA (fun _=>rfl) [174]).keeps) (fun _ _=>trivial) (fun _ _ _ _ _=>trivial) (by kernel_rfl) (by kernel_rfl) (by kernel_rfl) (fun s _=>PySem.W.recFacts_of (R:=[]) rfl) (by kernel_rfl) Jl (by decide+kernel) ⟨rfl,rfl,rfl,rfl,rfl,by decide+kernel⟩ ?hw ?hc;case hw=>w_witness2
 refine L2.Qo (n:=63) (k:=9) (x:="_law_script") (ts:=[(176,174)]) (K:=Row.KX) (sp:=fun w=>L3.FY (Row.KX w.params) [(176,174)]) rfl (by decide) (by kernel_rfl) ⟨rfl,by decide,by decide⟩ (by kernel_rfl) rfl (fun w h Y=>⟨PySem.W.km_in_of Y,⟨(fun q hq=>by rcases List.mem_cons.mp hq with rfl|hq;kernel_rfl;cases hq),(fun q hq=>by rcases List.mem_cons.mp hq with rfl|hq;kernel_rfl;cases hq),fun q hq=>PySem.W.km_tabs_of Y _ (List.mem_map_of_mem (f:=Prod.snd) hq)⟩⟩) ?F fun _ _ a ns hl hE=>⟨a,ns,rfl,hE,hl,fun _=>rfl⟩
 intro w mg fa h X G hmg;have e2:=hmg.symm.trans (PySem.W.mg_of (v:= .ref 406) X G (by kernel_rfl));cases e2;exact⟨Hd.fd Row.nz "law" "law" Row.fb 405,fun s v=> .of_eq rfl,fun base _ _=>(Row.PJ ⟨X,G⟩).imp fun vs H Q E h=>L3.Ho (tl:=[(174,⟨97,32,97,66⟩,"Bench.live_rows.<locals>.<lambda>")]) (by kernel_rfl) rfl (by decide) h⟩
