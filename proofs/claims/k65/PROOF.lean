import PyProof.Rows.All
import Wide.All
import OpenK.AllK
import Wide.FinOn
import Lean
import PyProof.EqAt
import PyProof.EqKinds
import PyProof.TupleCall
import PyProof.NeKinds
import KE.KUnpack
import PySem.Challenge.RW_latticeworks_k65_flat_spaces
set_option Elab.async false
set_option linter.all false
set_option maxRecDepth 100000
namespace L2
open PySem PySem.Spec PyProof.Rows
abbrev Key:=Sum Int Str
def GH:Key->Value->Bool
 | .inl k,v=>Value.isInt k v
 | .inr x,v=>Value.isStrOf x v
def Pu(w:World):Key->Int
 | .inl k=>hashInt k
 | .inr x=>hashStr w x
theorem eO:∀ {k:Key} {v:Value},GH k v=true->(∃i t,k=Sum.inl i/\v=Value.int i t)\/(∃x t,k=Sum.inr x/\v=Value.str x t)
 | .inl i,v,h=>by
   obtain⟨t,e⟩:=Value.isInt_shape (k:=i) (v:=v) h;exact .inl ⟨i,t,rfl,e⟩
 | .inr x,v,h=>by
   obtain⟨t,e⟩:=Value.isStrOf_shape (x:=x) (v:=v) h;exact .inr ⟨x,t,rfl,e⟩
theorem Mz(a b:Int):decide ((Sum.inl a:Key)=Sum.inl b)=(a==b):=by
 by_cases e:a=b
 . subst e;simp
 . have h:¬(Sum.inl a:Key)=Sum.inl b:=fun q=>e (Sum.inl.inj q);rw[decide_eq_false h];exact(beq_eq_false_iff_ne.mpr e).symm
theorem Lj(a b:Str):decide ((Sum.inr a:Key)=Sum.inr b)=decide (a=b):=by
 by_cases e:a=b
 . subst e;simp
 . have h:¬(Sum.inr a:Key)=Sum.inr b:=fun q=>e (Sum.inr.inj q);rw[decide_eq_false h,decide_eq_false e]
theorem MA(a:Int)(b:Str):decide ((Sum.inl a:Key)=Sum.inr b)=false:=decide_eq_false (fun q=>nomatch q)
theorem JU(a:Str)(b:Int):decide ((Sum.inr a:Key)=Sum.inl b)=false:=decide_eq_false (fun q=>nomatch q)
def AR(prog:Program)(w:World):PySem.KeyKind prog w Key where
 is:=GH
 hash:=Pu w
 inj:=fun v a b ha hb=>by
  rcases eO ha with⟨i,t,rfl,rfl⟩|⟨x,t,rfl,rfl⟩
  . rcases eO hb with⟨j,u,rfl,e⟩|⟨y,u,rfl,e⟩
    . injection e with e1 _;rw[e1]
    . exact nomatch e
  . rcases eO hb with⟨j,u,rfl,e⟩|⟨y,u,rfl,e⟩
    . exact nomatch e
    . injection e with e1 _;rw[e1]
 byValue:=fun k v h=>by
  rcases eO h with⟨i,t,rfl,rfl⟩|⟨x,t,rfl,rfl⟩<;>rfl
 pyHash:=fun hv h=>by
  rcases eO hv with⟨i,t,rfl,rfl⟩|⟨x,t,rfl,rfl⟩
  . exact wpAny_pyHash_int h
  . exact wpAny_pyHash_str h
 eqBool:=fun hu hv h=>by
  rcases eO hu with⟨i,t,rfl,rfl⟩|⟨x,t,rfl,rfl⟩
  . rcases eO hv with⟨j,u,rfl,rfl⟩|⟨y,u,rfl,rfl⟩
    . rw[Mz]at h;exact wpAny_eqBool_int h
    . rw[MA]at h;exact SeqAt.EqAt.int_str i t y u _ _ _ _ h
  . rcases eO hv with⟨j,u,rfl,rfl⟩|⟨y,u,rfl,rfl⟩
    . rw[JU]at h;exact SeqAt.EqAt.str_int x t j u _ _ _ _ h
    . rw[Lj]at h;exact wpAny_eqBool_str h
 «strs» :=fun k x t v h=>by
  rcases eO h with⟨i,u,rfl,e⟩|⟨y,u,rfl,e⟩
  . exact nomatch e
  . injection e with e1 _;subst e1;cases v<;>rfl
inductive V where
 |aH|bl (b:Bool)|int (i:Int)|str (x:Str)|tj (b:Array UInt8)|sT (b:UInt64)|ref (a:Addr)|ty (n:String)
 deriving DecidableEq
def RelV:V->Value->Prop
 | .aH,u=>u=Value.none
 | .bl b,u=>u=Value.bool b
 | .int i,u=>∃t,u=Value.int i t
 | .str x,u=>∃t,u=Value.str x t
 | .tj b,u=>∃t,u=Value.bytes b t
 | .sT b,u=>∃t,u=Value.float b t
 | .ref a,u=>u=Value.ref a
 | .ty n,u=>u=Value.type n
abbrev Vals:List V->List Value->Prop:=Paired RelV
theorem Vals.length{xs:List V}{us:List Value}(r:Vals xs us):xs.length=us.length:=Paired.length r
theorem Vals.get:∀ {xs:List V} {us:List Value} {i:Nat} {x:V},Vals xs us->xs[i]?=some x->∃u,us[i]?=some u/\RelV x u
 |_,_,_,_,.nil,e=>by simp at e
 |_,_,0,_,.cons r _,e=>by simp at e;subst e;exact⟨_,rfl,r⟩
 |_,_,i+1,x,.cons _ t,e=>by
  obtain⟨u,h1,h2⟩:=Vals.get (i:=i) (x:=x) t (by simpa using e);exact⟨u,by simpa using h1,h2⟩
theorem Vals.set{x:V}{u:Value}(r:RelV x u):∀ {xs:List V} {us:List Value} (i:Nat),Vals xs us->Vals (xs.set i x) (us.set i u)
 |_,_,_,.nil=> .nil
 |_,_,0,.cons _ t=> .cons r t
 |_,_,i+1,.cons q t=> .cons q (Vals.set r i t)
theorem Vals.append:∀ {xs ys:List V} {us ws:List Value},Vals xs us->Vals ys ws->Vals (xs++ys) (us++ws)
 |_,_,_,_,.nil,s=>s
 |_,_,_,_,.cons r t,s=> .cons r (Vals.append t s)
theorem Vals.take:∀ {xs:List V} {us:List Value} (n:Nat),Vals xs us->Vals (xs.take n) (us.take n)
 |_,_,0,_=> .nil
 |_,_,_+1,.nil=> .nil
 |_,_,n+1,.cons r t=> .cons r (Vals.take n t)
theorem Vals.drop:∀ {xs:List V} {us:List Value} (n:Nat),Vals xs us->Vals (xs.drop n) (us.drop n)
 |_,_,0,r=>r
 |_,_,_+1,.nil=> .nil
 |_,_,n+1,.cons _ t=>Vals.drop n t
def oC:Option V->Option Value->Prop
 |some v,some u=>RelV v u
 |none,none=>True
 |_,_=>False
def KV{κ:Type}:List (κ×V)->List (κ×Value)->Prop:=Paired fun(p:κ×V) (q:κ×Value)=>p.1=q.1/\RelV p.2 q.2
def kV:Key->V
 | .inl i=> .int i
 | .inr x=> .str x
inductive HO where
 |lst (xs:List V)
 |tup (xs:List V)
 |dK (kvs:List (Key×V))|dT (kvs:List (List Key×V))
 |set (S:Int->Bool) (n:Nat)
 |ins (C dx:Addr) (fs:List (Str×V))
 |own (x:Addr)
 |xd (fs:List (Str×V))
 |met (f x:Addr)
 |KG (lo hi:Int)
 |eQ (o:Obj) (u:HO)
 |jJ (ps:Array Value)
 |ext (φ:Heap->Prop)
abbrev Hp:=Addr->Option HO
def upd(H:Hp)(a:Addr)(o:HO):Hp:=fun b=>if b=a then some o else H b
theorem aY{H:Hp}{a:Addr}{o:HO}:upd H a o a=some o:=by unfold upd;rw[if_pos rfl]
theorem az{H:Hp}{a b:Addr}{o:HO}(h:b≠a):upd H a o b=H b:=by unfold upd;rw[if_neg h]
theorem Ia{H:Hp}{a:Addr}{o u:HO}:upd (upd H a o) a u=upd H a u:=by
 funext b;unfold upd;split<;>rfl
theorem dm{H:Hp}{a b:Addr}{o:HO}(h:H a=some o)(h':H b=none):a≠b:=by
 intro e;subst e;rw[h]at h';cases h'
section
variable (P:Program)(w:World)
def dh(H:Hp)(h:Heap)(a:Addr):HO->Prop
 | .lst xs=>xs.length<=sizeLine/\∃(its:List Value) (n:Nat),Vals xs its/\h.get? a=some {cls:= .type "list",data:= .seq its.toArray n}
 | .tup xs=>xs.length<=sizeLine/\∃its:List Value,Vals xs its/\IsTup h a its.toArray
 | .dK kvs=>kvs.length<=sizeLine/\(a==sysModules)=false/\∃vs,KV kvs vs/\h.DictOf (AR P w) a vs
 | .dT kvs=>kvs.length<=sizeLine/\(a==sysModules)=false/\∃xs:List (List Key×Addr×Value),
    Paired (fun(p:List Key×V) (q:List Key×Addr×Value)=>p.1=q.1/\H q.2.1=some (.tup (p.1.map kV))/\RelV p.2 q.2.2) kvs xs/\
    ∃o es ep,h.get? a=some o/\o.ExactDict/\o.data= .dict es ep/\es.toList=xs.map (entryOfKey (tupleKind (AR P w)))/\(xs.map (·.1)).Nodup
 | .set S n=>h.SetOf (intKind P w) a S n
 | .ins C dx fs=>H dx=some (.own a)/\fs.length<=1000/\dx≠a/\h.get? a=some (PySem.W.instObj C dx)/\
    ∃mA,h.Ns1 dx mA/\(∀f,oC (fs.lookup f) (mA f))/\PySem.Within mA (fs.map (·.1))
 | .own _=>∃o,h.get? a=some o
 | .xd fs=>∃mA,h.Ns1 a mA/\∀f,oC (fs.lookup f) (mA f)
 | .KG lo hi=>∃t u v,h.get? a=some {cls:= .type "range",data:= .fields #[.int lo t,.int hi u,.int 1 v]}
 | .eQ o u=>h.get? a=some o/\dh H h a u
 | .jJ ps=>h.get? a=some {cls:= .none,data:= .fields ps}
 | .met f x=>h.get? a=some (PySem.W.methodObj (.ref f) (.ref x))
 | .ext φ=>φ h/\(∃o,h.get? a=some o)/\∀h1 h2:Heap,φ h1->(∀o,h1.get? a=some o->h2.get? a=some o)->φ h2
def gX(H:Hp)(h:Heap):Prop:=∀a o,H a=some o->dh P w H h a o
end
section
variable {P:Program}{w:World}{H H':Hp}{h h':Heap}{a:Addr}{o:HO}
theorem dh.lt(x:dh P w H h a o):a<h.objs.size:=by
 cases o with
 |lst xs=>obtain⟨_,_,_,_,e⟩:=x;exact Heap.lt_size e
 |tup xs=>obtain⟨_,_,_,p⟩:=x;exact p.lt
 |dK kvs=>obtain⟨_,_,_,_,o,_,_,e,_⟩:=x;exact Heap.lt_size e
 |dT kvs=>obtain⟨_,_,_,_,o,_,_,e,_⟩:=x;exact Heap.lt_size e
 |set S n=>obtain⟨o,_,_,_,e,_⟩:=x;exact Heap.lt_size e
 |ins C dx fs=>obtain⟨_,_,_,e,_⟩:=x;exact Heap.lt_size e
 |own y=>obtain⟨_,e⟩:=x;exact Heap.lt_size e
 |xd fs=>obtain⟨_,⟨_,_,_,e,_⟩,_⟩:=x;exact Heap.lt_size e
 |KG lo hi=>obtain⟨_,_,_,e⟩:=x;exact Heap.lt_size e
 |eQ ob u=>obtain⟨e,_⟩:=x;exact Heap.lt_size e
 |jJ ps=>exact Heap.lt_size (show h.get? a=some _ from x)
 |met f y=>exact Heap.lt_size (show h.get? a=some _ from x)
 |ext φ=>obtain⟨_,⟨_,e⟩,_⟩:=x;exact Heap.lt_size e
theorem Paired.FJ{α β:Type}{F G:α->β->Prop}:∀ {l₁:List α} {l₂:List β},Paired F l₁ l₂->(∀a b,F a b->G a b)->Paired G l₁ l₂
 |_,_,.nil,_=> .nil
 |_,_,.cons r t,f=> .cons (f _ _ r) (Paired.FJ t f)
theorem dh.oQ(x:dh P w H h a o)(k:∀b u,(b=a\/H b=some (.own a))->h.get? b=some u->h'.get? b=some u)
 (ho:∀b,H b=some (.own a)->H' b=some (.own a)) (ht:∀b xs,H b=some (.tup xs)->H' b=some (.tup xs)):dh P w H' h' a o:=by
 induction o with
 |lst xs=>obtain⟨z,its,n,r,e⟩:=x;exact⟨z,its,n,r,k _ _ (.inl rfl) e⟩
 |tup xs=>obtain⟨z,its,r,ob,e,c⟩:=x;exact⟨z,its,r,ob,k _ _ (.inl rfl) e,c⟩
 |dK kvs=>obtain⟨z,y,vs,r,ob,es,ep,e,c⟩:=x;exact⟨z,y,vs,r,ob,es,ep,k _ _ (.inl rfl) e,c⟩
 |dT kvs=>
  obtain⟨z,y,xs,r,ob,es,ep,e,c⟩:=x;exact⟨z,y,xs,Paired.FJ r fun p q z=>⟨z.1,ht _ _ z.2.1,z.2.2⟩,ob,es,ep,k _ _ (.inl rfl) e,c⟩
 |set S n=>obtain⟨ob,es,ep,t,e,c⟩:=x;exact⟨ob,es,ep,t,k _ _ (.inl rfl) e,c⟩
 |ins C dx fs=>
  obtain⟨d,z,ne,e,mA,⟨od,es,ep,e2,c⟩,r⟩:=x;exact⟨ho _ d,z,ne,k _ _ (.inl rfl) e,mA,⟨od,es,ep,k _ _ (.inr d) e2,c⟩,r⟩
 |own y=>obtain⟨ob,e⟩:=x;exact⟨ob,k _ _ (.inl rfl) e⟩
 |xd fs=>obtain⟨mA,⟨od,es,ep,e,c⟩,r⟩:=x;exact⟨mA,⟨od,es,ep,k _ _ (.inl rfl) e,c⟩,r⟩
 |KG lo hi=>obtain⟨t,u,v,e⟩:=x;exact⟨t,u,v,k _ _ (.inl rfl) e⟩
 |eQ ob u ih=>obtain⟨e,q⟩:=x;exact⟨k _ _ (.inl rfl) e,ih q⟩
 |jJ ps=>
  have e:h.get? a=some {cls:= .none,data:= .fields ps}:=x;show h'.get? a=some {cls:= .none,data:= .fields ps};exact k a _ (.inl rfl) e
 |met f y=>
  have e:h.get? a=some (PySem.W.methodObj (.ref f) (.ref y)):=x;show h'.get? a=some (PySem.W.methodObj (.ref f) (.ref y));exact k a _ (.inl rfl) e
 |ext φ=>obtain⟨p,⟨o,e⟩,st⟩:=x;exact⟨st _ _ p fun o q=>k _ _ (.inl rfl) q,⟨o,k _ _ (.inl rfl) e⟩,st⟩
theorem gX.lt(x:gX P w H h)(e:H a=some o):a<h.objs.size:=(x a o e).lt
theorem gX.fresh(x:gX P w H h)(e:h.objs.size<=a):H a=none:=by
 cases q:H a with
 |none=>rfl
 |some u=>exact absurd (Nat.lt_of_lt_of_le (x.lt q) e) (Nat.lt_irrefl _)
theorem gX.kept(x:gX P w H h)(k:∀b u,h.get? b=some u->h'.get? b=some u):gX P w H h':=fun a o e=>
 (x a o e).oQ (fun b u _ q=>k b u q) (fun _ q=>q) fun _ _ q=>q
theorem gX.laid(x:gX P w H h)(k:∀b u,h.get? b=some u->h'.get? b=some u)(hp:h.objs.size<=a)(new:dh P w (upd H a o) h' a o):gX P w (upd H a o) h':=fun b u e=>by
 have hn:=x.fresh hp;by_cases hb:b=a
 . subst hb;rw[aY]at e;cases e;exact new
 . rw[az hb]at e;exact(x b u e).oQ (fun c v _ q=>k c v q) (fun c q=>by rw[az (dm q hn)];exact q) fun c xs q=>by rw[az (dm q hn)];exact q
end
def Rd(H:Hp)(a:Addr)(u:HO):Prop:=H a=some u\/∃o,H a=some (.eQ o u)
theorem Rd.of{H:Hp}{a:Addr}{u:HO}(h:H a=some u):Rd H a u:= .inl h
theorem Rd.ok{P:Program}{w:World}{H:Hp}{h:Heap}{a:Addr}{u:HO}(r:Rd H a u)(x:gX P w H h):dh P w H h a u:=by
 rcases r with r|⟨o,r⟩
 . exact x a u r
 . obtain⟨_,q⟩:=x a _ r;exact q
def Hy:Option HO->Prop
 |some (.lst _)=>True
 |some (.dK _)=>True
 |some (.dT _)=>True
 |some (.set _ _)=>True
 |some (.ins _ _ _)=>True
 |some (.ext _)=>True
 |_=>False
section
variable {P:Program}{w:World}{H:Hp}{h h':Heap}{x e:Addr}{o':HO}
theorem gX.write(ok:gX P w H h)(mu:Hy (H x))(he:e=x\/H e=some (.own x))(k:∀b u,b≠e->h.get? b=some u->h'.get? b=some u)(heo:∃u,h'.get? e=some u)
 (new:dh P w (upd H x o') h' x o'):gX P w (upd H x o') h':=fun b u q=>by
 have nown:∀c y,H c=some (.own y)->c≠x:=fun c y r z=>by subst z;rw[r]at mu;exact mu
 have ntup:∀c xs,H c=some (.tup xs)->c≠x:=fun c xs r z=>by subst z;rw[r]at mu;exact mu
 by_cases hb:b=x
 . subst hb;rw[aY]at q;cases q;exact new
 . rw[az hb]at q;by_cases hbe:b=e
   . have q':H b=some (.own x):=by
      rcases he with z|z
      . exact absurd (hbe.trans z) hb
      . rw[hbe];exact z
     rw[q]at q';cases q';obtain⟨v,hv⟩:=heo;exact⟨v,by rw[hbe];exact hv⟩
   . refine(ok b u q).oQ (fun c v hc r=>k c v ?_ r) (fun c r=>by rw[az (nown c b r)];exact r) fun c xs r=>by rw[az (ntup c xs r)];exact r
     rcases hc with rfl|hc
     . exact hbe
     . rintro rfl;rcases he with z|z
       . exact nown c b hc z
       . rw[hc]at z;cases z;exact hb rfl
end
structure Un(fs ex:List Addr)(H H':Hp)(h h':Heap):Prop where
 keep:∀b o,h.get? b=some o->H b=none->b∉fs->b∉ex->h'.get? b=some o
 slot:∀b o,h.get? b=some o->H b=none->b∈fs->b∉ex->∃sl,h'.get? b=some {o with slots:=sl}
 free:∀b o,h.get? b=some o->H b=none->b∉ex->H' b=none
 there:∀b o,h.get? b=some o->b∉ex->∃o',h'.get? b=some o'
 oy:∀b xs,H b=some (.tup xs)->H' b=some (.tup xs)
 nK:∀b o u,H b=some (.eQ o u)->H' b=some (.eQ o u)
 nF:∀b ps,H b=some (.jJ ps)->∃more,H' b=some (.jJ (ps++more))
section
variable {fs fs' ex ex':List Addr}{H H1 H2:Hp}{h h1 h2 h':Heap}{a x e:Addr}{o:HO}
theorem Un.any(u:Un fs ex H H1 h h1){b:Addr}{ob:Obj}(q:h.get? b=some ob)(n:H b=none)(hx:b∉ex):∃sl,h1.get? b=some {ob with slots:=sl}:=by
 by_cases hb:b∈fs
 . exact u.slot b ob q n hb hx
 . exact⟨ob.slots,u.keep b ob q n hb hx⟩
theorem Un.kept(k:∀b u,h.get? b=some u->h'.get? b=some u):Un fs ex H H h h':=
 ⟨fun b ob q _ _ _=>k b ob q,fun b ob q _ _ _=>⟨ob.slots,k b ob q⟩,fun _ _ _ n _=>n,fun b ob q _=>⟨ob,k b ob q⟩,fun _ _ q=>q,fun _ _ _ q=>q,fun _ ps q=>⟨#[],by rw[q];simp⟩⟩
theorem Un.refl:Un fs ex H H h h:=Un.kept fun _ _ q=>q
theorem Un.laid(k:∀b u,h.get? b=some u->h'.get? b=some u)(hp:h.objs.size<=a)(hn:H a=none):Un fs ex H (upd H a o) h h' where
 keep:=fun b u q _ _ _=>k b u q
 slot:=fun b u q _ _ _=>⟨u.slots,k b u q⟩
 free:=fun b u q n _=>by rw[az (Nat.ne_of_lt (Nat.lt_of_lt_of_le (Heap.lt_size q) hp))];exact n
 there:=fun b u q _=>⟨u,k b u q⟩
 oy:=fun b xs q=>by rw[az (dm q hn)];exact q
 nK:=fun b u xs q=>by rw[az (dm q hn)];exact q
 nF:=fun b ps q=>⟨#[],by rw[az (dm q hn),q];simp⟩
theorem Un.write(mu:Hy (H x))(he:e=x\/H e=some (.own x))(k:∀b u,b≠e->h.get? b=some u->h'.get? b=some u)(heo:∃u,h'.get? e=some u):Un fs ex H (upd H x o) h h':=by
 have hx:∀b,H b=none->b≠x:=fun b n z=>by subst z;rw[n]at mu;exact mu
 have hb:∀b,H b=none->b≠e:=fun b n z=>by
  subst z;rcases he with r|r
  . exact hx b n r
  . rw[n]at r;cases r
 have hm:∀b u,H b=some u->¬Hy (some u)->b≠x:=fun b u q nm z=>by subst z;rw[q]at mu;exact nm mu
 refine⟨fun b u q n _ _=>k b u (hb b n) q,fun b u q n _ _=>⟨u.slots,k b u (hb b n) q⟩,fun b u q n _=>by rw[az (hx b n)];exact n,fun b u q _=>?_,
  fun b xs q=>by rw[az (hm b _ q fun z=>z)];exact q,fun b u xs q=>by rw[az (hm b _ q fun z=>z)];exact q,fun b ps q=>⟨#[],by rw[az (hm b _ q fun z=>z),q];simp⟩⟩
 by_cases hbe:b=e
 . subst hbe;exact heo
 . exact⟨u,k b u hbe q⟩
end
def G0(h:Heap)(H:Hp):List Addr:=(List.range h.objs.size).filter fun a=>(H a).isSome
def oU(h:Heap)(H:Hp):Heap:=PySem.W.hideAll h (G0 h H)
theorem ES(h:Heap)(H:Hp):(oU h H).objs.size=h.objs.size:=PySem.W.hideAll_size _ _
theorem qi{h:Heap}{H:Hp}{b:Addr}{o:Obj}(e:h.get? b=some o)(n:H b=none):(oU h H).get? b=some o:=
 PySem.W.hideAll_get _ e fun hm=>by
  have q:(H b).isSome=true:=(List.mem_filter.mp hm).2;rw[n]at q;simp at q
theorem Jn{h:Heap}{H:Hp}{b:Addr}{o:Obj}(e:(oU h H).get? b=some o):h.get? b=some o/\H b=none:=by
 have e':h.get? b=some o:=PySem.W.of_hideAll (G0 h H) e;refine⟨e',?_⟩;cases q:H b with
 |none=>rfl
 |some x=>
  have hm:b∈G0 h H:=List.mem_filter.mpr ⟨List.mem_range.mpr (Heap.lt_size e'),by simp[q]⟩;have z:(oU h H).get? b=none:=PySem.W.hideAll_none (G0 h H) hm;rw[z]at e;cases e
def IW(g h:Heap)(L:Addr):List (Addr×Obj):=(List.range h.objs.size).filterMap fun a=>if a=L\/(g.get? a).isSome=true then none else(h.get? a).map fun o=>(a,o)
def rest(g h:Heap)(L d:Addr):List (Addr×Obj):=(IW g h L).filter fun p=>decide (p.1≠d)
structure Mod(K:PySem.W.Frag)(mg:Str->Option Value)(base:Heap):Prop where
 EF:K.In base
 glob:base.Ns mainGlobals mg
 blt:∃mb,base.Ns builtinsNs mb/\∀x:Str,x≠"__name__"->mb x=bootBuiltins x
 nolimit:base.NoLimit
 seer:base.NoSeer
 bmain:∃bm ob,mg "__builtins__"=some (.ref bm)/\bm≠builtinsNs/\base.get? bm=some ob/\ob.cls= .type "module"/\ob.dict=some builtinsNs/\ob.data= .plain
structure Cx where
 prog:Program
 w:World
 K:PySem.W.Frag
 mg:Str->Option Value
 base:Heap
 A:Around
 N:List Str
 s₀:Shared
 H₀:Hp
 env:Env
 outer:List Env
 stack:List Env
 ex:List Addr
 fn:Str->Bool
 calm:Bool
 pn:List (Addr×Obj)
 xe:Value->Shared->Prop
def pe(l:List Env):List Addr:=l.filterMap (·.frame)
abbrev Cx.fs(X:Cx):List Addr:=pe X.outer
def z_(sc:Scope)(x:Str):Prop:=sc.names.lookup x=some .local\/sc.names.lookup x=some .cell\/sc.names.lookup x=some .free
def Loc(sc:Scope)(x:Str):Prop:=sc.names.lookup x=some .local\/sc.names.lookup x=some .cell
def Look(env:Env)(h:Heap)(m:Str->Option Value)(x:Str)(u:Value):Prop:=
 (env.kindOf x=some .local/\m x=some u)\/((env.kindOf x=some .cell\/env.kindOf x=some .free)/\∃c,env.cells.lookup x=some c/\h.IsCell c (some u))
structure Cx.Ok(X:Cx):Prop where
 mod:Mod X.K X.mg X.base
 kind:X.env.scope.kind= .function
 glob:X.env.globals=mainGlobals
 blt:X.env.builtins=builtinsNs
 above:X.s₀.heap.objs.size<=X.env.locals
 inj:∀x y c,X.env.cells.lookup x=some c->X.env.cells.lookup y=some c->x=y
 has:∀x,(X.env.kindOf x=some .cell\/X.env.kindOf x=some .free)->∃c,X.env.cells.lookup x=some c
 yj:∀x c,X.fn x=true->X.env.cells.lookup x=some c->X.s₀.heap.objs.size<=c
 hd:X.calm=true->X.A.handled=none
 frames:X.A.frames=some X.stack
 Be:X.stack=X.outer\/(X.stack=X.env::X.outer/\X.env.frame=some X.env.locals)
 Dj:∀b∈X.ex,b≠X.env.locals/\∀x c,X.env.cells.lookup x=some c->c≠b
 bs:∀b o,X.base.get? b=some o->X.s₀.heap.get? b=some o/\X.H₀ b=none
 rG:X.base.objs.size<=X.s₀.heap.objs.size
 tZ:∀b o,X.base.get? b=some o->b∉X.ex
 uk:∀b∈X.ex,b∉X.fs
 kc:X.s₀.heap.FunFrames X.base X.outer
 uX:∀b∈X.fs,X.H₀ b=none
 gt:X.prog.given.tree=none
structure Inv(X:Cx)(pins:List (Addr×Obj))(σ:List (Option V))(H:Hp)(s:Shared):Prop where
 ok:X.Ok
 os:s.os=X.s₀.os
 bare:AllBare s.gens
 base:Un X.fs X.ex X.H₀ H X.s₀.heap s.heap
 loc:∃m,s.heap.Ns X.env.locals m/\∀(i:Nat) (x:Str) (v:V),X.N[i]?=some x->σ[i]?=some (some v)->z_ X.env.scope x->∃u,RelV v u/\Look X.env s.heap m x u
 cell:∀x c,X.env.cells.lookup x=some c->∃v,s.heap.IsCell c v
 free:H X.env.locals=none
 ir:∀x c,X.env.cells.lookup x=some c->H c=none
 pin:∀p∈X.pn++pins,s.heap.get? p.1=some p.2/\H p.1=none/\p.1≠X.env.locals/\p.1∉X.fs/\∀v,p.2.data≠ .cell v
 aP:gX X.prog X.w H s.heap
 len:σ.length=X.N.length
section
variable {X:Cx}{pins:List (Addr×Obj)}{σ:List (Option V)}{H H':Hp}{s:Shared}{h':Heap}
theorem Cx.Ok.O0(ok:X.Ok){b:Addr}{o:Obj}(e:X.base.get? b=some o):b∉X.fs:=fun hb=>by
 have:=(ok.kc.mem hb).1;rw[e]at this;cases this
theorem Inv.bs(I:Inv X pins σ H s):∀b o,X.base.get? b=some o->s.heap.get? b=some o/\H b=none:=fun b o e=>
 ⟨I.base.keep b o (I.ok.bs b o e).1 (I.ok.bs b o e).2 (I.ok.O0 e) (I.ok.tZ b o e),I.base.free b o (I.ok.bs b o e).1 (I.ok.bs b o e).2 (I.ok.tZ b o e)⟩
theorem Inv.bk(I:Inv X pins σ H s):∀b o,X.base.get? b=some o->s.heap.get? b=some o:=fun b o e=>(I.bs b o e).1
theorem Inv.mod(I:Inv X pins σ H s):Mod X.K X.mg X.base:=I.ok.mod
theorem Inv.gI(I:Inv X pins σ H s):X.K.In s.heap:=I.ok.mod.EF.keeps I.bk
theorem Inv.nolimit(I:Inv X pins σ H s):s.heap.NoLimit:=I.ok.mod.nolimit.keeps I.bk
theorem Inv.lt(I:Inv X pins σ H s):X.env.locals<s.heap.objs.size:=let⟨_,hn,_⟩:=I.loc;hn.lt
theorem Inv.sz(I:Inv X pins σ H s):X.s₀.heap.objs.size<=s.heap.objs.size:=Nat.le_trans I.ok.above (Nat.le_of_lt I.lt)
theorem Inv.K_(I:Inv X pins σ H s){a:Addr}(h:s.heap.objs.size<=a):a∉X.fs:=fun hb=>by
 obtain⟨_,o,ho,_⟩:=I.ok.kc.mem hb;exact absurd (Nat.lt_of_lt_of_le (Heap.lt_size ho) (Nat.le_trans I.sz h)) (Nat.lt_irrefl _)
theorem Inv.ym(I:Inv X pins σ H s):∀x c,X.env.cells.lookup x=some c->c≠X.env.locals:=fun x c e z=>by
 obtain⟨v,o,ho,hd⟩:=I.cell x c e;obtain⟨m,⟨o',es,ep,ho',hd',_⟩,_⟩:=I.loc;rw[z,ho']at ho;cases ho;rw[hd']at hd;cases hd
theorem Inv.kc(I:Inv X pins σ H s):s.heap.FunFrames X.base X.outer:=by
 have all:∀(l:List Env),(∀b∈pe l,b∈X.fs)->X.s₀.heap.FunFrames X.base l->s.heap.FunFrames X.base l:=by
  intro l;induction l with
  |nil=>intro _ _;trivial
  |cons env r ih=>
   intro hs hl;obtain⟨hk,⟨L,o,hf,hn,ho,hd⟩,hr⟩:=hl;have hL:L∈X.fs:=hs L (by unfold pe;rw[List.filterMap_cons,hf];exact List.mem_cons_self);obtain⟨sl,e⟩:=I.base.slot L o ho (I.ok.uX L hL) hL fun z=>I.ok.uk L z hL;exact⟨hk,⟨L,_,hf,hn,e,hd⟩,ih (fun b hb=>hs b (by unfold pe;rw[List.filterMap_cons,hf];exact List.mem_cons_of_mem _ hb)) hr⟩
 exact all X.outer (fun _ hb=>hb) I.ok.kc
theorem Inv.stack(I:Inv X pins σ H s):s.heap.FunFrames X.base X.stack:=by
 rcases I.ok.Be with e|⟨e,hf⟩
 . rw[e];exact I.kc
 . rw[e];obtain⟨m,hn,_⟩:=I.loc;refine .cons (by rw[I.ok.kind];decide) hf hn ?_ I.kc;exact Heap.get?_none_of_le (Nat.le_trans I.ok.rG I.ok.above)
theorem Inv.zj(I:Inv X pins σ H s):∀b∈pe X.stack,b∈X.env.locals::X.fs:=fun b hb=>by
 rcases I.ok.Be with e|⟨e,hf⟩
 . rw[e]at hb;exact List.mem_cons_of_mem _ hb
 . rw[e]at hb;unfold pe at hb;rw[List.filterMap_cons,hf]at hb;exact hb
theorem Inv.v8(I:Inv X pins σ H s):∀b∈pe X.stack,H b=none:=fun b hb=>by
 rcases List.mem_cons.mp (I.zj b hb)with e|hb
 . rw[e];exact I.free
 . obtain⟨_,o,ho,_⟩:=I.ok.kc.mem hb;exact I.base.free b o ho (I.ok.uX b hb) fun z=>I.ok.uk b z hb
theorem Inv.step{g':Array GenState}{t':Nat}{d':Drawn}{ch:List Addr}(I:Inv X pins σ H s)
 (hch:∀b∈ch,(b∈X.ex\/X.s₀.heap.objs.size<=b)/\b≠X.env.locals/\(∀x c,X.env.cells.lookup x=some c->c≠b)/\∀p∈X.pn++pins,p.1≠b)
 (keep:∀b o,b≠X.env.locals->b∉X.fs->b∉ch->s.heap.get? b=some o->H b=none->h'.get? b=some o)
 (slot:∀b o,b≠X.env.locals->b∈X.fs->b∉ch->s.heap.get? b=some o->H b=none->∃sl,h'.get? b=some {o with slots:=sl}) (free:∀b o,b∉ch->s.heap.get? b=some o->H b=none->H' b=none)
 (there:∀b o,b∉ch->s.heap.get? b=some o->∃o',h'.get? b=some o')
 (oy:∀b xs,H b=some (.tup xs)->H' b=some (.tup xs)) (nK:∀b o u,H b=some (.eQ o u)->H' b=some (.eQ o u)) (nF:∀b ps,H b=some (.jJ ps)->∃more,H' b=some (.jJ (ps++more)))
 (ns:∀m,s.heap.Ns X.env.locals m->h'.Ns X.env.locals m) (aP:gX X.prog X.w H' h') (hg:AllBare g'):
 Inv X pins σ H' {s with heap:=h',gens:=g',drawn:=d',toks:=t'}:=by
 have neL:∀b o,X.s₀.heap.get? b=some o->b≠X.env.locals:=fun b o e=>Nat.ne_of_lt (Nat.lt_of_lt_of_le (Heap.lt_size e) I.ok.above)
 have neC:∀b o,X.s₀.heap.get? b=some o->b∉X.ex->b∉ch:=fun b o e hx hb=>by
  rcases(hch b hb).1 with z|z
  . exact hx z
  . exact absurd (Nat.lt_of_lt_of_le (Heap.lt_size e) z) (Nat.lt_irrefl _)
 have cellK:∀x c,X.env.cells.lookup x=some c->∀v,s.heap.IsCell c v->h'.IsCell c v:=fun x c e v ⟨o,ho,hd⟩=>by
  have nch:c∉ch:=fun z=>(hch c z).2.2.1 x c e rfl;by_cases hc:c∈X.fs
  . obtain⟨sl,q⟩:=slot c o (I.ym x c e) hc nch ho (I.ir x c e);exact⟨_,q,hd⟩
  . exact⟨o,keep c o (I.ym x c e) hc nch ho (I.ir x c e),hd⟩
 refine⟨I.ok,I.os,hg,⟨fun b o e n hb hx=>?_,fun b o e n hb hx=>?_,fun b o e n hx=>?_,fun b o e hx=>?_,fun b xs e=>oy b xs (I.base.oy b xs e),fun b o xs e=>nK b o xs (I.base.nK b o xs e),fun b ps e=>?_⟩,?_,fun x c e=>?_,?_,fun x c e=>?_,fun p hp=>?_,aP,I.len⟩
 . exact keep b o (neL b o e) hb (neC b o e hx) (I.base.keep b o e n hb hx) (I.base.free b o e n hx)
 . obtain⟨sl,e1⟩:=I.base.slot b o e n hb hx;obtain⟨sl',e2⟩:=slot b _ (neL b o e) hb (neC b o e hx) e1 (I.base.free b o e n hx);exact⟨sl',e2⟩
 . obtain⟨o',e1⟩:=I.base.there b o e hx;exact free b o' (neC b o e hx) e1 (I.base.free b o e n hx)
 . obtain⟨o',e1⟩:=I.base.there b o e hx;exact there b o' (neC b o e hx) e1
 . obtain⟨m1,e1⟩:=I.base.nF b ps e;obtain⟨m2,e2⟩:=nF b _ e1;exact⟨m1++m2,by rw[e2,Array.append_assoc]⟩
 . obtain⟨m,hn,hl⟩:=I.loc;refine⟨m,ns m hn,fun i x v e1 e2 e3=>?_⟩;obtain⟨u,r,l⟩:=hl i x v e1 e2 e3;refine⟨u,r,?_⟩;rcases l with l|⟨k,c,e,z⟩
   . exact .inl l
   . exact .inr ⟨k,c,e,cellK x c e _ z⟩
 . obtain⟨v,z⟩:=I.cell x c e;exact⟨v,cellK x c e v z⟩
 . obtain⟨m,⟨o,_,_,ho,_⟩,_⟩:=I.loc;exact free _ o (fun z=>(hch _ z).2.1 rfl) ho I.free
 . obtain⟨v,o,ho,hd⟩:=I.cell x c e;exact free c o (fun z=>(hch c z).2.2.1 x c e rfl) ho (I.ir x c e)
 . obtain⟨e,n,ne,nf,d⟩:=I.pin p hp;have nch:p.1∉ch:=fun z=>(hch p.1 z).2.2.2 p hp rfl;exact⟨keep p.1 p.2 ne nf nch e n,free p.1 p.2 nch e n,ne,nf,d⟩
theorem Inv.un{t':Nat}(I:Inv X pins σ H s)(u:Un X.fs [] H H' s.heap h')(aP:gX X.prog X.w H' h'):Inv X pins σ H' {s with heap:=h',toks:=t'}:=by
 obtain⟨m,⟨o,es,ep,ho,r⟩,_⟩:=id I.loc;obtain⟨sl,hL⟩:=u.any ho I.free (by simp)
 exact I.step (g':=s.gens) (d':=s.drawn) (ch:=[]) (fun _ z=>nomatch z) (fun b o _ hb _ e n=>u.keep b o e n hb (by simp)) (fun b o _ hb _ e n=>u.slot b o e n hb (by simp)) (fun b o _ e n=>u.free b o e n (by simp)) (fun b o _ e=>u.there b o e (by simp)) u.oy u.nK u.nF (fun m' hm=>by
  obtain⟨o',es',ep',ho',r'⟩:=hm;rw[ho]at ho';cases ho';exact⟨_,es',ep',hL,r'⟩) aP I.bare
theorem Inv.call{g':Array GenState}{t':Nat}{d':Drawn}{ch:List Addr}(I:Inv X pins σ H s)(u:Un (pe X.stack) ch H H' s.heap h')(aP:gX X.prog X.w H' h')(hg:AllBare g')
 (hch:∀b∈ch,(b∈X.ex\/X.s₀.heap.objs.size<=b)/\b≠X.env.locals/\(∀x c,X.env.cells.lookup x=some c->c≠b)/\∀p∈X.pn++pins,p.1≠b):
 Inv X pins σ H' {s with heap:=h',gens:=g',drawn:=d',toks:=t'}:=by
 obtain⟨m,⟨o,es,ep,ho,r⟩,_⟩:=id I.loc;obtain⟨sl,hL⟩:=u.any ho I.free fun z=>(hch _ z).2.1 rfl
 exact I.step (ch:=ch) hch (fun b o hL hb hc e n=>u.keep b o e n (fun z=>(List.mem_cons.mp (I.zj b z)).elim hL hb) hc) (fun b o _ _ hc e n=>u.any e n hc) (fun b o hc e n=>u.free b o e n hc) (fun b o hc e=>u.there b o e hc) u.oy u.nK u.nF (fun m' hm=>by
  obtain⟨o',es',ep',ho',r'⟩:=hm;rw[ho]at ho';cases ho';exact⟨_,es',ep',hL,r'⟩) aP hg
theorem Inv.turned{t':Nat}{it:Addr}(I:Inv X pins σ H s)(k:∀b o,b≠it->s.heap.get? b=some o->h'.get? b=some o)(hn:H it=none)(hL:it≠X.env.locals)
 (h1:it∈X.ex\/X.s₀.heap.objs.size<=it) (h2:∀x c,X.env.cells.lookup x=some c->c≠it) (h3:∀p∈X.pn++pins,p.1≠it):Inv X pins σ H {s with heap:=h',toks:=t'}:=by
 have nit:∀b u,H b=some u->b≠it:=fun b u e z=>by rw[z,hn]at e;cases e
 refine I.step (g':=s.gens) (d':=s.drawn) (ch:=[it]) (fun b hb=>?_) (fun b o _ _ hc e _=>k b o (fun z=>hc (by simp[z])) e) (fun b o _ _ hc e _=>⟨o.slots,k b o (fun z=>hc (by simp[z])) e⟩) (fun _ _ _ _ n=>n)
  (fun b o hc e=>⟨o,k b o (fun z=>hc (by simp[z])) e⟩) (fun _ _ e=>e) (fun _ _ _ e=>e) (fun b ps e=>⟨#[],by rw[e];simp⟩) (fun m hm=>?_) (fun b u e=>?_) I.bare
 . have e:b=it:=by simpa using hb
   subst e;exact⟨h1,hL,h2,h3⟩
 . obtain⟨o,es,ep,ho,r⟩:=hm;exact⟨o,es,ep,k _ o (Ne.symm hL) ho,r⟩
 . refine(I.aP b u e).oQ (fun c v hc q=>k c v ?_ q) (fun _ q=>q) fun _ _ q=>q;rcases hc with z|z
   . rw[z];exact nit b u e
   . exact nit c _ z
theorem Inv.tok(I:Inv X pins σ H s)(t:Nat):Inv X pins σ H {s with toks:=t}:=I.un (h':=s.heap) (t':=t) Un.refl I.aP
theorem Inv.kept{t':Nat}(I:Inv X pins σ H s)(k:∀b u,s.heap.get? b=some u->h'.get? b=some u):Inv X pins σ H {s with heap:=h',toks:=t'}:=I.un (Un.kept k) (I.aP.kept k)
theorem Inv.laid{a:Addr}{o:HO}{t':Nat}(I:Inv X pins σ H s)(k:∀b u,s.heap.get? b=some u->h'.get? b=some u)(hp:s.heap.objs.size<=a)(new:dh X.prog X.w (upd H a o) h' a o):
 Inv X pins σ (upd H a o) {s with heap:=h',toks:=t'}:=I.un (Un.laid k hp (I.aP.fresh hp)) (I.aP.laid k hp new)
theorem Inv.write{x e:Addr}{o:HO}{t':Nat}(I:Inv X pins σ H s)(mu:Hy (H x))(he:e=x\/H e=some (.own x))(k:∀b u,b≠e->s.heap.get? b=some u->h'.get? b=some u)(heo:∃u,h'.get? e=some u)
 (new:dh X.prog X.w (upd H x o) h' x o):Inv X pins σ (upd H x o) {s with heap:=h',toks:=t'}:=I.un (Un.write mu he k heo) (I.aP.write mu he k heo new)
theorem Inv.rV{pins':List (Addr×Obj)}(I:Inv X pins σ H s)(h:∀p∈pins',s.heap.get? p.1=some p.2/\H p.1=none/\p.1≠X.env.locals/\p.1∉X.fs/\∀v,p.2.data≠ .cell v):Inv X pins' σ H s:=
 ⟨I.ok,I.os,I.bare,I.base,I.loc,I.cell,I.free,I.ir,fun p hp=>(List.mem_append.mp hp).elim (fun z=>I.pin p (List.mem_append_left _ z)) (h p),I.aP,I.len⟩
theorem zi{N:List Str}(hN:N.Nodup){i j:Nat}{x:Str}(a:N[i]?=some x)(b:N[j]?=some x):i=j:=by
 obtain⟨h1,e1⟩:=List.getElem?_eq_some_iff.mp a;obtain⟨h2,e2⟩:=List.getElem?_eq_some_iff.mp b;exact(List.getElem_inj hN).mp (e1.trans e2.symm)
theorem xm{M:Model}{A:Around}{E:Value->Shared->Prop}{i:Nat}{x:Str}{v:V}{u:Value}{Q:Unit->Shared->Prop}(I:Inv X pins σ H s)(hN:X.N.Nodup)(hi:X.N[i]?=some x)(hx:Loc X.env.scope x)(r:RelV v u)
 (h:∀s',Inv X pins (σ.set i (some v)) H s'->(∃a,Heap.SameBut a s.heap s'.heap/\(a=X.env.locals\/X.env.cells.lookup x=some a))->Q () s') (hf:X.fn x=true\/X.env.scope.names.lookup x=some .local:=by first|exact .inl rfl|exact .inr rfl|assumption):wpAny M A (storeName X.env x u) Q E s:=by
 obtain⟨m,hn,hl⟩:=id I.loc;have hcls:(X.env.scope.kind== .class||(X.env.scope.kind== .module&&X.env.locals != X.env.globals))=false:=by rw[I.ok.kind];rfl
 have hiσ:i<σ.length:=by rw[I.len];exact(List.getElem?_eq_some_iff.mp hi).1
 have ym:=I.ym
 have tracked:∀ {a:Addr} {h':Heap},(∃o,s.heap.get? a=some o/\H a=none)->Heap.SameBut a s.heap h'->gX X.prog X.w H h':=fun{a h'} ha hs b ob e=>by
  obtain⟨_,_,hfree⟩:=ha;refine(I.aP b ob e).oQ (fun c w' hc q=>(hs.2 c ?_).trans q) (fun _ q=>q) fun _ _ q=>q;rintro rfl;rcases hc with rfl|hc
  . rw[hfree]at e;cases e
  . rw[hfree]at hc;cases hc
 rcases hx with hk|hk
 . refine wpAny_storeName_local hk hn (fun h' hn' hs=>?_) hcls;obtain⟨oL,_,_,hoL,_⟩:=id hn;refine h _ ⟨I.ok,I.os,I.bare,⟨fun b o e n hb hx=>?_,fun b o e n hb hx=>?_,I.base.free,fun b o e hx=>?_,I.base.oy,I.base.nK,I.base.nF⟩,⟨_,hn',fun j y v' e1 e2 e3=>?_⟩,fun y c e=>?_,I.free,I.ir,fun p hp=>?_,tracked ⟨oL,hoL,I.free⟩ hs,by simpa using I.len⟩ ⟨_,hs,.inl rfl⟩
   . exact(hs.2 b (Nat.ne_of_lt (Nat.lt_of_lt_of_le (Heap.lt_size e) I.ok.above))).trans (I.base.keep b o e n hb hx)
   . obtain⟨sl,e1⟩:=I.base.slot b o e n hb hx;exact⟨sl,(hs.2 b (Nat.ne_of_lt (Nat.lt_of_lt_of_le (Heap.lt_size e) I.ok.above))).trans e1⟩
   . obtain⟨o',e1⟩:=I.base.there b o e hx;exact⟨o',(hs.2 b (Nat.ne_of_lt (Nat.lt_of_lt_of_le (Heap.lt_size e) I.ok.above))).trans e1⟩
   . by_cases hj:j=i
     . subst hj;rw[hi]at e1;cases e1;rw[List.getElem?_set_self hiσ]at e2;cases e2;exact⟨u,r,.inl ⟨hk,by simp⟩⟩
     . rw[List.getElem?_set_ne (Ne.symm hj)]at e2;obtain⟨u',r',q⟩:=hl j y v' e1 e2 e3;refine⟨u',r',?_⟩;rcases q with⟨k,e⟩|⟨k,c,e,z⟩
       . refine .inl ⟨k,?_⟩;have:y≠x:=fun e=>hj (zi hN e1 (e▸hi));simp[this,e]
       . exact .inr ⟨k,c,e,z.sameBut hs (ym y c e)⟩
   . obtain⟨w',z⟩:=I.cell y c e;exact⟨w',z.sameBut hs (ym y c e)⟩
   . obtain⟨e,n,ne,nf,d⟩:=I.pin p hp;exact⟨(hs.2 p.1 ne).trans e,n,ne,nf,d⟩
 . have hfn:X.fn x=true:=by
    rcases hf with z|z
    . exact z
    . rw[z]at hk;cases hk
   obtain⟨c,hc⟩:=I.ok.has x (.inl hk);obtain⟨w',z⟩:=I.cell x c hc;refine wpAny_storeName_cell I.ok.kind hk hc z (fun h' hc' hs=>?_);obtain⟨oc,hoc,hocd⟩:=id z;refine h {s with heap:=h'} ⟨I.ok,I.os,I.bare,⟨fun b o e n hb hx=>?_,fun b o e n hb hx=>?_,I.base.free,fun b o e hx=>?_,I.base.oy,I.base.nK,I.base.nF⟩,⟨m,hn.sameBut hs (Ne.symm (ym x c hc)),fun j y v' e1 e2 e3=>?_⟩,fun y c' e=>?_,I.free,I.ir,fun p hp=>?_,tracked ⟨oc,hoc,I.ir x c hc⟩ hs,by simpa using I.len⟩ ⟨c,hs,.inr hc⟩
   . exact(hs.2 b (Nat.ne_of_lt (Nat.lt_of_lt_of_le (Heap.lt_size e) (I.ok.yj x c hfn hc)))).trans (I.base.keep b o e n hb hx)
   . obtain⟨sl,e1⟩:=I.base.slot b o e n hb hx;exact⟨sl,(hs.2 b (Nat.ne_of_lt (Nat.lt_of_lt_of_le (Heap.lt_size e) (I.ok.yj x c hfn hc)))).trans e1⟩
   . obtain⟨o',e1⟩:=I.base.there b o e hx;exact⟨o',(hs.2 b (Nat.ne_of_lt (Nat.lt_of_lt_of_le (Heap.lt_size e) (I.ok.yj x c hfn hc)))).trans e1⟩
   . by_cases hj:j=i
     . subst hj;rw[hi]at e1;cases e1;rw[List.getElem?_set_self hiσ]at e2;cases e2;exact⟨u,r,.inr ⟨.inl hk,c,hc,hc'⟩⟩
     . rw[List.getElem?_set_ne (Ne.symm hj)]at e2;obtain⟨u',r',q⟩:=hl j y v' e1 e2 e3;refine⟨u',r',?_⟩;rcases q with q|⟨k,c',e,z'⟩
       . exact .inl q
       . refine .inr ⟨k,c',e,z'.sameBut hs ?_⟩;rintro rfl;exact hj (zi hN e1 (I.ok.inj _ _ _ e hc▸hi))
   . by_cases hcc:c'=c
     . subst hcc;exact⟨_,hc'⟩
     . obtain⟨w2,z2⟩:=I.cell y c' e;exact⟨w2,z2.sameBut hs hcc⟩
   . obtain⟨e,n,ne,nf,d⟩:=I.pin p hp;refine⟨(hs.2 p.1 ?_).trans e,n,ne,nf,d⟩;intro q;rw[q,hoc]at e;have q':oc=p.2:=Option.some.inj e;exact d w' (by rw[<-q'];exact hocd)
theorem uv{M:Model}{A:Around}{E:Value->Shared->Prop}{i:Nat}{x:Str}{v:V}{u:Value}{Q:Unit->Shared->Prop}(I:Inv X pins σ H s)(hN:X.N.Nodup)(hi:X.N[i]?=some x)(hx:Loc X.env.scope x)(r:RelV v u)
 (h:∀s',Inv X pins (σ.set i (some v)) H s'->Q () s') (hf:X.fn x=true\/X.env.scope.names.lookup x=some .local:=by first|exact .inl rfl|exact .inr rfl|assumption):wpAny M A (storeName X.env x u) Q E s:=
 xm I hN hi hx r (fun s' I' _=>h s' I') hf
theorem Inv.CG{s':Shared}{ch:List Addr}(I:Inv X pins σ H s)(ho:s'.os=s.os)(u:Un (pe X.stack) ch H H' s.heap s'.heap)(aP:gX X.prog X.w H' s'.heap)(hg:AllBare s'.gens)
 (hch:∀b∈ch,(b∈X.ex\/X.s₀.heap.objs.size<=b)/\b≠X.env.locals/\(∀x c,X.env.cells.lookup x=some c->c≠b)/\∀p∈X.pn++pins,p.1≠b):Inv X pins σ H' s':=by
 obtain⟨h',g',d',t',o'⟩:=s';have e:o'=s.os:=ho;subst e;exact I.call (g':=g') (t':=t') (d':=d') u aP hg hch
end
abbrev XK:=Value->Option Addr->Hp->Prop
abbrev St:=List (Option V)
abbrev VK:=V->Hp->Prop
abbrev TE:=St->Hp->VK->Prop
abbrev TT:=St->Hp->(Bool->Hp->Prop)->Prop
abbrev TA:=St->Hp->(List V->Hp->Prop)->Prop
structure Ends where
 nx:St->Hp->Prop
 rt:VK
 bk:St->Hp->Prop:=fun _ _=>False
 ct:St->Hp->Prop:=fun _ _=>False
abbrev TS:=Ends->St->Hp->Prop
def EP(X:Cx)(pins:List (Addr×Obj))(σ:St)(Q:VK)(u:Value)(s':Shared):Prop:=∃v H',Inv X pins σ H' s'/\RelV v u/\Q v H'
def TP(X:Cx)(pins:List (Addr×Obj))(σ:St)(Q:Bool->Hp->Prop)(b:Bool)(s':Shared):Prop:=∃H',Inv X pins σ H' s'/\Q b H'
def AP(X:Cx)(pins:List (Addr×Obj))(σ:St)(Q:List V->Hp->Prop)(us:List Value)(s':Shared):Prop:=∃vs H',Inv X pins σ H' s'/\Vals vs us/\Q vs H'
def SP(X:Cx)(pins:List (Addr×Obj))(D:Ends)(f:Flow)(s':Shared):Prop:=
 match f with
 | .next=>∃σ' H',Inv X pins σ' H' s'/\D.nx σ' H'
 | .brk=>∃σ' H',Inv X pins σ' H' s'/\D.bk σ' H'
 | .cont=>∃σ' H',Inv X pins σ' H' s'/\D.ct σ' H'
 | .ret u=>∃v σ' H',Inv X pins σ' H' s'/\RelV v u/\D.rt v H'
def PE(X:Cx)(e:Expr)(t:TE):Prop:=
 ∀(pins:List (Addr×Obj)) (s:Shared) (σ:St) (H:Hp) (Q:VK),Inv X pins σ H s->t σ H Q->wpAny (model X.prog X.w) X.A (eval e X.env) (EP X pins σ Q) X.xe s
def PT(X:Cx)(e:Expr)(t:TT):Prop:=
 ∀(pins:List (Addr×Obj)) (s:Shared) (σ:St) (H:Hp) (Q:Bool->Hp->Prop),Inv X pins σ H s->t σ H Q->wpAny (model X.prog X.w) X.A (isTrue e X.env (eval e X.env)) (TP X pins σ Q) X.xe s
def PW(X:Cx)(e:Expr)(t:TT):Prop:=
 ∀(whole:Sem Value) (pins:List (Addr×Obj)) (s:Shared) (σ:St) (H:Hp) (Q:Bool->Hp->Prop),Inv X pins σ H s->t σ H Q->wpAny (model X.prog X.w) X.A (isTrue e X.env whole) (TP X pins σ Q) X.xe s
theorem PW.pt{X:Cx}{e:Expr}{t:TT}(h:PW X e t):PT X e t:=h _
def PA(X:Cx)(es:List Expr)(t:TA):Prop:=
 ∀(pos:Pos) (pins:List (Addr×Obj)) (s:Shared) (σ:St) (H:Hp) (Q:List V->Hp->Prop),Inv X pins σ H s->t σ H Q->wpAny (model X.prog X.w) X.A (spliced (backTo pos (starEach es X.env))) (AP X pins σ Q) X.xe s
def PS(X:Cx)(st:Stmt)(t:TS):Prop:=
 ∀(pins:List (Addr×Obj)) (s:Shared) (σ:St) (H:Hp) (D:Ends),Inv X pins σ H s->t D σ H->wpAny (model X.prog X.w) X.A (exec st X.env) (SP X pins D) X.xe s
def gG(X:Cx)(st:List Stmt)(t:TS):Prop:=
 ∀(pins:List (Addr×Obj)) (s:Shared) (σ:St) (H:Hp) (D:Ends),Inv X pins σ H s->t D σ H->wpAny (model X.prog X.w) X.A (execs st X.env) (SP X pins D) X.xe s
theorem bO{α:Type}{t:Sem α}{Q Q':α->Shared->Prop}{M:Model}{A:Around}{E:Value->Shared->Prop}{s:Shared}(h:wpAny M A t Q E s)(hQ:∀a s,Q a s->Q' a s):wpAny M A t Q' E s:=wpAny_mono h hQ fun _ _ x=>x
section
variable {X:Cx}
def Ll(i:Nat):TE:=fun σ H Q=>∃v,σ[i]?=some (some v)/\Q v H
def tC(v:V):TE:=fun _ H Q=>Q v H
theorem Kd{i:Nat}{x:Str}{pos:Pos}(hN:X.N[i]?=some x)(hv:z_ X.env.scope x)(hd:(x==("__debug__":Str))=false:=by decide)(hcd:(x==("__classdict__":Str))=false:=by decide):PE X (.Name x pos) (Ll i):=by
 intro pins s σ H Q I h;obtain⟨v,e,h⟩:=h;obtain⟨m,hn,hl⟩:=I.loc;obtain⟨u,r,l⟩:=hl i x v hN e hv;have fin:EP X pins σ Q u s:=⟨v,H,I,r,h⟩
 rcases l with⟨hk,hm⟩|⟨hk,c,hc,hcell⟩
 . exact wpAny_Name (wpAny_loadName_local I.ok.kind hk hn hm fin) hd
 . rcases hk with hk|hk
   . exact wpAny_Name (wpAny_loadName_cell I.ok.kind hk hc hcell fin) hd
   . exact wpAny_Name (wpAny_loadName_free I.ok.kind hk hc hcell fin hcd) hd
theorem KP{i j pos}:PE X (.Constant (.int i) j pos) (tC (.int i)):=fun _ _ _ H _ I h=>wpAny_Constant_int ⟨.int i,H,I.tok _,⟨_,rfl⟩,h⟩
theorem Na{b j pos}:PE X (.Constant (.bool b) j pos) (tC (.bl b)):=fun _ _ _ H _ I h=>Constant_bool ⟨.bl b,H,I,rfl,h⟩
theorem LB{j pos}:PE X (.Constant .none j pos) (tC .aH):=fun _ _ _ H _ I h=>Constant_none ⟨.aH,H,I,rfl,h⟩
theorem LL{x j pos}:PE X (.Constant (.str x) j pos) (tC (.str x)):=fun _ _ _ H _ I h=>Calls.Constant_str ⟨.str x,H,I.tok _,⟨_,rfl⟩,h⟩
def Gl(X:Cx)(x:Str):Prop:=X.env.kindOf x=some .globalImplicit
theorem AG{E:Value->Shared->Prop}{pins:List (Addr×Obj)}{s:Shared}{σ:St}{H:Hp}{x:Str}{u:Value}{pos:Pos}{Q:Value->Shared->Prop}(I:Inv X pins σ H s)(hg:Gl X x)(hm:X.mg x=some u)(h:Q u s)
 (hd:(x==("__debug__":Str))=false:=by decide):wpAny (model X.prog X.w) X.A (eval (.Name x pos) X.env) Q E s:=
 Calls.Name_function_global I.ok.kind hg (Calls.loadGlobal_global (by rw[I.ok.glob];exact I.mod.glob.keeps I.bk) hm h) hd
theorem j8{E:Value->Shared->Prop}{pins:List (Addr×Obj)}{s:Shared}{σ:St}{H:Hp}{x:Str}{u:Value}{pos:Pos}{Q:Value->Shared->Prop}(I:Inv X pins σ H s)(hg:Gl X x)(hm:X.mg x=none)(hv:bootBuiltins x=some u)(h:Q u s)
 (hn:x≠"__name__":=by decide) (hd:(x==("__debug__":Str))=false:=by decide):wpAny (model X.prog X.w) X.A (eval (.Name x pos) X.env) Q E s:=by
 obtain⟨mb,h1,h2⟩:=I.mod.blt;exact Calls.Name_function_global I.ok.kind hg (Calls.loadGlobal_builtin (by rw[I.ok.glob];exact I.mod.glob.keeps I.bk) hm (by rw[I.ok.blt];exact h1.keeps I.bk) ((h2 x hn).trans hv) h) hd
theorem Iq{x:Str}{v:V}{u:Value}{pos:Pos}(hg:Gl X x)(hm:X.mg x=none)(hv:bootBuiltins x=some u)(r:RelV v u)(hn:x≠"__name__":=by decide)(hd:(x==("__debug__":Str))=false:=by decide):PE X (.Name x pos) (tC v):=
 fun _ _ _ H _ I h=>j8 I hg hm hv ⟨v,H,I,r,h⟩ hn hd
variable {a b:Expr}{ta tb:TE}{pos:Pos}
def tB(t:TE):TT:=fun σ H Q=>t σ H fun x H1=>∃c,x= .bl c/\Q c H1
theorem J0{e:Expr}{t:TE}(h:PE X e t)(he:∀whole,isTrue e X.env whole=(do let v <-whole;standAt e.pos;holding [v] (truthy v)):=by intro _;rfl):PT X e (tB t):=by
 intro pins s σ H Q I hw;refine isTrue_plain (bO (h pins s σ H _ I hw) fun v s1 ⟨x,H1,I1,r1,q1⟩=>?_) (he _);obtain⟨d,rfl,q⟩:=q1;cases r1;exact wpAny_truthy_bool ⟨H1,I1,q⟩
variable {tA tB':TT}{rest:List Expr}
def LZ(t u:TT):TT:=fun σ H Q=>t σ H fun c H1=>if c=true then u σ H1 Q else Q false H1
def Oy(t u:TT):TT:=fun σ H Q=>t σ H fun c H1=>if c=true then Q true H1 else u σ H1 Q
def Pp(t:TT):TT:=fun σ H Q=>t σ H fun c H1=>Q (!c) H1
theorem pw_and1(ha:PT X a tA):PW X (.BoolOp .And [a] pos) tA:=by
 intro wh pins s σ H Q I h;refine isTrue_and (bO (ha pins s σ H Q I h) fun c s1 e=>?_);cases c with
 |true=>exact isTrue_and_nil e
 |false=>exact e
theorem pw_or1(ha:PT X a tA):PW X (.BoolOp .Or [a] pos) tA:=by
 intro wh pins s σ H Q I h;refine isTrue_or (bO (ha pins s σ H Q I h) fun c s1 e=>?_);cases c with
 |false=>exact isTrue_or_nil e
 |true=>exact e
theorem pw_and(ha:PT X a tA)(hb:PW X (.BoolOp .And (b::rest) pos) tB'):PW X (.BoolOp .And (a::b::rest) pos) (LZ tA tB'):=by
 intro wh pins s σ H Q I h;refine isTrue_and (bO (ha pins s σ H _ I h) fun c s1 ⟨H1,I1,q1⟩=>?_);cases c with
 |true=>exact hb wh pins s1 σ H1 Q I1 q1
 |false=>exact⟨H1,I1,q1⟩
theorem pw_or(ha:PT X a tA)(hb:PW X (.BoolOp .Or (b::rest) pos) tB'):PW X (.BoolOp .Or (a::b::rest) pos) (Oy tA tB'):=by
 intro wh pins s σ H Q I h;refine isTrue_or (bO (ha pins s σ H _ I h) fun c s1 ⟨H1,I1,q1⟩=>?_);cases c with
 |true=>exact⟨H1,I1,q1⟩
 |false=>exact hb wh pins s1 σ H1 Q I1 q1
theorem Kr(ha:PT X a tA):PT X (.UnaryOp .Not a pos) (Pp tA):=by
 intro pins s σ H Q I h;exact isTrue_not (ha pins s σ H (fun c H1=>Q (!c) H1) I h)
def M6(ta tb:TE):TE:=fun σ H Q=>ta σ H fun x H1=>∃c,x= .bl c/\if c=true then tb σ H1 Q else Q (.bl false) H1
def Ng(ta:TE):TE:=fun σ H Q=>ta σ H fun x H1=>∃c,x= .bl c/\Q (.bl (!c)) H1
theorem KO{op}{t:TE}(h:PE X a t):PE X (.BoolOp op [a] pos) t:=fun pins s σ H Q I hw=>BoolOp_one (h pins s σ H Q I hw)
theorem Lk(ha:PE X a ta)(hb:PE X (.BoolOp .And (b::rest) pos) tb):PE X (.BoolOp .And (a::b::rest) pos) (M6 ta tb):=by
 intro pins s σ H Q I h;refine BoolOp_and (bO (ha pins s σ H _ I h) fun v s1 ⟨x,H1,I1,r1,q1⟩=>?_);obtain⟨c,rfl,q1⟩:=q1;cases r1;refine wpAny_truthy_bool ?_;cases c with
 |true=>exact hb pins s1 σ H1 Q I1 q1
 |false=>exact⟨.bl false,H1,I1,rfl,q1⟩
theorem MC(ha:PE X a ta):PE X (.UnaryOp .Not a pos) (Ng ta):=by
 intro pins s σ H Q I h;refine UnaryOp_ (bO (ha pins s σ H _ I h) fun v s1 ⟨x,H1,I1,r1,q1⟩=>?_);obtain⟨c,rfl,q1⟩:=q1;cases r1;exact not_of (wpAny_truthy_bool ⟨.bl (!c),H1,I1,rfl,q1⟩)
def PN(t:TT)(ta tb:TE):TE:=fun σ H Q=>t σ H fun c H1=>if c=true then ta σ H1 Q else tb σ H1 Q
theorem Ga{c:Expr}(hc:PT X c tA)(ha:PE X a ta)(hb:PE X b tb):PE X (.IfExp c a b pos) (PN tA ta tb):=by
 intro pins s σ H Q I h;refine wpAny_IfExp (bO (hc pins s σ H _ I h) fun d s1 ⟨H1,I1,q1⟩=>?_);cases d with
 |true=>exact ha pins s1 σ H1 Q I1 q1
 |false=>exact hb pins s1 σ H1 Q I1 q1
end
def l_(K:PySem.W.Frag)(H:Hp)(a:Addr)(xs:List V):Prop:=
 Rd H a (.lst xs)\/
  ∃(o:Obj) (its:Array Value) (n:Nat),K.lookup a=some o/\o.cls= .type "list"/\o.dict=none/\o.data= .seq its n/\its.size<=sizeLine/\Vals xs its.toList
def iE(K:PySem.W.Frag)(H:Hp)(a:Addr)(xs:List V):Prop:=
 Rd H a (.tup xs)\/
  ∃(o:Obj) (its:Array Value) (n:Nat),K.lookup a=some o/\o.cls= .type "tuple"/\o.data= .seq its n/\its.size<=sizeLine/\Vals xs its.toList
def O3:Value->Option V
 | .none=>some .aH
 | .bool b=>some (.bl b)
 | .int i _=>some (.int i)
 | .str x _=>some (.str x)
 | .bytes b _=>some (.tj b)
 | .float b _=>some (.sT b)
 | .ref a=>some (.ref a)
 | .type n=>some (.ty n)
 |_=>none
theorem RelV.abs{x:V}{u:Value}(r:RelV x u):O3 u=some x:=by
 cases x with
 |aH=>cases r;rfl
 |bl _=>cases r;rfl
 |int _=>obtain⟨t,rfl⟩:=r;rfl
 |str _=>obtain⟨t,rfl⟩:=r;rfl
 |tj _=>obtain⟨t,rfl⟩:=r;rfl
 |sT _=>obtain⟨t,rfl⟩:=r;rfl
 |ref _=>cases r;rfl
 |ty _=>cases r;rfl
theorem RelV.inj{x y:V}{u:Value}(r:RelV x u)(q:RelV y u):x=y:=Option.some.inj (r.abs.symm.trans q.abs)
theorem Vals.inj:∀ {xs ys:List V} {us:List Value},Vals xs us->Vals ys us->xs=ys
 |_,_,_,.nil,.nil=>rfl
 |_,_,_,.cons r t,.cons r' t'=>by rw[r.inj r',Vals.inj t t']
section
variable {X:Cx}{pins:List (Addr×Obj)}{σ:St}{H:Hp}{s:Shared}{a:Addr}{xs ys:List V}
theorem l_.of{K:PySem.W.Frag}(h:H a=some (.lst xs)):l_ K H a xs:= .inl (.inl h)
theorem iE.of{K:PySem.W.Frag}(h:H a=some (.tup xs)):iE K H a xs:= .inl (.inl h)
theorem Inv.list(I:Inv X pins σ H s)(h:l_ X.K H a xs):∃its:List Value,Vals xs its/\PlainL s.heap a its.toArray/\xs.length<=sizeLine:=by
 rcases h with h|⟨o,its,n,hk,hc,hd,hs,hz,r⟩
 . obtain⟨z,its,n,r,e⟩:=h.ok I.aP;exact⟨its,r,⟨_,n,e,rfl,rfl,rfl⟩,z⟩
 . refine⟨its.toList,r,⟨o,n,I.gI a o hk,hc,hd,by simpa using hs⟩,?_⟩;have e:=r.length;simp only[Array.length_toList]at e;omega
theorem Inv.tuple(I:Inv X pins σ H s)(h:iE X.K H a xs):∃its:List Value,Vals xs its/\IsTup s.heap a its.toArray/\xs.length<=sizeLine:=by
 rcases h with h|⟨o,its,n,hk,hc,hs,hz,r⟩
 . obtain⟨z,its,r,p⟩:=h.ok I.aP;exact⟨its,r,p,z⟩
 . refine⟨its.toList,r,⟨o,I.gI a o hk,hc,n,by simpa using hs⟩,?_⟩;have e:=r.length;simp only[Array.length_toList]at e;omega
theorem Inv.zt(I:Inv X pins σ H s)(h:l_ X.K H a xs)(h':l_ X.K H a ys):xs=ys:=by
 obtain⟨its,r,⟨o,n,e,_,_,d⟩,_⟩:=I.list h;obtain⟨its',r',⟨o',n',e',_,_,d'⟩,_⟩:=I.list h';rw[e]at e';cases e';rw[d]at d';injection d' with d1 _;have:its=its':=by simpa using congrArg Array.toList d1
 subst this;exact r.inj r'
theorem Inv.wQ(I:Inv X pins σ H s)(h:iE X.K H a xs)(h':iE X.K H a ys):xs=ys:=by
 obtain⟨its,r,⟨o,e,_,n,d⟩,_⟩:=I.tuple h;obtain⟨its',r',⟨o',e',_,n',d'⟩,_⟩:=I.tuple h';rw[e]at e';cases e';rw[d]at d';injection d' with d1 _;have:its=its':=by simpa using congrArg Array.toList d1
 subst this;exact r.inj r'
end
abbrev Cx.oF(X:Cx)(E:Value->Shared->Prop):Cx:={X with xe:=E}
abbrev Cx.uH(X:Cx):Cx:=X.oF fun _ _=>False
theorem Cx.Ok.oF{X:Cx}(ok:X.Ok)(E:Value->Shared->Prop):(X.oF E).Ok:=
 ⟨ok.mod,ok.kind,ok.glob,ok.blt,ok.above,ok.inj,ok.has,ok.yj,ok.hd,ok.frames,ok.Be,ok.Dj,ok.bs,ok.rG,ok.tZ,ok.uk,ok.kc,ok.uX,ok.gt⟩
theorem Cx.Ok.lZ{X:Cx}{E:Value->Shared->Prop}(ok:(X.oF E).Ok):X.Ok:=
 ⟨ok.mod,ok.kind,ok.glob,ok.blt,ok.above,ok.inj,ok.has,ok.yj,ok.hd,ok.frames,ok.Be,ok.Dj,ok.bs,ok.rG,ok.tZ,ok.uk,ok.kc,ok.uX,ok.gt⟩
section
variable {X:Cx}{pins:List (Addr×Obj)}{σ:St}{H:Hp}{s:Shared}{E:Value->Shared->Prop}
theorem Inv.oF(I:Inv X pins σ H s)(E:Value->Shared->Prop):Inv (X.oF E) pins σ H s:=⟨I.ok.oF E,I.os,I.bare,I.base,I.loc,I.cell,I.free,I.ir,I.pin,I.aP,I.len⟩
theorem Inv.lZ(I:Inv (X.oF E) pins σ H s):Inv X pins σ H s:=⟨I.ok.lZ,I.os,I.bare,I.base,I.loc,I.cell,I.free,I.ir,I.pin,I.aP,I.len⟩
theorem SP.lZ{D:Ends}{f:Flow}{s':Shared}(h:SP (X.oF E) pins D f s'):SP X pins D f s':=by
 cases f with
 |next=>obtain⟨σ',H',I,q⟩:=h;exact⟨σ',H',I.lZ,q⟩
 |brk=>obtain⟨σ',H',I,q⟩:=h;exact⟨σ',H',I.lZ,q⟩
 |cont=>obtain⟨σ',H',I,q⟩:=h;exact⟨σ',H',I.lZ,q⟩
 |ret u=>obtain⟨v,σ',H',I,r,q⟩:=h;exact⟨v,σ',H',I.lZ,r,q⟩
theorem gG.uH{st:List Stmt}{t:TS}(h:gG X.uH st t):gG X st t:=fun pins s σ H D I hw=>
 wpAny_mono (h pins s σ H D (I.oF _) hw) (fun _ _ q=>q.lZ) fun _ _ z=>False.elim z
end
section
variable {X:Cx}{st:Stmt}{rest:List Stmt}{t u:TS}{e:Expr}{te:TE}{pos:Pos}
def Ob:TS:=fun D σ H=>D.nx σ H
def Pm(t u:TS):TS:=fun D σ H=>t {D with nx:=u D} σ H
theorem Jb:gG X [] Ob:=fun _ _ σ H _ I h=>wpAny_execs_nil ⟨σ,H,I,h⟩
theorem FA(h1:PS X st t)(h2:gG X rest u):gG X (st::rest) (Pm t u):=by
 intro pins s σ H D I h;refine wpAny_execs_cons (bO (h1 pins s σ H {D with nx:=u D} I h) fun f s1 q=>?_);cases f with
 |next=>
  obtain⟨σ',H',I',q⟩:=q;exact h2 pins s1 σ' H' D I' q
 |ret v=>exact q
 |brk=>exact q
 |cont=>exact q
theorem Ib(h1:PS X st t):gG X [st] t:=by
 intro pins s σ H D I h;refine wpAny_execs_cons (bO (h1 pins s σ H D I h) fun f s1 q=>?_);cases f with
 |next=>exact wpAny_execs_nil q
 |ret v=>exact q
 |brk=>exact q
 |cont=>exact q
theorem Inv.quiet{pins:List (Addr×Obj)}{σ:St}{H:Hp}{s:Shared}(I:Inv X pins σ H s):interactive X.env=false:=by simp[interactive,I.ok.kind]
def N7(te:TE):TS:=fun D σ H=>te σ H fun _ H1=>D.nx σ H1
theorem HJ(he:PE X e te)(hs:swapsWith e none pos.line X.env=pure false:=by rfl):PS X (.Expr e pos) (N7 te):=by
 intro pins s σ H D I h;exact wpAny_Expr_any (bO (he pins s σ H _ I h) fun v s1 ⟨x,H1,I1,r1,q1⟩=>⟨σ,H1,I1,q1⟩) I.quiet hs
def OW(te:TE):TS:=fun D σ H=>te σ H D.rt
theorem J9(he:PE X e te):PS X (.Return (some e) pos) (OW te):=by
 intro pins s σ H D I h;exact wpAny_Return_some (bO (he pins s σ H _ I h) fun v s1 ⟨x,H1,I1,r1,q1⟩=>⟨x,σ,H1,I1,r1,q1⟩)
def OY(c:TT)(t u:TS):TS:=fun D σ H=>c σ H fun b H1=>if b=true then t D σ H1 else u D σ H1
theorem N4{c:Expr}{a b:List Stmt}{tc:TT}(hc:PT X c tc)(ha:gG X a t)(hb:gG X b u):PS X (.If c a b pos) (OY tc t u):=by
 intro pins s σ H D I h;refine wpAny_If (bO (hc pins s σ H _ I h) fun d s1 ⟨H1,I1,q1⟩=>?_);cases d with
 |true=>exact ha pins s1 σ H1 D I1 q1
 |false=>exact hb pins s1 σ H1 D I1 q1
end
abbrev TG:=V->St->Hp->(St->Hp->Prop)->Prop
abbrev yM:=List V->St->Hp->(St->Hp->Prop)->Prop
def PG(X:Cx)(target:Expr)(t:TG):Prop:=
 ∀(pins:List (Addr×Obj)) (s:Shared) (σ:St) (H:Hp) (v:V) (u:Value) (Q:St->Hp->Prop),Inv X pins σ H s->RelV v u->t v σ H Q->
  wpAny (model X.prog X.w) X.A (assign target X.env u) (fun _ s'=>∃σ' H',Inv X pins σ' H' s'/\Q σ' H') X.xe s
def HA(X:Cx)(ts:List Expr)(t:yM):Prop:=
 ∀(pins:List (Addr×Obj)) (s:Shared) (σ:St) (H:Hp) (vs:List V) (us:List Value) (Q:St->Hp->Prop),Inv X pins σ H s->Vals vs us->t vs σ H Q->
  wpAny (model X.prog X.w) X.A (assignInOrder ((assignEach ts X.env).map (·.2)) us) (fun _ s'=>∃σ' H',Inv X pins σ' H' s'/\Q σ' H') X.xe s
abbrev E3:=V->V->V->Hp->(Hp->Prop)->Prop
def L0(X:Cx)(t:E3):Prop:=
 ∀(pins:List (Addr×Obj)) (s:Shared) (σ:St) (H:Hp) (o i v:V) (ov iv u:Value) (Q:Hp->Prop),Inv X pins σ H s->RelV o ov->RelV i iv->RelV v u->t o i v H Q->
  wpAny (model X.prog X.w) X.A (setItem ov iv u) (fun _ s'=>∃H',Inv X pins σ H' s'/\Q H') X.xe s
abbrev GS:=V->V->Hp->VK->Prop
def Mc(X:Cx)(op:Operator)(t:GS):Prop:=
 ∀(pins:List (Addr×Obj)) (s:Shared) (σ:St) (H:Hp) (x y:V) (v u:Value) (Q:VK),Inv X pins σ H s->RelV x v->RelV y u->t x y H Q->
  wpAny (model X.prog X.w) X.A (inplaceOp op v u) (EP X pins σ Q) X.xe s
section
variable {X:Cx}{pos:Pos}
def mL(i:Nat):TG:=fun v σ H Q=>Q (σ.set i (some v)) H
theorem vO{i:Nat}{x:Str}(hN:X.N.Nodup)(hi:X.N[i]?=some x)(hx:Loc X.env.scope x)(hf:X.fn x=true\/X.env.scope.names.lookup x=some .local:=by first|exact .inl rfl|exact .inr rfl|assumption):PG X (.Name x pos) (mL i):=by
 intro pins s σ H v u Q I r h;exact wpAny_assign_Name (uv I hN hi hx r (fun s' I'=>⟨_,H,I',h⟩) hf)
def ME:yM:=fun vs σ H Q=>vs=[]/\Q σ H
def BC(t:TG)(u:yM):yM:=fun vs σ H Q=>∃v r,vs=v::r/\t v σ H fun σ' H'=>u r σ' H' Q
theorem Il:HA X [] ME:=by
 intro pins s σ H vs us Q I r h;obtain⟨e,h⟩:=h;subst e;cases r;exact assignInOrder_nil ⟨σ,H,I,h⟩
theorem yg{e:Expr}{es:List Expr}{t:TG}{u:yM}(h1:PG X e t)(h2:HA X es u)
 (hs:(assignEach (e::es) X.env).map (·.2)=assign e X.env::(assignEach es X.env).map (·.2):=by rfl):HA X (e::es) (BC t u):=by
 intro pins s σ H vs us Q I r h;obtain⟨v,vr,e1,h⟩:=h;subst e1;cases r with
 |cons r rr=>
  rw[hs];refine assignInOrder_cons (bO (h1 pins s σ H _ _ _ I r h) fun _ s1 ⟨σ1,H1,I1,q1⟩=>?_);exact h2 pins s1 σ1 H1 _ _ Q I1 rr q1
def JX(K:PySem.W.Frag)(n:Nat)(t:yM):TG:=fun v σ H Q=>∃a xs,v= .ref a/\iE K H a xs/\xs.length=n/\t xs σ H Q
theorem L4{es:List Expr}{k:Nat}{t:yM}{n:Nat}(hc:X.calm=true)(h:HA X es t)
 (hn:(assignEach es X.env).length=n:=by rfl) (hst:(assignEach es X.env).findIdx? (·.1)=none:=by rfl):PG X (.Tuple es k pos) (JX X.K n t):=by
 intro pins s σ H v u Q I r hw;obtain⟨a,xs,e1,hq,hl,hw⟩:=hw;subst e1;cases r;obtain⟨its,rv,ht,hz⟩:=I.tuple hq;refine assign_Tuple_tuple (I.ok.hd hc) ht (by simp[hn,<-hl,rv.length]) hst fun h' hx=>?_;have I1:Inv X pins σ H {s with heap:=h'}:=I.kept (t':=s.toks) fun b o e=>hx b o (Nat.ne_of_lt (Heap.lt_size e)) e;exact h pins _ σ H xs _ Q I1 (by simpa using rv) hw
def Cj(to ti:TE)(t:E3):TG:=fun v σ H Q=>to σ H fun o H1=>ti σ H1 fun i H2=>t o i v H2 fun H3=>Q σ H3
theorem LH{o i:Expr}{to ti:TE}{t:E3}(ho:PE X o to)(hi:PE X i ti)(hs:L0 X t)
 (ha:∀v,assign (.Subscript o i pos) X.env v=(do
   let ov <-holding [v] (eval o X.env)
   let iv <-holding [v,ov] (eval i X.env)
   standAt pos
   holding [v,ov,iv] (setItem ov iv v)
   release [v,ov,iv] []):=by intro _;rfl):PG X (.Subscript o i pos) (Cj to ti t):=by
 intro pins s σ H v u Q I r h;rw[ha];refine wpAny_bind (wpAny_holding (bO (ho pins s σ H _ I h) fun ov s1 ⟨x,H1,I1,r1,q1⟩=>?_));refine wpAny_bind (wpAny_holding (bO (hi pins s1 σ H1 _ I1 q1) fun iv s2 ⟨y,H2,I2,r2,q2⟩=>?_));refine wpAny_bind (wpAny_standAt (wpAny_bind (wpAny_holding (bO (hs pins s2 σ H2 x y v ov iv u _ I2 r1 r2 r q2) fun _ s3 ⟨H3,I3,q3⟩=>?_))));exact wpAny_release ⟨σ,H3,I3,q3⟩
def oR(te:TE)(g:TG):TS:=fun D σ H=>te σ H fun x H1=>g x σ H1 D.nx
theorem DH{tg e:Expr}{te:TE}{g:TG}(he:PE X e te)(hg:PG X tg g)(hs:swapsWithSole [tg] e pos.line X.env=pure false:=by rfl)(hw:swappedStores [tg] e X.env=pure none:=by rfl)
 (h1:(assignEach [tg] X.env).map (·.2)=[assign tg X.env]:=by rfl):PS X (.Assign [tg] e pos) (oR te g):=by
 intro pins s σ H D I h;refine wpAny_Assign_stores (bO (he pins s σ H _ I h) fun v s1 ⟨x,H1,I1,r1,q1⟩=>?_) hs hw;rw[h1];exact bO (hg pins s1 σ H1 x v _ I1 r1 q1) fun _ s2 q=>q
theorem Mf{i:Nat}{x:Str}{e:Expr}{te:TE}{pos':Pos}(hN:X.N.Nodup)(hi:X.N[i]?=some x)(hx:Loc X.env.scope x)(he:PE X e te)(hs:swapsWith e (some (.Name x pos')) pos.line X.env=pure false:=by rfl)(hf:X.fn x=true\/X.env.scope.names.lookup x=some .local:=by first|exact .inl rfl|exact .inr rfl|assumption):
 PS X (.Assign [.Name x pos'] e pos) (oR te (mL i)):=by
 intro pins s σ H D I h;refine wpAny_Assign_Name (bO (he pins s σ H _ I h) fun v s1 ⟨y,H1,I1,r1,q1⟩=>?_) hs;exact uv I1 hN hi hx r1 (fun s2 I2=>⟨_,H1,I2,q1⟩) hf
def Kx(i:Nat)(te:TE)(ti:GS):TS:=fun D σ H=>∃x,σ[i]?=some (some x)/\te σ H fun y H1=>ti x y H1 fun z H2=>D.nx (σ.set i (some z)) H2
theorem Mj{i:Nat}{x:Str}{e:Expr}{te:TE}{op:Operator}{ti:GS}{pos':Pos}(hN:X.N.Nodup)(hi:X.N[i]?=some x)(hx:Loc X.env.scope x)(he:PE X e te)(ho:Mc X op ti)(hf:X.fn x=true\/X.env.scope.names.lookup x=some .local:=by first|exact .inl rfl|exact .inr rfl|assumption):
 PS X (.AugAssign (.Name x pos') op e pos) (Kx i te ti):=by
 intro pins s σ H D I h;obtain⟨v,e1,h⟩:=h;obtain⟨m,hn,hl⟩:=I.loc;have vis:z_ X.env.scope x:=by rcases hx with k|k;exact .inl k;exact .inr (.inl k)
 obtain⟨u,r,l⟩:=hl i x v hi e1 vis;refine wpAny_AugAssign_Name ?_
 have go:wpAny (model X.prog X.w) X.A (eval e X.env) (fun w s₂=>wpAny (model X.prog X.w) X.A (inplaceOp op u w) (fun r s₃=>wpAny (model X.prog X.w) X.A (storeName X.env x r) (fun _=>SP X pins D .next) X.xe s₃) X.xe s₂) X.xe s:=by
  refine bO (he pins s σ H _ I h) fun w s1 ⟨y,H1,I1,r1,q1⟩=>?_;refine bO (ho pins s1 σ H1 v y u w _ I1 r r1 q1) fun z s2 ⟨zv,H2,I2,r2,q2⟩=>?_;exact uv I2 hN hi hx r2 (fun s3 I3=>⟨_,H2,I3,q2⟩) hf
 rcases l with⟨hk,hm⟩|⟨hk,c,hc,hcell⟩
 . exact wpAny_loadName_local I.ok.kind hk hn hm go
 . rcases hk with hk|hk
   . exact wpAny_loadName_cell I.ok.kind hk hc hcell go
   . rcases hx with k|k
     . have:X.env.scope.names.lookup x=some .free:=hk;rw[k]at this;cases this
     . have:X.env.scope.names.lookup x=some .free:=hk;rw[k]at this;cases this
def Lp(f:Int->Int->Int):GS:=fun x y H Q=>∃i j,x= .int i/\y= .int j/\Q (.int (f i j)) H
theorem KL:Mc X .Add (Lp fun i j=>i+j):=by
 intro pins s σ H x y v u Q I r1 r2 h;obtain⟨i,j,e1,e2,q⟩:=h;subst e1;subst e2;obtain⟨t,rfl⟩:=r1;obtain⟨t',rfl⟩:=r2;exact iadd_int ⟨.int _,H,I.tok _,⟨_,rfl⟩,q⟩
def C8(c:TT)(tb:TS):TS:=fun D σ H=>∃W:Nat->St->Hp->Prop,(∃m,W m σ H)/\∀m σ H,W m σ H->
 c σ H fun b H1=>if b=true then∃N:St->Hp->Prop,(∀σ' H',N σ' H'->∃m',m'<m/\W m' σ' H')/\tb {D with nx:=N,ct:=N,bk:=D.nx} σ H1 else D.nx σ H1
theorem Gf{c:Expr}{body:List Stmt}{tc:TT}{tb:TS}(hp:PassesOwn (model X.prog X.w) X.A X.env X.xe)(hc:PT X c tc)(hb:gG X body tb):PS X (.While c body [] pos) (C8 tc tb):=by
 intro pins s σ H D I h;obtain⟨W,⟨m0,w0⟩,turn⟩:=h;refine wpAny_While (codeAny_whileLoop (fun n s'=>∃σ' H',Inv X pins σ' H' s'/\W n σ' H') ?_ m0 ⟨σ,H,I,w0⟩);rintro n s1 ⟨σ1,H1,I1,w1⟩;refine wpAny_passesOwn hp (bO (hc pins s1 σ1 H1 _ I1 (turn n σ1 H1 w1)) fun b s2 ⟨H2,I2,q2⟩=>?_);cases b with
 |true=>
  obtain⟨N,hN,q2⟩:=q2;rw[if_pos rfl];refine wpAny_passesOwn hp (bO (hb pins s2 σ1 H2 _ I2 q2) fun f s3 q3=>?_);cases f with
  |next=>
   obtain⟨σ3,H3,I3,n3⟩:=q3;obtain⟨m',hm,w3⟩:=hN σ3 H3 n3;exact⟨m',hm,σ3,H3,I3,w3⟩
  |cont=>
   obtain⟨σ3,H3,I3,n3⟩:=q3;obtain⟨m',hm,w3⟩:=hN σ3 H3 n3;exact⟨m',hm,σ3,H3,I3,w3⟩
  |brk=>exact q3
  |ret v=>exact q3
 |false=>
  rw[if_neg Bool.false_ne_true];exact wpAny_execs_nil ⟨σ1,H2,I2,q2⟩
end
structure It where
 go:Nat->Hp->Prop
 nQ:Nat->Hp->V->Hp->Prop
 stop:Nat->Hp->Prop
def kW(X:Cx)(pins:List (Addr×Obj))(H:Hp)(b:Addr):Prop:=
 H b=none/\b≠X.env.locals/\b∉X.fs/\(b∈X.ex\/X.s₀.heap.objs.size<=b)/\(∀x c,X.env.cells.lookup x=some c->c≠b)/\∀p∈X.pn++pins,p.1≠b
theorem Inv.uo{X:Cx}{pins:List (Addr×Obj)}{σ:St}{H H':Hp}{s:Shared}{b:Addr}(I:Inv X pins σ H s)(hb:s.heap.objs.size<=b)(hn:H' b=none):kW X pins H' b:=by
 refine⟨hn,Nat.ne_of_gt (Nat.lt_of_lt_of_le I.lt hb),I.K_ hb,.inr (Nat.le_trans I.sz hb),fun x c e z=>?_,fun p hp z=>?_⟩
 . obtain⟨v,q⟩:=I.cell x c e;exact absurd (Nat.lt_of_lt_of_le q.lt (by rw[z];exact hb)) (Nat.lt_irrefl _)
 . exact absurd (Nat.lt_of_lt_of_le (Heap.lt_size (I.pin p hp).1) (by rw[z];exact hb)) (Nat.lt_irrefl _)
structure Turn(P:Program)(w:World)(K:PySem.W.Frag)(tg:Expr)(J:It)(fp:List Addr)(it:Addr)(tn:Nat->Heap->Prop):Prop where
 mem:it∈fp
 obj:∀i h,tn i h->∀b∈fp,∃o,h.get? b=some o/\∀v,o.data≠ .cell v
 keep:∀i h h',tn i h->(∀b∈fp,∀o,h.get? b=some o->h'.get? b=some o)->tn i h'
 item:∀(X:Cx),X.prog=P->X.w=w->X.K=K->X.calm=true->∀(i:Nat) (pins:List (Addr×Obj)) (s:Shared) (σ:St) (H:Hp) (E:Value->Shared->Prop),Inv X pins σ H s->(∀b∈fp,kW X pins H b)->tn i s.heap->J.go i H->
  wpAny (model P w) X.A (pyNext (.ref it)) (fun r s1=>∃u,r=some u/\
   wpAny (model P w) X.A (letOwnedTupleGo tg (.ref it) u) (fun _ s2=>∃x H',Inv X pins σ H' s2/\RelV x u/\J.nQ i H x H'/\tn (i+1) s2.heap/\∀b∈fp,H' b=none) E s1) E s
 done:∀(X:Cx),X.prog=P->X.w=w->X.K=K->X.calm=true->∀(i:Nat) (pins:List (Addr×Obj)) (s:Shared) (σ:St) (H:Hp) (E:Value->Shared->Prop),Inv X pins σ H s->(∀b∈fp,kW X pins H b)->tn i s.heap->J.stop i H->
  wpAny (model P w) X.A (pyNext (.ref it)) (fun r s1=>r=none/\Inv X pins σ H s1) E s
 self:∀(A:Around) (i:Nat) (s:Shared) (Q:Value->Shared->Prop) (E:Value->Shared->Prop),tn i s.heap->Q (.ref it) s->wpAny (model P w) A (pyIter (.ref it)) Q E s
abbrev TI:=St->Hp->(It->Hp->Prop)->Prop
def Hm(X:Cx)(pins:List (Addr×Obj))(σ:St)(tg:Expr)(R:It->Hp->Prop)(itv:Value)(s2:Shared):Prop:=
 ∃(it:Addr) (fp:List Addr) (tn:Nat->Heap->Prop) (J:It) (H':Hp),itv= .ref it/\Inv X pins σ H' s2/\Turn X.prog X.w X.K tg J fp it tn/\tn 0 s2.heap/\(∀b∈fp,kW X pins H' b)/\R J H'
def PI(X:Cx)(tg iter:Expr)(wi:TI):Prop:=
 ∀(pins:List (Addr×Obj)) (s:Shared) (σ:St) (H:Hp) (R:It->Hp->Prop),Inv X pins σ H s->wi σ H R->
  wpAny (model X.prog X.w) X.A (eval iter X.env) (fun v s1=>wpAny (model X.prog X.w) X.A (pyIter v) (Hm X pins σ tg R) X.xe s1) X.xe s
theorem yb{M:Model}{A:Around}{E:Value->Shared->Prop}{s:Shared}{tg:Expr}{it:Addr}{u:Value}{o:Obj}{n:String}{vs:Array Value}{Q:Unit->Shared->Prop}(ho:s.heap.get? it=some o)(hc:o.cls= .type n)(hd:o.data= .fields vs)
 (hn: ["enumerate","zip","dict_itemiterator","dict_reverseitemiterator","odict_iterator","itertools.zip_longest","itertools.pairwise"].contains n=false) (hQ:Q () s):wpAny M A (letOwnedTupleGo tg (.ref it) u) Q E s:=by
 unfold letOwnedTupleGo
 cases tg<;>first
  |exact wpAny_pure hQ
  |(cases u<;>first
     |exact wpAny_pure hQ
     |(refine wpAny_bind (wpAny_load ho ?_)
       rw[hc,hd];show wpAny M A (if(["enumerate","zip","dict_itemiterator","dict_reverseitemiterator","odict_iterator","itertools.zip_longest","itertools.pairwise"].contains n&&vs[0]?==some (rawInt _))=true then _ else _) Q E s;rw[if_neg (by intro h;rw[hn,Bool.false_and]at h;cases h)];exact wpAny_pure hQ))
def LF(K:PySem.W.Frag)(a:Addr):It:=
 ⟨fun i H=>∃xs x,l_ K H a xs/\xs[i]?=some x,fun i H x H'=>H'=H/\∀xs,l_ K H a xs->xs[i]?=some x,fun i H=>∃xs,l_ K H a xs/\xs.length<=i⟩
def Ka(K:PySem.W.Frag)(a:Addr):It:=
 ⟨fun i H=>∃xs x,iE K H a xs/\xs[i]?=some x,fun i H x H'=>H'=H/\∀xs,iE K H a xs->xs[i]?=some x,fun i H=>∃xs,iE K H a xs/\xs.length<=i⟩
def xq(lo:Int)(n:Nat):It:=⟨fun i _=>i<n,fun i H x H'=>H'=H/\x= .int (lo+i),fun i _=>n<=i⟩
theorem CT{P:Program}{w:World}{K:PySem.W.Frag}{tg:Expr}(a it:Addr):Turn P w K tg (LF K a) [it] it (fun i h=>h.IsListIter it a i) where
 mem:=by simp
 obj:=fun i h st b hb=>by
  have e:b=it:=by simpa using hb
  subst e;obtain⟨o,e,c,d⟩:=st;exact⟨o,e,fun v z=>by rw[d]at z;cases z⟩
 keep:=fun i h h' st k=>st.at fun o e=>k it (by simp) o e
 item:=by
  intro X hP hw hK hc i pins s σ H E I hf st hg;subst hP hw hK;obtain⟨xs,x,hq,hx⟩:=hg;obtain⟨its,rv,p,hz⟩:=I.list hq;obtain⟨u,hu,ru⟩:=rv.get hx;obtain⟨f0,f1,f2,f3,f4,f5⟩:=hf it (by simp);refine wpAny_pyNext_list_item st p.isList (x:=u) (by simpa using hu) fun h' st' sb=>?_;have I1:Inv X pins σ H {s with heap:=h'}:=I.turned (t':=s.toks) (fun b o hb e=>(sb.2 b hb).trans e) f0 f1 f3 f4 f5;obtain⟨o,e,c,d⟩:=id st';exact⟨u,rfl,yb (s:={s with heap:=h'}) e c d (by decide) ⟨x,H,I1,ru,⟨rfl,fun ys hy=>by rw[I.zt hy hq];exact hx⟩,st',fun b hb=>(hf b hb).1⟩⟩
 done:=by
  intro X hP hw hK hc i pins s σ H E I hf st hg;subst hP hw hK;obtain⟨xs,hq,hx⟩:=hg;obtain⟨its,rv,p,hz⟩:=I.list hq;obtain⟨f0,f1,f2,f3,f4,f5⟩:=hf it (by simp);have hl:=rv.length;exact wpAny_pyNext_list_end (I.ok.hd hc) st p.isList (by simp;omega) fun h' eb=>⟨rfl,I.turned (t':=s.toks) (fun b o hb e=>eb b o hb e) f0 f1 f3 f4 f5⟩
 self:=fun _ _ _ _ _ st h=>wpAny_pyIter_listiter st h
theorem Cv{P:Program}{w:World}{K:PySem.W.Frag}{tg:Expr}(a it:Addr):Turn P w K tg (Ka K a) [it] it (fun i h=>h.IsTupleIter it a i) where
 mem:=by simp
 obj:=fun i h st b hb=>by
  have e:b=it:=by simpa using hb
  subst e;obtain⟨o,e,c,d⟩:=st;exact⟨o,e,fun v z=>by rw[d]at z;cases z⟩
 keep:=fun i h h' st k=>st.at fun o e=>k it (by simp) o e
 item:=by
  intro X hP hw hK hc i pins s σ H E I hf st hg;subst hP hw hK;obtain⟨xs,x,hq,hx⟩:=hg;obtain⟨its,rv,p,hz⟩:=I.tuple hq;obtain⟨u,hu,ru⟩:=rv.get hx;obtain⟨f0,f1,f2,f3,f4,f5⟩:=hf it (by simp);refine wpAny_pyNext_tuple_item st (show s.heap.IsTuple a its.toArray from p) (x:=u) (by simpa using hu) fun h' st' sb=>?_;have I1:Inv X pins σ H {s with heap:=h'}:=I.turned (t':=s.toks) (fun b o hb e=>(sb.2 b hb).trans e) f0 f1 f3 f4 f5;obtain⟨o,e,c,d⟩:=id st';exact⟨u,rfl,yb (s:={s with heap:=h'}) e c d (by decide) ⟨x,H,I1,ru,⟨rfl,fun ys hy=>by rw[I.wQ hy hq];exact hx⟩,st',fun b hb=>(hf b hb).1⟩⟩
 done:=by
  intro X hP hw hK hc i pins s σ H E I hf st hg;subst hP hw hK;obtain⟨xs,hq,hx⟩:=hg;obtain⟨its,rv,p,hz⟩:=I.tuple hq;obtain⟨f0,f1,f2,f3,f4,f5⟩:=hf it (by simp);have hl:=rv.length;exact wpAny_pyNext_tuple_end (I.ok.hd hc) st (show s.heap.IsTuple a its.toArray from p) (by simp;omega) fun h' eb=>⟨rfl,I.turned (t':=s.toks) (fun b o hb e=>eb b o hb e) f0 f1 f3 f4 f5⟩
 self:=fun _ _ _ _ _ st h=>wpAny_pyIter_tupleiter st h
theorem BN{P:Program}{w:World}{K:PySem.W.Frag}{tg:Expr}(it:Addr)(lo:Int)(n:Nat):Turn P w K tg (xq lo n) [it] it (fun i h=>IsRangeIter h it (lo+(i:Nat)*1) ((n:Int)-(i:Nat)) 1) where
 mem:=by simp
 obj:=fun i h st b hb=>by
  have e:b=it:=by simpa using hb
  subst e
  exact⟨_,st,fun v z=>by
   have z':Data.fields _=Data.cell v:=z;cases z'⟩
 keep:=fun i h h' st k=>k it (by simp) _ st
 item:=by
  intro X hP hw hK hc i pins s σ H E I hf st hg;subst hP hw hK;obtain⟨f0,f1,f2,f3,f4,f5⟩:=hf it (by simp);have W:=Walks.range (prog:=X.prog) (w:=X.w) (I.ok.hd hc) it lo 1 n;refine W.item i s _ _ hg st fun v h' tk hv st' kk=>?_;obtain⟨t,rfl⟩:=hv;have I1:Inv X pins σ H {s with heap:=h',toks:=tk}:=I.turned (fun b o hb e=>kk b o (by simpa using hb) e) f0 f1 f3 f4 f5;refine⟨_,rfl,yb (s:={s with heap:=h',toks:=tk}) (n:="range_iterator") st' rfl rfl (by decide) ⟨.int (lo+i),H,I1,⟨t,?_⟩,⟨rfl,rfl⟩,st',fun b hb=>(hf b hb).1⟩⟩;rw[Int.mul_one]
 done:=by
  intro X hP hw hK hc i pins s σ H E I hf st hg;subst hP hw hK;obtain⟨f0,f1,f2,f3,f4,f5⟩:=hf it (by simp);exact wpAny_pyNext_range_end (I.ok.hd hc) st (by have:n<=i:=hg;omega) fun h' eb=>⟨rfl,I.turned (t':=s.toks) (fun b o hb e=>eb b o hb e) f0 f1 f3 f4 f5⟩
 self:=fun _ _ _ _ _ st h=>wpAny_pyIter_rangeiter st h
section
variable {X:Cx}{tg:Expr}
theorem zL{pins:List (Addr×Obj)}{σ:St}{H:Hp}{s:Shared}{R:It->Hp->Prop}{E:Value->Shared->Prop}{lo hi:Int}{t u v:Tok}{tk:Nat}(I:Inv X pins σ H s)(h1: -(2^62)<=lo)(h2:lo<2^62)(h3: -(2^62)<=hi)(h4:hi<2^62)
 (q:R (xq lo (hi-lo).toNat) H):wpAny (model X.prog X.w) X.A (pyIter (.ref s.heap.objs.size)) (Hm X pins σ tg R) E {s with heap:=s.heap.push {cls:= .type "range",data:= .fields #[.int lo t,.int hi u,.int 1 v]},toks:=tk}:=by
 refine wpAny_pyIter_range (IsRange.new ..) (small_one h1 h2 h3 h4) ?_;have I1:Inv X pins σ H {s with heap:=s.heap.push {cls:= .type "range",data:= .fields #[.int lo t,.int hi u,.int 1 v]},toks:=tk}:=I.kept fun b o e=>Heap.get?_push_of_some _ e
 refine⟨(s.heap.push {cls:= .type "range",data:= .fields #[.int lo t,.int hi u,.int 1 v]}).objs.size,[(s.heap.push {cls:= .type "range",data:= .fields #[.int lo t,.int hi u,.int 1 v]}).objs.size],_,_,H,rfl,
  I1.kept (t':=tk) fun b o e=>Heap.get?_push_of_some _ e,BN _ lo (hi-lo).toNat,?_,fun b hb=>?_,q⟩
 . have e1:lo+((0:Nat):Int)*1=lo:=by simp
   have e2:(((hi-lo).toNat:Nat):Int)-((0:Nat):Int)=Builtin.Range.rangeSize lo hi 1:=by rw[rangeSize_one];split<;>omega
   show IsRangeIter _ _ (lo+((0:Nat):Int)*1) ((((hi-lo).toNat:Nat):Int)-((0:Nat):Int)) 1;rw[e1,e2];exact Heap.get?_push_size _ rfl
 . have e:b=(s.heap.push {cls:= .type "range",data:= .fields #[.int lo t,.int hi u,.int 1 v]}).objs.size:=by simpa using hb
   subst e;exact I1.uo (Nat.le_refl _) (I1.aP.fresh (Nat.le_refl _))
def BQ(ta:TA):TI:=fun σ H R=>ta σ H fun vs H1=>∃j:Int,vs=[.int j]/\ -(2^62)<=j/\j<2^62/\R (xq 0 j.toNat) H1
def B7(ta:TA):TI:=fun σ H R=>ta σ H fun vs H1=>∃i j:Int,vs=[.int i,.int j]/\(-(2^62)<=i/\i<2^62/\ -(2^62)<=j/\j<2^62)/\R (xq i (j-i).toNat) H1
theorem EB{a:Expr}{ta:TA}{p pos:Pos}(hg:Gl X "range")(hm:X.mg "range"=none)(ha:PA X [a] ta)(hs:starEach [a] X.env=[(false,eval a X.env)]:=by rfl):PI X tg (.Call (.Name "range" p) [a] [] pos) (BQ ta):=by
 intro pins s σ H R I h;refine Call_ (j8 I hg hm boot_range (PyProof.Rows.callWith_type1 (bO (ha pos pins s σ H _ I h) fun us s1 ⟨vs,H1,I1,r1,q1⟩=>?_) hs rfl));obtain⟨j,e,q1,q2,q⟩:=q1;subst e;cases r1 with
 |cons r rr=>
  cases rr;obtain⟨t,rfl⟩:=r;exact call_range_1 (zL I1 (by omega) (by omega) q1 q2 (by simpa using q))
theorem DQ{a b:Expr}{ta:TA}{p pos:Pos}(hg:Gl X "range")(hm:X.mg "range"=none)(ha:PA X [a,b] ta)(hs:starEach [a,b] X.env=[(false,eval a X.env),(false,eval b X.env)]:=by rfl)(hs2:starEach [b] X.env=[(false,eval b X.env)]:=by rfl):
 PI X tg (.Call (.Name "range" p) [a,b] [] pos) (B7 ta):=by
 intro pins s σ H R I h;refine Call_ (j8 I hg hm boot_range (PyProof.Rows.callWith_type1 (bO (ha pos pins s σ H _ I h) fun us s1 ⟨vs,H1,I1,r1,q1⟩=>?_) (by rw[hs,hs2]) (by rw[hs2];rfl)));obtain⟨i,j,e,⟨q1,q2,q3,q4⟩,q⟩:=q1;subst e;cases r1 with
 |cons r rr=>
  cases rr with
  |cons r' rr=>
   cases rr;obtain⟨t,rfl⟩:=r;obtain⟨t',rfl⟩:=r';exact call_range_2 (zL I1 q1 q2 q3 q4 q)
def Kv(wi:TI)(g:TG)(tb:TS):TS:=fun D σ H=>wi σ H fun J H1=>∃W:Nat->Nat->St->Hp->Prop,(∃m,W 0 m σ H1)/\∀i m σ H,W i m σ H->
 (J.stop i H/\D.nx σ H)\/(J.go i H/\∃N:St->Hp->Prop,(∀σ' H',N σ' H'->∃m',m'<m/\W (i+1) m' σ' H')/\∀x H',J.nQ i H x H'->g x σ H' fun σ2 H2=>tb {D with nx:=N,ct:=N,bk:=D.nx} σ2 H2)
def rg(fp:List Addr)(h:Heap):List (Addr×Obj):=fp.filterMap fun b=>(h.get? b).map fun o=>(b,o)
theorem mI{fp:List Addr}{h:Heap}{b:Addr}{o:Obj}(hb:b∈fp)(e:h.get? b=some o):(b,o)∈rg fp h:=List.mem_filterMap.mpr ⟨b,hb,by rw[e];rfl⟩
theorem DR{fp:List Addr}{h:Heap}{p:Addr×Obj}(hp:p∈rg fp h):p.1∈fp/\h.get? p.1=some p.2:=by
 obtain⟨b,hb,e⟩:=List.mem_filterMap.mp hp;cases q:h.get? b with
 |none=>rw[q]at e;cases e
 |some o=>
  rw[q]at e;have e':(b,o)=p:=Option.some.inj e;subst e';exact⟨hb,q⟩
theorem Inv.pinned{pins:List (Addr×Obj)}{σ:St}{H:Hp}{s:Shared}{fp:List Addr}(I:Inv X pins σ H s)(hf:∀b∈fp,kW X pins H b)(ho:∀b∈fp,∃o,s.heap.get? b=some o/\∀v,o.data≠ .cell v):Inv X (pins++rg fp s.heap) σ H s:=
 I.rV fun p hp=>(List.mem_append.mp hp).elim (fun z=>I.pin p (List.mem_append_right _ z)) fun z=>by
  obtain⟨hb,e⟩:=DR z;obtain⟨f0,f1,f2,_⟩:=hf p.1 hb;obtain⟨o,e',d⟩:=ho p.1 hb;rw[e]at e';cases e';exact⟨e,f0,f1,f2,d⟩
theorem Inv.gL{pins pl:List (Addr×Obj)}{σ:St}{H:Hp}{s:Shared}(I:Inv X (pins++pl) σ H s):Inv X pins σ H s:=I.rV fun p hp=>I.pin p (List.mem_append_right _ (List.mem_append_left _ hp))
theorem JZ{iter:Expr}{body:List Stmt}{wi:TI}{g:TG}{tb:TS}{pos:Pos}(hp:PassesOwn (model X.prog X.w) X.A X.env X.xe)(hc:X.calm=true)(hi:PI X tg iter wi)(hg:PG X tg g)(hb:gG X body tb)
 (hs:∀x,foldedSetIterable iter X.env x=pure x:=by intro _;rfl):PS X (.For tg iter body [] pos) (Kv wi g tb):=by
 intro pins s σ H D I h;refine wpAny_For (bO (hi pins s σ H _ I h) fun v s1 h1=>bO h1 fun itv s2 h2=>?_) hs;obtain⟨it,fp,tn,J,H2,e,I2,T,st2,f2,W,⟨m0,w0⟩,turn⟩:=h2;subst e;have stat:∀ {H':Hp},(∀b∈fp,H' b=none)->∀b∈fp,kW X pins H' b:=fun hn b hb=>⟨hn b hb,(f2 b hb).2⟩
 refine codeAny_forLoop_any (fun n s'=>∃i σ' H',Inv X pins σ' H' s'/\tn i s'.heap/\(∀b∈fp,H' b=none)/\W i n σ' H') ?_ m0 ⟨0,σ,H2,I2,st2,fun b hb=>(f2 b hb).1,w0⟩;rintro n s3 ⟨i,σ3,H3,I3,st3,fr3,w3⟩;rcases turn i n σ3 H3 w3 with⟨stop,qn⟩|⟨go,N,hN,step⟩
 . refine wpAny_passesOwn hp (bO (T.done X rfl rfl rfl hc i pins s3 σ3 H3 X.xe I3 (stat fr3) st3 stop) fun r s4 ⟨hr,I4⟩=>?_);subst hr;exact wpAny_execs_nil ⟨σ3,H3,I4,qn⟩
 . refine wpAny_passesOwn hp (bO (T.item X rfl rfl rfl hc i pins s3 σ3 H3 X.xe I3 (stat fr3) st3 go) fun r s4 ⟨u,hr,h4⟩=>?_);subst hr;refine wpAny_passesOwn hp (bO h4 fun _ s5 ⟨x,H5,I5,r5,y5,st5,fr5⟩=>?_);have I5':=I5.pinned (stat fr5) (T.obj _ _ st5);refine wpAny_passesOwn hp (bO (hg _ s5 σ3 H5 x u _ I5' r5 (step x H5 y5)) fun _ s6 ⟨σ6,H6,I6,q6⟩=>?_);refine wpAny_passesOwn hp (bO (hb _ s6 σ6 H6 _ I6 q6) fun f s7 q7=>?_)
   have again:∀ {σ7:St} {H7:Hp},Inv X (pins++rg fp s5.heap) σ7 H7 s7->N σ7 H7->∃m,m<n/\∃i σ' H',Inv X pins σ' H' s7/\tn i s7.heap/\(∀b∈fp,H' b=none)/\W i m σ' H':=fun{σ7 H7} I7 n7=>by
    obtain⟨m',hm,w7⟩:=hN σ7 H7 n7;refine⟨m',hm,i+1,σ7,H7,I7.gL,T.keep _ _ _ st5 fun b hb o e=>(I7.pin (b,o) (List.mem_append_right _ (List.mem_append_right _ (mI hb e)))).1,fun b hb=>?_,w7⟩;obtain⟨o,e,d⟩:=T.obj _ _ st5 b hb;exact(I7.pin (b,o) (List.mem_append_right _ (List.mem_append_right _ (mI hb e)))).2.1
   cases f with
   |next=>obtain⟨σ7,H7,I7,n7⟩:=q7;exact again I7 n7
   |cont=>obtain⟨σ7,H7,I7,n7⟩:=q7;exact again I7 n7
   |brk=>obtain⟨σ7,H7,I7,q7⟩:=q7;exact⟨σ7,H7,I7.gL,q7⟩
   |ret v=>obtain⟨x7,σ7,H7,I7,r7,q7⟩:=q7;exact⟨x7,σ7,H7,I7.gL,r7,q7⟩
end
theorem lI{lo:Int}{n:Nat}{g:TG}{tb:TS}{D:Ends}{σ:St}{H:Hp}(Pv:Nat->St->Hp->Prop)(h0:Pv 0 σ H)
 (hs:∀i σ H,i<n->Pv i σ H->g (.int (lo+i)) σ H fun σ2 H2=>tb {D with nx:=Pv (i+1),ct:=Pv (i+1),bk:=D.nx} σ2 H2) (hd:∀σ H,Pv n σ H->D.nx σ H):
 ∃W:Nat->Nat->St->Hp->Prop,(∃m,W 0 m σ H)/\∀i m σ H,W i m σ H->
  ((xq lo n).stop i H/\D.nx σ H)\/((xq lo n).go i H/\∃N:St->Hp->Prop,(∀σ' H',N σ' H'->∃m',m'<m/\W (i+1) m' σ' H')/\∀x H',(xq lo n).nQ i H x H'->g x σ H' fun σ2 H2=>tb {D with nx:=N,ct:=N,bk:=D.nx} σ2 H2):=by
 refine⟨fun i m σ H=>m=n-i/\i<=n/\Pv i σ H,⟨n,by simp,Nat.zero_le _,h0⟩,?_⟩;rintro i m σ H ⟨rfl,hi,p⟩;by_cases hlt:i<n
 . refine .inr ⟨hlt,Pv (i+1),fun σ' H' p'=>⟨n-(i+1),by omega,rfl,hlt,p'⟩,fun x H' y=>?_⟩;obtain⟨e,y⟩:=y;subst e y;exact hs i σ _ hlt p
 . have e:i=n:=by omega
   subst e;exact .inl ⟨Nat.le_refl _,hd σ H p⟩
abbrev R2:=V->V->Hp->VK->Prop
def bM(X:Cx)(f:Value->Value->Sem Value)(r:R2):Prop:=
 ∀(pins:List (Addr×Obj)) (s:Shared) (σ:St) (H:Hp) (x y:V) (v u:Value) (Q:VK),Inv X pins σ H s->RelV x v->RelV y u->r x y H Q->
  wpAny (model X.prog X.w) X.A (f v u) (EP X pins σ Q) X.xe s
def AE(X:Cx)(f:Value->Sem Value)(r:V->Hp->VK->Prop):Prop:=
 ∀(pins:List (Addr×Obj)) (s:Shared) (σ:St) (H:Hp) (x:V) (v:Value) (Q:VK),Inv X pins σ H s->RelV x v->r x H Q->
  wpAny (model X.prog X.w) X.A (f v) (EP X pins σ Q) X.xe s
def bD(X:Cx)(f:Value)(r:List V->Hp->VK->Prop):Prop:=
 ∀(pins:List (Addr×Obj)) (s:Shared) (σ:St) (H:Hp) (xs:List V) (us:List Value) (Q:VK),Inv X pins σ H s->Vals xs us->r xs H Q->
  wpAny (model X.prog X.w) X.A (call f us) (EP X pins σ Q) X.xe s
def Dp(r:R2)(ta tb:TE):TE:=fun σ H Q=>ta σ H fun x H1=>tb σ H1 fun y H2=>r x y H2 Q
def OB(r:V->Hp->VK->Prop)(ta:TE):TE:=fun σ H Q=>ta σ H fun x H1=>r x H1 Q
def rI(C:Int->Int->Prop)(g:Int->Int->V):R2:=fun x y H Q=>∃i j,x= .int i/\y= .int j/\C i j/\Q (g i j) H
def vq(g:Int->Int->V):R2:=fun x y H Q=>∃i j,x= .int i/\y= .int j/\Q (g i j) H
def rU(g:Int->V):V->Hp->VK->Prop:=fun x H Q=>∃i,x= .int i/\Q (g i) H
section
variable {X:Cx}{a b c:Expr}{ta tb tc:TE}{pos:Pos}
theorem F9(ha:PE X a ta)(hb:PE X b tb){pins:List (Addr×Obj)}{s:Shared}{σ:St}{H:Hp}{R:V->V->Hp->Prop}(I:Inv X pins σ H s)
 (h:ta σ H fun x H1=>tb σ H1 fun y H2=>R x y H2) {Q:Value->Shared->Prop} {f:Value->Value->Sem Value}
 (hf:∀v u s2 x y H2,Inv X pins σ H2 s2->RelV x v->RelV y u->R x y H2->wpAny (model X.prog X.w) X.A (f v u) Q X.xe s2):
 wpAny (model X.prog X.w) X.A (eval a X.env) (fun v s₁=>wpAny (model X.prog X.w) X.A (eval b X.env) (fun u s₂=>wpAny (model X.prog X.w) X.A (f v u) Q X.xe s₂) X.xe s₁) X.xe s:=by
 refine bO (ha pins s σ H _ I h) fun v s1 ⟨x,H1,I1,r1,q1⟩=>?_;refine bO (hb pins s1 σ H1 _ I1 q1) fun u s2 ⟨y,H2,I2,r2,q2⟩=>?_;exact hf v u s2 x y H2 I2 r1 r2 q2
theorem MS{op:Operator}{r:R2}(ho:bM X (binaryOp op) r)(ha:PE X a ta)(hb:PE X b tb):PE X (.BinOp a op b pos) (Dp r ta tb):=by
 intro pins s σ H Q I h;exact wpAny_BinOp (F9 ha hb I h fun v u s2 x y H2 I2 rx ry q=>ho pins s2 σ H2 x y v u Q I2 rx ry q)
theorem Oe{op:UnaryOp}{r:V->Hp->VK->Prop}(ho:AE X (unaryOp op) r)(ha:PE X a ta):PE X (.UnaryOp op a pos) (OB r ta):=by
 intro pins s σ H Q I h;exact UnaryOp_ (bO (ha pins s σ H _ I h) fun v s1 ⟨x,H1,I1,r1,q1⟩=>ho pins s1 σ H1 x v Q I1 r1 q1)
theorem GN{f:Value->Value->Sem Value}{C:Int->Int->Prop}{g:Int->Int->Int}
 (rule:∀(i j:Int) (t u:Tok) (s:Shared) (Q:Value->Shared->Prop) (E:Value->Shared->Prop),C i j->Q (.int (g i j) s.toks) {s with toks:=s.toks+1}->wpAny (model X.prog X.w) X.A (f (.int i t) (.int j u)) Q E s):
 bM X f (rI C fun i j=> .int (g i j)):=by
 intro pins s σ H x y v u Q I rx ry h;obtain⟨i,j,rfl,rfl,hc,q⟩:=h;obtain⟨t,rfl⟩:=rx;obtain⟨t',rfl⟩:=ry;exact rule i j t t' s _ _ hc ⟨.int (g i j),H,I.tok _,⟨_,rfl⟩,q⟩
theorem J6{f:Value->Value->Sem Value}{g:Int->Int->Int}
 (rule:∀(i j:Int) (t u:Tok) (s:Shared) (Q:Value->Shared->Prop) (E:Value->Shared->Prop),Q (.int (g i j) s.toks) {s with toks:=s.toks+1}->wpAny (model X.prog X.w) X.A (f (.int i t) (.int j u)) Q E s):
 bM X f (vq fun i j=> .int (g i j)):=by
 intro pins s σ H x y v u Q I rx ry h;obtain⟨i,j,rfl,rfl,q⟩:=h;obtain⟨t,rfl⟩:=rx;obtain⟨t',rfl⟩:=ry;exact rule i j t t' s _ _ ⟨.int (g i j),H,I.tok _,⟨_,rfl⟩,q⟩
theorem Bx{f:Value->Value->Sem Value}{g:Int->Int->Bool}
 (rule:∀(i j:Int) (t u:Tok) (s:Shared) (Q:Value->Shared->Prop) (E:Value->Shared->Prop),Q (.bool (g i j)) s->wpAny (model X.prog X.w) X.A (f (.int i t) (.int j u)) Q E s):
 bM X f (vq fun i j=> .bl (g i j)):=by
 intro pins s σ H x y v u Q I rx ry h;obtain⟨i,j,rfl,rfl,q⟩:=h;obtain⟨t,rfl⟩:=rx;obtain⟨t',rfl⟩:=ry;exact rule i j t t' s _ _ ⟨.bl (g i j),H,I,rfl,q⟩
def F_(i j:Int):Prop:=0<=j/\j<=1000000/\i.natAbs<2^64
theorem Mw:bM X (binaryOp .Add) (vq fun i j=> .int (i+j)):=J6 fun _ _ _ _ _ _ _ q=>add_int q
theorem Km:bM X (binaryOp .Sub) (vq fun i j=> .int (i-j)):=J6 fun _ _ _ _ _ _ _ q=>sub_int q
theorem JP:bM X (binaryOp .Mod) (rI (fun _ j=>j≠0) fun i j=> .int (i.fmod j)):=GN fun _ _ _ _ _ _ _ hc q=>mod_int' hc q
theorem Lc:bM X (binaryOp .Pow) (rI F_ fun i j=> .int (i^j.toNat)):=GN fun _ _ _ _ _ _ _ hc q=>pow_int_small hc.1 hc.2.1 hc.2.2 q
theorem PX{f:Value->Sem Value}{g:Int->Int}
 (rule:∀(i:Int) (t:Tok) (s:Shared) (Q:Value->Shared->Prop) (E:Value->Shared->Prop),Q (.int (g i) s.toks) {s with toks:=s.toks+1}->wpAny (model X.prog X.w) X.A (f (.int i t)) Q E s):
 AE X f (rU fun i=> .int (g i)):=by
 intro pins s σ H x v Q I rx h;obtain⟨i,rfl,q⟩:=h;obtain⟨t,rfl⟩:=rx;exact rule i t s _ _ ⟨.int (g i),H,I.tok _,⟨_,rfl⟩,q⟩
theorem Ky:AE X (unaryOp .USub) (rU fun i=> .int (-i)):=PX fun _ _ _ _ _ q=>neg_int q
end
def PK:V->V->Bool
 | .aH,.aH=>true| .aH,.int _=>true| .int _,.aH=>true| .aH,.bl _=>true| .bl _,.aH=>true| .aH,.str _=>true| .str _,.aH=>true
 | .int _,.int _=>true| .bl _,.bl _=>true| .str _,.str _=>true| .tj _,.tj _=>true
 | .int _,.str _=>true| .str _,.int _=>true| .bl _,.str _=>true| .str _,.bl _=>true
 |_,_=>false
def Ql:R2:=fun x y H Q=>PK x y=true/\Q (.bl (!decide (x=y))) H
theorem IF{i j:Int}:decide (V.int i=V.int j)=(i==j):=by
 rw[Bool.eq_iff_iff];simp
theorem KY{i j:Bool}:decide (V.bl i=V.bl j)=(i==j):=by
 rw[Bool.eq_iff_iff];simp
theorem Jq{i j:Str}:decide (V.str i=V.str j)=(i==j):=by
 rw[Bool.eq_iff_iff];simp
theorem Ie{i j:Array UInt8}:decide (V.tj i=V.tj j)=(i.toList==j.toList):=by
 rw[Bool.eq_iff_iff];cases i;cases j;simp
section
variable {X:Cx}{a b c:Expr}{ta tb tc:TE}{pos:Pos}
theorem ff{pins:List (Addr×Obj)}{σ:St}{H:Hp}{s:Shared}{Q:VK}{k k':Bool}(I:Inv X pins σ H s)(q:Q (.bl k) H)(e:k=k'):EP X pins σ Q (.bool k') s:=by
 subst e;exact⟨.bl k,H,I,rfl,q⟩
theorem NO:bM X (compareOp .NotEq) Ql:=by
 intro pins s σ H x y v u Q I rx ry h;obtain⟨hs,q⟩:=h;cases x with
 |aH=>
  cases rx;cases y with
  |aH=>cases ry;exact PySem.EqNone.ne_none_none (ff I q (by simp))
  |bl j=>cases ry;exact PySem.EqNone.ne_none_bool (ff I q (by simp))
  |int j=>obtain⟨t',rfl⟩:=ry;exact PySem.EqNone.ne_none_int (ff I q (by simp))
  |str j=>obtain⟨t',rfl⟩:=ry;exact PySem.EqNone.ne_none_str (ff I q (by simp))
  |_=>exact absurd (show false=true from hs) Bool.false_ne_true
 |bl i=>
  cases rx;cases y with
  |aH=>cases ry;exact PySem.EqNone.ne_bool_none (ff I q (by simp))
  |bl j=>cases ry;exact ne_bool (ff I q (congrArg not KY))
  |str j=>obtain⟨t',rfl⟩:=ry;exact PySem.EqMixed.ne_bool_str (ff I q (by simp))
  |_=>exact absurd (show false=true from hs) Bool.false_ne_true
 |int i=>
  obtain⟨t,rfl⟩:=rx;cases y with
  |aH=>cases ry;exact PySem.EqNone.ne_int_none (ff I q (by simp))
  |int j=>obtain⟨t',rfl⟩:=ry;exact ne_int (ff I q (congrArg not IF))
  |str j=>obtain⟨t',rfl⟩:=ry;exact PySem.EqMixed.ne_int_str (ff I q (by simp))
  |_=>exact absurd (show false=true from hs) Bool.false_ne_true
 |str i=>
  obtain⟨t,rfl⟩:=rx;cases y with
  |aH=>cases ry;exact PySem.EqNone.ne_str_none (ff I q (by simp))
  |bl j=>cases ry;exact PySem.EqMixed.ne_str_bool (ff I q (by simp))
  |int j=>obtain⟨t',rfl⟩:=ry;exact PySem.EqMixed.ne_str_int (ff I q (by simp))
  |str j=>obtain⟨t',rfl⟩:=ry;exact ne_str (ff I q (congrArg not Jq))
  |_=>exact absurd (show false=true from hs) Bool.false_ne_true
 |tj i=>
  obtain⟨t,rfl⟩:=rx;cases y with
  |tj j=>obtain⟨t',rfl⟩:=ry;exact PySem.W.ne_bytes (ff I q (congrArg not Ie))
  |_=>exact absurd (show false=true from hs) Bool.false_ne_true
 |_=>cases y<;>exact absurd (show false=true from hs) Bool.false_ne_true
theorem MQ:bM X (compareOp .Lt) (vq fun i j=> .bl (decide (i<j))):=Bx fun _ _ _ _ _ _ _ q=>lt_int q
theorem M0:bM X (compareOp .LtE) (vq fun i j=> .bl (decide (i<=j))):=Bx fun _ _ _ _ _ _ _ q=>le_int q
theorem NB:bM X (compareOp .Gt) (vq fun i j=> .bl (decide (j<i))):=Bx fun _ _ _ _ _ _ _ q=>gt_int q
theorem Np:bM X (compareOp .GtE) (vq fun i j=> .bl (decide (j<=i))):=Bx fun _ _ _ _ _ _ _ q=>ge_int q
theorem IZ:bM X (compareOp .IsNot) (fun x y H Q=>y= .aH/\Q (.bl (!decide (x= .aH))) H):=by
 intro pins s σ H x y v u Q I rx ry h;obtain⟨rfl,q⟩:=h;cases ry;refine isnot_none_gen (ff I q ?_)
 cases x<;>first
  |(cases rx;rfl)
  |(obtain⟨t,rfl⟩:=rx;rfl)
theorem bh(b:Expr){op:CmpOp}(h:op≠ .In:=by decide)(h2:op≠ .NotIn:=by decide):behindInMarks op b=false:=by
 have e1:(op==CmpOp.In)=false:=by cases op<;>first|rfl|exact absurd rfl h
 have e2:(op==CmpOp.NotIn)=false:=by cases op<;>first|rfl|exact absurd rfl h2
 cases b<;>simp[behindInMarks,e1,e2]
theorem HS{op:CmpOp}{r:R2}(ho:bM X (compareOp op) r)(ha:PE X a ta)(hb:PE X b tb)(hm:behindInMarks op b=false):PE X (.Compare a [op] [b] pos) (Dp r ta tb):=by
 intro pins s σ H Q I h;exact wpAny_Compare1 (F9 ha hb I h fun v u s2 x y H2 I2 rx ry q=>ho pins s2 σ H2 x y v u Q I2 rx ry q) hm
def NA(t:TE):TT:=fun σ H Q=>t σ H fun x H'=>∃k,x= .bl k/\Q k H'
theorem HN{op:CmpOp}{r:R2}(ho:bM X (compareOp op) r)(ha:PE X a ta)(hb:PE X b tb)(hm:behindInMarks op b=false):PT X (.Compare a [op] [b] pos) (NA (Dp r ta tb)):=by
 intro pins s σ H Q I h
 refine wpAny_isTrue_Compare1 (bO (ha pins s σ H _ I h) fun v s1 ⟨x,H1,I1,r1,q1⟩=>bO (hb pins s1 σ H1 _ I1 q1) fun u s2 ⟨y,H2,I2,r2,q2⟩=>
  bO (ho pins s2 σ H2 x y v u _ I2 r1 r2 q2) fun c s3 ⟨z,H3,I3,r3,k,e,q3⟩=>?_) hm
 subst e;cases r3;exact wpAny_truthy_bool ⟨H3,I3,q3⟩
def Dt(r r':R2)(ta tb tc:TE):TE:=fun σ H Q=>ta σ H fun x H1=>tb σ H1 fun y H2=>r x y H2 fun z H3=>∃k,z= .bl k/\
 (if k=true then tc σ H3 fun w' H4=>r' y w' H4 Q else Q (.bl false) H3)
theorem FR{op op':CmpOp}{r r':R2}(ho:bM X (compareOp op) r)(ho':bM X (compareOp op') r')(ha:PE X a ta)(hb:PE X b tb)(hc:PE X c tc)
 (hm:lastMarks [op,op'] [b,c]=false:=by with_unfolding_all rfl):PE X (.Compare a [op,op'] [b,c] pos) (Dt r r' ta tb tc):=by
 intro pins s σ H Q I h
 refine Compare_chain (bO (ha pins s σ H _ I h) fun v s1 ⟨x,H1,I1,r1,q1⟩=>chain_link (bO (hb pins s1 σ H1 _ I1 q1) fun u s2 ⟨y,H2,I2,r2,q2⟩=>
  bO (ho pins s2 σ H2 x y v u _ I2 r1 r2 q2) fun d s3 ⟨z,H3,I3,r3,k,e,q3⟩=>?_)) hm
 subst e;cases r3;refine wpAny_truthy_bool ?_;cases k with
 |false=>exact ite_ff ⟨.bl false,H3,I3,rfl,q3⟩
 |true=>exact ite_tt (chain_last (bO (hc pins s3 σ H3 _ I3 q3) fun w' s4 ⟨z',H4,I4,r4,q4⟩=>ho' pins s4 σ H4 y z' u w' Q I4 r2 r4 q4))
theorem qL:(sizeLine:Nat)<2^63:=by rw[sizeLine_eq];decide
theorem BI:bM X (binaryOp .Add) (fun x y H Q=>∃i j,x= .str i/\y= .str j/\i.length+j.length<=sizeLine/\Q (.str (i++j)) H):=by
 intro pins s σ H x y v u Q I rx ry h;obtain⟨i,j,rfl,rfl,hz,q⟩:=h;obtain⟨t,rfl⟩:=rx;obtain⟨t',rfl⟩:=ry;exact add_str (fun t' tk=>⟨.str (i++j),H,I.tok _,⟨_,rfl⟩,q⟩) hz
theorem vals1{x:V}{us:List Value}(r:Vals [x] us):∃u,us=[u]/\RelV x u:=by
 cases r with
 |cons r1 r2=>cases r2;exact⟨_,rfl,r1⟩
theorem vals2{x y:V}{us:List Value}(r:Vals [x,y] us):∃u w',us=[u,w']/\RelV x u/\RelV y w':=by
 cases r with
 |cons r1 r2=>
  cases r2 with
  |cons r3 r4=>cases r4;exact⟨_,_,rfl,r1,r3⟩
theorem Fp:bD X (.builtin "abs") (fun xs H Q=>∃i,xs=[.int i]/\Q (.int (if i<0 then-i else i)) H):=by
 intro pins s σ H xs us Q I r h;obtain⟨i,rfl,q⟩:=h;obtain⟨u,rfl,t,rfl⟩:=vals1 r;exact call_abs_int fun u tk=>⟨.int (if i<0 then-i else i),H,I.tok _,⟨_,rfl⟩,q⟩
theorem D5(hc:X.calm=true):bD X (.builtin "max") (fun xs H Q=>∃i j,xs=[.int i,.int j]/\Q (.int (if j>i then j else i)) H):=by
 intro pins s σ H xs us Q I r h;obtain⟨i,j,rfl,q⟩:=h;obtain⟨u,w',rfl,⟨t,rfl⟩,⟨t',rfl⟩⟩:=vals2 r;refine max_two_ints (I.ok.hd hc) fun h' tk k=>⟨_,H,I.kept k,?_,q⟩
 by_cases hj:j>i
 . rw[if_pos hj,if_pos hj];exact⟨_,rfl⟩
 . rw[if_neg hj,if_neg hj];exact⟨_,rfl⟩
theorem Ek(hc:X.calm=true):bD X (.builtin "min") (fun xs H Q=>∃i j,xs=[.int i,.int j]/\Q (.int (if j<i then j else i)) H):=by
 intro pins s σ H xs us Q I r h;obtain⟨i,j,rfl,q⟩:=h;obtain⟨u,w',rfl,⟨t,rfl⟩,⟨t',rfl⟩⟩:=vals2 r;refine min_two_ints (I.ok.hd hc) fun h' tk k=>⟨_,H,I.kept k,?_,q⟩
 by_cases hj:j<i
 . rw[if_pos hj,if_pos hj];exact⟨_,rfl⟩
 . rw[if_neg hj,if_neg hj];exact⟨_,rfl⟩
theorem D1:bD X (.type "int") (fun xs H Q=>(∃i,xs=[.int i]/\Q (.int i) H)\/∃k,xs=[.bl k]/\Q (.int (if k then 1 else 0)) H):=by
 intro pins s σ H xs us Q I r h;rcases h with⟨i,rfl,q⟩|⟨k,rfl,q⟩
 . obtain⟨u,rfl,t,rfl⟩:=vals1 r;exact call_int_int ⟨.int i,H,I,⟨_,rfl⟩,q⟩
 . obtain⟨u,rfl,r1⟩:=vals1 r;cases r1;exact call_int_bool ⟨.int (if k then 1 else 0),H,I.tok _,⟨_,rfl⟩,q⟩
end
structure ur(h:Heap)(x dx C:Addr)(mA:Str->Option Value):Prop where
 obj:h.get? x=some (PySem.W.instObj C dx)
 ns:h.Ns1 dx mA
 ne:dx≠x
theorem DC{h:Heap}{dx:Addr}{mA:Str->Option Value}(n:h.Ns1 dx mA):∃od,h.get? dx=some od/\∀name,PySem.W.lookIn name od=some (mA name):=by
 obtain⟨o,es,ep,ho,hd,hk,_,hm⟩:=n;refine⟨o,ho,fun name=>?_⟩;have e:=hm name;unfold nsFind findBy at e;rw[<-Array.find?_toList]at e;unfold PySem.W.lookIn;rw[hd];dsimp only;split
 . rename_i y q;rw[q]at e;exact congrArg some e
 . rename_i q;rw[q]at e
   have a:es.toList.any (·.refKey)=false:=by
    rw[List.any_eq_false];intro y hy;obtain⟨z,t,hkey⟩:=hk y (Array.mem_toList_iff.mp hy);simp[DictEntry.refKey,hkey]
   have a':¬es.toList.any (·.refKey)=true:=by rw[a];exact Bool.false_ne_true
   rw[if_neg a'];exact congrArg some e
theorem ur.look{h:Heap}{x dx C:Addr}{mA:Str->Option Value}(I:ur h x dx C mA):∃od,PySem.W.InstAt h x (PySem.W.instObj C dx) C (some od)/\∀name,PySem.W.lookIn name od=some (mA name):=
 let⟨od,ho,hl⟩:=DC I.ns
 ⟨od,⟨I.obj,rfl,rfl,ho⟩,hl⟩
section
variable {prog:Program}{w:World}{A:Around}{E:Value->Shared->Prop}{s:Shared}{K:PySem.W.Frag}{x dx C f:Addr}{mA:Str->Option Value}{name:Str}{v:Value}
theorem get_map{expr:Bool}{Q:Value->Shared->Prop}(X:K.In s.heap)(I:ur s.heap x dx C mA)(hg:PySem.W.plainGet K C name=true)(hh:PySem.W.hasDictIn K C=true)
 (ha:PySem.W.findIn K (.ref C) name=some none) (hv:mA name=some v) (hv':PySem.W.handedIn v=true) (h:Q v {s with toks:=s.toks+1}):
 wpAny (model prog w) A (getAttr (.ref x) name expr) Q E s:=by
 obtain⟨od,J,hl⟩:=I.look;exact PySem.W.get_value X J (PySem.W.plainGet_of hg).1 (PySem.W.findObj_own hh ha rfl (by rw[hl,hv])) hv' h
theorem E4{pl:Sem Bool}{Q:Value×List Value->Shared->Prop}(X:K.In s.heap)(I:ur s.heap x dx C mA)(hg:PySem.W.plainGet K C name=true)
 (hf:PySem.W.findIn K (.ref C) name=some (some (.ref f))) (ht:PySem.W.isFn K (.ref f)=true) (hv:mA name=none) (h:Q (.ref f,[.ref x]) s):
 wpAny (model prog w) A (getMethod (.ref x) name pl) Q E s:=by
 obtain⟨od,J,hl⟩:=I.look;exact PySem.W.method_fn X J (PySem.W.plainGet_of hg).1 (PySem.W.plainGet_of hg).2 hf (beq_iff_eq.mp ht) (by show(PySem.W.lookIn name od).map (·.isSome)=some false;rw[hl,hv];rfl) h
theorem g0{ns:List Str}{Q:Unit->Shared->Prop}(X:K.In s.heap)(I:ur s.heap x dx C mA)
 (hs:PySem.W.findIn K (.ref C) "__setattr__"=some (some (.builtin "object.__setattr__"))) (hp:PySem.W.plainOver K C=true) (ht:PySem.W.takerIn K C name=some none) (hh:PySem.W.hasDictIn K C=true)
 (hw:PySem.Within mA ns) (hsz:ns.length<=sizeLine)
 (h:∀h',ur h' x dx C (fun y=>if y=name then some v else mA y)->Heap.SameBut dx s.heap h'->Q () {s with heap:=h',toks:=s.toks+2}):
 wpAny (model prog w) A (setAttr (.ref x) name v) Q E s:=by
 obtain⟨od,J,hl⟩:=I.look;refine PySem.W.set_plain X J hs (PySem.W.osa_open (s:={s with toks:=s.toks+1}) (r:=none) X J hp ht fun b=>?_);obtain⟨cd,hc,hd'⟩:=PySem.W.any_some hh;have hx:s.heap.get? x=some ⟨.ref C,some dx,.plain,#[]⟩:=I.obj;refine wpAny_bind (wpAny_pure (wpAny_bind (wpAny_bind (wpAny_loadPart hx (wpAny_bind (PySem.W.Looks.here (s:={s with toks:=s.toks+1}) (PySem.W.looks_clsIn X hc) ?_))))));rw[hd'];refine wpAny_pure (a:=some dx) (wpAny_bind (wpAny_pure (wpAny_bind ?_)));refine wpAny_nsSet1 (s:={s with toks:=s.toks+1}) I.ns fun h' hn2 hs2=>?_;obtain⟨oD,esD,epD,hoD,hdD,hcD⟩:=hn2.count (PySem.Within.cons name v hw);refine wpAny_bind (wpAny_lookBehind hoD (by rw[hdD];exact pastItsLine_dict (Nat.le_trans hcD (by rw[List.length_cons];omega))) ?_);exact wpAny_pure (h _ ⟨(hs2.2 _ (Ne.symm I.ne)).trans I.obj,hn2,I.ne⟩ hs2)
theorem Fe{R:Result->Shared->Prop}{vs:List Value}{kw:List (Str×Value)}(X:K.In s.heap)(hm:PySem.W.makesIn K C=true)
 (hi:PySem.W.findIn K (.ref C) "__init__"=some (some (.ref f))) (hf:PySem.W.typeIn K (.ref f)=some (.type "function"))
 (h:codeAny (model prog w) (A.under (.builtin "type.__call__" ⟨.ref C::vs,kw⟩)) (.call (.ref f) ⟨.ref (s.heap.objs.size+1)::vs,kw⟩) (PySem.W.InitBack (s.heap.objs.size+1) R)
   {s with heap:=(s.heap.push PySem.W.emptyDict).push (PySem.W.instObj C s.heap.objs.size)}):
 codeAny (model prog w) A (.call (.ref C) ⟨vs,kw⟩) R s:=by
 obtain⟨hh,g,d,t,os⟩:=s;exact PySem.W.make_core (PySem.W.makes_of X hm) (PySem.W.looks_findIn X hi) (fun self=>PySem.W.bind_fn X self hf) (.inl rfl) h
end
def gy(f:Str)(v:V):List (Str×V)->List (Str×V)
 | []=>[(f,v)]
 |(g,x)::r=>if g=f then(g,v)::r else(g,x)::gy f v r
theorem sW(f g:Str)(v:V):∀fs:List (Str×V),(gy f v fs).lookup g=if g=f then some v else fs.lookup g
 | []=>by
   show List.lookup g [(f,v)]=_;by_cases h:g=f
   . have hb:(g==f)=true:=beq_iff_eq.mpr h;simp only[List.lookup,hb,if_pos h]
   . have hb:(g==f)=false:=beq_eq_false_iff_ne.mpr h;simp only[List.lookup,hb,if_neg h]
 |(k,x)::r=>by
  have ih:=sW f g v r;rw[show gy f v ((k,x)::r)=(if k=f then(k,v)::r else(k,x)::gy f v r)from rfl];by_cases hk:k=f
  . rw[if_pos hk];by_cases h:g=k
    . have hb:(g==k)=true:=beq_iff_eq.mpr h;simp only[List.lookup,hb,if_pos (h.trans hk)]
    . have hb:(g==k)=false:=beq_eq_false_iff_ne.mpr h;simp only[List.lookup,hb,if_neg (fun e:g=f=>h (e.trans hk.symm))]
  . rw[if_neg hk];by_cases h:g=k
    . have hb:(g==k)=true:=beq_iff_eq.mpr h;simp only[List.lookup,hb,if_neg (fun e:g=f=>hk (h.symm.trans e))]
    . have hb:(g==k)=false:=beq_eq_false_iff_ne.mpr h;simp only[List.lookup,hb];exact ih
theorem rp(f:Str)(v:V):∀fs:List (Str×V),f∈(gy f v fs).map (·.1)/\∀g,g∈fs.map (·.1)->g∈(gy f v fs).map (·.1)
 | []=>⟨by simp[gy],fun g h=>by simp at h⟩
 |(k,x)::r=>by
  obtain⟨i1,i2⟩:=rp f v r;rw[show gy f v ((k,x)::r)=(if k=f then(k,v)::r else(k,x)::gy f v r)from rfl];by_cases hk:k=f
  . rw[if_pos hk];subst hk;exact⟨by simp,fun g h=>by simpa using h⟩
  . rw[if_neg hk];refine⟨?_,fun g h=>?_⟩
    . rw[List.map_cons];exact List.mem_cons_of_mem _ i1
    . rw[List.map_cons]at h⊢;rcases List.mem_cons.mp h with e|e
      . exact List.mem_cons.mpr (.inl e)
      . exact List.mem_cons_of_mem _ (i2 g e)
theorem tI(f:Str)(v:V):∀fs:List (Str×V),(gy f v fs).length<=fs.length+1
 | []=>by simp[gy]
 |(k,x)::r=>by
  have ih:=tI f v r;rw[show gy f v ((k,x)::r)=(if k=f then(k,v)::r else(k,x)::gy f v r)from rfl];by_cases hk:k=f
  . rw[if_pos hk,List.length_cons,List.length_cons];omega
  . rw[if_neg hk,List.length_cons,List.length_cons];omega
theorem oC.some_of{v:V}{o:Option Value}(r:oC (some v) o):∃u,o=some u/\RelV v u:=by
 cases o with
 |none=>exact(show False from r).elim
 |some u=>exact⟨u,rfl,r⟩
theorem oC.none_of{o:Option Value}(r:oC none o):o=none:=by
 cases o with
 |none=>rfl
 |some u=>exact(show False from r).elim
theorem Ee{v:V}{u:Value}(r:RelV v u):PySem.W.handedIn u=true:=by
 cases v with
 |aH=>cases (show u=Value.none from r);rfl
 |bl b=>cases (show u=Value.bool b from r);rfl
 |int i=>obtain⟨t,e⟩:=(show∃t,u=Value.int i t from r);cases e;rfl
 |str x=>obtain⟨t,e⟩:=(show∃t,u=Value.str x t from r);cases e;rfl
 |tj b=>obtain⟨t,e⟩:=(show∃t,u=Value.bytes b t from r);cases e;rfl
 |sT b=>obtain⟨t,e⟩:=(show∃t,u=Value.float b t from r);cases e;rfl
 |ref a=>cases (show u=Value.ref a from r);rfl
 |ty n=>cases (show u=Value.type n from r);rfl
section
variable {P:Program}{w:World}{H H':Hp}{h h':Heap}{a C dx:Addr}{fs fs':List (Str×V)}
theorem pk(aP:gX P w H h)(e:H a=some (.ins C dx fs)):∃mA,ur h a dx C mA/\(∀f,oC (fs.lookup f) (mA f))/\PySem.Within mA (fs.map (·.1))/\fs.length<=1000/\H dx=some (.own a):=by
 obtain⟨d,z,ne,ob,mA,n,r,q⟩:=(show dh P w H h a (.ins C dx fs)from aP a _ e)
 exact⟨mA,⟨ob,n,ne⟩,r,q,z,d⟩
end
structure m9(K:PySem.W.Frag)(C:Addr):Prop where
 pg:PySem.W.plainGet K C Str.empty=true
 hd:PySem.W.hasDictIn K C=true
 po:PySem.W.plainOver K C=true
 sa:PySem.W.findIn K (.ref C) "__setattr__"=some (some (.builtin "object.__setattr__"))
theorem m9.get{K:PySem.W.Frag}{C:Addr}(c:m9 K C)(f:Str):PySem.W.plainGet K C f=true:=c.pg
def fT(K:PySem.W.Frag)(C:Addr)(f:Str):Prop:=PySem.W.findIn K (.ref C) f=some none
theorem fT.Nd{K:PySem.W.Frag}{C:Addr}{f:Str}(n:fT K C f):PySem.W.takerIn K C f=some none:=by
 unfold PySem.W.takerIn;rw[show PySem.W.findIn K (.ref C) f=some none from n];rfl
structure Meth(K:PySem.W.Frag)(C:Addr)(m:Str)(f:Addr):Prop where
 at_:PySem.W.findIn K (.ref C) m=some (some (.ref f))
 fn:PySem.W.isFn K (.ref f)=true
 kp:PySem.W.keepIn K (.ref f)=true
section
variable {X:Cx}{pins:List (Addr×Obj)}{σ:St}{H:Hp}{s:Shared}{a C dx:Addr}{fs:List (Str×V)}{f:Str}{v:V}{A:Around}{E:Value->Shared->Prop}
theorem CI{b:Bool}{Q:Value->Shared->Prop}(I:Inv X pins σ H s)(e:H a=some (.ins C dx fs))(c:m9 X.K C)(n:fT X.K C f)(l:fs.lookup f=some v)
 (h:∀u s',Inv X pins σ H s'->RelV v u->Q u s'):wpAny (model X.prog X.w) A (getAttr (.ref a) f b) Q E s:=by
 obtain⟨mA,O,r,_,_,_⟩:=pk I.aP e;obtain⟨u,hu,ru⟩:=oC.some_of (v:=v) (o:=mA f) (by rw[<-l];exact r f);exact get_map I.gI O (c.get f) c.hd n hu (Ee ru) (h u _ (I.tok _) ru)
theorem CA{m:Str}{g:Addr}{pl:Sem Bool}{Q:Value×List Value->Shared->Prop}(I:Inv X pins σ H s)(e:H a=some (.ins C dx fs))(c:m9 X.K C)(k:Meth X.K C m g)(l:fs.lookup m=none)
 (h:Q (.ref g,[.ref a]) s):wpAny (model X.prog X.w) A (getMethod (.ref a) m pl) Q E s:=by
 obtain⟨mA,O,r,_,_,_⟩:=pk I.aP e;have hn:mA m=none:=oC.none_of (by rw[<-l];exact r m);exact E4 I.gI O (c.get m) k.at_ k.fn hn h
theorem BD{y:V}{u:Value}{Q:Unit->Shared->Prop}(I:Inv X pins σ H s)(e:H a=some (.ins C dx fs))(c:m9 X.K C)(n:fT X.K C f)(hl:fs.length<1000)(ry:RelV y u)
 (h:∀s',Inv X pins σ (upd H a (.ins C dx (gy f y fs))) s'->Q () s'):wpAny (model X.prog X.w) A (setAttr (.ref a) f u) Q E s:=by
 obtain⟨mA,O,r,wi,_,ho⟩:=pk I.aP e;have hz:(fs.map (·.1)).length<=sizeLine:=by rw[List.length_map,sizeLine_eq];omega
 refine g0 I.gI O c.sa c.po n.Nd c.hd wi hz fun h' O' sb=>h _ ?_;have hd:∃o,h'.get? dx=some o:=let⟨o,_,_,e',_⟩:=O'.ns;⟨o,e'⟩
 refine I.write (x:=a) (e:=dx) (by rw[e];exact True.intro) (.inr ho) (fun b q hb z=>(sb.2 b hb).trans z) hd ?_;refine⟨by rw[az O.ne];exact ho,?_,O.ne,O'.obj,_,O'.ns,fun g=>?_,fun g hg=>?_⟩
 . have:=tI f y fs;omega
 . show oC ((gy f y fs).lookup g) (if g=f then some u else mA g);rw[sW];by_cases q:g=f
   . rw[if_pos q,if_pos q];exact ry
   . rw[if_neg q,if_neg q];exact r g
 . by_cases q:g=f
   . rw[q];exact(rp f y fs).1
   . refine(rp f y fs).2 g (wi g fun z=>hg ?_);show(if g=f then some u else mA g)=none;rw[if_neg q];exact z
theorem Inv.made(I:Inv X pins σ H s):Inv X pins σ (upd (upd H s.heap.objs.size (.own (s.heap.objs.size+1))) (s.heap.objs.size+1) (.ins C s.heap.objs.size []))
 {s with heap:=(s.heap.push PySem.W.emptyDict).push (PySem.W.instObj C s.heap.objs.size)}:=by
 have e1:(s.heap.push PySem.W.emptyDict).get? s.heap.objs.size=some PySem.W.emptyDict:=Heap.get?_push_size s.heap rfl
 have e2:((s.heap.push PySem.W.emptyDict).push (PySem.W.instObj C s.heap.objs.size)).get? (s.heap.objs.size+1)=some (PySem.W.instObj C s.heap.objs.size):=by
  have:=Heap.get?_push_size (s.heap.push PySem.W.emptyDict) (o:=PySem.W.instObj C s.heap.objs.size) rfl;rwa [Heap.size_push]at this
 have e3:(s.heap.push PySem.W.emptyDict).Ns s.heap.objs.size (fun _=>none):=⟨PySem.W.emptyDict,#[],_,e1,rfl,(fun e he=>absurd he (by simp)),fun _=>rfl⟩
 have I1:=I.laid (a:=s.heap.objs.size) (o:= .own (s.heap.objs.size+1)) (h':=s.heap.push PySem.W.emptyDict) (t':=s.toks) (fun b u q=>Heap.get?_push_of_some _ q) (Nat.le_refl _) ⟨_,e1⟩;refine I1.laid (a:=s.heap.objs.size+1) (o:= .ins C s.heap.objs.size []) (t':=s.toks) (fun b u q=>Heap.get?_push_of_some _ q) (Nat.le_of_eq (Heap.size_push _ _)) ?_;have ne:s.heap.objs.size≠s.heap.objs.size+1:=Nat.ne_of_lt (Nat.lt_succ_self _);refine⟨by rw[az ne,aY],Nat.zero_le _,ne,e2,fun _=>none,(Heap.Ns1.of_empty e3).at fun o q=>Heap.get?_push_of_some _ q,fun _=>True.intro,fun y hy=>absurd rfl hy⟩
theorem Ii{prog:Program}{w:World}{env:Env}{e:Expr}{f:Str}{pos:Pos}{s:Shared}{Q:Value->Shared->Prop}(hb:attributeBase e f env (eval e env)=eval e env)
 (h:wpAny (model prog w) A (eval e env) (fun o s₁=>wpAny (model prog w) A (getAttr o f true) Q E s₁) E s):wpAny (model prog w) A (eval (.Attribute e f pos) env) Q E s:=
 Attribute_any_ h (by rw[arm_eval_Attribute,hb])
end
def Pq(K:PySem.W.Frag)(ta:TE)(f:Str):TE:=fun σ H Q=>ta σ H fun x H1=>∃a C dx fs v,x= .ref a/\H1 a=some (.ins C dx fs)/\m9 K C/\fT K C f/\fs.lookup f=some v/\Q v H1
def Py(K:PySem.W.Frag)(ta tv:TE)(f:Str):TS:=fun D σ H=>tv σ H fun y H1=>ta σ H1 fun x H2=>∃a C dx fs,x= .ref a/\H2 a=some (.ins C dx fs)/\m9 K C/\fT K C f/\fs.length<1000/\
 D.nx σ (upd H2 a (.ins C dx (gy f y fs)))
section
variable {X:Cx}{o e value:Expr}{f:Str}{pos pos' tpos:Pos}{ta tv:TE}
theorem L_(he:PE X e ta)(hb:attributeBase e f X.env (eval e X.env)=eval e X.env):PE X (.Attribute e f pos) (Pq X.K ta f):=by
 intro pins s σ H Q I h;refine Ii hb (bO (he pins s σ H _ I h) fun u s1 ⟨x,H1,I1,rx,a,C,dx,fs,v,ex,ea,c,n,l,q⟩=>?_);subst ex;obtain rfl:u=Value.ref a:=rx;exact CI I1 ea c n l fun u' s2 I2 ru=>⟨v,H1,I2,ru,q⟩
theorem Kt(ha:PE X o ta)(hv:PE X value tv)(hs:swapsWith value (some (.Attribute o f pos')) pos.line X.env=pure false):PS X (.Assign [.Attribute o f pos'] value pos) (Py X.K ta tv f):=by
 intro pins s σ H D I h;refine plainObj_wpAny_Assign_Attribute (bO (hv pins s σ H _ I h) fun u s1 ⟨y,H1,I1,ry,q⟩=>bO (ha pins s1 σ H1 _ I1 q) fun ov s2 ⟨x,H2,I2,rx,a,C,dx,fs,ex,ea,c,n,l,q2⟩=>?_) hs;subst ex;obtain rfl:ov=Value.ref a:=rx;exact BD I2 ea c n l ry fun s3 I3=>⟨σ,_,I3,q2⟩
end
section
variable {X:Cx}{pins:List (Addr×Obj)}{σ:St}{H:Hp}{s:Shared}{A:Around}{E:Value->Shared->Prop}{Q:Value->Shared->Prop}{c:Value}{b:Bool}
inductive i0(K:PySem.W.Frag)(H:Hp):V->Value->Prop where
 |aH:i0 K H .aH (.type "NoneType")
 |bl (x:Bool):i0 K H (.bl x) (.type "bool")
 |int (i:Int):i0 K H (.int i) (.type "int")
 |str (x:Str):i0 K H (.str x) (.type "str")
 |sT (x:UInt64):i0 K H (.sT x) (.type "float")
 |lst {a:Addr} {xs:List V} (e:H a=some (.lst xs)):i0 K H (.ref a) (.type "list")
 |eQ {a:Addr} {o:Obj} {xs:List V} (e:H a=some (.eQ o (.lst xs))):i0 K H (.ref a) (.type "list")
 |tup {a:Addr} {xs:List V} (e:H a=some (.tup xs)):i0 K H (.ref a) (.type "tuple")
 |dK {a:Addr} {kvs:List (Key×V)} (e:H a=some (.dK kvs)):i0 K H (.ref a) (.type "dict")
 |dT {a:Addr} {kvs:List (List Key×V)} (e:H a=some (.dT kvs)):i0 K H (.ref a) (.type "dict")
 |ins {a C dx:Addr} {fs:List (Str×V)} (e:H a=some (.ins C dx fs)) (cl:m9 K C) (ha:PySem.W.findIn K (.ref C) "__class__"=some (some (.builtin "object.__class__")))
   (hn:PySem.W.specialIn K (.builtin "object.__class__") "__get__"=some (some (.builtin "getset_descriptor.__get__"))) (htk:PySem.W.takesIn K (.builtin "object.__class__")=some true)
   (hm:PySem.W.mroIn K C (.type "object")=some true):i0 K H (.ref a) (.ref C)
theorem DW{x:V}{u t:Value}(I:Inv X pins σ H s)(rx:RelV x u)(ty:i0 X.K H x t)(e:PySem.W.kitOne X.K t c=some b)(h:∀tk,Q (.bool b) {s with toks:=tk}):
 wpAny (model X.prog X.w) A (call (.builtin "isinstance") [u,c]) Q E s:=by
 cases ty with
 |aH=>cases (show u=Value.none from rx);exact PySem.W.kia_one PySem.W.kitx_none I.gI True.intro e (fun z=>nomatch z) h
 |bl y=>cases (show u=Value.bool y from rx);exact PySem.W.kia_one PySem.W.kitx_bool I.gI True.intro e (fun z=>nomatch z) h
 |int i=>obtain⟨t,q⟩:=(show∃t,u=Value.int i t from rx);cases q;exact PySem.W.kia_one PySem.W.kitx_int I.gI True.intro e (fun z=>nomatch z) h
 |str y=>obtain⟨t,q⟩:=(show∃t,u=Value.str y t from rx);cases q;exact PySem.W.kia_one PySem.W.kitx_str I.gI True.intro e (fun z=>nomatch z) h
 |sT y=>obtain⟨t,q⟩:=(show∃t,u=Value.float y t from rx);cases q;exact PySem.W.kia_one PySem.W.kitx_float I.gI True.intro e (fun z=>nomatch z) h
 | @lst a xs ea=>
   cases (show u=Value.ref a from rx);obtain⟨_,_,n,_,h1⟩:=(show dh X.prog X.w H s.heap a (.lst xs)from I.aP a _ ea)
   exact PySem.W.kia_one PySem.W.kitx_list I.gI ⟨_,h1,rfl⟩ e (fun z=>nomatch z) h
 | @eQ a ob xs ea=>
   cases (show u=Value.ref a from rx);obtain⟨_,_,_,n,_,h1⟩:=(show dh X.prog X.w H s.heap a (.eQ ob (.lst xs))from I.aP a _ ea)
   exact PySem.W.kia_one PySem.W.kitx_list I.gI ⟨_,h1,rfl⟩ e (fun z=>nomatch z) h
 | @tup a xs ea=>
   cases (show u=Value.ref a from rx);obtain⟨_,_,_,p⟩:=(show dh X.prog X.w H s.heap a (.tup xs)from I.aP a _ ea)
   obtain⟨o,h1,h2,_⟩:=p;exact PySem.W.kia_one PySem.W.kitx_tuple I.gI ⟨o,h1,h2⟩ e (fun z=>nomatch z) h
 | @dK a kvs ea=>
   cases (show u=Value.ref a from rx);obtain⟨_,_,vs,_,p⟩:=(show dh X.prog X.w H s.heap a (.dK kvs)from I.aP a _ ea)
   obtain⟨o,es,ep,h1,h2,_⟩:=p;exact PySem.W.kia_one PySem.W.kitx_dict I.gI ⟨o,h1,h2.1⟩ e (fun z=>nomatch z) h
 | @dT a kvs ea=>
   cases (show u=Value.ref a from rx);obtain⟨_,_,xs,_,o,es,ep,h1,h2,_⟩:=(show dh X.prog X.w H s.heap a (.dT kvs)from I.aP a _ ea)
   exact PySem.W.kia_one PySem.W.kitx_dict I.gI ⟨o,h1,h2.1⟩ e (fun z=>nomatch z) h
 | @ins a C dx fs ea cl ha hn htk hm=>
   cases (show u=Value.ref a from rx);obtain⟨mA,O,_⟩:=pk I.aP ea;obtain⟨od,J,_⟩:=O.look;exact PySem.W.kia_one (PySem.W.kitx_own (cl.get _) cl.hd ha hn htk hm) I.gI J e (fun z=>nomatch z) h
end
structure cP(k:Nat)(A:Around):Prop where
 hd:A.handled=none
 dp:A.depth+3*k+105<recursionLimit
 un:A.units+16*k+200<cLine
theorem cP.mono{j k:Nat}{A:Around}(r:cP k A)(h:j<=k):cP j A:=⟨r.hd,by have:=r.dp;omega,by have:=r.un;omega⟩
theorem cP.deeper{k:Nat}{A:Around}(r:cP (k+1) A)(env:Env):cP k (A.deeper env):=
 ⟨r.hd,by have:=r.dp;show A.depth+1+3*k+105<_;omega,by have:=r.un;show A.units+3+16*k+200<_;omega⟩
theorem B0{A:Around}{C:Addr}{us:List Value}{kw:List (Str×Value)}:(A.under (.builtin "type.__call__" ⟨.ref C::us,kw⟩)).depth=A.depth+1:=by
 first|rfl|simp[Around.under,Code.weight,Code.isCreation,Code.isGuard,Code.isCaller,Code.frames,Code.isFrame,guardIds]
theorem Bz{A:Around}{C:Addr}{us:List Value}{kw:List (Str×Value)}:(A.under (.builtin "type.__call__" ⟨.ref C::us,kw⟩)).units=A.units+1:=by
 first|rfl|simp[Around.under,Code.cUnits,Code.frames,Code.isFrame]
theorem cP.make{k:Nat}{A:Around}(r:cP (k+1) A)(C:Addr)(us:List Value)(kw:List (Str×Value)):cP k (A.under (.builtin "type.__call__" ⟨.ref C::us,kw⟩)):=
 ⟨r.hd,by have:=r.dp;rw[B0];omega,by have:=r.un;rw[Bz];omega⟩
theorem cP.depth{k:Nat}{A:Around}(r:cP k A):A.depth<recursionLimit:=by have:=r.dp;omega
theorem cP.units{k:Nat}{A:Around}(r:cP k A):A.units+64<cLine:=by have:=r.un;omega
def O4:TA:=fun _ H Q=>Q [] H
def Nx(ta:TE)(tr:TA):TA:=fun σ H Q=>ta σ H fun x H1=>tr σ H1 fun xs H2=>Q (x::xs) H2
section
variable {X:Cx}{e:Expr}{es:List Expr}{te:TE}{t:TA}{pos:Pos}
theorem K9:PA X [] O4:=fun _ _ _ _ H Q I h=>Calls.spliced_nil ⟨[],H,I,.nil,h⟩
theorem I_(ha:PE X e te)(hr:PA X es t)(hs:starEach (e::es) X.env=(false,eval e X.env)::starEach es X.env:=by rfl):PA X (e::es) (Nx te t):=by
 intro pos pins s σ H Q I h;rw[hs];show wpAny _ _ (spliced ((false,eval e X.env)::backTo pos (starEach es X.env))) _ _ s;refine Calls.spliced_cons (bO (ha pins s σ H _ I h) fun u s1 ⟨x,H1,I1,r1,q1⟩=>?_);exact bO (hr pos pins s1 σ H1 _ I1 q1) fun us s2 ⟨xs,H2,I2,r2,q2⟩=>⟨x::xs,H2,I2,.cons r1 r2,q2⟩
def PC(t:TA):TE:=fun σ H Q=>t σ H fun xs H1=>xs.length<=sizeLine/\∀p,H1 p=none->Q (.ref p) (upd H1 p (.tup xs))
def PB(t:TA):TE:=fun σ H Q=>t σ H fun xs H1=>xs.length<=sizeLine/\∀p,H1 p=none->Q (.ref p) (upd H1 p (.lst xs))
theorem KJ{x1}(h:PA X es t):PE X (.Tuple es x1 pos) (PC t):=by
 intro pins s σ H Q I hq;refine wpAny_Tuple_spliced (bO (h pos pins s σ H _ I hq) fun us s1 ⟨xs,H1,I1,r,z,q⟩=>⟨by rw[<-r.length];exact z,?_⟩);have hf:H1 s1.heap.objs.size=none:=I1.aP.fresh (Nat.le_refl _);refine⟨.ref s1.heap.objs.size,upd H1 s1.heap.objs.size (.tup xs),I1.laid (t':=s1.toks) (fun b u e=>Heap.get?_push_of_some _ e) (Nat.le_refl _) ?_,rfl,q _ hf⟩;exact⟨z,us,r,⟨_,Heap.get?_push_size _ rfl,rfl,_,rfl⟩⟩
theorem DB(h:PA X es t):PE X (.List es pos) (PB t):=by
 intro pins s σ H Q I hq;refine wpAny_List_spliced (bO (h pos pins s σ H _ I hq) fun us s1 ⟨xs,H1,I1,r,z,q⟩=>⟨by rw[<-r.length];exact z,?_⟩);have hf:H1 s1.heap.objs.size=none:=I1.aP.fresh (Nat.le_refl _);refine⟨.ref s1.heap.objs.size,upd H1 s1.heap.objs.size (.lst xs),I1.laid (t':=s1.toks) (fun b u e=>Heap.get?_push_of_some _ e) (Nat.le_refl _) ?_,rfl,q _ hf⟩;exact⟨z,us,0,r,Heap.get?_push_size _ rfl⟩
end
abbrev Sp:=List V->Hp->VK->XK->Prop
abbrev tD:=List Env->Hp->Shared->XK->Value->Shared->Prop
structure um(P:Program)(w:World)(K:PySem.W.Frag)(mg:Str->Option Value)(base:Heap)(A:Around)(outer:List Env)(s:Shared)(H:Hp):Prop where
 frames:A.frames=some outer
 mod:Mod K mg base
 bs:∀b o,base.get? b=some o->s.heap.get? b=some o/\H b=none
 rG:base.objs.size<=s.heap.objs.size
 kc:s.heap.FunFrames base outer
 uX:∀b∈pe outer,H b=none
 aP:gX P w H s.heap
 bare:AllBare s.gens
 gt:P.given.tree=none
def CE(outer:List Env)(P:Program)(w:World)(H:Hp)(s:Shared)(Q:VK)(u:Value)(s':Shared):Prop:=
 ∃v H',s'.os=s.os/\AllBare s'.gens/\Un (pe outer) [] H H' s.heap s'.heap/\gX P w H' s'.heap/\RelV v u/\Q v H'
def CR(CX:tD)(outer:List Env)(P:Program)(w:World)(H:Hp)(s:Shared)(Q:VK)(E:XK)(r:Result)(s':Shared):Prop:=
 match r with
 | .ok (.ret u)=>CE outer P w H s Q u s'
 | .ok _=>False
 | .error e=>CX outer H s E e s'
structure bf(P:Program)(w:World)(K:PySem.W.Frag)(mg:Str->Option Value)(base:Heap)(CX:tD)(k:Nat)(f:Addr)(fd:FuncData)(ps:List Str)(sp:Sp):Prop where
 len:∀vs H Q E,sp vs H Q E->vs.length=ps.length
 run:∀(A:Around) (outer:List Env) (s:Shared) (H:Hp) (args:Args) (us:List Value) (vs:List V) (Q:VK) (E:XK),cP k A->um P w K mg base A outer s H->BindsTo s fd args (ps.zip us)->Vals vs us->sp vs H Q E->
  codeAny (model P w) A (.call (.ref f) args) (CR CX outer P w H s Q E) s
theorem bf.imp{P:Program}{w:World}{K:PySem.W.Frag}{mg:Str->Option Value}{base:Heap}{CX:tD}{k:Nat}{f:Addr}{fd:FuncData}{ps:List Str}{sp sp':Sp}(F:bf P w K mg base CX k f fd ps sp)
 (h:∀vs H Q E,sp' vs H Q E->sp vs H Q E):bf P w K mg base CX k f fd ps sp':=
 ⟨fun vs H Q E q=>F.len vs H Q E (h _ _ _ _ q),fun A outer s H args us vs Q E hr he hb hv hs=>F.run A outer s H args us vs Q E hr he hb hv (h _ _ _ _ hs)⟩
theorem um.make{P:Program}{w:World}{K:PySem.W.Frag}{mg:Str->Option Value}{base:Heap}{A:Around}{outer:List Env}{s:Shared}{H:Hp}(e:um P w K mg base A outer s H)(C:Addr)(us:List Value)(kw:List (Str×Value)):
 um P w K mg base (A.under (.builtin "type.__call__" ⟨.ref C::us,kw⟩)) outer s H:=⟨by first|exact e.frames|(simpa[Around.under,Code.envs,Code.isFrame,pushEnvs]using e.frames),e.mod,e.bs,e.rG,e.kc,e.uX,e.aP,e.bare,e.gt⟩
section
variable {X:Cx}{pins:List (Addr×Obj)}{σ:St}{H:Hp}{s s':Shared}
theorem Inv.Mv(I:Inv X pins σ H s):um X.prog X.w X.K X.mg X.base X.A X.stack s H:=
 ⟨I.ok.frames,I.ok.mod,I.bs,Nat.le_trans I.ok.rG I.sz,I.stack,I.v8,I.aP,I.bare,I.ok.gt⟩
theorem Inv.after{Q:VK}{u:Value}(I:Inv X pins σ H s)(h:CE X.stack X.prog X.w H s Q u s'):EP X pins σ Q u s':=by
 obtain⟨v,H',os,bare,un,aP,r,q⟩:=h;obtain⟨hh,g,d,t,os'⟩:=s';obtain rfl:os'=s.os:=os;exact⟨v,H',I.call (h':=hh) (g':=g) (d':=d) (t':=t) (ch:=[]) un aP bare (fun b z=>absurd z (by simp)),r,q⟩
end
def Hu(sp:Sp)(dvs:List V)(E:XK)(t:TA):TE:=fun σ H Q=>t σ H fun vs H1=>sp (vs++dvs) H1 Q E
def Gr(C:Addr)(m:Str)(sp:Sp)(dvs:List V)(E:XK)(ta:TE)(t:TA):TE:=fun σ H Q=>ta σ H fun x H1=>∃a dx fs,x= .ref a/\H1 a=some (.ins C dx fs)/\fs.lookup m=none/\
 t σ H1 fun vs H2=>sp (x::(vs++dvs)) H2 Q E
def Gw(C:Addr)(sp:Sp)(dvs:List V)(E:XK)(t:TA):TE:=fun σ H Q=>t σ H fun vs H1=>∀x dx,H1 x=none->H1 dx=none->dx≠x->
 sp (.ref x::(vs++dvs)) (upd (upd H1 dx (.own x)) x (.ins C dx [])) (fun v H2=>v= .aH/\Q (.ref x) H2) E
def Binds(K:PySem.W.Frag)(fd:FuncData)(ps:List Str)(ds:List Value):Prop:=
 ∀(s:Shared) (us:List Value),K.In s.heap->(us++ds).length=ps.length->BindsTo s fd ⟨us,[]⟩ (ps.zip (us++ds))
theorem Binds.all{K:PySem.W.Frag}{fd:FuncData}{ps:List Str}(h:∀us:List Value,us.length=ps.length->bindArgs fd ⟨us,[]⟩=pure (ps.zip us)):Binds K fd ps []:=fun s us _ hl=>by
 rw[List.append_nil]at hl⊢;exact .of_eq (h us hl)
def Passes(CX:tD)(X:Cx)(E:XK):Prop:=∀(pins:List (Addr×Obj)) (σ:St) (H:Hp) (s:Shared) (e:Value) (s':Shared),Inv X pins σ H s->CX X.stack H s E e s'->X.xe e s'
section
variable {X:Cx}{CX:tD}{k:Nat}{f C:Addr}{fd:FuncData}{ps:List Str}{sp:Sp}{dvs:List V}{ds:List Value}{E:XK}{x m:Str}{p pos apos:Pos}{e o:Expr}{es:List Expr}{ta:TE}{t:TA}
theorem En{pins:List (Addr×Obj)}{σ:St}{H:Hp}{s:Shared}{Q:VK}{us:List Value}{vs:List V}(F:bf X.prog X.w X.K X.mg X.base CX k f fd ps sp)(hr:cP k X.A)(hb:Binds X.K fd ps ds)(hd:Vals dvs ds)(hx:Passes CX X E)
 (I:Inv X pins σ H s) (r:Vals vs us) (h:sp (vs++dvs) H Q E):wpAny (model X.prog X.w) X.A (call (.ref f) us) (EP X pins σ Q) X.xe s:=by
 have r2:Vals (vs++dvs) (us++ds):=r.append hd;have hl:(us++ds).length=ps.length:=by rw[<-r2.length];exact F.len _ _ _ _ h
 refine wpAny_call (codeAny_mono (F.run X.A X.stack s H ⟨us,[]⟩ (us++ds) (vs++dvs) Q E hr I.Mv (hb s us I.gI hl) r2 h) fun r s' hq=>?_);cases r with
 |error e=>exact hx pins σ H s e s' I hq
 |ok fl=>
  cases fl with
  |ret u=>exact I.after hq
  |next=>exact False.elim hq
  |brk=>exact False.elim hq
  |cont=>exact False.elim hq
theorem IE(F:bf X.prog X.w X.K X.mg X.base CX k f fd ps sp)(hr:cP k X.A)(hg:Gl X x)(hm:X.mg x=some (.ref f))(hk:PySem.W.keepIn X.K (.ref f)=true)(hb:Binds X.K fd ps ds)(hd:Vals dvs ds)(hx:Passes CX X E)
 (ha:PA X (e::es) t) (hdb:(x==("__debug__":Str))=false:=by decide) (he:starEach (e::es) X.env=(false,eval e X.env)::starEach es X.env:=by rfl) (hpl:(backTo pos (starEach es X.env)).any (·.1)=false:=by rfl):
 PE X (.Call (.Name x p) (e::es) [] pos) (Hu sp dvs E t):=by
 intro pins s σ H Q I h;refine wpAny_Call_Name_kw (AG I hg hm ?_ hdb);refine PySem.W.callWith_K (h₀:=X.base) I.ok.mod.EF hk (bO (ha pos pins s σ H _ I h) fun us s1 ⟨vs,H1,I1,r,q⟩=>⟨I1.gI,?_⟩) he hpl;exact En F hr hb hd hx I1 r q
theorem IT{pl:Sem Bool}(he:PE X o ta)(c:m9 X.K C)(hm:Meth X.K C m f)(F:bf X.prog X.w X.K X.mg X.base CX k f fd ps sp)(hr:cP k X.A)(hb:Binds X.K fd ps ds)(hd:Vals dvs ds)(hx:Passes CX X E)(ha:PA X (e::es) t)
 (hst:starEach (e::es) X.env=(false,eval e X.env)::starEach es X.env:=by rfl) (hpl:(backTo pos (starEach es X.env)).any (·.1)=false:=by rfl)
 (ht:eval (.Call (.Attribute o m apos) (e::es) [] pos) X.env=(do
   let ov <-eval o X.env
   standAt apos.atName
   let(f,first) <-holding [ov] (getMethod ov m pl)
   callWith pos f first (backTo pos (starEach (e::es) X.env)) (backToKw pos (keywordEach [] X.env))):=by rfl):
 PE X (.Call (.Attribute o m apos) (e::es) [] pos) (Gr C m sp dvs E ta t):=by
 intro pins s σ H Q I h;refine PySem.W.methodCall_KW (pl:=pl) (bO (he pins s σ H _ I h) fun u s1 ⟨x,H1,I1,rx,a,dx,fs,ex,ea,l,q⟩=>?_) ht;subst ex;obtain rfl:u=Value.ref a:=rx;refine CA I1 ea c hm l ?_;refine PySem.W.callWith_K (first:=[.ref a]) (h₀:=X.base) I.ok.mod.EF hm.kp (bO (ha pos pins s1 σ H1 _ I1 q) fun us s2 ⟨vs,H2,I2,r,q2⟩=>⟨I2.gI,?_⟩) hst hpl;exact En (us:= .ref a::us) (vs:= .ref a::vs) F hr hb hd hx I2 (.cons rfl r) q2
structure Mk(K:PySem.W.Frag)(C f:Addr):Prop where
 makes:PySem.W.makesIn K C=true
 init:PySem.W.findIn K (.ref C) "__init__"=some (some (.ref f))
 fn:PySem.W.isFn K (.ref f)=true
 kp:PySem.W.keepIn K (.ref C)=true
theorem FK{pins:List (Addr×Obj)}{σ:St}{H:Hp}{s:Shared}{Q:VK}{us:List Value}{vs:List V}(M:Mk X.K C f)(F:bf X.prog X.w X.K X.mg X.base CX k f fd ps sp)(hr:cP (k+1) X.A)(hb:Binds X.K fd ps ds)(hd:Vals dvs ds)
 (hx:Passes CX X E) (I:Inv X pins σ H s) (r:Vals vs us)
 (h:∀x dx,H x=none->H dx=none->dx≠x->sp (.ref x::(vs++dvs)) (upd (upd H dx (.own x)) x (.ins C dx [])) (fun v H2=>v= .aH/\Q (.ref x) H2) E):
 wpAny (model X.prog X.w) X.A (call (.ref C) us) (EP X pins σ Q) X.xe s:=by
 have hq:=h (s.heap.objs.size+1) s.heap.objs.size (I.aP.fresh (Nat.le_succ _)) (I.aP.fresh (Nat.le_refl _)) (Nat.ne_of_lt (Nat.lt_succ_self _));have I2:=Inv.made (C:=C) I;have r2:Vals (V.ref (s.heap.objs.size+1)::(vs++dvs)) (Value.ref (s.heap.objs.size+1)::(us++ds)):= .cons rfl (r.append hd)
 have hl:(Value.ref (s.heap.objs.size+1)::us++ds).length=ps.length:=by
  have e:=r2.length;rw[F.len _ _ _ _ hq]at e;exact e.symm
 refine wpAny_call (Fe (f:=f) I.gI M.makes M.init (beq_iff_eq.mp M.fn) (codeAny_mono (F.run _ X.stack _ _ ⟨Value.ref (s.heap.objs.size+1)::us,[]⟩ (Value.ref (s.heap.objs.size+1)::(us++ds)) _ _ E (hr.make C us [])
  (I2.Mv.make C us []) (hb _ (Value.ref (s.heap.objs.size+1)::us) I2.gI hl) r2 hq) fun r s' hq'=>?_))
 cases r with
 |error e=>exact hx pins σ _ _ e s' I2 hq'
 |ok fl=>
  cases fl with
  |ret u=>
   obtain⟨v,H',I3,rv,ev,q3⟩:=I2.after hq';subst ev;exact⟨rv,⟨V.ref (s.heap.objs.size+1),H',I3,rfl,q3⟩⟩
  |next=>exact False.elim hq'
  |brk=>exact False.elim hq'
  |cont=>exact False.elim hq'
theorem JF(M:Mk X.K C f)(F:bf X.prog X.w X.K X.mg X.base CX k f fd ps sp)(hr:cP (k+1) X.A)(hg:Gl X x)(hm:X.mg x=some (.ref C))(hb:Binds X.K fd ps ds)(hd:Vals dvs ds)(hx:Passes CX X E)
 (ha:PA X (e::es) t) (hdb:(x==("__debug__":Str))=false:=by decide) (he:starEach (e::es) X.env=(false,eval e X.env)::starEach es X.env:=by rfl) (hpl:(backTo pos (starEach es X.env)).any (·.1)=false:=by rfl):
 PE X (.Call (.Name x p) (e::es) [] pos) (Gw C sp dvs E t):=by
 intro pins s σ H Q I h;refine wpAny_Call_Name_kw (AG I hg hm ?_ hdb);refine PySem.W.callWith_K (h₀:=X.base) I.ok.mod.EF M.kp (bO (ha pos pins s σ H _ I h) fun us s1 ⟨vs,H1,I1,r,q⟩=>⟨I1.gI,?_⟩) he hpl;exact FK M F hr hb hd hx I1 r q
end
section
variable {X:Cx}{CX:tD}{k:Nat}{f C:Addr}{fd:FuncData}{ps ks:List Str}{sp:Sp}{E:XK}{x m:Str}{p pos apos kpos:Pos}{e o:Expr}{es:List Expr}{kws:List Keyword}{te ta:TE}{t tk:TA}{nm:Option Str}
variable {g:List Value->List Value->List Value}{gV:List V->List V->List V}
end
structure aO(N P:List Str)(sc:Scope):Prop where
 kind:sc.kind= .function
 co:sc.isCoroutine=false
 gen:sc.isGenerator=false
 nd:N.Nodup
 pre:N.take P.length=P
 par:∀x∈P,sc.names.lookup x=some .local\/sc.names.lookup x=some .cell
 Mb:∀y∈sc.names,y.2≠ .free
theorem xl{kindOf:Str->Option NameKind}{x:Str}:∀ {binds:List (Str×Value)} {m:Str->Option Value},(∀v,(x,v)∉binds)->bindL kindOf binds m x=m x
 | [],_,_=>rfl
 |(n,v)::r,m,h=>by
  unfold bindL;rw[xl fun w hw=>h w (List.mem_cons_of_mem _ hw)];split
  . have:x≠n:=by rintro rfl;exact h v List.mem_cons_self
    simp[this]
  . rfl
theorem wC{kindOf:Str->Option NameKind}{x:Str}:∀ {binds:List (Str×Value)} {m:Str->Option Value},(∀v,(x,v)∉binds)->bindC kindOf binds m x=m x
 | [],_,_=>rfl
 |(n,v)::r,m,h=>by
  unfold bindC;rw[wC fun w hw=>h w (List.mem_cons_of_mem _ hw)];split
  . rfl
  . have:x≠n:=by rintro rfl;exact h v List.mem_cons_self
    simp[this]
theorem xv{kindOf:Str->Option NameKind}{x:Str}{v:Value}:∀ {P:List Str} {vs:List Value} {i:Nat} {m:Str->Option Value},P.Nodup->P[i]?=some x->vs[i]?=some v->kindOf x=some .local->
 bindL kindOf (P.zip vs) m x=some v
 | [],_,_,_,_,h,_,_=>by simp at h
 |_::_,[],_,_,_,_,h,_=>by simp at h
 |p::P,w::vs,0,m,nd,h1,h2,hk=>by
  simp at h1 h2;subst h1;subst h2;show bindL kindOf ((p,w)::P.zip vs) m p=_;unfold bindL;rw[xl fun v hv=>(List.nodup_cons.mp nd).1 (List.of_mem_zip hv).1,if_pos hk];simp
 |p::P,w::vs,i+1,m,nd,h1,h2,hk=>by
  show bindL kindOf ((p,w)::P.zip vs) m x=_;unfold bindL;exact xv (i:=i) (List.nodup_cons.mp nd).2 (by simpa using h1) (by simpa using h2) hk
theorem wU{kindOf:Str->Option NameKind}{x:Str}{v:Value}:∀ {P:List Str} {vs:List Value} {i:Nat} {m:Str->Option Value},P.Nodup->P[i]?=some x->vs[i]?=some v->kindOf x≠some .local->
 bindC kindOf (P.zip vs) m x=some v
 | [],_,_,_,_,h,_,_=>by simp at h
 |_::_,[],_,_,_,_,h,_=>by simp at h
 |p::P,w::vs,0,m,nd,h1,h2,hk=>by
  simp at h1 h2;subst h1;subst h2;show bindC kindOf ((p,w)::P.zip vs) m p=_;unfold bindC;rw[wC fun v hv=>(List.nodup_cons.mp nd).1 (List.of_mem_zip hv).1,if_neg hk];simp
 |p::P,w::vs,i+1,m,nd,h1,h2,hk=>by
  show bindC kindOf ((p,w)::P.zip vs) m x=_;unfold bindC;exact wU (i:=i) (List.nodup_cons.mp nd).2 (by simpa using h1) (by simpa using h2) hk
def start(N:List Str)(vs:List V):St:=vs.map some++List.replicate (N.length-vs.length) none
def qt(CX:tD)(P:Program)(w:World)(K:PySem.W.Frag)(mg:Str->Option Value)(base:Heap)(N:List Str)(qual:Str)(scope:Scope)(f:Addr)(cd:Value)(A:Around)(outer:List Env)(s:Shared)(H:Hp)(E:XK):Cx where
 prog:=P
 w:=w
 K:=K
 mg:=mg
 base:=base
 A:=A.deeper (envOfC qual scope s.heap.objs.size f cd)
 N:=N
 s₀:=s
 H₀:=H
 env:=envOfC qual scope s.heap.objs.size f cd
 outer:=outer
 stack:=envOfC qual scope s.heap.objs.size f cd::outer
 ex:=[]
 calm:=true
 fn:=fun _=>true
 pn:=[]
 xe:=fun e s'=>wpAny (model P w) (A.deeper (envOfC qual scope s.heap.objs.size f cd)) (leaving (envOfC qual scope s.heap.objs.size f cd) e) (fun _ s''=>CX outer H s E e s'') (fun e' s''=>CX outer H s E e' s'') s'
theorem yU{sc:Scope}{n:Nat}{x:Str}(h:sc.names.lookup x=some .cell):∃c,(cellsFrom n sc.names []).lookup x=some c:=by
 have q:=PySem.W.cellsFrom_some sc.names n [] (.inl h);exact Option.isSome_iff_exists.mp q
theorem DG{CX:tD}{P:Program}{w:World}{K:PySem.W.Frag}{mg:Str->Option Value}{base:Heap}{N ps:List Str}{qual:Str}{scope:Scope}{f:Addr}{cd:Value}{A:Around}{outer:List Env}{s s1:Shared}{H:Hp}{E:XK}{us:List Value}{vs:List V}
 (S:aO N ps scope) (hd:A.handled=none) (e0:um P w K mg base A outer s H) (hl:vs.length=ps.length) (r:Vals vs us)
 (x:InCallC s s.heap.objs.size (bindL (envOfC qual scope s.heap.objs.size f cd).kindOf (ps.zip us) fun _=>none) (cellsFrom (s.heap.objs.size+1) scope.names []) (bindC (envOfC qual scope s.heap.objs.size f cd).kindOf (ps.zip us) fun _=>none) s1):
 Inv (qt CX P w K mg base N qual scope f cd A outer s H E) [] (start N vs) H s1:=by
 have hpl:ps.length<=N.length:=by have:=congrArg List.length S.pre;rw[List.length_take]at this;omega
 obtain⟨h1,tk,rfl,hk⟩:=x.done;have noA:∀b:Addr,b∉(qt CX P w K mg base N qual scope f cd A outer s H E).ex:=fun b z=>absurd (show b∈([]:List Addr)from z) (by simp)
 refine⟨⟨e0.mod,S.kind,rfl,rfl,Nat.le_refl _,fun y z c h1 h2=>?_,fun y hy=>?_,fun y c _ h=>?_,fun _=>hd,Around.frames_deeper e0.frames,.inr ⟨rfl,rfl⟩,fun b z=>absurd z (noA b),e0.bs,e0.rG,fun b _ _=>noA b,fun b z=>absurd z (noA b),e0.kc,e0.uX,e0.gt⟩,
  rfl,e0.bare,Un.kept hk,⟨_,x.toInCall.ns,fun i y v h1 h2 h3=>?_⟩,fun y c h=>⟨_,x.cell y c h⟩,e0.aP.fresh (Nat.le_refl _),fun y c h=>?_,fun p hp=>absurd (show p∈([]:List (Addr×Obj))from hp) (by simp),e0.aP.kept hk,?_⟩
 . exact name_of_addr x.apart (PySem.mem_of_lookup h1) (PySem.mem_of_lookup h2)
 . have hy:scope.names.lookup y=some .cell\/scope.names.lookup y=some .free:=hy;rcases hy with hy|hy
   . exact yU hy
   . exact absurd rfl (S.Mb _ (PySem.mem_of_lookup hy))
 . exact Nat.le_of_lt (x.above y c (PySem.mem_of_lookup h))
 . have hi:i<vs.length:=by
    unfold start at h2;by_cases hi:i<vs.length
    . exact hi
    . rw[List.getElem?_append_right (by simpa using hi)]at h2;rw[List.getElem?_replicate]at h2;split at h2<;>cases h2
   have ha:vs[i]?=some v:=by
    unfold start at h2;rw[List.getElem?_append_left (by simpa using hi),List.getElem?_map]at h2;cases e:vs[i]? with
    |none=>rw[e]at h2;cases h2
    |some a=>rw[e]at h2;cases h2;rfl
   obtain⟨u,hu,rv⟩:=r.get ha
   have hp:ps[i]?=some y:=by
    rw[<-S.pre,List.getElem?_take_of_lt (by omega)];exact h1
   have ndP:ps.Nodup:=by rw[<-S.pre];exact S.nd.sublist (List.take_sublist _ _)
   refine⟨u,rv,?_⟩;rcases S.par y (List.mem_of_getElem? hp)with k|k
   . exact .inl ⟨k,xv ndP hp hu k⟩
   . obtain⟨c,e⟩:=yU (n:=s.heap.objs.size+1) k;refine .inr ⟨.inl k,c,e,?_⟩;have q:=x.cell y c e;rw[wU ndP hp hu (by show scope.names.lookup y≠_;rw[k];decide)]at q;exact q
 . exact e0.aP.fresh (Nat.le_of_lt (x.above y c (PySem.mem_of_lookup h)))
 . unfold start;show _=N.length;rw[List.length_append,List.length_map,List.length_replicate];omega
theorem GP{CX:tD}{P:Program}{w:World}{K:PySem.W.Frag}{mg:Str->Option Value}{base:Heap}{k:Nat}{f:Addr}{name qual:Str}{params:Arguments}{body:List Stmt}{scope:Scope}{dV kV doc pm cdv ct oc:Value}{an od:Option Addr}
 {osl:Array (Option Value)} {N ps:List Str} {sp:Sp} (lk:K.lookup f=some ⟨oc,od,.func (PySem.W.fnOf name qual params body scope dV kV doc pm an cdv ct),osl⟩) (hcd:PySem.W.codeIn K cdv qual=true) (S:aO N ps scope)
 (len:∀vs H Q E,sp vs H Q E->vs.length=ps.length)
 (hbody:∀(A:Around) (outer:List Env) (s:Shared) (H:Hp) (vs:List V) (Q:VK) (E:XK),cP k (A.deeper (envOfC qual scope s.heap.objs.size f cdv))->sp vs H Q E->
   ∃t,gG (qt CX P w K mg base N qual scope f cdv A outer s H E) body t/\t {nx:=fun _ H'=>Q .aH H',rt:=Q} (start N vs) H):
 bf P w K mg base CX (k+1) f (PySem.W.fnOf name qual params body scope dV kV doc pm an cdv ct) ps sp:=by
 refine⟨len,fun A outer s H args us vs Q E hr e0 hb r hsp=>?_⟩;have hl:=len _ _ _ _ hsp;have KX:K.In s.heap:=e0.mod.EF.keeps fun b o e=>(e0.bs b o e).1;have lim:s.heap.NoLimit:=e0.mod.nolimit.keeps fun b o e=>(e0.bs b o e).1
 have hkind:∀y∈ps.zip us,scope.names.lookup y.1=some .local\/(scope.names.lookup y.1=some .cell/\((cellsFrom (s.heap.objs.size+1) scope.names []).lookup y.1).isSome=true):=fun⟨n,v⟩ hy=>by
  rcases S.par n (List.of_mem_zip hy).1 with q|q
  . exact .inl q
  . exact .inr ⟨q,PySem.W.cellsFrom_some _ _ _ (.inl q)⟩
 refine codeAny_call_function hr.depth (KX _ _ lk) rfl S.co S.gen rfl (PySem.W.codeRec_of KX hcd) (hb _ _ _ _ ?_);refine wpAny_newFunctionEnv_cells S.kind hkind fun env he s1 x=>?_;subst he;refine⟨lim.keeps x.toInCall.keep,codeAny_func ?_⟩;obtain⟨t,ht,hq⟩:=hbody A outer s H vs Q E (hr.deeper _) hsp;have I:Inv (qt CX P w K mg base N qual scope f cdv A outer s H E) [] (start N vs) H s1:=DG S hr.hd e0 hl r x;refine wpAny_mono (ht [] s1 (start N vs) H _ I hq) (fun fl s' hs=>?_) fun e s' hs=>hs
 have fin:∀ {σ':St} {H':Hp} {v:V} {u:Value},Inv (qt CX P w K mg base N qual scope f cdv A outer s H E) [] σ' H' s'->RelV v u->Q v H'->CE outer P w H s Q u s':=
  fun{σ' H' v u} J rv q=>⟨v,H',J.os,J.bare,J.base,J.aP,rv,q⟩
 cases fl with
 |ret u=>
  obtain⟨v,σ',H',J,rv,q⟩:=hs;exact fin J rv q
 |next=>
  obtain⟨σ',H',J,q⟩:=hs;exact fin (v:=V.aH) (u:=Value.none) J rfl q
 |brk=>
  obtain⟨_,_,_,q⟩:=hs;exact False.elim q
 |cont=>
  obtain⟨_,_,_,q⟩:=hs;exact False.elim q
section
variable {X:Cx}{x:Str}{p pos:Pos}{e:Expr}{es:List Expr}{t:TA}{id T:String}{r:List V->Hp->VK->Prop}
def Kk(r:List V->Hp->VK->Prop)(t:TA):TE:=fun σ H Q=>t σ H fun vs H1=>r vs H1 Q
theorem Fy(hc:bD X (.builtin id) r)(hg:Gl X x)(hm:X.mg x=none)(hv:bootBuiltins x=some (.builtin id))(ha:PA X (e::es) t)(hn:x≠"__name__":=by decide)(hdb:(x==("__debug__":Str))=false:=by decide)
 (he:starEach (e::es) X.env=(false,eval e X.env)::starEach es X.env:=by rfl) (hpl:(backTo pos (starEach es X.env)).any (·.1)=false:=by rfl):PE X (.Call (.Name x p) (e::es) [] pos) (Kk r t):=by
 intro pins s σ H Q I h;refine wpAny_Call_Name_kw (j8 I hg hm hv ?_ hn hdb);exact PyProof.Rows.callWith_builtin1 (bO (ha pos pins s σ H _ I h) fun us s1 ⟨vs,H1,I1,r1,q1⟩=>hc pins s1 σ H1 vs us Q I1 r1 q1) he hpl
theorem EK(hc:bD X (.type T) r)(hg:Gl X x)(hm:X.mg x=none)(hv:bootBuiltins x=some (.type T))(ha:PA X (e::es) t)(hn:x≠"__name__":=by decide)(hdb:(x==("__debug__":Str))=false:=by decide)
 (he:starEach (e::es) X.env=(false,eval e X.env)::starEach es X.env:=by rfl) (hpl:(backTo pos (starEach es X.env)).any (·.1)=false:=by rfl):PE X (.Call (.Name x p) (e::es) [] pos) (Kk r t):=by
 intro pins s σ H Q I h;refine wpAny_Call_Name_kw (j8 I hg hm hv ?_ hn hdb);exact PyProof.Rows.callWith_type1 (bO (ha pos pins s σ H _ I h) fun us s1 ⟨vs,H1,I1,r1,q1⟩=>hc pins s1 σ H1 vs us Q I1 r1 q1) he hpl
end
end L2
namespace HT
open PySem PyProof.Rows
section
open PySem.SeqAt
open PySem.AutoSeq1 (wpAny_loadPart')
open PySem.MeetsSeq PySem.MeetsSeq2 PySem.MeetsSeq3
end
section
variable {prog:Program}{w:World}{A:Around}{E:Value->Shared->Prop}{s:Shared}
theorem Js{t b:Addr}{vs ws:List Value}{Q:Value->Shared->Prop}(ht:IsTup s.heap t vs.toArray)(hb:IsTup s.heap b ws.toArray)(hv:vs≠ [])
 (h1:ws=[]->Q (.ref t) s) (h2:ws≠ []->Q (.ref s.heap.objs.size) {s with heap:=s.heap.push {cls:= .type "tuple",data:= .seq (vs++ws).toArray}})
 (hsz:vs.length+ws.length<=sizeLine):wpAny (model prog w) A (binaryOp .Add (.ref t) (.ref b)) Q E s:=by
 obtain⟨⟨cls,dd,data,sl⟩,ho,hc,n,hd⟩:=id ht;obtain⟨⟨cls2,dd2,data2,sl2⟩,ho2,hc2,n2,hd2⟩:=id hb;simp only at hc hd hc2 hd2;subst hc hd hc2 hd2;have e:vs.toArray++ws.toArray=(vs++ws).toArray:=by simp
 by_cases hw:ws=[]
 . exact concat_meets ⟨_,ho,rfl⟩ ⟨_,ho2,rfl⟩ noFill_tuple_add seq_tuple_add PySem.F.slot_tuple_add PySem.F.entry_tuple_add (PySem.F.args_tuple_add_2 _ _)
    (tuple_addW1 t b vs.toArray ws.toArray n n2 dd dd2 sl sl2 (by simpa using hv) (by simp[hw])) ⟨ho,ho2,h1 hw⟩
 . refine concat_meets ⟨_,ho,rfl⟩ ⟨_,ho2,rfl⟩ noFill_tuple_add seq_tuple_add PySem.F.slot_tuple_add PySem.F.entry_tuple_add (PySem.F.args_tuple_add_2 _ _)
    (tuple_addW2 t b vs.toArray ws.toArray n n2 dd dd2 sl sl2 (by simpa using hv) (by simpa using hw) (by rw[List.size_toArray,List.size_toArray];exact hsz)) ⟨ho,ho2,?_⟩
   rw[e];exact h2 hw
def bS(n d:Nat):Option Int->Nat
 |none=>d
 |some v=>if v<0 then(v+(n:Int)).toNat else min v.toNat n
theorem zG(n d:Nat):bS n d none=d:=rfl
theorem AM(n d k:Nat):bS n d (some (k:Int))=min k n:=by
 show(if(k:Int)<0 then((k:Int)+(n:Int)).toNat else min (k:Int).toNat n)=min k n;rw[if_neg (by omega),Int.toNat_natCast]
theorem KH(n d:Nat)(hd:d<=n)(o:Option Int):bS n d o<=n:=by
 cases o with
 |none=>exact hd
 |some v=>
  show(if v<0 then(v+(n:Int)).toNat else min v.toNat n)<=n;by_cases hv:v<0
  . rw[if_pos hv];omega
  . rw[if_neg hv];exact Nat.min_le_right _ _
theorem Br(v:Int)(n d:Nat):(if v<0 then max (v+(n:Int)) 0 else min v (n:Int))=((bS n d (some v):Nat):Int):=by
 show(if v<0 then max (v+(n:Int)) 0 else min v (n:Int))=(((if v<0 then(v+(n:Int)).toNat else min v.toNat n):Nat):Int)
 by_cases hv:v<0
 . simp only[if_pos hv];omega
 . simp only[if_neg hv];omega
theorem Ct(lo hi:Option Int)(n:Nat):Builtin.Slice.sliceAdjust lo hi 1 (n:Int)=(((bS n 0 lo:Nat):Int),((bS n n hi:Nat):Int)):=by
 have h1:¬((1:Int)<0):=by omega
 unfold Builtin.Slice.sliceAdjust;simp only[h1,if_false];refine Prod.ext ?_ ?_
 . cases lo with
   |none=>rfl
   |some v=>exact Br v n 0
 . cases hi with
   |none=>rfl
   |some v=>exact Br v n n
theorem Cq(i j:Nat):Builtin.Slice.slicePlaces (i:Int) (j:Int) 1=j-i:=by
 unfold Builtin.Slice.slicePlaces;have h1:(1:Int)>0:=by omega
 simp only[h1,if_true,Int.ediv_one];split<;>omega
theorem uP{v:Value}{o:Option Int}{Q:Option Int->Shared->Prop}(p:IsPart v o)(h:Q o s):wpAny (model prog w) A (Builtin.Slice.slicePartIndex v) Q E s:=by
 cases p with
 |none=>exact slicePart_none h
 |int i t=>exact slicePart_int h
theorem nq{sl:Addr}{vl vu:Value}{lo hi:Option Int}{n:Nat}{Q:Int×Int×Nat->Shared->Prop}(hs:s.heap.IsSliceOf sl vl vu .none)(pl:IsPart vl lo)(pu:IsPart vu hi)
 (h:Q (((bS n 0 lo:Nat):Int),1,bS n n hi-bS n 0 lo) s):wpAny (model prog w) A (Builtin.Slice.sliceApplied (.ref sl) (pure (n:Int))) Q E s:=by
 obtain⟨os,hos,hcs,hds⟩:=id hs;unfold Builtin.Slice.sliceApplied Builtin.Slice.sliceFields;refine wpAny_bind (wpAny_bind (wpAny_field hos hds (x:=vl) rfl (wpAny_bind (wpAny_field hos hds (x:=vu) rfl (wpAny_bind (wpAny_field hos hds (x:= .none) rfl (wpAny_pure ?_)))))));refine wpAny_bind (slicePart_none ?_);show wpAny _ _ (if((1:Int)==0)=true then _ else _) _ _ s;rw[if_neg (by decide)];refine wpAny_bind (uP pl (wpAny_bind (uP pu (wpAny_bind (wpAny_pure ?_)))));show wpAny _ _ (match Builtin.Slice.sliceAdjust lo hi 1 (n:Int)with|(lo,hi)=>pure (lo,(1:Int),Builtin.Slice.slicePlaces lo hi 1)) _ _ s;rw[Ct lo hi n];show wpAny _ _ (pure (((bS n 0 lo:Nat):Int),(1:Int),Builtin.Slice.slicePlaces ((bS n 0 lo:Nat):Int) ((bS n n hi:Nat):Int) 1)) _ _ s;rw[Cq];exact wpAny_pure h
theorem FV(xs:Array Value)(i k:Nat):((List.range k).filterMap fun(m:Nat)=>xs[((i:Int)+(m:Int)*1).toNat]?).toArray=((xs.toList.drop i).take k).toArray:=by
 have e:(fun(m:Nat)=>xs[((i:Int)+(m:Int)*1).toNat]?)=fun m=>xs[i+m]?:=by
  funext m;have:((i:Int)+(m:Int)*1).toNat=i+m:=by omega
  rw[this]
 rw[e];have:=pick_run xs i k;rw[List.filterMap_map]at this;have e2:((fun x=>xs[x]?)∘fun x=>i+x)=fun m=>xs[i+m]?:=rfl;rw[e2]at this;rw[this]
theorem sP{t sl:Addr}{items:Array Value}{vl vu:Value}{lo hi:Option Int}{Q:Value->Shared->Prop}(ht:IsTup s.heap t items)(hs:s.heap.IsSliceOf sl vl vu .none)(pl:IsPart vl lo)(pu:IsPart vu hi)
 (hw:¬(bS items.size 0 lo=0/\bS items.size items.size hi=items.size))
 (h:Q (.ref s.heap.objs.size) {s with heap:=s.heap.push {cls:= .type "tuple",data:= .seq ((items.toList.drop (bS items.size 0 lo)).take (bS items.size items.size hi-bS items.size 0 lo)).toArray}})
 (hsz:items.size<=sizeLine):wpAny (model prog w) A (getItem (.ref t) (.ref sl)) Q E s:=by
 have htake:sizeOk (.seq ((items.toList.drop (bS items.size 0 lo)).take (bS items.size items.size hi-bS items.size 0 lo)).toArray):=by
  show((items.toList.drop (bS items.size 0 lo)).take (bS items.size items.size hi-bS items.size 0 lo)).toArray.size<=sizeLine;rw[List.size_toArray,List.length_take,List.length_drop,Array.length_toList];omega
 have hj:bS items.size items.size hi<=items.size:=KH _ _ (Nat.le_refl _) hi;obtain⟨os,hos,hcs,hds⟩:=id hs;have hTs:s.TypeIs (.ref sl) "slice":=⟨os,hos,hcs⟩
 unfold getItem;try with_reducible refine wpAny_holding ?_
 first|refine wpAny_bind (wpAny_pure ?_)|skip
 refine wpAny_bind (wpAny_sequenceKey ht.typeIs (by decide) ?_)
 refine wpAny_bind (wpAny_callSpecial?_slot (name:=Str.ofString "__getitem__") ht.typeIs PyProof.Rows.slot_tuple_getitem
  (wpAny_call_entry PyProof.Rows.slot_tuple_getitem ht.typeIs entry_tuple_getitem ?_ (args_tuple_getitem _ _)))
 show wpAny _ _ (Builtin.Tuple.tupleItemsOf (.ref t) >>= _) _ _ s;refine wpAny_bind (tupleItemsOf_ ht ?_);refine wpAny_bind (wpAny_typeOf hTs ?_);rw[if_pos (by decide)];refine wpAny_bind (nq hs pl pu ?_)
 have hno:¬((((bS items.size 0 lo:Nat):Int)==0&&(1:Int)==1&&(bS items.size items.size hi-bS items.size 0 lo)==items.size)=true):=by
  intro q;rw[Bool.and_eq_true,Bool.and_eq_true]at q;have q1:((bS items.size 0 lo:Nat):Int)=0:=eq_of_beq q.1.1;have q2:bS items.size items.size hi-bS items.size 0 lo=items.size:=eq_of_beq q.2;exact hw ⟨by omega,by omega⟩
 show wpAny _ _ (if(((bS items.size 0 lo:Nat):Int)==0&&(1:Int)==1&&(bS items.size items.size hi-bS items.size 0 lo)==items.size)=true then _ else _) _ _ s;rw[if_neg hno,FV]
 first
  |exact wpAny_bind (m:=Builtin.Tuple.tupleExact _) (wpAny_newObj_type (wpAny_pure ⟨_,rfl,wpAny_pure h⟩) htake)
  |exact wpAny_bind (m:=Builtin.Tuple.tupleExact _) (wpAny_newObj_type (wpAny_bind (wpAny_pure (wpAny_pure ⟨_,rfl,wpAny_pure h⟩))) htake)
  |exact wpAny_bind (wpAny_bind (m:=Builtin.Tuple.tupleExact _) (wpAny_newObj_type (wpAny_pure (wpAny_pure ⟨_,rfl,wpAny_pure h⟩)) htake))
  |exact wpAny_bind (wpAny_bind (m:=Builtin.Tuple.tupleExact _) (wpAny_newObj_type (wpAny_pure ⟨_,rfl,wpAny_pure h⟩) htake))
end
end HT
namespace L2
open PySem PySem.Spec PyProof.Rows
abbrev TO:=St->Hp->(Option Int->Hp->Prop)->Prop
def PO(X:Cx)(e:Option Expr)(t:TO):Prop:=
 ∀(pins:List (Addr×Obj)) (s:Shared) (σ:St) (H:Hp) (Q:Option Int->Hp->Prop),Inv X pins σ H s->t σ H Q->
  wpAny (model X.prog X.w) X.A (evalPart e X.env) (fun u s'=>∃o H',Inv X pins σ H' s'/\IsPart u o/\Q o H') X.xe s
def Ja:TO:=fun _ H Q=>Q none H
def NZ(t:TE):TO:=fun σ H Q=>t σ H fun x H1=>∃i,x= .int i/\Q (some i) H1
section
variable {X:Cx}{e:Expr}{te:TE}{lo hi:Option Expr}{tl th:TO}{pos p2:Pos}
theorem Jr:PO X none Ja:=by
 intro pins s σ H Q I h;rw[evalPart_none];exact wpAny_pure ⟨none,H,I,.none,h⟩
theorem Jk(h:PE X e te):PO X (some e) (NZ te):=by
 intro pins s σ H Q I hw;rw[evalPart_some];refine bO (h pins s σ H _ I hw) fun u s1 ⟨x,H1,I1,r1,q1⟩=>?_;obtain⟨i,rfl,q⟩:=q1;obtain⟨t,rfl⟩:=r1;exact⟨some i,H1,I1,.int i t,q⟩
def D4(X:Cx)(r:V->Option Int->Option Int->Hp->VK->Prop):Prop:=
 ∀(pins:List (Addr×Obj)) (s:Shared) (σ:St) (H:Hp) (x:V) (v vl vu:Value) (lo hi:Option Int) (sl:Addr) (Q:VK),Inv X pins σ H s->RelV x v->s.heap.IsSliceOf sl vl vu .none->IsPart vl lo->IsPart vu hi->r x lo hi H Q->
  ∃T id,typeLookup (.type T) "__getitem__"=pure (some (.builtin id))/\s.TypeIs v T/\wpAny (model X.prog X.w) X.A (getItem v (.ref sl)) (EP X pins σ Q) X.xe s
def PV(r:V->Option Int->Option Int->Hp->VK->Prop)(te:TE)(tl th:TO):TE:=fun σ H Q=>te σ H fun x H1=>tl σ H1 fun l H2=>th σ H2 fun u H3=>r x l u H3 Q
theorem FW{r:V->Option Int->Option Int->Hp->VK->Prop}(hr:D4 X r)(he:PE X e te)(hl:PO X lo tl)(hu:PO X hi th):PE X (.Subscript e (.Slice lo hi none p2) pos) (PV r te tl th):=by
 intro pins s σ H Q I h;refine Subscript_ (bO (he pins s σ H _ I h) fun v s1 ⟨x,H1,I1,r1,q1⟩=>?_);refine wpAny_Slice (bO (hl pins s1 σ H1 _ I1 q1) fun vl s2 ⟨l,H2,I2,pl,q2⟩=>bO (hu pins s2 σ H2 _ I2 q2) fun vu s3 ⟨u,H3,I3,pu,q3⟩=>?_);rw[evalPart_none];refine wpAny_pure ?_;have I4:Inv X pins σ H3 {s3 with heap:=s3.heap.push {cls:= .type "slice",data:= .fields #[vl,vu,.none]}}:=I3.kept (t':=s3.toks) fun b ob q=>Heap.get?_push_of_some _ q;obtain⟨T,id,hT,ht,hg⟩:=hr pins {s3 with heap:=s3.heap.push {cls:= .type "slice",data:= .fields #[vl,vu,.none]}} σ H3 x v vl vu l u s3.heap.objs.size Q I4 r1 (Heap.IsSliceOf.new ..) pl pu q3;show wpAny (model X.prog X.w) X.A (subscriptTail e (.Slice lo hi none p2) v (.ref s3.heap.objs.size)) (EP X pins σ Q) X.xe {s3 with heap:=s3.heap.push {cls:= .type "slice",data:= .fields #[vl,vu,.none]}};exact tail_any (ops:=[.ref s3.heap.objs.size,v]) ht hT hg (by with_unfolding_all rfl)
def qm(xs:List V)(lo hi:Option Int):List V:=(xs.drop (HT.bS xs.length 0 lo)).take (HT.bS xs.length xs.length hi-HT.bS xs.length 0 lo)
theorem tH(xs:List V)(lo hi:Option Int):(qm xs lo hi).length<=xs.length:=by
 unfold qm;rw[List.length_take,List.length_drop];omega
def Pj(K:PySem.W.Frag):V->Option Int->Option Int->Hp->VK->Prop:=fun x lo hi H Q=>∃a xs,x= .ref a/\iE K H a xs/\
 ¬(HT.bS xs.length 0 lo=0/\HT.bS xs.length xs.length hi=xs.length)/\∀p,H p=none->Q (.ref p) (upd H p (.tup (qm xs lo hi)))
theorem Kj:D4 X (Pj X.K):=by
 intro pins s σ H x v vl vu lo hi sl Q I rx hs pl pu h;obtain⟨a,xs,rfl,hx,hw,q⟩:=h;cases rx;obtain⟨its,r,ht,hz⟩:=I.tuple hx;have hlen:its.toArray.size=xs.length:=by rw[List.size_toArray];exact r.length.symm
 refine⟨"tuple",_,PyProof.Rows.slot_tuple_getitem.lookup,ht.typeIs,?_⟩;refine HT.sP ht hs pl pu (by rw[hlen];exact hw) ?_ (by rw[hlen];exact hz);rw[hlen];refine⟨.ref s.heap.objs.size,_,I.laid (t':=s.toks) (o:= .tup (qm xs lo hi)) (fun b ob q=>Heap.get?_push_of_some _ q) (Nat.le_refl _) ?_,rfl,q _ (I.aP.fresh (Nat.le_refl _))⟩;exact⟨Nat.le_trans (tH xs lo hi) hz,_,(r.drop (HT.bS xs.length 0 lo)).take (HT.bS xs.length xs.length hi-HT.bS xs.length 0 lo),IsTup.new _ _⟩
def NC(K:PySem.W.Frag):R2:=fun x y H Q=>∃a b xs ys,x= .ref a/\y= .ref b/\iE K H a xs/\iE K H b ys/\xs≠ []/\xs.length+ys.length<=sizeLine/\
 (ys=[]->Q (.ref a) H)/\(ys≠ []->∀p,H p=none->Q (.ref p) (upd H p (.tup (xs++ys))))
theorem Vals.r9{xs:List V}{us:List Value}(r:Vals xs us):us=[]↔xs=[]:=by
 cases r with
 |nil=>simp
 |cons _ _=>simp
theorem HQ:bM X (binaryOp .Add) (NC X.K):=by
 intro pins s σ H x y v u Q I rx ry h;obtain⟨a,b,xs,ys,rfl,rfl,ha,hb,hx,hz,q1,q2⟩:=h;cases rx;cases ry;obtain⟨its,r1,p1,_⟩:=I.tuple ha;obtain⟨its2,r2,p2,_⟩:=I.tuple hb;refine HT.Js p1 p2 (fun z=>hx (r1.r9.mp z)) (fun z=>⟨.ref a,H,I,rfl,q1 (r2.r9.mp z)⟩) (fun z=>?_) (by rw[<-r1.length,<-r2.length];exact hz);refine⟨.ref s.heap.objs.size,_,I.laid (t':=s.toks) (o:= .tup (xs++ys)) (fun b ob q=>Heap.get?_push_of_some _ q) (Nat.le_refl _) ?_,rfl,q2 (fun w=>z (r2.r9.mpr w)) _ (I.aP.fresh (Nat.le_refl _))⟩;exact⟨by rw[List.length_append];exact hz,_,r1.append r2,IsTup.new _ _⟩
end
def mr(n:Nat)(i:Int):Option Nat:=if 0<=i then(if i<n then some i.toNat else none)else if-(n:Int)<=i then some (i+n).toNat else none
def dG{α:Type}(xs:List α)(i:Int):Option α:=(mr xs.length i).bind fun j=>xs[j]?
theorem AW{n:Nat}{i:Int}{j:Nat}(h:mr n i=some j):seqIndex? i n=some j/\j<n/\ -(n:Int)<=i/\i<n:=by
 unfold mr at h;by_cases h0:0<=i
 . rw[if_pos h0]at h;by_cases h1:i<n
   . rw[if_pos h1]at h;have e:i.toNat=j:=Option.some.inj h;exact⟨by rw[seqIndex_of h0 h1,e],by omega,by omega,h1⟩
   . rw[if_neg h1]at h;cases h
 . rw[if_neg h0]at h;by_cases h1: -(n:Int)<=i
   . rw[if_pos h1]at h;have e:(i+n).toNat=j:=Option.some.inj h;exact⟨by rw[seqIndex_neg (by omega) h1,e],by omega,h1,by omega⟩
   . rw[if_neg h1]at h;cases h
theorem vV{α:Type}{xs:List α}{i:Int}{v:α}(h:dG xs i=some v):∃j,seqIndex? i xs.length=some j/\xs[j]?=some v/\j<xs.length/\ -(xs.length:Int)<=i/\i<xs.length:=by
 unfold dG at h;cases e:mr xs.length i with
 |none=>rw[e]at h;cases h
 |some j=>
  rw[e]at h;obtain⟨h1,h2,h3,h4⟩:=AW e;exact⟨j,h1,h,h2,h3,h4⟩
theorem g_{α:Type}{xs:List α}{j:Nat}{v:α}(h:xs[j]?=some v):dG xs (j:Int)=some v:=by
 have hj:j<xs.length:=(List.getElem?_eq_some_iff.mp h).1
 have e:mr xs.length (j:Int)=some j:=by
  unfold mr;rw[if_pos (by omega),if_pos (by omega)];simp
 unfold dG;rw[e];exact h
def r_(b:Expr):Prop:=∀o i,subscripted b false o i=operate [o,i] (getItem o i)
def Gs(X:Cx)(r:R2):Prop:=
 ∀(value slice:Expr) (pins:List (Addr×Obj)) (s:Shared) (σ:St) (H:Hp) (x y:V) (v u:Value) (Q:VK),Inv X pins σ H s->RelV x v->RelV y u->r x y H Q->
  subscripted slice false v u=operate [v,u] (getItem v u)->wpAny (model X.prog X.w) X.A (subscriptTail value slice v u) (EP X pins σ Q) X.xe s
def KI(X:Cx)(id:String)(r:V->List V->Hp->VK->Prop):Prop:=
 ∀(pins:List (Addr×Obj)) (s:Shared) (σ:St) (H:Hp) (x:V) (xs:List V) (v:Value) (us:List Value) (Q:VK),Inv X pins σ H s->RelV x v->Vals xs us->r x xs H Q->
  wpAny (model X.prog X.w) X.A (call (.builtin id) (v::us)) (EP X pins σ Q) X.xe s
section
variable {X:Cx}{a b:Expr}{ta tb:TE}{pos:Pos}
theorem MW{r:R2}(hr:Gs X r)(ha:PE X a ta)(hb:PE X b tb)(hs:r_ b):PE X (.Subscript a b pos) (Dp r ta tb):=by
 intro pins s σ H Q I h;exact Subscript_ (F9 ha hb I h fun v u s2 x y H2 I2 rx ry q=>hr a b pins s2 σ H2 x y v u Q I2 rx ry q (hs _ _))
def OO(K:PySem.W.Frag):R2:=fun x y H Q=>∃p xs i v,x= .ref p/\y= .int i/\l_ K H p xs/\dG xs i=some v/\Q v H
def PL(K:PySem.W.Frag):R2:=fun x y H Q=>∃p xs i v,x= .ref p/\y= .int i/\iE K H p xs/\dG xs i=some v/\Q v H
theorem AU:Gs X (OO X.K):=by
 intro value slice pins s σ H x y v u Q I rx ry h hs;obtain⟨p,xs,i,z,rfl,rfl,hq,he,q⟩:=h;cases rx;obtain⟨t,rfl⟩:=ry;obtain⟨its,r,pl,hz⟩:=I.list hq;obtain⟨j,h1,h2,h3,h4,h5⟩:=vV he;obtain⟨w,ew,rw'⟩:=r.get h2;have hl:=r.length;have hn:=qL;have fin:EP X pins σ Q w s:=⟨z,H,I,rw',q⟩
 by_cases h0:0<=i
 . have hj:i.toNat=j:=by
    rw[seqIndex_of h0 h5]at h1;exact Option.some.inj h1
   exact item_listR pl.isList h0 (by omega) (by rw[hj];simpa using ew) fin hs
 . have hj:(i+(its.toArray.size:Int)).toNat=j:=by
    rw[seqIndex_neg (by omega) h4]at h1;rw[List.size_toArray,<-hl];exact Option.some.inj h1
   exact subscriptTail_builtinR (x:=w) pl.isList.typeIs slot_list_getitem.lookup
    (wpAny_getItem_list_neg (Q:=fun r s'=>r=w/\EP X pins σ Q r s') pl.isList (by omega) (by rw[List.size_toArray]<;>omega) (by omega) (by rw[hj];simpa using ew) ⟨rfl,fin⟩) hs
theorem KQ:Gs X (PL X.K):=by
 intro value slice pins s σ H x y v u Q I rx ry h hs;obtain⟨p,xs,i,z,rfl,rfl,hq,he,q⟩:=h;cases rx;obtain⟨t,rfl⟩:=ry;obtain⟨its,r,pl,hz⟩:=I.tuple hq;obtain⟨j,h1,h2,h3,h4,h5⟩:=vV he;obtain⟨w,ew,rw'⟩:=r.get h2;have hl:=r.length;have hn:=qL;have fin:EP X pins σ Q w s:=⟨z,H,I,rw',q⟩
 exact subscriptTail_builtinR (x:=w) pl.typeIs slot_tuple_getitem.lookup
  (getItem_tuple (j:=j) (Q:=fun r s'=>r=w/\EP X pins σ Q r s') pl (by omega) (by omega) (by rw[List.size_toArray,<-hl];exact h1) (by simpa using ew) ⟨rfl,fin⟩) hs
theorem BA(its:List Value)(n j:Nat)(u:Value):Obj.mapSeq (·.setIfInBounds j u) {cls:= .type "list",data:= .seq its.toArray n}= {cls:= .type "list",data:= .seq (its.set j u).toArray n}:=by
 simp[Obj.mapSeq]
theorem Inv.lst{pins:List (Addr×Obj)}{σ:St}{H:Hp}{s:Shared}{p:Addr}{xs:List V}(I:Inv X pins σ H s)(h:H p=some (.lst xs)):
 ∃(its:List Value) (n:Nat),Vals xs its/\s.heap.get? p=some {cls:= .type "list",data:= .seq its.toArray n}/\xs.length<=sizeLine:=by
 obtain⟨z,its,n,r,e⟩:=I.aP p _ h;exact⟨its,n,r,e,z⟩
theorem Inv.Ms{pins:List (Addr×Obj)}{σ:St}{H:Hp}{s:Shared}{p:Addr}{xs ys:List V}{its its':List Value}{n n':Nat}{f:Obj->Obj}(I:Inv X pins σ H s)(h:H p=some (.lst xs))
 (ho:s.heap.get? p=some {cls:= .type "list",data:= .seq its.toArray n}) (hf:f {cls:= .type "list",data:= .seq its.toArray n}= {cls:= .type "list",data:= .seq its'.toArray n'}) (r:Vals ys its') (hz:ys.length<=sizeLine) (t:Nat):
 Inv X pins σ (upd H p (.lst ys)) {s with heap:=s.heap.update p f,toks:=t}:=by
 have e:(s.heap.update p f).get? p=some {cls:= .type "list",data:= .seq its'.toArray n'}:=by
  rw[Heap.get?_update_self f ho (by rw[hf]<;>rfl),hf]
 refine I.write (x:=p) (e:=p) (by rw[h];trivial) (.inl rfl) (fun b u hb q=>(Heap.get?_update_other _ _ (Ne.symm hb)).trans q) ⟨_,e⟩ ?_;exact⟨hz,its',n',r,e⟩
def ya:V->V->V->Hp->(Hp->Prop)->Prop:=fun o i v H Q=>∃p xs k j,o= .ref p/\i= .int k/\H p=some (.lst xs)/\mr xs.length k=some j/\Q (upd H p (.lst (xs.set j v)))
theorem set_list:L0 X ya:=by
 intro pins s σ H o i v ov iv u Q I ro ri rv h;obtain⟨p,xs,k,j,rfl,rfl,hp,hj,q⟩:=h;cases ro;obtain⟨t,rfl⟩:=ri;obtain⟨its,n,r,ho,hz⟩:=I.lst hp;obtain⟨h1,h2,h3,h4⟩:=AW hj;have hl:=r.length;have hn:=qL
 have I':Inv X pins σ (upd H p (.lst (xs.set j v))) {s with heap:=s.heap.update p (Obj.mapSeq (·.setIfInBounds j u))}:=
  I.Ms hp ho (BA its n j u) (r.set rv j) (by rw[List.length_set];exact hz) s.toks
 by_cases h0:0<=k
 . have hk:k.toNat=j:=by
    rw[seqIndex_of h0 h4]at h1;exact Option.some.inj h1
   exact PySem.W.ki_setAt ho h0 (by omega) (by rw[List.size_toArray,<-hl];exact h4) (by rw[hk];exact⟨_,I',q⟩)
 . have hk:(k+(its.toArray.size:Int)).toNat=j:=by
    rw[seqIndex_neg (by omega) h3]at h1;rw[List.size_toArray,<-hl];exact Option.some.inj h1
   exact PySem.W.ki_setBack ho (by omega) (by rw[List.size_toArray,<-hl];exact h3) (by omega) (by rw[hk];exact⟨_,I',q⟩)
theorem za(lo hi:Option Int)(n:Nat):(sliceBounds lo hi none n).1=((HT.bS n 0 lo:Nat):Int)/\(sliceBounds lo hi none n).2.1=((HT.bS n n hi:Nat):Int)/\(sliceBounds lo hi none n).2.2=1:=by
 refine⟨?_,?_,rfl⟩
 . cases lo with
   |none=>simp[sliceBounds,HT.bS]
   |some i=>
    simp only[sliceBounds,HT.bS,Option.getD_none,show(1:Int)>0 by decide,if_true];by_cases h:i<0
    . simp only[h,if_true]<;>omega
    . simp only[h,if_false]<;>omega
 . cases hi with
   |none=>simp[sliceBounds,HT.bS]
   |some i=>
    simp only[sliceBounds,HT.bS,Option.getD_none,show(1:Int)>0 by decide,if_true];by_cases h:i<0
    . simp only[h,if_true]<;>omega
    . simp only[h,if_false]<;>omega
theorem xI(its:List Value)(lo hi:Option Int):slicePick its.toArray lo hi none=((its.drop (HT.bS its.length 0 lo)).take (HT.bS its.length its.length hi-HT.bS its.length 0 lo)).toArray:=by
 obtain⟨h1,h2,h3⟩:=za lo hi its.toArray.size;unfold slicePick;rw[h1,h2,h3];simp only[sliceRange_one,pick_run,List.size_toArray]<;>rfl
def O7(K:PySem.W.Frag):V->Option Int->Option Int->Hp->VK->Prop:=fun x lo hi H Q=>∃a xs,x= .ref a/\l_ K H a xs/\∀p,H p=none->Q (.ref p) (upd H p (.lst (qm xs lo hi)))
theorem Bp:D4 X (O7 X.K):=by
 intro pins s σ H x v vl vu lo hi sl Q I rx hs pl pu h;obtain⟨a,xs,rfl,hx,q⟩:=h;cases rx;obtain⟨its,r,ht,hz⟩:=I.list hx;have hlen:=r.length;refine⟨"list",_,slot_list_getitem.lookup,ht.isList.typeIs,?_⟩;refine wpAny_getItem_list_slice ht.isList hs pl pu .none (by simp) ?_ (by rw[List.size_toArray]<;>omega);rw[xI,<-hlen];refine⟨.ref s.heap.objs.size,_,I.laid (t':=s.toks) (o:= .lst (qm xs lo hi)) (fun b ob q=>Heap.get?_push_of_some _ q) (Nat.le_refl _) ?_,rfl,q _ (I.aP.fresh (Nat.le_refl _))⟩;exact⟨Nat.le_trans (tH xs lo hi) hz,_,0,(r.drop (HT.bS xs.length 0 lo)).take (HT.bS xs.length xs.length hi-HT.bS xs.length 0 lo),Heap.get?_push_size _ rfl⟩
theorem yF:bD X (.builtin "len") (fun xs H Q=>∃p ys,xs=[.ref p]/\(l_ X.K H p ys\/iE X.K H p ys)/\Q (.int ys.length) H):=by
 intro pins s σ H xs us Q I r h;obtain⟨p,ys,rfl,hq,q⟩:=h;obtain⟨u,rfl,rx⟩:=vals1 r;cases rx;have hn:=qL;rcases hq with hq|hq
 . obtain⟨its,r',pl,hz⟩:=I.list hq;have hlen:=r'.length;exact Calls.call_len_list pl.isList (by simp only[List.size_toArray]<;>omega) ⟨.int ys.length,H,I.tok _,⟨s.toks+1,by rw[List.size_toArray,hlen]⟩,q⟩
 . obtain⟨its,r',pl,hz⟩:=I.tuple hq;have hlen:=r'.length;exact len_tuple pl (by simp only[List.size_toArray]<;>omega) ⟨.int ys.length,H,I.tok _,⟨s.toks+1,by rw[List.size_toArray,hlen]⟩,q⟩
theorem yW:bD X (.builtin "len") (fun xs H Q=>∃z,xs=[.str z]/\z.length<=sizeLine/\Q (.int z.length) H):=by
 intro pins s σ H xs us Q I r h;obtain⟨z,rfl,hz,q⟩:=h;obtain⟨u,rfl,t,rfl⟩:=vals1 r;have hn:=qL;exact len_str (by omega) ⟨.int z.length,H,I.tok _,⟨_,rfl⟩,q⟩
theorem qI:bD X (.type "list") (fun xs H Q=>∃p ys,xs=[.ref p]/\(l_ X.K H p ys\/iE X.K H p ys)/\∀l,H l=none->Q (.ref l) (upd H l (.lst ys))):=by
 intro pins s σ H xs us Q I r h;obtain⟨p,ys,rfl,hq,q⟩:=h;obtain⟨u,rfl,rx⟩:=vals1 r;cases rx
 have fin:∀(its:List Value),Vals ys its->ys.length<=sizeLine->∀(h':Heap) (c':Nat),(∀b o',s.heap.get? b=some o'->h'.get? b=some o')->
  h'.get? s.heap.objs.size=some {cls:= .type "list",dict:=none,data:= .seq its.toArray c',slots:= #[]}->EP X pins σ Q (.ref s.heap.objs.size) {s with heap:=h'}:=fun its r' hz h' c' kp e=>
  ⟨.ref s.heap.objs.size,_,I.laid (t':=s.toks) kp (Nat.le_refl _) (show dh X.prog X.w _ h' _ (.lst ys)from⟨hz,its,c',r',e⟩),rfl,q _ (I.aP.fresh (Nat.le_refl _))⟩
 rcases hq with hq|hq
 . obtain⟨its,r',pl,hz⟩:=I.list hq;have hlen:=r'.length;obtain⟨o,ho,hc,n,hd⟩:=pl.isList;exact call_list_seq p (.inl rfl) ho hc hd (fun h' c' kp e=>fin its r' hz h' c' kp e) (by simp only[List.size_toArray]<;>omega)
 . obtain⟨its,r',pl,hz⟩:=I.tuple hq;have hlen:=r'.length;obtain⟨o,ho,hc,n,hd⟩:=pl;exact call_list_seq p (.inr rfl) ho hc hd (fun h' c' kp e=>fin its r' hz h' c' kp e) (by simp only[List.size_toArray]<;>omega)
theorem xD:bD X (.type "tuple") (fun xs H Q=>∃p ys,xs=[.ref p]/\((l_ X.K H p ys/\∀l,H l=none->Q (.ref l) (upd H l (.tup ys)))\/(iE X.K H p ys/\Q (.ref p) H))):=by
 intro pins s σ H xs us Q I r h;obtain⟨p,ys,rfl,h⟩:=h;obtain⟨u,rfl,rx⟩:=vals1 r;cases rx;rcases h with⟨hq,q⟩|⟨hq,q⟩
 . obtain⟨its,r',pl,hz⟩:=I.list hq;have hlen:=r'.length;refine call_tuple_list pl.isList (fun h' kp=>?_) (by simp only[List.size_toArray]<;>omega);have I1:Inv X pins σ H {s with heap:=h'}:=I.kept (t':=s.toks) kp
   have I2:Inv X pins σ (upd H h'.objs.size (.tup ys)) {s with heap:=h'.push {cls:= .type "tuple",data:= .seq its.toArray}}:=
    I1.laid (t':=s.toks) (fun b o e=>Heap.get?_push_of_some _ e) (Nat.le_refl _) (show dh X.prog X.w _ _ _ (.tup ys)from⟨hz,its,r',IsTup.new _ _⟩)
   exact⟨.ref h'.objs.size,_,I2,rfl,q _ (I1.aP.fresh (Nat.le_refl _))⟩
 . obtain⟨its,r',pl,hz⟩:=I.tuple hq;exact call_tuple_same pl ⟨.ref p,H,I,rfl,q⟩
def Ou(K:PySem.W.Frag)(T:String)(x:V)(H:Hp):Prop:=match x with
 | .str _=>T="str"
 | .int _=>T="int"
 | .ref p=>(T="list"/\∃xs,l_ K H p xs)\/(T="tuple"/\∃o,K.lookup p=some o/\o.cls= .type "tuple"/\o.dict=none)\/
    (T="dict"/\((∃kvs,H p=some (.dK kvs))\/∃kvs,H p=some (.dT kvs)))\/(T="set"/\∃S n,H p=some (.set S n))
 |_=>False
theorem K7{pins:List (Addr×Obj)}{σ:St}{H:Hp}{s:Shared}{T:String}{x:V}{v:Value}(I:Inv X pins σ H s)(r:RelV x v)(ty:Ou X.K T x H):
 s.TypeIs v T/\∀a,v= .ref a->∃ob,s.heap.get? a=some ob/\ob.dict=none:=by
 cases x with
 |str z=>
  obtain⟨t,rfl⟩:=r;cases (show T="str" from ty);exact⟨typeIs_str s z t,fun _ e=>nomatch e⟩
 |int i=>
  obtain⟨t,rfl⟩:=r;cases (show T="int" from ty);exact⟨typeIs_int s i t,fun _ e=>nomatch e⟩
 |ref p=>
  cases r;rcases ty with⟨rfl,xs,hq⟩|⟨rfl,o,hk,hc,hd⟩|⟨rfl,hk⟩|⟨rfl,S,n,hk⟩
  . obtain⟨its,_,pl,_⟩:=I.list hq;refine⟨pl.isList.typeIs,fun a e=>?_⟩;cases e;obtain⟨o,n,e,c,hd,_⟩:=pl;exact⟨o,e,hd⟩
  . refine⟨⟨o,I.gI p o hk,hc⟩,fun a e=>?_⟩;cases e;exact⟨o,I.gI _ o hk,hd⟩
  . have z:∃o,s.heap.get? p=some o/\o.ExactDict:=by
     rcases hk with⟨kvs,hk⟩|⟨kvs,hk⟩
     . obtain⟨_,_,_,_,o,_,_,e,ex,_⟩:=I.aP p _ hk;exact⟨o,e,ex⟩
     . obtain⟨_,_,_,_,o,_,_,e,ex,_⟩:=I.aP p _ hk;exact⟨o,e,ex⟩
    obtain⟨o,e,ex⟩:=z;refine⟨⟨o,e,ex.1⟩,fun a e2=>?_⟩;cases e2;exact⟨o,e,ex.2.1⟩
  . obtain⟨o,_,_,_,e,ex,_⟩:=I.aP p _ hk;refine⟨⟨o,e,ex.1⟩,fun a e2=>?_⟩;cases e2;exact⟨o,e,ex.2.1⟩
 |_=>exact False.elim ty
def Kc(K:PySem.W.Frag)(T:String)(r:V->List V->Hp->VK->Prop)(to:TE)(t:TA):TE:=fun σ H Q=>to σ H fun x H1=>Ou K T x H1/\t σ H1 fun xs H2=>r x xs H2 Q
variable {o e:Expr}{es:List Expr}{to:TE}{t:TA}{name:Str}{apos cpos:Pos}{T id:String}{r:V->List V->Hp->VK->Prop}
theorem Gv(pa:PlainAttrs T)(slot:Slot T name id)(hty:typeOf (.builtin id)=pure (.type "method_descriptor"))(hm:KI X id r)(ho:PE X o to)(ha:PA X (e::es) t)
 (hbase:attributeBase o name X.env (eval o X.env)=eval o X.env:=by rfl)
 (hfew:((backTo cpos (starEach (e::es) X.env)).all (fun x=> !x.1)&&(backToKw cpos (keywordEach [] X.env)).all (fun x=>x.1.isSome)
   &&decide ((e::es).length+([]:List Keyword).length+(if([]:List Keyword).isEmpty then 0 else 1)<30))=true:=by rfl)
 (hline:(apos.endLine==cpos.line)=true:=by rfl) (hs:starEach (e::es) X.env=(false,eval e X.env)::starEach es X.env:=by rfl) (hplain:(backTo cpos (starEach es X.env)).any (·.1)=false:=by rfl):
 PE X (.Call (.Attribute o name apos) (e::es) [] cpos) (Kc X.K T r to t):=by
 intro pins s σ H Q I h;refine wpAny_Call_method_late hbase hfew hline rfl (bO (ho pins s σ H _ I h) fun v s1 ⟨x,H1,I1,r1,ty,q1⟩=>?_);obtain⟨h1,h2⟩:=K7 I1 r1 ty;refine⟨T,id,pa,slot,hty,h1,h2,?_⟩;have hA:=ha cpos pins s1 σ H1 _ I1 q1;rw[hs]at hA⊢;refine Calls.callWith_builtin (by show(false||(backTo cpos (starEach es X.env)).any (·.1))=false;rw[hplain]<;>rfl) (Calls.evalArgs_plain ?_);exact bO hA fun us s2 ⟨vs,H2,I2,r2,q2⟩=>hm pins s2 σ H2 x vs v us Q I2 r1 r2 q2
/-xs.append(e),list.index on a module's tuple .. are KI facts of 06m-/
end
def OH(X:Cx)(id:String)(r:V->List V->Hp->VK->Prop):Prop:=
 ∀(pins:List (Addr×Obj)) (s:Shared) (σ:St) (H:Hp) (x:V) (xs:List V) (v:Value) (us:List Value) (Q:VK),Inv X pins σ H s->RelV x v->Vals xs us->r x xs H Q->
  wpAny (model X.prog X.w) X.A (call (.builtin id) (v::us)) (EP X pins σ Q) X.xe s
theorem Vals.one:∀ {x:V} {us:List Value},Vals [x] us->∃u,us=[u]/\RelV x u
 |_,_,.cons r .nil=>⟨_,rfl,r⟩
theorem Vals.rep{xs:List V}{us:List Value}(h:Vals xs us):∀k:Nat,Vals (List.replicate k xs).flatten (List.replicate k us).flatten
 |0=> .nil
 |k+1=>by
  rw[List.replicate_succ,List.replicate_succ,List.flatten_cons,List.flatten_cons];exact Vals.append h (Vals.rep h k)
theorem foldl_rep(its:List Value):∀(k:Nat) (acc:List Value),
 List.foldl (fun x1 x2=>x1++x2) acc.toArray (List.replicate k its.toArray)=(acc++(List.replicate k its).flatten).toArray
 |0,acc=>by simp
 |k+1,acc=>by
  have e:acc.toArray++its.toArray=(acc++its).toArray:=by simp
  have e2:(acc++its)++(List.replicate k its).flatten=acc++(List.replicate (k+1) its).flatten:=by
   rw[List.replicate_succ,List.flatten_cons,List.append_assoc]
  rw[<-e2,<-foldl_rep its k (acc++its),<-e,List.replicate_succ,List.foldl_cons]
section
variable {X:Cx}{pins:List (Addr×Obj)}{σ:St}{H:Hp}{s:Shared}{l b:Addr}{xs ys zs:List V}
theorem Inv.KZ{its its':List Value}{n:Nat}{f:Array Value->Array Value}{t':Nat}(I:Inv X pins σ H s)(hH:H l=some (.lst xs))
 (e:s.heap.get? l=some {cls:= .type "list",data:= .seq its.toArray n}) (hf:f its.toArray=its'.toArray) (hv:Vals ys its') (hz:ys.length<=sizeLine):
 Inv X pins σ (upd H l (.lst ys)) {s with heap:=s.heap.update l (Obj.mapSeq f),toks:=t'}:=by
 have q:=PySem.IsL.update e f;rw[hf]at q;refine I.write (x:=l) (e:=l) (by rw[hH];exact trivial) (.inl rfl) (fun b' u hb hu=>(Heap.get?_update_other s.heap (Obj.mapSeq f) (Ne.symm hb)).trans hu) ⟨_,q⟩ ?_;exact⟨hz,its',_,hv,q⟩
theorem Inv.Fb{its:List Value}{t':Nat}(I:Inv X pins σ H s)(hv:Vals ys its)(hz:ys.length<=sizeLine):
 Inv X pins σ (upd H s.heap.objs.size (.lst ys)) {s with heap:=s.heap.push {cls:= .type "list",data:= .seq its.toArray},toks:=t'}:=
 I.laid (fun _ _ q=>Heap.get?_push_of_some _ q) (Nat.le_refl _) ⟨hz,its,0,hv,Heap.get?_push_size _ rfl⟩
theorem Inv.fresh(I:Inv X pins σ H s):H s.heap.objs.size=none:=I.aP.fresh (Nat.le_refl _)
theorem Inv.J5(I:Inv X pins σ H s)(hH:H l=some (.lst xs)):xs.length<=sizeLine/\∃(its:List Value) (n:Nat),Vals xs its/\xs.length=its.length/\s.heap.get? l=some {cls:= .type "list",data:= .seq its.toArray n}:=by
 obtain⟨z,its,n,r,e⟩:=I.aP l _ hH;exact⟨z,its,n,r,r.length,e⟩
theorem E2{n:Nat}(h:n<=sizeLine):Builtin.List.listTooLong n=false:=by
 unfold Builtin.List.listTooLong;exact decide_eq_false (by omega)
end
section
variable {X:Cx}
def Bm:V->List V->Hp->VK->Prop:=fun x vs H Q=>∃l xs y,x= .ref l/\vs=[y]/\H l=some (.lst xs)/\xs.length<sizeLine/\Q .aH (upd H l (.lst (xs++[y])))
theorem wO:OH X "list.append" Bm:=by
 intro pins s σ H x vs v us Q I rx rv h;obtain⟨l,xs,y,rfl,rfl,hH,hz,q⟩:=h;cases rx;obtain⟨u,rfl,ru⟩:=rv.one;obtain⟨z,its,n,r,hl,e⟩:=I.J5 hH;refine call_meets F.slot_list_append ⟨_,e,rfl⟩ F.entry_list_append (F.args_list_append_2 _ _) (PySem.list_append l its.toArray n u (by rw[List.size_toArray];omega)) ⟨e,?_⟩;refine⟨.aH,_,I.KZ (its':=its++[u]) hH e (by simp) (r.append (.cons ru .nil)) ?_,rfl,q⟩;rw[List.length_append,List.length_singleton];omega
theorem len_rep{α:Type}(xs:List α)(k:Nat):(List.replicate k xs).flatten.length=k*xs.length:=by
 induction k with
 |zero=>simp
 |succ k ih=>rw[List.replicate_succ,List.flatten_cons,List.length_append,ih,Nat.succ_mul,Nat.add_comm]
end
section
variable {prog:Program}{w:World}{A:Around}{E:Value->Shared->Prop}{s:Shared}
set_option maxRecDepth 100000 in
end
section
variable {X:Cx}
end
end L2
namespace Att
open PySem PySem.W PySem.Calls PyProof.Rows
theorem uT{P:Params}{h:Heap}:∀(ns:List Int) (vs:List Value),WellAll P h vs (ns.map WData.int)->IntsAre vs ns:=by
 intro ns;induction ns with
 |nil=>
  intro vs w;rw[List.map_nil]at w;cases w;exact .nil
 |cons n ns ih=>
  intro vs w;rw[List.map_cons]at w;cases w with
  |cons a b=>
   cases a;exact .cons _ _ (ih _ b)
theorem CZ{l:OpenLaw}{n:Nat}(hn:l.most=some n){P:Params}{h:Heap}{args:List WData}{vals:List Value}
 (hpre:l.row.toRowW.claim.pre args=true) (hwl:WellAll P h vals args):
 ∃a vs ns,vals=[Value.ref a]/\args=[WData.list (ns.map WData.int)]/\h.get? a=some {cls:= .type "list",data:= .seq vs.toArray}/\IntsAre vs ns/\ns.length<=n:=by
 have hsh:WShape.hasAll [] args [.list .int]=true:=(pre_splitW hpre).1;have hc:l.pre.holds [] {args:=args}=true:=(pre_splitW hpre).2;obtain⟨d,r,rfl,h1,h2⟩:=hasAllW_cons hsh;obtain rfl:=hasAllW_nil h2;obtain⟨xs,rfl,h3⟩:=hasW_list h1;obtain⟨ns,rfl⟩:=items_int h3
 have hlen:ns.length<=n:=by
  unfold OpenLaw.pre at hc
  have h4:(WTm.not (.lt (.lit (.int (n:Int))) (.len (.arg 0)))).holds [] {args:=[.list (ns.map .int)]}=true:=by
   have h4:=(holds_andW hc).1;rw[hn]at h4;exact h4
  have h5:=condW_of h4 (w_not (w_lt w_lit (w_len_list (w_arg rfl))));rw[List.length_map]at h5;refine Nat.le_of_not_lt fun q=>?_;have q':(n:Int)<((ns.length:Nat):Int):=by omega
  first
   |(rw[decide_eq_true q']at h5;exact absurd h5 (by decide))
   |(simp at h5;omega)
 cases hwl with
 |cons w1 w2=>
  cases w2;cases w1 with
  |list ho hall=>exact⟨_,_,ns,rfl,rfl,ho,uT ns _ hall,hlen⟩
theorem El(l:OpenLaw)(args:List WData):l.row.toRowW.claim.post args (.bool true) args=true:=
 postW_of (r:=l.row.toRowW) (X:=(true==true))
  (show WShape.has [] (.bool true) .bool=true by first|rfl|decide|simp[WShape.has,WShape.arms,WShape.armsAll])
  (show(WTm.eq .res (.lit (.bool true))).value [] {args:=args,res:=some (.bool true),after:=args}=some (.bool (true==true))from w_eq_bool (w_res rfl) w_lit) rfl
theorem AD{l:OpenLaw}{n:Nat}{q:Program}{loose:List Str}{XP:(Str->Option Value)->Heap->Prop}{YP:World->Heap->Prop}{d:DefRec}
 (hn:l.most=some n) (hdf:d.params.defaults=[])
 (call:∀(w:World) (s₀ s₁:Shared) (mg mb:Str->Option Value) (fa:Addr) (o:Obj) (pm cd doc:Value) (a:Addr) (vs:List Value) (ns:List Int),
   Ground q loose [] XP w s₀ mg mb s₁.heap->YP w s₁.heap->
   s₁.heap.get? fa=some o->o.data= .func (docDef d.name d.params d.body d.scope pm cd doc)->s₁.heap.CodeRec cd d.name->mg d.name=some (.ref fa)->
   s₁.heap.get? a=some {cls:= .type "list",data:= .seq vs.toArray}->IntsAre vs ns->ns.length<=n->s₁.gens= #[]->
   codeAny (model l.prog w) callerA (.call (.ref fa) ⟨[.ref a],[]⟩) (fun r s'=>r= .ok (.ret (.bool true))/\OldK s₁.heap s'.heap/\s'.os=s₁.os/\AllBare s'.gens) s₁):
 WalkO q loose XP YP l.row.toRowW d [] (fun f vs=>PySem.call f vs):=by
 intro w s₀ s₁ mg mb G Y fa o pm cd doc dV kV ho hd hcd hD hmg hg args vals as hpre hlay hrd hwl hlo;obtain rfl:dV= .none:=Dflts.none hD hdf;obtain rfl:kV= .none:=Dflts.noKw hD;obtain⟨a,vs,ns,rfl,rfl,hobj,hints,hlen⟩:=CZ hn hpre hwl;refine enter_call (codeAny_mono (call w s₀ s₁ mg mb fa o pm cd doc a vs ns G Y ho (fd_plain hd) hcd hmg hobj hints hlen hg) fun r s' hq=>?_);obtain⟨rfl,h2,h3,h4⟩:=hq;exact⟨.inl ⟨.bool true,.bool true,[],rfl,fun _=>rfl,.bool true,El l _,fun _=>⟨List.Pairwise.nil,fun _ hm=>(nomatch hm)⟩⟩,h2,h3,h4⟩
section
variable {prog:Program}{w:World}{A:Around}{E:Value->Shared->Prop}{s:Shared}{K:Frag}
end
end Att
namespace L2
open PySem PySem.Spec PyProof.Rows
theorem l6:∀ {vs:List Value} {ns:List Int},IntsAre vs ns->Vals (ns.map V.int) vs
 |_,_,.nil=> .nil
 |_,_,.cons n t h=> .cons ⟨t,rfl⟩ (l6 h)
end L2
/-THE LAST THEOREM (shape;LID,My.*are yours):
 My.Adr:a structure of the addresses that your layer names (classes,functions);My.Txt K t:a structure (Prop) of the equations over K;
 My.txt_mk:{K} {implicit addresses ..} (e1:nsIn K mainGlobals "law"=some (some (.ref f))) (e2:K.lookup f=some ⟨oc,od,.func (fnOf "law" "law" params body scope dV kV doc pm an cdv ct),sl⟩) (e3:codeIn K cdv "law"=true) .. :∃t,My.Txt K t
set_option maxRecDepth 100000 in
set_option maxHeartbeats 0 in
(the tactic k_is has no namespace:write k_is)-/
namespace L2
open PySem PySem.Spec PyProof.Rows
def inClass(s:Stmt)(j:Nat):Stmt:=match s with
 | .ClassDef _ _ _ body _ _ _ _ _ _ _=>body.getD j (.Pass ⟨0,0,0,0⟩)
 |_=> .Pass ⟨0,0,0,0⟩
def iY(s:Stmt):Arguments:=match s with
 | .FunctionDef _ a _ _ _ _ _ _ _ _=>a
 |_=>{posonlyargs:=[],args:=[],vararg:=none,kwonlyargs:=[],kw_defaults:=[],kwarg:=none,defaults:=[]}
def fI(s:Stmt):List Stmt:=match s with
 | .FunctionDef _ _ b _ _ _ _ _ _ _=>b
 |_=>[]
def ag(s:Stmt):Scope:=match s with
 | .FunctionDef _ _ _ _ _ _ sc _ _ _=>sc
 |_=>{kind:= .function,names:=[],isGenerator:=false,isCoroutine:=false}
abbrev cj:tD:=fun _ _ _ _ _ _=>False
abbrev E0:XK:=fun _ _ _=>False
theorem CD{X:Cx}:Passes cj X E0:=fun _ _ _ _ _ _ _ h=>h.elim
structure nG(K:PySem.W.Frag)(x qual:Str)(st:Stmt)(f:Addr)(fd:FuncData):Prop where
 ex:∃(oc:Value) (od:Option Addr) (kV doc pm:Value) (an:Option Addr) (cdv ct:Value) (osl:Array (Option Value)),
  fd=PySem.W.fnOf x qual (iY st) (fI st) (ag st) .none kV doc pm an cdv ct/\K.lookup f=some ⟨oc,od,.func fd,osl⟩/\PySem.W.codeIn K cdv qual=true
 kp:PySem.W.keepIn K (.ref f)=true
section
variable {P:Program}{w:World}{K:PySem.W.Frag}{mg:Str->Option Value}{base:Heap}
theorem nG.ok{x qual:Str}{st:Stmt}{f:Addr}{fd:FuncData}{N ps:List Str}{k:Nat}{sp:Sp}(F:nG K x qual st f fd)(S:aO N ps (ag st))(len:∀vs H Q E,sp vs H Q E->vs.length=ps.length)
 (hbody:∀(cdv:Value) (A:Around) (outer:List Env) (s:Shared) (H:Hp) (vs:List V) (Q:VK) (E:XK),cP k (A.deeper (envOfC qual (ag st) s.heap.objs.size f cdv))->sp vs H Q E->
   ∃t,gG (qt cj P w K mg base N qual (ag st) f cdv A outer s H E).uH (fI st) t/\t {nx:=fun _ H'=>Q .aH H',rt:=Q} (start N vs) H):bf P w K mg base cj (k+1) f fd ps sp:=by
 obtain⟨oc,od,kV,doc,pm,an,cdv,ct,osl,rfl,lk,hcd⟩:=F.ex;refine GP lk hcd S len fun A outer s H vs Q E hr hsp=>?_;obtain⟨t,h,q⟩:=hbody cdv A outer s H vs Q E hr hsp;exact⟨t,h.uH,q⟩
theorem nG.binds{x qual:Str}{st:Stmt}{f:Addr}{fd:FuncData}{ps:List Str}(F:nG K x qual st f fd)
 (h:∀(kV doc pm:Value) (an:Option Addr) (cdv ct:Value) (us:List Value),us.length=ps.length->bindArgs (PySem.W.fnOf x qual (iY st) (fI st) (ag st) .none kV doc pm an cdv ct) ⟨us,[]⟩=pure (ps.zip us)):Binds K fd ps []:=by
 obtain⟨oc,od,kV,doc,pm,an,cdv,ct,osl,rfl,lk,hcd⟩:=F.ex;exact .all (h kV doc pm an cdv ct)
theorem Df{x qual:Str}{st:Stmt}{f:Addr}{oc:Value}{od an:Option Addr}{osl:Array (Option Value)}{kV doc pm cdv ct:Value}(l:K.lookup f=some ⟨oc,od,.func (PySem.W.fnOf x qual (iY st) (fI st) (ag st) .none kV doc pm an cdv ct),osl⟩)
 (c:PySem.W.codeIn K cdv qual=true) (k:PySem.W.keepIn K (.ref f)=true):nG K x qual st f (PySem.W.fnOf x qual (iY st) (fI st) (ag st) .none kV doc pm an cdv ct):=⟨⟨oc,od,kV,doc,pm,an,cdv,ct,osl,rfl,l,c⟩,k⟩
end
section
variable {X:Cx}
end
theorem fx{A B:Prop}(h:A):if true=true then A else B:=by
 rw[if_pos rfl];exact h
def Fi(H H':Hp):Prop:=∀b o,H b=some o->H' b=some o
end L2
set_option maxHeartbeats 4000000
namespace Hd
open PySem PySem.W PySem.Calls PyProof.Rows
noncomputable def bt (P:Params):BT:=(.node (boot_o_0 P) (.node (boot_o_1 P) (.node (boot_o_3 P) (.node (boot_o_7 P) .nil .nil) .nil) (.node (boot_o_5 P) (.node (boot_o_9 P) .nil .nil) .nil)) (.node (boot_o_2 P) (.node (boot_o_4 P) (.node (boot_o_8 P) .nil .nil) .nil) (.node (boot_o_6 P) (.node (boot_o_10 P) .nil .nil) .nil)))
theorem Ma(P:Params):absHeap (bt P) 11 (boot_heap P).life=boot_heap P:=by kernel_rfl
noncomputable def run (p:Program) (w:World) (n:Nat) (ann:Option Value):Nat->SharedT->Thread->Option SharedT
 |0,_,_=>none
 |k+1,s,t=>match through t with
  |true=>some s
  |false=>match Fast.tw6613529449190102663 n ann t with
   |false=>none
   |true=>match Fast.tw10156331382660048174 (Fast.tw11892475500146522536 Fast.tw14364793385576792824) p w s t with
    |some (s',t')=>run p w n ann k s' t'
    |none=>none
theorem EO{p:Program}{w:World}{n:Nat}{ann:Option Value}:∀ {k:Nat} {s s':SharedT} {t:Thread},run p w n ann k s t=some s'->topRun treeTable p w n ann k s.abs t=some s'.abs
 |0,_,_,_,h=>by cases h
 |k+1,s,s',t,h=>by
  unfold run at h;unfold topRun;cases he:through t with
  |true=>rw[he]at h;cases h;rfl
  |false=>
   rw[he]at h;rw[<-Fast.te6613529449190102663,<-Fast.te10156331382660048174,<-Fast.te11892475500146522536,<-Fast.te14364793385576792824]at h;cases hk:stepOk n ann t with
   |false=>simp only[hk]at h;cases h
   |true=>
    simp only[hk]at h;cases hs:stepT (denote treeTable) p w s t with
    |none=>rw[hs]at h;cases h
    |some r=>obtain⟨s2,t2⟩:=r;rw[hs]at h;rw[stepT_spec hs];exact EO h
noncomputable def b0 (w:World) (os:OsState):SharedT:=⟨bt w.params,11,(boot_heap w.params).life,⟨[]⟩,boot_drawn,boot_toks,os⟩
theorem K6(w:World)(os:OsState):(b0 w os).abs=⟨boot_heap w.params,⟨[]⟩,boot_drawn,boot_toks,os⟩:=by
 unfold b0 SharedT.abs;dsimp only;rw[Ma]
theorem left{p q:Program}{loose:List Str}{α:Type}{Yf:Shared->α}{Ya:World->α}{N:Nat}
 (e:opening p=plainProg p.main.scope.names) (f:∀s,fenceModules? p s=some s) (hN:Nat.ble 600 N=true)
 (h:∀(w:World) (os:OsState),(run p w 11 (some (.ref 6)) N (b0 w os) (topStub p)).bind (fun s=>match staticsOk (importedModules p.main.body) (boot_heap w.params) s.abs.heap&&namesBound p s.abs.heap&&gensDone s.abs&&laidKept (boot_heap w.params) s.abs.heap with
   |true=>some (Fast.tw4187177175401517315 q loose (importedModules p.main.body) (fun _=>true) true s.abs,Yf s.abs)
   |false=>none)=some (openGood q loose,Ya w)):LeftO p q loose (fun _=>true) Yf Ya N:=fun w=>by
 obtain⟨⟨hp,gs,d,k,os⟩,e1,e2⟩:=Option.map_eq_some_iff.mp (boot_open e hN f w);obtain⟨rfl,rfl,rfl,rfl⟩:hp=boot_heap w.params/\gs=⟨[]⟩/\d=boot_drawn/\k=boot_toks:=by simpa using e2
 obtain⟨s,r1,r2⟩:=Option.bind_eq_some_iff.mp (h w os);have r3:=EO r1;rw[K6]at r3;rw[<-Fast.te4187177175401517315]at r2;unfold openEnds;rw[e1];show(topFrom treeTable p w N _).map _=_;unfold topFrom;rw[show((boot_heap w.params).isNs mainGlobals&&(⟨[]⟩:Array GenState).size==0)=true from by kernel_rfl];dsimp only;rw[show(boot_heap w.params).objs.size=11 from by kernel_rfl,show(boot_heap w.params).nsMap mainGlobals "__annotations__"=some (.ref 6)from by kernel_rfl,r3];show((match staticsOk (importedModules p.main.body) (boot_heap w.params) s.abs.heap&&namesBound p s.abs.heap&&gensDone s.abs&&laidKept (boot_heap w.params) s.abs.heap with|true=>some s.abs|false=>none):Option Shared).map _=_;cases z:(staticsOk (importedModules p.main.body) (boot_heap w.params) s.abs.heap&&namesBound p s.abs.heap&&gensDone s.abs&&laidKept (boot_heap w.params) s.abs.heap)with
 |false=>rw[z]at r2;cases r2
 |true=>rw[z]at r2;exact r2
def fo(st:Stmt)(x q:Str)(pm cd:Value):Obj:=⟨.type "function",none,.func (fnOf x q (L2.iY st) (L2.fI st) (L2.ag st) .none .none .none pm none cd .none),#[]⟩
abbrev e(x:Str)(t:Nat)(v:Value):Str×Nat×Value:=(x,t,v)
abbrev k(a:Addr)(o:Obj):Addr×Obj:=(a,o)
def no(P:Params)(n:Nat)(l:List (Str×Nat×Value)):Obj:=⟨.type "dict",none,.dict (l.map fun e=>⟨PyData.keyHash P e.1,.str e.1 e.2.1,e.2.2⟩).toArray n,#[]⟩
def fd(st:Stmt)(x q:Str)(pm:Value)(c:Addr):FuncData:=fnOf x q (L2.iY st) (L2.fI st) (L2.ag st) .none .none .none pm none (.ref c) .none
def fq(st:Stmt)(x q:Str)(pm:Value)(c:Addr):Obj:=⟨.type "function",none,.func (fd st x q pm c),#[]⟩
def co(x q:Str)(t:Nat)(line argc:Int)(a b:Addr)(u v:Value)(d:Addr)(i:Int)(z:Nat):Obj:=⟨.type "code",none,.fields #[.str x t,.str q (t+1),.str "/claim/cut.py" (t+2),.int line 0,.int argc 0,.int 0 0,.int 0 0,.int 3 0,.ref a,.bool true,.int 181 0,.ref b,.none,u,v,.ref d,.int i 0,.int line 0,.str "/claim/cut.py" z],#[]⟩
end Hd
namespace Row
open PySem L2
open PySem.Spec hiding items?
open PyProof.Rows hiding St
def top(i:Nat):Stmt:=PySem.Challenge.pw_latticeworks_k65_flat_spaces.main.body.getD i (.Pass ⟨0,0,0,0⟩)
abbrev PW:Program:=PySem.Challenge.pw_latticeworks_k65_flat_spaces
abbrev kr:Stmt:=top 1
abbrev pC:Stmt:=top 2
abbrev ph:Stmt:=top 3
abbrev mW:Stmt:=top 4
abbrev mQ:Stmt:=top 5
abbrev o6:Stmt:=top 6
abbrev mX:Stmt:=top 7
abbrev iD:Stmt:=top 9
abbrev kG:Stmt:=top 10
abbrev kL:Stmt:=top 11
abbrev iu:Stmt:=top 12
abbrev ju:Stmt:=top 13
abbrev e8:Stmt:=top 14
abbrev gS:Stmt:=top 15
abbrev fW:Stmt:=top 16
abbrev jC:Stmt:=top 18
abbrev dR:Stmt:=top 19
abbrev g7:Stmt:=top 20
abbrev iJ:Stmt:=top 21
abbrev cN:Stmt:=inClass (top 22) 0
abbrev gw:Stmt:=inClass (top 22) 1
abbrev eH:Stmt:=inClass (top 22) 2
abbrev dB:Stmt:=inClass (top 22) 3
abbrev cV:Stmt:=inClass (top 22) 4
abbrev fj:Stmt:=inClass (top 22) 5
abbrev dD:Stmt:=inClass (top 22) 6
abbrev iK:Stmt:=top 23
abbrev jH:Stmt:=top 24
abbrev mY:Stmt:=top 25
abbrev g8:Stmt:=top 27
abbrev hO:Stmt:=top 28
abbrev eY:Stmt:=top 29
abbrev fm:Stmt:=top 31
abbrev jI:Stmt:=top 32
abbrev mR:Stmt:=top 34
abbrev kO:Stmt:=top 35
abbrev o_:Stmt:=top 36
abbrev iM:Stmt:=top 38
abbrev iX:Stmt:=top 39
abbrev gF:Stmt:=top 40
abbrev gO:Stmt:=top 41
abbrev g4:Stmt:=top 42
abbrev iZ:Stmt:=top 43
abbrev fY:Stmt:=top 44
abbrev ku:Stmt:=top 45
abbrev eS:Stmt:=top 46
abbrev eh:Stmt:=top 47
abbrev f7:Stmt:=top 48
abbrev f_:Stmt:=top 49
abbrev fZ:Stmt:=top 50
abbrev fD:Stmt:=top 51
abbrev jQ:Stmt:=top 52
def i_:Value:=(.str "latticeworks.fractions" 187)
def ip:Value:=(.str "latticeworks.rows" 248)
def dM:Value:=(.str "latticeworks.standing" 304)
def uW:Value:=(.str "latticeworks.inside" 455)
def A7:Value:=(.str "latticeworks.answers" 491)
def uN:Value:=(.str "latticeworks.spaces" 516)
def df:Value:=(.str "law_latticeworks_k65_flat_spaces" 540)
def KX(P:Params):PySem.W.Frag:=[Hd.k 3 (Hd.no P 55 [Hd.e "__name__" 165 (.str "law_latticeworks_k65_flat_spaces" 540),Hd.e "__doc__" 166 .none,Hd.e "__package__" 167 .none,Hd.e "__loader__" 168 (.builtin "__main__.__loader__#opaque"),Hd.e "__spec__" 169 .none,Hd.e "__annotations__" 170 (.ref 6),Hd.e "__builtins__" 171 (.ref 4),Hd.e "__file__" 173 (.str "/claim/cut.py" 172),Hd.e "__cached__" 174 .none,Hd.e "common" 199 (.ref 21),Hd.e "part" 208 (.ref 28),Hd.e "plus" 216 (.ref 35),Hd.e "minus" 224 (.ref 42),Hd.e "times" 232 (.ref 49),Hd.e "over" 240 (.ref 56),Hd.e "whole" 247 (.ref 63),Hd.e "as_rows" 255 (.ref 68),Hd.e "added" 261 (.ref 73),Hd.e "sum_by" 273 (.ref 80),Hd.e "product" 279 (.ref 85),Hd.e "column" 285 (.ref 90),Hd.e "turned_over" 291 (.ref 95),Hd.e "unit_row" 297 (.ref 100),Hd.e "unit_rows" 303 (.ref 105),Hd.e "lead_of" 314 (.ref 112),Hd.e "nearest_quotient" 322 (.ref 119),Hd.e "exchanged" 332 (.ref 126),Hd.e "negated" 338 (.ref 131),Hd.e "Bench" 422 (.ref 186),Hd.e "standing" 433 (.ref 197),Hd.e "weighed" 446 (.ref 204),Hd.e "falls" 454 (.ref 211),Hd.e "parts_dot" 467 (.ref 218),Hd.e "bottom_at" 477 (.ref 225),Hd.e "parts_against" 490 (.ref 232),Hd.e "steps_behind" 500 (.ref 239),Hd.e "answers" 515 (.ref 246),Hd.e "space" 525 (.ref 253),Hd.e "beside" 532 (.ref 260),Hd.e "flat" 539 (.ref 267),Hd.e "_law_hand" 549 (.ref 274),Hd.e "_law_draw" 561 (.ref 281),Hd.e "_law_number" 569 (.ref 288),Hd.e "_law_rows" 575 (.ref 293),Hd.e "_law_width" 582 (.ref 300),Hd.e "_law_many" 591 (.ref 307),Hd.e "_law_falls" 597 (.ref 312),Hd.e "_law_in" 605 (.ref 319),Hd.e "_law_stands" 611 (.ref 324),Hd.e "_law_is_space" 617 (.ref 329),Hd.e "_law_small" 623 (.ref 334),Hd.e "_law_times" 629 (.ref 339),Hd.e "_law_on_it" 635 (.ref 344),Hd.e "_law_listed" 641 (.ref 349),Hd.e "law" 647 (.ref 354)]),
 Hd.k 20 (Hd.co "common" "common" 189 2 2 15 16 (.ref 17) (.ref 18) 19 197 198),
 Hd.k 21 (Hd.fq kr "common" "common" i_ 20),
 Hd.k 27 (Hd.co "part" "part" 200 10 2 22 23 (.ref 24) (.ref 25) 26 206 207),
 Hd.k 28 (Hd.fq pC "part" "part" i_ 27),
 Hd.k 34 (Hd.co "plus" "plus" 209 15 2 29 30 (.ref 31) (.ref 32) 33 214 215),
 Hd.k 35 (Hd.fq ph "plus" "plus" i_ 34),
 Hd.k 41 (Hd.co "minus" "minus" 217 17 2 36 37 (.ref 38) (.ref 39) 40 222 223),
 Hd.k 42 (Hd.fq mW "minus" "minus" i_ 41),
 Hd.k 48 (Hd.co "times" "times" 225 19 2 43 44 (.ref 45) (.ref 46) 47 230 231),
 Hd.k 49 (Hd.fq mQ "times" "times" i_ 48),
 Hd.k 55 (Hd.co "over" "over" 233 21 2 50 51 (.ref 52) (.ref 53) 54 238 239),
 Hd.k 56 (Hd.fq o6 "over" "over" i_ 55),
 Hd.k 62 (Hd.co "whole" "whole" 241 23 1 57 58 (.ref 59) (.ref 60) 61 245 246),
 Hd.k 63 (Hd.fq mX "whole" "whole" i_ 62),
 Hd.k 67 (Hd.co "as_rows" "as_rows" 250 26 1 64 65 .none .none 66 253 254),
 Hd.k 68 (Hd.fq iD "as_rows" "as_rows" ip 67),
 Hd.k 72 (Hd.co "added" "added" 256 28 3 69 70 .none .none 71 259 260),
 Hd.k 73 (Hd.fq kG "added" "added" ip 72),
 Hd.k 79 (Hd.co "sum_by" "sum_by" 262 30 3 74 75 (.ref 76) (.ref 77) 78 271 272),
 Hd.k 80 (Hd.fq kL "sum_by" "sum_by" ip 79),
 Hd.k 84 (Hd.co "product" "product" 274 35 2 81 82 .none .none 83 277 278),
 Hd.k 85 (Hd.fq iu "product" "product" ip 84),
 Hd.k 89 (Hd.co "column" "column" 280 38 2 86 87 .none .none 88 283 284),
 Hd.k 90 (Hd.fq ju "column" "column" ip 89),
 Hd.k 94 (Hd.co "turned_over" "turned_over" 286 40 2 91 92 .none .none 93 289 290),
 Hd.k 95 (Hd.fq e8 "turned_over" "turned_over" ip 94),
 Hd.k 99 (Hd.co "unit_row" "unit_row" 292 42 2 96 97 .none .none 98 295 296),
 Hd.k 100 (Hd.fq gS "unit_row" "unit_row" ip 99),
 Hd.k 104 (Hd.co "unit_rows" "unit_rows" 298 44 1 101 102 .none .none 103 301 302),
 Hd.k 105 (Hd.fq fW "unit_rows" "unit_rows" ip 104),
 Hd.k 111 (Hd.co "lead_of" "lead_of" 306 47 1 106 107 (.ref 108) (.ref 109) 110 312 313),
 Hd.k 112 (Hd.fq jC "lead_of" "lead_of" dM 111),
 Hd.k 118 (Hd.co "nearest_quotient" "nearest_quotient" 315 52 2 113 114 (.ref 115) (.ref 116) 117 320 321),
 Hd.k 119 (Hd.fq dR "nearest_quotient" "nearest_quotient" dM 118),
 Hd.k 125 (Hd.co "exchanged" "exchanged" 323 54 3 120 121 (.ref 122) (.ref 123) 124 330 331),
 Hd.k 126 (Hd.fq g7 "exchanged" "exchanged" dM 125),
 Hd.k 130 (Hd.co "negated" "negated" 333 59 1 127 128 .none .none 129 336 337),
 Hd.k 131 (Hd.fq iJ "negated" "negated" dM 130),
 Hd.k 142 (Hd.co "__init__" "Bench.__init__" 351 63 2 139 140 .none .none 141 354 355),
 Hd.k 143 (Hd.fq cN "__init__" "Bench.__init__" dM 142),
 Hd.k 149 (Hd.co "take" "Bench.take" 357 68 4 144 145 (.ref 146) (.ref 147) 148 364 365),
 Hd.k 150 (Hd.fq gw "take" "Bench.take" dM 149),
 Hd.k 156 (Hd.co "exchange" "Bench.exchange" 367 73 3 151 152 (.ref 153) (.ref 154) 155 373 374),
 Hd.k 157 (Hd.fq eH "exchange" "Bench.exchange" dM 156),
 Hd.k 163 (Hd.co "change_sign" "Bench.change_sign" 376 78 2 158 159 (.ref 160) (.ref 161) 162 381 382),
 Hd.k 164 (Hd.fq dB "change_sign" "Bench.change_sign" dM 163),
 Hd.k 168 (Hd.co "live_rows" "Bench.live_rows" 384 83 3 165 166 .none .none 167 387 388),
 Hd.k 169 (Hd.fq cV "live_rows" "Bench.live_rows" dM 168),
 Hd.k 175 (Hd.co "gather" "Bench.gather" 390 87 3 170 171 (.ref 172) (.ref 173) 174 399 400),
 Hd.k 176 (Hd.fq fj "gather" "Bench.gather" dM 175),
 Hd.k 182 (Hd.co "lower_above" "Bench.lower_above" 402 101 3 177 178 (.ref 179) (.ref 180) 181 409 410),
 Hd.k 183 (Hd.fq dD "lower_above" "Bench.lower_above" dM 182),
 Hd.k 185 (Hd.no P 4 [Hd.e "__module__" 346 (.str "latticeworks.standing" 304),Hd.e "__firstlineno__" 350 (.int (61) 349),Hd.e "__init__" 356 (.ref 143),Hd.e "take" 366 (.ref 150),Hd.e "exchange" 375 (.ref 157),Hd.e "change_sign" 383 (.ref 164),Hd.e "live_rows" 389 (.ref 169),Hd.e "gather" 401 (.ref 176),Hd.e "lower_above" 411 (.ref 183),Hd.e "__static_attributes__" 415 (.ref 184),Hd.e "__dict__" 417 (.ref 187),Hd.e "__weakref__" 419 (.ref 188),Hd.e "__doc__" 420 .none]),
 Hd.k 186 (⟨(.type "type"),none,.cls {name:="Bench",bases:=[(.type "object")],mro:=[(.ref 186),(.type "object")],ns:=185,qualname:="Bench",hasDict:=true,subclasses:=[],abstract:=false,hasDel:=false},#[none,none,(some (.str "Bench" 339)),(some (.str "Bench" 347)),(some (.builtin "object.__new__")),(some (.bool true))]⟩),
 Hd.k 196 (Hd.co "standing" "standing" 423 104 1 191 192 (.ref 193) (.ref 194) 195 431 432),
 Hd.k 197 (Hd.fq iK "standing" "standing" dM 196),
 Hd.k 203 (Hd.co "weighed" "weighed" 434 113 2 198 199 (.ref 200) (.ref 201) 202 444 445),
 Hd.k 204 (Hd.fq jH "weighed" "weighed" dM 203),
 Hd.k 210 (Hd.co "falls" "falls" 447 122 2 205 206 (.ref 207) (.ref 208) 209 452 453),
 Hd.k 211 (Hd.fq mY "falls" "falls" dM 210),
 Hd.k 217 (Hd.co "parts_dot" "parts_dot" 457 125 2 212 213 (.ref 214) (.ref 215) 216 465 466),
 Hd.k 218 (Hd.fq g8 "parts_dot" "parts_dot" uW 217),
 Hd.k 224 (Hd.co "bottom_at" "bottom_at" 468 130 3 219 220 (.ref 221) (.ref 222) 223 475 476),
 Hd.k 225 (Hd.fq hO "bottom_at" "bottom_at" uW 224),
 Hd.k 231 (Hd.co "parts_against" "parts_against" 478 135 2 226 227 (.ref 228) (.ref 229) 230 488 489),
 Hd.k 232 (Hd.fq eY "parts_against" "parts_against" uW 231),
 Hd.k 238 (Hd.co "steps_behind" "steps_behind" 493 146 2 233 234 (.ref 235) (.ref 236) 237 498 499),
 Hd.k 239 (Hd.fq fm "steps_behind" "steps_behind" A7 238),
 Hd.k 245 (Hd.co "answers" "answers" 501 148 2 240 241 (.ref 242) (.ref 243) 244 513 514),
 Hd.k 246 (Hd.fq jI "answers" "answers" A7 245),
 Hd.k 252 (Hd.co "space" "space" 518 160 2 247 248 (.ref 249) (.ref 250) 251 523 524),
 Hd.k 253 (Hd.fq mR "space" "space" uN 252),
 Hd.k 259 (Hd.co "beside" "beside" 526 162 1 254 255 (.ref 256) (.ref 257) 258 530 531),
 Hd.k 260 (Hd.fq kO "beside" "beside" uN 259),
 Hd.k 266 (Hd.co "flat" "flat" 533 166 1 261 262 (.ref 263) (.ref 264) 265 537 538),
 Hd.k 267 (Hd.fq o_ "flat" "flat" uN 266),
 Hd.k 273 (Hd.co "_law_hand" "_law_hand" 542 169 1 268 269 (.ref 270) (.ref 271) 272 547 548),
 Hd.k 274 (Hd.fq iM "_law_hand" "_law_hand" df 273),
 Hd.k 280 (Hd.co "_law_draw" "_law_draw" 550 172 2 275 276 (.ref 277) (.ref 278) 279 559 560),
 Hd.k 281 (Hd.fq iX "_law_draw" "_law_draw" df 280),
 Hd.k 287 (Hd.co "_law_number" "_law_number" 562 185 2 282 283 (.ref 284) (.ref 285) 286 567 568),
 Hd.k 288 (Hd.fq gF "_law_number" "_law_number" df 287),
 Hd.k 292 (Hd.co "_law_rows" "_law_rows" 570 191 3 289 290 .none .none 291 573 574),
 Hd.k 293 (Hd.fq gO "_law_rows" "_law_rows" df 292),
 Hd.k 299 (Hd.co "_law_width" "_law_width" 576 196 1 294 295 (.ref 296) (.ref 297) 298 580 581),
 Hd.k 300 (Hd.fq g4 "_law_width" "_law_width" df 299),
 Hd.k 306 (Hd.co "_law_many" "_law_many" 583 200 3 301 302 (.ref 303) (.ref 304) 305 589 590),
 Hd.k 307 (Hd.fq iZ "_law_many" "_law_many" df 306),
 Hd.k 311 (Hd.co "_law_falls" "_law_falls" 592 204 2 308 309 .none .none 310 595 596),
 Hd.k 312 (Hd.fq fY "_law_falls" "_law_falls" df 311),
 Hd.k 318 (Hd.co "_law_in" "_law_in" 598 212 2 313 314 (.ref 315) (.ref 316) 317 603 604),
 Hd.k 319 (Hd.fq ku "_law_in" "_law_in" df 318),
 Hd.k 323 (Hd.co "_law_stands" "_law_stands" 606 214 1 320 321 .none .none 322 609 610),
 Hd.k 324 (Hd.fq eS "_law_stands" "_law_stands" df 323),
 Hd.k 328 (Hd.co "_law_is_space" "_law_is_space" 612 224 2 325 326 .none .none 327 615 616),
 Hd.k 329 (Hd.fq eh "_law_is_space" "_law_is_space" df 328),
 Hd.k 333 (Hd.co "_law_small" "_law_small" 618 235 1 330 331 .none .none 332 621 622),
 Hd.k 334 (Hd.fq f7 "_law_small" "_law_small" df 333),
 Hd.k 338 (Hd.co "_law_times" "_law_times" 624 244 1 335 336 .none .none 337 627 628),
 Hd.k 339 (Hd.fq f_ "_law_times" "_law_times" df 338),
 Hd.k 343 (Hd.co "_law_on_it" "_law_on_it" 630 249 2 340 341 .none .none 342 633 634),
 Hd.k 344 (Hd.fq fZ "_law_on_it" "_law_on_it" df 343),
 Hd.k 348 (Hd.co "_law_listed" "_law_listed" 636 252 1 345 346 .none .none 347 639 640),
 Hd.k 349 (Hd.fq fD "_law_listed" "_law_listed" df 348),
 Hd.k 353 (Hd.co "law" "law" 642 254 1 350 351 .none .none 352 645 646),
 Hd.k 354 (Hd.fq jQ "law" "law" df 353)]
def KA:List Addr:=[3,20,21,27,28,34,35,41,42,48,49,55,56,62,63,67,68,72,73,79,80,84,85,89,90,94,95,99,100,104,105,111,112,118,119,125,126,130,131,142,143,149,150,156,157,163,164,168,169,175,176,182,183,185,186,196,197,203,204,210,211,217,218,224,225,231,232,238,239,245,246,252,253,259,260,266,267,273,274,280,281,287,288,292,293,299,300,306,307,311,312,318,319,323,324,328,329,333,334,338,339,343,344,348,349,353,354]
set_option maxHeartbeats 0 in
theorem left:PySem.W.LeftO PW (PySem.W.view PW [1,2,3,4,5,6,7,9,10,11,12,13,14,15,16,18,19,20,21,22,23,24,25,27,28,29,31,32,34,35,36,38,39,40,41,42,43,44,45,46,47,48,49,50,51,52]) [] (fun _=>true) (PySem.W.kmHook Row.KX Row.KA (fun _=>rfl) [166]).obs (PySem.W.kmHook Row.KX Row.KA (fun _=>rfl) [166]).val 3724:=
 Hd.left (by kernel_rfl) (fun s=>by kernel_rfl) rfl fun w os=>by kernel_rfl
end Row
namespace L3
open PySem PySem.Spec PyProof.Rows L2
section
variable {prog:Program}{w:World}{A:Around}{R:Result->Shared->Prop}{s:Shared}
theorem Au{elt target iter:Expr}{ifs:List Expr}{scope:Scope}{pos:Pos}{it acc:Value}{env:Env}(I:Nat->Shared->Prop)
 (turn:∀n s,I n s->wpAny (model prog w) A (pyNext it) (fun r s₁=>match r with
   |none=>R (.ok .next) s₁
   |some v=>wpAny (model prog w) A (letOwnedTupleGo target it v) (fun _ s₀=>wpAny (model prog w) A (assign target env v) (fun _ s₂=>
     wpAny (model prog w) A (forIn ifs true fun c r=>if r=true then do let ok <-isTrue c env (eval c env);pure (ForInStep.yield ok)else pure (ForInStep.yield r)) (fun ok s₃=>
      if ok=true then wpAny (model prog w) A (eval elt env) (fun x s₄=>
       wpAny (model prog w) A (call (.builtin "list.append") [acc,x]) (fun _ s₅=>∃m,m<n/\I m s₅) (fun _ _=>False) s₄) (fun _ _=>False) s₃
      else∃m,m<n/\I m s₃) (fun _ _=>False) s₂) (fun _ _=>False) s₀) (fun _ _=>False) s₁) (fun _ _=>False) s)
 (n:Nat) (h:I n s):
 codeAny (model prog w) A (.compLoop (.ListComp elt [⟨target,iter,ifs,0⟩] scope pos) 0 it acc env) R s:=by
 refine codeAny_loop rfl I (fun n s hI=>?_) n h;show wpAny _ A ((compTurn (.ListComp elt [⟨target,iter,ifs,0⟩] scope pos) 0 it acc env).onRaise (fun x=>do noteFrame x env;theTreesLotGoes x)) _ _ s;refine wpAny_noted ?_;rw[compTurn_list];refine wpAny_bind (wpAny_standAt (wpAny_bind (wpAny_mono (turn n s hI) (fun r s₁ h₁=>?_) fun _ _ h'=>h'.elim)));cases r with
 |none=>exact wpAny_pure h₁
 |some v=>
  refine wpAny_bind (wpAny_mono h₁ (fun _ s₀ h₀=>?_) fun _ _ h'=>h'.elim);refine wpAny_bind (wpAny_mono h₀ (fun _ s₂ h₂=>wpAny_bind (wpAny_mono h₂ (fun ok s₃ h₃=>?_) fun _ _ h'=>h'.elim)) fun _ _ h'=>h'.elim);cases ok with
  |false=>exact wpAny_pure ⟨rfl,h₃⟩
  |true=>
   exact wpAny_bind (wpAny_bind (wpAny_mono h₃ (fun x s₄ h₄=>wpAny_bind (wpAny_mono h₄ (fun _ s₅ h₅=>wpAny_pure (wpAny_pure ⟨rfl,h₅⟩)) fun _ _ h'=>h'.elim)) fun _ _ h'=>h'.elim))
end
def c7(cells:List (Str×Addr)):List (Str×NameKind)->List (Str×Addr)->List (Str×Addr)
 | [],acc=>acc
 |(n,k)::r,acc=>if k== .free then(match cells.lookup n with|some c=>c7 cells r ((n,c)::acc)|none=>c7 cells r acc)else c7 cells r acc
theorem cO{cells:List (Str×Addr)}:∀(names:List (Str×NameKind)) (acc:List (Str×Addr)),(∀x c,acc.lookup x=some c->cells.lookup x=some c)->
 ∀x c,(c7 cells names acc).lookup x=some c->cells.lookup x=some c
 | [],acc,h,x,c,e=>h x c e
 |(n,k)::r,acc,h,x,c,e=>by
  unfold c7 at e;split at e
  . split at e
    . rename_i d q;refine cO r _ (fun y b e'=>?_) x c e;rw[List.lookup_cons]at e';split at e'
      . rename_i z;cases e';have z':y=n:=by simpa using z
        rw[z'];exact q
      . exact h y b e'
    . exact cO r _ h x c e
  . exact cO r _ h x c e
theorem iC{cells:List (Str×Addr)}{x:Str}:∀(names:List (Str×NameKind)) (acc:List (Str×Addr)),(∃c,cells.lookup x=some c)->((x,NameKind.free)∈names\/∃c,acc.lookup x=some c)->
 ∃c,(c7 cells names acc).lookup x=some c
 | [],acc,_,h=>by
   rcases h with h|h
   . simp at h
   . exact h
 |(n,k)::r,acc,hc,h=>by
  unfold c7;split
  . rename_i hk;split
    . rename_i d q;refine iC r _ hc ?_;rcases h with h|⟨c,h⟩
      . rcases List.mem_cons.mp h with e|e
        . cases e;exact .inr ⟨d,by simp[List.lookup_cons]⟩
        . exact .inl e
      . refine .inr ?_;rw[List.lookup_cons];split
        . exact⟨_,rfl⟩
        . exact⟨c,h⟩
    . rename_i q;refine iC r _ hc ?_;rcases h with h|h
      . rcases List.mem_cons.mp h with e|e
        . cases e;obtain⟨c,hc⟩:=hc;rw[hc]at q;cases q
        . exact .inl e
      . exact .inr h
  . rename_i hk;refine iC r _ hc ?_;rcases h with h|h
    . rcases List.mem_cons.mp h with e|e
      . cases e;exact absurd rfl hk
      . exact .inl e
    . exact .inr h
theorem mh{scope:Scope}{env:Env}(h:∀x∈scope.names,x.2= .free->∃c,env.cells.lookup x.1=some c):closureFor scope env=pure (c7 env.cells scope.names []):=by
 have key:∀(names:List (Str×NameKind)) (acc:List (Str×Addr)),(∀x∈names,x.2= .free->∃c,env.cells.lookup x.1=some c)->
  (forIn names acc (fun(x:Str×NameKind) (cs:List (Str×Addr))=>if(x.2==NameKind.free)=true then(do let a <-cellOf env x.1;pure (ForInStep.yield ((x.1,a)::cs)):Sem (ForInStep (List (Str×Addr))))else pure (ForInStep.yield cs)))=(pure (c7 env.cells names acc):Sem (List (Str×Addr))):=by
  intro names;induction names with
  |nil=>intro acc _;rfl
  |cons p r ih=>
   intro acc hh;obtain⟨n,k⟩:=p;rw[List.forIn_cons];have ih':=ih;by_cases hk:(k==NameKind.free)=true
   . obtain⟨c,e⟩:=hh (n,k) List.mem_cons_self (by simpa using hk);simp only[hk,if_true]
     have e1:cellOf env n=pure c:=by
      unfold cellOf;rw[e]
     rw[e1];simp only[pure_bind];rw[ih _ fun x hx=>hh x (List.mem_cons_of_mem _ hx)];conv=>rhs;unfold c7
     simp only[hk,if_true];rw[show env.cells.lookup n=some c from e]
   . have hk':(k==NameKind.free)=false:=by simpa using hk
     simp only[hk',Bool.false_eq_true,if_false,pure_bind];rw[ih _ fun x hx=>hh x (List.mem_cons_of_mem _ hx)];conv=>rhs;unfold c7
     simp only[hk',Bool.false_eq_true,if_false]
 unfold closureFor;have:=key scope.names [] h;rw[bind_pure]
 first
  |exact this
  |(simp only[bind_pure]at this⊢;exact this)
end L3
namespace L3
open PySem PySem.Spec L2
open PyProof.Rows hiding St
theorem iO(env:Env):∀(names:List (Str×NameKind)) (x:Str),
 (names.map fun(n,k)=>if(k==NameKind.free&&env.scope.kind== .function&&env.kindOf n==some .cell)then(n,NameKind.cell)else(n,k)).lookup x=
   (names.lookup x).map fun k=>if(k==NameKind.free&&env.scope.kind== .function&&env.kindOf x==some .cell)then NameKind.cell else k
 | [],_=>rfl
 |(n,k)::r,x=>by
  show List.lookup x ((if(k==NameKind.free&&env.scope.kind== .function&&env.kindOf n==some .cell)=true then(n,NameKind.cell)else(n,k))::_)=_;cases hx:x==n with
  |true=>
   have e:x=n:=by simpa using hx
   subst e;by_cases hc:(k==NameKind.free&&env.scope.kind== .function&&env.kindOf x==some .cell)=true
   . rw[if_pos hc];simp only[List.lookup_cons,beq_self_eq_true,Option.map_some];rw[if_pos hc]
   . rw[if_neg hc];simp only[List.lookup_cons,beq_self_eq_true,Option.map_some];rw[if_neg hc]
  |false=>
   by_cases hc:(k==NameKind.free&&env.scope.kind== .function&&env.kindOf n==some .cell)=true
   . rw[if_pos hc];simp only[List.lookup_cons,hx];exact iO env r x
   . rw[if_neg hc];simp only[List.lookup_cons,hx];exact iO env r x
theorem yX{env:Env}{scope:Scope}{x:Str}(h:scope.names.lookup x=some .free):(relabel scope env).names.lookup x=some .cell\/(relabel scope env).names.lookup x=some .free:=by
 have e:(relabel scope env).names.lookup x=_:=iO env scope.names x;rw[e,h];simp only[Option.map_some];split
 . exact .inl rfl
 . exact .inr rfl
theorem yD{env:Env}{scope:Scope}{x:Str}(h:(relabel scope env).names.lookup x=some .cell\/(relabel scope env).names.lookup x=some .free):(x,NameKind.free)∈scope.names\/scope.names.lookup x=some .cell:=by
 have e:(relabel scope env).names.lookup x=_:=iO env scope.names x;rw[e]at h;cases q:scope.names.lookup x with
 |none=>rw[q]at h;rcases h with h|h<;>cases h
 |some k=>
  rw[q]at h;simp only[Option.map_some]at h;have m:=PySem.mem_of_lookup q;by_cases hc:(k==NameKind.free&&env.scope.kind== .function&&env.kindOf x==some .cell)=true
  . have:k= .free:=by
     simp only[Bool.and_eq_true]at hc;simpa using hc.1.1
    subst this;exact .inl m
  . rw[if_neg hc]at h;rcases h with h|h
    . cases h;exact .inr rfl
    . cases h;exact .inl m
theorem fP:∀(names:List (Str×NameKind)) (L:Nat) (acc:List (Str×Addr)),cellsFrom L names acc=cellsFrom L names []++acc
 | [],_,_=>rfl
 |(n,k)::r,L,acc=>by
  unfold cellsFrom;by_cases hk:(k==NameKind.cell)=true
  . rw[if_pos hk,if_pos hk,fP r (L+1) ((n,L)::acc),fP r (L+1) [(n,L)],List.append_assoc];rfl
  . rw[if_neg hk,if_neg hk];exact fP r L acc
theorem rf:∀ {names:List (Str×NameKind)} {L:Nat} {x:Str} {c:Addr},(x,c)∈cellsFrom L names []->(x,NameKind.cell)∈names
 | [],_,_,_,h=>by unfold cellsFrom at h;cases h
 |(n,k)::r,L,x,c,h=>by
  unfold cellsFrom at h;by_cases hk:(k==NameKind.cell)=true
  . rw[if_pos hk,fP]at h;have hk':k= .cell:=by simpa using hk
    subst hk';rcases List.mem_append.mp h with h|h
    . exact List.mem_cons_of_mem _ (rf h)
    . have:(x,c)=(n,L):=by simpa using h
      cases this;exact List.mem_cons_self
  . rw[if_neg hk]at h;exact List.mem_cons_of_mem _ (rf h)
theorem qd:∀ {l1 l2:List (Str×Addr)} {x:Str} {c:Addr},(l1++l2).lookup x=some c->l1.lookup x=some c\/(l1.lookup x=none/\l2.lookup x=some c)
 | [],_,_,_,h=> .inr ⟨rfl,h⟩
 |(n,d)::l1,l2,x,c,h=>by
  rw[List.cons_append,List.lookup_cons]at h;rw[List.lookup_cons];cases hx:x==n with
  |true=>rw[hx]at h;exact .inl h
  |false=>rw[hx]at h;exact qd h
theorem tm:∀ {l1 l2:List (Str×Addr)} {x:Str},l1.lookup x=none->(l1++l2).lookup x=l2.lookup x
 | [],_,_,_=>rfl
 |(n,d)::l1,l2,x,h=>by
  rw[List.lookup_cons]at h;rw[List.cons_append,List.lookup_cons];cases hx:x==n with
  |true=>rw[hx]at h;cases h
  |false=>rw[hx]at h;exact tm h
def lJ(scope:Scope)(C:Addr)(cl:List (Str×Addr)):List (Str×Addr):=cellsFrom (C+1) scope.names cl
theorem iF{scope:Scope}{C:Addr}{cl:List (Str×Addr)}{x:Str}{c:Addr}(h:(lJ scope C cl).lookup x=some c):(x,c)∈cellsFrom (C+1) scope.names []\/cl.lookup x=some c:=by
 unfold lJ at h;rw[fP]at h;rcases qd h with h|h
 . exact .inl (PySem.mem_of_lookup h)
 . exact .inr h.2
theorem MG(names:List (Str×NameKind))(h:Heap){C:Addr}(e:h.objs.size=C+1):CellsOk (pushCells h names) (C+1) (cellsFrom (C+1) names []):=by
 have:=cellsFrom_ok names h (C+1) [] ⟨fun _ _ hm=>(nomatch hm),List.Pairwise.nil⟩ (by rw[e];exact Nat.le_refl _);rw[e]at this;exact this
theorem nH{names:List (Str×NameKind)}{C:Addr}{x:Str}{c:Addr}:∀ {L:Nat},C<=L->(x,c)∈cellsFrom L names []->C<=c:=by
 induction names with
 |nil=>intro L _ h;unfold cellsFrom at h;cases h
 |cons p r ih=>
  obtain⟨n,k⟩:=p;intro L hL h;unfold cellsFrom at h;by_cases hk:(k==NameKind.cell)=true
  . rw[if_pos hk,fP]at h;rcases List.mem_append.mp h with h|h
    . exact ih (Nat.le_trans hL (Nat.le_succ L)) h
    . have:(x,c)=(n,L):=by simpa using h
      cases this;exact hL
  . rw[if_neg hk]at h;exact ih hL h
theorem own_apart{names:List (Str×NameKind)}{x y:Str}{c:Addr}:∀ {L:Nat},(x,c)∈cellsFrom L names []->(y,c)∈cellsFrom L names []->x=y:=by
 induction names with
 |nil=>intro L h;unfold cellsFrom at h;cases h
 |cons p r ih=>
  obtain⟨n,k⟩:=p;intro L h1 h2;unfold cellsFrom at h1 h2;by_cases hk:(k==NameKind.cell)=true
  . rw[if_pos hk,fP]at h1 h2;rcases List.mem_append.mp h1 with g1|g1<;>rcases List.mem_append.mp h2 with g2|g2
    . exact ih g1 g2
    . have e2:(y,c)=(n,L):=by simpa using g2
      have ec:c=L:=(Prod.mk.inj e2).2;have:=nH (C:=L+1) (Nat.le_refl _) g1;rw[ec]at this;exact absurd this (Nat.not_succ_le_self _)
    . have e1:(x,c)=(n,L):=by simpa using g1
      have ec:c=L:=(Prod.mk.inj e1).2;have:=nH (C:=L+1) (Nat.le_refl _) g2;rw[ec]at this;exact absurd this (Nat.not_succ_le_self _)
    . have e1:(x,c)=(n,L):=by simpa using g1
      have e2:(y,c)=(n,L):=by simpa using g2
      exact(Prod.mk.inj e1).1.trans (Prod.mk.inj e2).1.symm
  . rw[if_neg hk]at h1 h2;exact ih h1 h2
theorem tR{M:Model}{A:Around}{E:Value->Shared->Prop}{s:Shared}{scope:Scope}{globals:Addr}{cl:List (Str×Addr)}{qual:Str}{env:Env}{Q:Env->Shared->Prop}
 (hQ:Q (newEnv scope s.heap.objs.size globals (lJ scope s.heap.objs.size cl) qual none .none (some env) builtinsNs) {s with heap:=pushCells (s.heap.push {cls:= .type "dict",data:= .dict #[]}) scope.names}):
 wpAny M A (newFunctionEnv scope globals cl [] qual none .none (some env)) Q E s:=by
 simp only[newFunctionEnv,Option.isSome_some,if_true];refine wpAny_bind (wpAny_alloc ?_);refine wpAny_bind (wpAny_layCells _ (fun name kind cells=>by cases hkc:kind==NameKind.cell<;>simp[hkc]) _ _ _ _ ?_);rw[show({s with heap:=s.heap.push {cls:= .type "dict",data:= .dict #[]}}:Shared).heap.objs.size=s.heap.objs.size+1 from Heap.size_push ..];rw[List.forIn_nil];exact wpAny_bind (wpAny_pure (wpAny_pure hQ))
structure bz(X:Cx)(scope:Scope)(Nc:List Str)(fr:List (Option Nat)):Prop where
 kind:scope.kind= .function
 cells:∀x∈scope.names,x.2= .cell->scope.names.lookup x.1=some .cell
 names:∀x∈scope.names,x.2= .local->scope.names.lookup x.1=some .local
 free:∀x∈scope.names,x.2= .free->X.env.kindOf x.1=some .cell\/X.env.kindOf x.1=some .free
 len:fr.length=Nc.length
 map:∀(i j:Nat) (x:Str),Nc[i]?=some x->fr[i]?=some (some j)->X.N[j]?=some x/\scope.names.lookup x=some .free/\(X.env.kindOf x=some .cell\/X.env.kindOf x=some .free)
def σC(fr:List (Option Nat))(σ:St):St:=fr.map fun o=>o.bind fun j=>(σ[j]?).join
def fu(X:Cx)(scope:Scope)(Nc:List Str)(C:Addr)(s:Shared)(H:Hp)(ex:List Addr):Cx:=
 {X with N:=Nc,s₀:=s,H₀:=H,env:=compEnvC scope (lJ scope C (c7 X.env.cells scope.names [])) C X.env,outer:=X.stack,stack:=X.stack,ex:=ex,fn:=fun x=>scope.names.lookup x==some .cell,pn:=[],xe:=fun _ _=>False}
def vm(wi:TI)(fr:List (Option Nat))(g:TG)(c:TT)(te:TE):TE:=fun σ H Q=>wi σ H fun J H1=>∀l,H1 l=none->
 ∃W:Nat->Nat->L2.St->Hp->Prop,(∃m,W 0 m (σC fr σ) (upd H1 l (.lst [])))/\∀i m σ H,W i m σ H->
  (J.stop i H/\Q (.ref l) H)\/(J.go i H/\∃N:L2.St->Hp->Prop,(∀σ' H',N σ' H'->∃m',m'<m/\W (i+1) m' σ' H')/\∀x H',J.nQ i H x H'->
    g x σ H' fun σ2 H2=>c σ2 H2 fun b H3=>if b=true then te σ2 H3 fun y H4=>∃ys,H4 l=some (.lst ys)/\ys.length<sizeLine/\N σ2 (upd H4 l (.lst (ys++[y])))else N σ2 H3)
def qJ(X:Cx)(ifs:List Expr)(t:TT):Prop:=
 ∀(pins:List (Addr×Obj)) (s:Shared) (σ:St) (H:Hp) (Q:Bool->Hp->Prop),Inv X pins σ H s->t σ H Q->
  wpAny (model X.prog X.w) X.A (forIn ifs true fun c r=>if r=true then do let ok <-isTrue c X.env (eval c X.env);pure (ForInStep.yield ok)else pure (ForInStep.yield r)) (TP X pins σ Q) X.xe s
def MP:TT:=fun _ H Q=>Q true H
theorem Jy{X:Cx}:qJ X [] MP:=fun _ _ _ H _ I h=>wpAny_tests_nil ⟨H,I,h⟩
theorem Jl{X:Cx}{c:Expr}{t:TT}(h:PT X c t):qJ X [c] t:=fun pins s σ H Q I q=>wpAny_tests_one (h pins s σ H Q I q)
section
variable {X:Cx}{scope:Scope}{Nc:List Str}{fr:List (Option Nat)}{pins:List (Addr×Obj)}{σ:St}{H:Hp}{s:Shared}
theorem J_{C:Addr}{fp:List Addr}(S:bz X scope Nc fr)(I:Inv X pins σ H s)(hC:C=s.heap.objs.size)(hf:∀b∈fp,kW X pins H b)(hlt:∀b∈fp,b<s.heap.objs.size)(hnc:∀b∈fp,∀x c,X.env.cells.lookup x=some c->c≠b):
 (fu X scope Nc C s H fp).Ok where
 mod:=I.ok.mod
 kind:=S.kind
 glob:=I.ok.glob
 blt:=I.ok.blt
 above:=Nat.le_of_eq hC.symm
 inj:=fun x y c h1 h2=>by
  have low:∀ {z},(c7 X.env.cells scope.names []).lookup z=some c->c<s.heap.objs.size:=fun{z} hz=>by
   obtain⟨v,q⟩:=I.cell z c (cO _ [] (fun _ _ e=>by cases e) z c hz);exact q.lt
  rcases iF h1 with h1|h1<;>rcases iF h2 with h2|h2
  . exact own_apart h1 h2
  . have a:=nH (C:=C+1) (Nat.le_refl _) h1;have b:c<C:=by rw[hC];exact low h2
    exact absurd a (Nat.not_le_of_gt (Nat.lt_succ_of_lt b))
  . have a:=nH (C:=C+1) (Nat.le_refl _) h2;have b:c<C:=by rw[hC];exact low h1
    exact absurd a (Nat.not_le_of_gt (Nat.lt_succ_of_lt b))
  . exact I.ok.inj x y c (cO _ [] (fun _ _ e=>by cases e) x c h1) (cO _ [] (fun _ _ e=>by cases e) y c h2)
 has:=fun x hx=>by
  rcases yD hx with m|m
  . obtain⟨c,e⟩:=iC scope.names [] (I.ok.has x (S.free _ m rfl)) (.inl m);exact Option.isSome_iff_exists.mp (PySem.W.cellsFrom_some _ _ _ (.inr (by rw[e];rfl)))
  . exact Option.isSome_iff_exists.mp (PySem.W.cellsFrom_some _ _ _ (.inl m))
 yj:=fun x c hf h=>by
  have hl:scope.names.lookup x=some .cell:=by
   have:(scope.names.lookup x==some .cell)=true:=hf;simpa using this
  obtain⟨c',e⟩:=Option.isSome_iff_exists.mp (PySem.W.cellsFrom_some (x:=x) scope.names (C+1) [] (.inl hl))
  have h':(cellsFrom (C+1) scope.names []++c7 X.env.cells scope.names []).lookup x=some c:=by
   rw[<-fP];exact h
  rcases qd h' with q|q
  . have:=nH (C:=C+1) (Nat.le_refl _) (PySem.mem_of_lookup q);show s.heap.objs.size<=c;rw[<-hC];exact Nat.le_of_succ_le this
  . rw[q.1]at e;cases e
 hd:=I.ok.hd
 frames:=I.ok.frames
 Be:= .inl rfl
 Dj:=fun b hb=>⟨by rw[show(fu X scope Nc C s H fp).env.locals=s.heap.objs.size from hC];exact Nat.ne_of_lt (hlt b hb),fun x c h=>by
  rcases iF h with h|h
  . have a:=nH (C:=C+1) (Nat.le_refl _) h;have b':b<C:=by rw[hC];exact hlt b hb
    exact Nat.ne_of_gt (Nat.lt_of_lt_of_le b' (Nat.le_of_succ_le a))
  . exact hnc b hb x c (cO _ [] (fun _ _ e=>by cases e) x c h)⟩
 bs:=I.bs
 rG:=Nat.le_trans I.ok.rG I.sz
 tZ:=fun b o e hb=>by
  have hn:=(hf b hb).2.2.2.1;rcases hn with hn|hn
  . exact I.ok.tZ b o e hn
  . exact absurd (Heap.lt_size (I.ok.bs b o e).1) (Nat.not_lt.mpr hn)
 uk:=fun b hb z=>by
  have q:=I.zj b z;rcases List.mem_cons.mp q with q|q
  . exact(hf b hb).2.1 q
  . exact(hf b hb).2.2.1 q
 kc:=I.stack
 uX:=fun b hb=>I.v8 b hb
 gt:=I.ok.gt
theorem Bb{i:Nat}{v:V}(h:(σC fr σ)[i]?=some (some v)):∃j,fr[i]?=some (some j)/\σ[j]?=some (some v):=by
 unfold σC at h;rw[List.getElem?_map]at h;cases q:fr[i]? with
 |none=>rw[q]at h;cases h
 |some o=>
  rw[q]at h;cases o with
  |none=>simp at h
  |some j=>
   simp only[Option.map_some,Option.some.injEq,Option.bind_some]at h;refine⟨j,rfl,?_⟩;cases r:σ[j]? with
   |none=>rw[r]at h;cases h
   |some u=>rw[r]at h;simp at h;rw[h]
theorem F4{s':Shared}{h':Heap}{C:Addr}{fp:List Addr}{t':Nat}(S:bz X scope Nc fr)(I:Inv X pins σ H s)(hC:C=s.heap.objs.size)(ok:(fu X scope Nc C s H fp).Ok)(hfr:∀b∈fp,H b=none)
 (k:∀b o,s.heap.get? b=some o->h'.get? b=some o) (hn:h'.Ns C (fun _=>none)) (hcs:∀x c,(x,c)∈cellsFrom (C+1) scope.names []->h'.IsCell c none):Inv (fu X scope Nc C s H fp) [] (σC fr σ) H {s with heap:=h',toks:=t'} where
 ok:=ok
 os:=rfl
 bare:=I.bare
 base:=Un.kept k
 loc:=⟨_,hn,fun i x v h1 h2 h3=>by
  obtain⟨j,q1,q2⟩:=Bb h2;obtain⟨n1,n2,n3⟩:=S.map i j x h1 q1;obtain⟨m,hm,hl⟩:=I.loc
  have vis:z_ X.env.scope x:=by
   rcases n3 with z|z
   . exact .inr (.inl z)
   . exact .inr (.inr z)
  obtain⟨u,r,lk⟩:=hl j x v n1 q2 vis;refine⟨u,r,?_⟩;rcases lk with⟨z,_⟩|⟨z,c,e,ic⟩
  . rcases n3 with y|y
    . rw[y]at z;cases z
    . rw[y]at z;cases z
  . refine .inr ⟨yX n2,?_⟩;obtain⟨c',e'⟩:=iC scope.names [] ⟨c,e⟩ (.inl (PySem.mem_of_lookup n2));have e2:=cO _ [] (fun _ _ e=>by cases e) x c' e';rw[e]at e2;cases e2;refine⟨c,?_,ic.keeps k⟩;show(lJ scope C (c7 X.env.cells scope.names [])).lookup x=some c;unfold lJ;rw[fP,tm ?_]
    . exact e'
    . cases q:(cellsFrom (C+1) scope.names []).lookup x with
      |none=>rfl
      |some c2=>
       have:=S.cells _ (rf (PySem.mem_of_lookup q)) rfl;rw[n2]at this;cases this⟩
 cell:=fun x c h=>by
  rcases iF h with h|h
  . exact⟨_,hcs x c h⟩
  obtain⟨v,q⟩:=I.cell x c (cO _ [] (fun _ _ e=>by cases e) x c h);exact⟨v,q.keeps k⟩
 free:=by show H C=none;rw[hC];exact I.aP.fresh (Nat.le_refl _)
 ir:=fun x c h=>by
  rcases iF h with h|h
  . have a:=nH (C:=C+1) (Nat.le_refl _) h;exact I.aP.fresh (by rw[<-hC];exact Nat.le_of_succ_le a)
  . exact I.ir x c (cO _ [] (fun _ _ e=>by cases e) x c h)
 pin:=fun p hp=>by cases hp
 aP:=I.aP.kept k
 len:=by unfold σC;rw[List.length_map];exact S.len
theorem Inv.forget{C:Addr}{h':Heap}(I:Inv X pins σ H s)(f:kW X pins H C)(hs:Heap.SameBut C s.heap h'):Inv X pins σ H {s with heap:=h'}:=by
 refine I.CG (s':={s with heap:=h'}) (ch:=[C]) rfl ?_ ?_ I.bare fun b hb=>?_
 . have ne:∀b,b∉[C]->b≠C:=fun b hb z=>hb (by simp[z]);exact{keep:=fun b o q _ _ hx=>(hs.2 b (ne b hx)).trans q,slot:=fun b o q _ _ hx=>⟨o.slots,(hs.2 b (ne b hx)).trans q⟩,free:=fun b o q n _=>n,there:=fun b o q hx=>⟨o,(hs.2 b (ne b hx)).trans q⟩,oy:=fun _ _ e=>e,nK:=fun _ _ _ e=>e,nF:=fun b ps e=>⟨#[],by rw[e];simp⟩}
 . intro a o q;have na:∀b u,H b=some u->b≠C:=fun b u q z=>by rw[z,f.1]at q;cases q
   refine(I.aP a o q).oQ (fun b u hb e=>?_) (fun _ q=>q) fun _ _ q=>q;rw[hs.2 b ?_]
   . exact e
   . rcases hb with rfl|hb
     . exact na _ _ q
     . exact na _ _ hb
 . have:b=C:=by simpa using hb
   subst this;exact⟨f.2.2.2.1,f.2.1,f.2.2.2.2.1,f.2.2.2.2.2⟩
theorem vg{elt tg iter:Expr}{ifs:List Expr}{wi:TI}{g:TG}{c:TT}{te:TE}{pos:Pos}{Q:VK}{RR:Value->Addr->Result->Shared->Prop}(hx:X.xe=fun _ _=>False)(hc:X.calm=true)(S:bz X scope Nc fr)(hi:PI X tg iter wi)
 (hg:∀C s H ex,PG (fu X scope Nc C s H ex) tg g) (ht:∀C s H ex,qJ (fu X scope Nc C s H ex) ifs c) (he:∀C s H ex,PE (fu X scope Nc C s H ex) elt te) (I:Inv X pins σ H s) (h:vm wi fr g c te σ H Q)
 (fin:∀(l C:Addr) (s6:Shared) (H5:Hp) (m:Str->Option Value),s6.heap.Ns C m->kW X pins H5 C->Inv X pins σ H5 s6->Q (.ref l) H5->RR (.ref l) C (.ok .next) s6):
 wpAny (model X.prog X.w) X.A (eval iter X.env) (fun x s₁=>wpAny (model X.prog X.w) X.A (pyIter x) (fun it s₂=>wpAny (model X.prog X.w) X.A (newList []) (fun acc s₃=>
  wpAny (model X.prog X.w) X.A (newFunctionEnv scope X.env.globals (c7 X.env.cells scope.names []) [] X.env.qual none .none (some X.env)) (fun cenv s₄=>
   codeAny (model X.prog X.w) X.A (.compStart (.ListComp elt [⟨tg,iter,ifs,0⟩] scope pos) 0 it acc {cenv with scope:=relabel scope X.env}) (RR acc cenv.locals) s₄) X.xe s₃) X.xe s₂) X.xe s₁) X.xe s:=by
 refine bO (hi pins s σ H _ I h) fun v s1 h1=>bO h1 fun itv s2 h2=>?_;obtain⟨it,fp,tn,J,H2,e,I2,T,st2,f2,hR⟩:=h2;subst e;refine wpAny_newList ?_ (Nat.zero_le _);have I3:=I2.Fb (t':=s2.toks) (its:=[]) (ys:=[]) .nil (Nat.zero_le _);generalize e3:({s2 with heap:=s2.heap.push {cls:= .type "list",data:= .seq ([]:List Value).toArray}}:Shared)=s3;have I3:Inv X pins σ (upd H2 s2.heap.objs.size (.lst [])) s3:=by rw[<-e3];exact I3
 have ml:s2.heap.objs.size<s3.heap.objs.size:=by rw[<-e3];show _<(s2.heap.push _).objs.size;rw[Heap.size_push];omega
 have k3:∀b o,s2.heap.get? b=some o->s3.heap.get? b=some o:=fun b o q=>by rw[<-e3];exact Heap.get?_push_of_some _ q
 obtain⟨W,⟨m0,w0⟩,turn⟩:=hR s2.heap.objs.size (I2.aP.fresh (Nat.le_refl _));refine tR ?_;have hn:(pushCells (s3.heap.push {cls:= .type "dict",data:= .dict #[]}) scope.names).Ns s3.heap.objs.size (fun _=>none):=(Heap.Ns.new s3.heap (.type "dict")).keeps (pushCells_keeps _ _);have hcs:∀x c,(x,c)∈cellsFrom (s3.heap.objs.size+1) scope.names []->(pushCells (s3.heap.push {cls:= .type "dict",data:= .dict #[]}) scope.names).IsCell c none:=fun x c h=>((MG scope.names _ (Heap.size_push ..)).empty x c h).1;have k4:∀b o,s3.heap.get? b=some o->(pushCells (s3.heap.push {cls:= .type "dict",data:= .dict #[]}) scope.names).get? b=some o:=fun b o q=>pushCells_keeps _ _ b o (Heap.get?_push_of_some _ q);generalize(pushCells (s3.heap.push {cls:= .type "dict",data:= .dict #[]}) scope.names)=h' at hn hcs k4⊢;have hobj:∀b∈fp,∃o,s2.heap.get? b=some o/\∀v,o.data≠ .cell v:=T.obj _ _ st2;have hlt2:∀b∈fp,b<s3.heap.objs.size:=fun b hb=>let⟨o,q,_⟩:=hobj b hb;Heap.lt_size (k3 b o q)
 have hnl:∀b∈fp,b≠s2.heap.objs.size:=fun b hb=>by
  obtain⟨o,q,_⟩:=hobj b hb;exact Nat.ne_of_lt (Heap.lt_size q)
 have f3:∀b∈fp,kW X pins (upd H2 s2.heap.objs.size (.lst [])) b:=fun b hb=>⟨by rw[az (hnl b hb)];exact(f2 b hb).1,(f2 b hb).2⟩
 have ok:=J_ (C:=s3.heap.objs.size) (fp:=fp) S I3 rfl f3 hlt2 fun b hb=>(f2 b hb).2.2.2.2.1
 have I4:Inv (fu X scope Nc s3.heap.objs.size s3 (upd H2 s2.heap.objs.size (.lst [])) fp) [] (σC fr σ) (upd H2 s2.heap.objs.size (.lst [])) {s3 with heap:=h',toks:=s3.toks}:=
  F4 (s':=s3) S I3 rfl ok (fun b hb=>(f3 b hb).1) k4 hn hcs
 have st4:tn 0 h':=T.keep _ _ _ st2 fun b _ o q=>k4 b o (k3 b o q);generalize hXc:fu X scope Nc s3.heap.objs.size s3 (upd H2 s2.heap.objs.size (.lst [])) fp=Xc at I4;have hgc:PG Xc tg g:=by rw[<-hXc];exact hg _ _ _ _
 have htc:qJ Xc ifs c:=by rw[<-hXc];exact ht _ _ _ _
 have hec:PE Xc elt te:=by rw[<-hXc];exact he _ _ _ _
 have xP:Xc.prog=X.prog:=by rw[<-hXc];rfl
 have xW:Xc.w=X.w:=by rw[<-hXc];rfl
 have xK:Xc.K=X.K:=by rw[<-hXc];rfl
 have xc:Xc.calm=true:=by rw[<-hXc];exact hc
 have xA:Xc.A=X.A:=by rw[<-hXc];rfl
 have xE:Xc.env=compEnvC scope (lJ scope s3.heap.objs.size (c7 X.env.cells scope.names [])) s3.heap.objs.size X.env:=by rw[<-hXc];rfl
 have xx:Xc.xe=fun _ _=>False:=by rw[<-hXc];rfl
 have fpc:∀ {H':Hp},(∀b∈fp,H' b=none)->∀b∈fp,kW Xc [] H' b:=fun{H'} hn b hb=>by
  rw[<-hXc];refine⟨hn b hb,Nat.ne_of_lt (hlt2 b hb),ok.uk b hb,.inl hb,(ok.Dj b hb).2,fun p hp=>by cases hp⟩
 have loop:codeAny (model X.prog X.w) X.A (.compLoop (.ListComp elt [⟨tg,iter,ifs,0⟩] scope pos) 0 (.ref it) (.ref s2.heap.objs.size) (compEnvC scope (lJ scope s3.heap.objs.size (c7 X.env.cells scope.names [])) s3.heap.objs.size X.env))
  (RR (.ref s2.heap.objs.size) s3.heap.objs.size) {s3 with heap:=h',toks:=s3.toks}:=by
  refine Au (fun n s'=>∃i σ' H',Inv Xc [] σ' H' s'/\tn i s'.heap/\(∀b∈fp,H' b=none)/\W i n σ' H') ?_ m0 ⟨0,_,_,I4,st4,fun b hb=>(f3 b hb).1,w0⟩;rintro n s5 ⟨i,σ5,H5,I5,st5,fr5,w5⟩;rcases turn i n σ5 H5 w5 with⟨stop,qn⟩|⟨go,N,hN,step⟩
  . have q:=T.done Xc xP xW xK xc i [] s5 σ5 H5 (fun _ _=>False) I5 (fpc fr5) st5 stop;rw[xA]at q;refine bO q fun r s6 ⟨hr,I6⟩=>?_;subst hr;obtain⟨m,hm,_⟩:=I6.loc;rw[xE]at hm;have free6:H5 s3.heap.objs.size=none:=by have:=I6.free;rw[xE]at this;exact this
    have un6:Un (pe X.stack) fp (upd H2 s2.heap.objs.size (.lst [])) H5 s3.heap s6.heap:=by have:=I6.base;rw[<-hXc]at this;exact this
    have os6:s6.os=s3.os:=by have:=I6.os;rw[<-hXc]at this;exact this
    have hok6:gX X.prog X.w H5 s6.heap:=by have:=I6.aP;rw[xP,xW]at this;exact this
    have J:=I3.CG (s':=s6) (ch:=fp) os6 un6 hok6 I6.bare fun b hb=>⟨(f3 b hb).2.2.2.1,(f3 b hb).2.1,(f3 b hb).2.2.2.2.1,(f3 b hb).2.2.2.2.2⟩
    exact fin _ _ s6 H5 m hm (I3.uo (Nat.le_refl _) free6) J qn
  . have q:=T.item Xc xP xW xK xc i [] s5 σ5 H5 (fun _ _=>False) I5 (fpc fr5) st5 go;rw[xA]at q;refine bO q fun r s6 ⟨u,hr,h6⟩=>?_;subst hr;refine bO h6 fun _ s7 ⟨x,H7,I7,r7,y7,st7,fr7⟩=>?_;have I7':=I7.pinned (fpc fr7) (T.obj _ _ st7);have q8:=hgc _ s7 σ5 H7 x u _ I7' r7 (step x H7 y7);rw[xP,xW,xA,xE,xx]at q8;refine bO q8 fun _ s8 ⟨σ8,H8,I8,q8⟩=>?_;have q9:=htc _ s8 σ8 H8 _ I8 q8;rw[xP,xW,xA,xE,xx]at q9;refine bO q9 fun b s9 ⟨H9,I9,q9⟩=>?_
    have again:∀ {H':Hp} {s':Shared},Inv Xc ([]++rg fp s7.heap) σ8 H' s'->N σ8 H'->∃m,m<n/\∃i σ' H',Inv Xc [] σ' H' s'/\tn i s'.heap/\(∀b∈fp,H' b=none)/\W i m σ' H':=fun{H' s'} J nn=>by
     obtain⟨m',hm,w7⟩:=hN σ8 H' nn;refine⟨m',hm,i+1,σ8,H',J.gL,T.keep _ _ _ st7 fun b hb o e=>(J.pin (b,o) (List.mem_append_right _ (List.mem_append_right _ (mI hb e)))).1,fun b hb=>?_,w7⟩;obtain⟨o,e,d⟩:=T.obj _ _ st7 b hb;exact(J.pin (b,o) (List.mem_append_right _ (List.mem_append_right _ (mI hb e)))).2.1
    cases b with
    |false=>exact again I9 q9
    |true=>
     have qe:=hec _ s9 σ8 H9 _ I9 q9;rw[xP,xW,xA,xE,xx]at qe;refine bO qe fun y s10 ⟨vy,H10,I10,ry,ys,hy,hlt,qN⟩=>?_;have qa:=wO (X:=Xc) _ s10 σ8 H10 (.ref s2.heap.objs.size) [vy] (.ref s2.heap.objs.size) [y] (fun _ H'=>N σ8 H') I10 rfl (.cons ry .nil) ⟨_,ys,vy,rfl,rfl,hy,hlt,qN⟩;rw[xP,xW,xA,xx]at qa;exact bO qa fun _ s11 ⟨_,H11,I11,_,q11⟩=>again I11 q11
 refine codeAny_compStart_list ?_ ?_
 . exact loop
 . exact T.self _ 0 _ _ _ st4 loop
theorem A9{elt tg iter:Expr}{ifs:List Expr}{wi:TI}{g:TG}{c:TT}{te:TE}{pos:Pos}(hx:X.xe=fun _ _=>False)(hc:X.calm=true)(S:bz X scope Nc fr)(hi:PI X tg iter wi)
 (hg:∀C s H ex,PG (fu X scope Nc C s H ex) tg g) (ht:∀C s H ex,qJ (fu X scope Nc C s H ex) ifs c) (he:∀C s H ex,PE (fu X scope Nc C s H ex) elt te)
 (hs:∀x,foldedSetIterable iter X.env x=pure x:=by intro _;rfl):PE X (.ListComp elt [⟨tg,iter,ifs,0⟩] scope pos) (vm wi fr g c te):=by
 intro pins s σ H Q I h;rw[eval_ListComp];have hcl:closureFor scope X.env=pure (c7 X.env.cells scope.names []):=mh fun x hx hk=>I.ok.has x.1 (S.free x hx hk);refine wpAny_comprehension_free rfl hs hcl S.kind S.names ?_;exact vg (RR:=fun acc C=>compPost (model X.prog X.w) X.A X.xe none (EP X pins σ Q) acc C) hx hc S hi hg ht he I h fun l C s6 H5 m hm f J q=>⟨m,hm,fun h'' hs''=>⟨.ref l,H5,Inv.forget J f hs'',rfl,q⟩⟩
theorem HH{elt tg iter:Expr}{ifs:List Expr}{wi:TI}{g:TG}{c:TT}{te:TE}{pos pos' spos:Pos}{i:Nat}{x:Str}(hx:X.xe=fun _ _=>False)(hc:X.calm=true)(S:bz X scope Nc fr)(hi:PI X tg iter wi)
 (hg:∀C s H ex,PG (fu X scope Nc C s H ex) tg g) (ht:∀C s H ex,qJ (fu X scope Nc C s H ex) ifs c) (he:∀C s H ex,PE (fu X scope Nc C s H ex) elt te) (hN:X.N.Nodup) (hni:X.N[i]?=some x) (hl:Loc X.env.scope x) (hf:X.fn x=true\/X.env.scope.names.lookup x=some .local)
 (hsw:swapsWith (.ListComp elt [⟨tg,iter,ifs,0⟩] scope pos) (some (.Name x pos')) spos.line X.env=pure true)
 (hs:∀x,foldedSetIterable iter X.env x=pure x:=by intro _;rfl):PS X (.Assign [.Name x pos'] (.ListComp elt [⟨tg,iter,ifs,0⟩] scope pos) spos) (oR (vm wi fr g c te) (mL i)):=by
 intro pins s σ H D I h;have hcl:closureFor scope X.env=pure (c7 X.env.cells scope.names []):=mh fun x hx hk=>I.ok.has x.1 (S.free x hx hk);rw[exec_Assign_Name_used _ _ _ _ hsw];refine wpAny_bind (wpAny_standAt (wpAny_bind ?_));show wpAny _ X.A (do let _ <-comprehension (.ListComp elt [⟨tg,iter,ifs,0⟩] scope pos) scope X.env _ (newList []) false (eval iter X.env) (some (assign (.Name x pos') X.env))) _ _ s
 refine wpAny_bind (wpAny_mono (wpAny_comprehension_free (use:=some (assign (.Name x pos') X.env)) (Q:=fun _ s'=>SP X pins D .next s') rfl hs hcl S.kind S.names
  (vg (RR:=fun acc C=>compPost (model X.prog X.w) X.A X.xe (some (assign (.Name x pos') X.env)) (fun _ s'=>SP X pins D .next s') acc C) hx hc S hi hg ht he I h fun l C s6 H5 m hm f J q=>?_)) (fun _ s' hq=>wpAny_pure (wpAny_pure hq)) fun _ _ e=>e)
 show wpAny _ X.A (assign (.Name x pos') X.env (.ref l)) _ _ _;refine wpAny_assign_Name (xm J hN hni hl (show RelV (.ref l) (.ref l)from rfl) (fun s7 J7 hch=>?_) hf);obtain⟨a,hsame,ha⟩:=hch
 have hCa:C≠a:=by
  rcases ha with rfl|ha
  . exact f.2.1
  . exact fun z=>f.2.2.2.2.1 x a ha z.symm
 refine⟨m,hm.sameBut hsame hCa,fun h'' hs''=>⟨σ.set i (some (.ref l)),H5,Inv.forget J7 f hs'',q⟩⟩
end
inductive D where
 |aH|bl (b:Bool)|int (i:Int)|str (x:Str)|ty (n:String)|ref (n:Nat)|lst (xs:List D)|tup (xs:List D)
inductive Cell where
 |lst (xs:List D)|ins (C:Addr) (fs:List (Str×D))|dead
  |tab (P:Addr) (pos:Pos) (qual:Str) (b:Bool)
abbrev af:=List Cell
abbrev bV:=List (Option D)
mutual
def Rep(α:List (Option Addr))(H:Hp):D->V->Prop
 | .aH,v=>v= .aH
 | .bl b,v=>v= .bl b
 | .int i,v=>v= .int i
 | .str x,v=>v= .str x
 | .ty n,v=>v= .ty n
 | .ref n,v=>α[n]?=some none\/∃a,α[n]?=some (some a)/\v= .ref a
 | .lst xs,v=>∃a vs,v= .ref a/\some a∉α/\Rd H a (.lst vs)/\aL α H xs vs
 | .tup xs,v=>∃a vs,v= .ref a/\some a∉α/\H a=some (.tup vs)/\aL α H xs vs
def aL(α:List (Option Addr))(H:Hp):List D->List V->Prop
 | [],vs=>vs=[]
 |d::ds,vs=>∃v r,vs=v::r/\Rep α H d v/\aL α H ds r
end
theorem a7{α:List (Option Addr)}{H:Hp}:∀ {ds:List D} {vs:List V},aL α H ds vs↔Paired (Rep α H) ds vs
 | [],vs=>by
   unfold aL;constructor
   . rintro rfl;exact .nil
   . intro h;cases h;rfl
 |d::ds,vs=>by
  unfold aL;constructor
  . rintro⟨v,r,rfl,h1,h2⟩;exact .cons h1 (a7.mp h2)
  . intro h;cases h with|cons h1 h2=>exact⟨_,_,rfl,h1,a7.mpr h2⟩
section
variable {α:List (Option Addr)}{H:Hp}
theorem aL.length{ds:List D}{vs:List V}(h:aL α H ds vs):ds.length=vs.length:=Paired.length (a7.mp h)
theorem u3{A B:Type}{F:A->B->Prop}:∀ {xs:List A} {ys:List B} {i:Nat} {x:A},Paired F xs ys->xs[i]?=some x->∃y,ys[i]?=some y/\F x y
 |_,_,_,_,.nil,e=>by simp at e
 |_,_,0,_,.cons r _,e=>by simp at e;subst e;exact⟨_,rfl,r⟩
 |_,_,i+1,x,.cons _ t,e=>by
  obtain⟨u,h1,h2⟩:=u3 (i:=i) (x:=x) t (by simpa using e);exact⟨u,by simpa using h1,h2⟩
theorem fM{A B:Type}{F:A->B->Prop}:∀ {xs xs':List A} {ys ys':List B},Paired F xs ys->Paired F xs' ys'->Paired F (xs++xs') (ys++ys')
 |_,_,_,_,.nil,s=>s
 |_,_,_,_,.cons r t,s=> .cons r (fM t s)
theorem tJ{A B:Type}{F:A->B->Prop}:∀ {xs:List A} {ys:List B} (n:Nat),Paired F xs ys->Paired F (xs.take n) (ys.take n)
 |_,_,0,_=> .nil
 |_,_,_+1,.nil=> .nil
 |_,_,n+1,.cons r t=> .cons r (tJ n t)
theorem tL{A B:Type}{F:A->B->Prop}:∀ {xs:List A} {ys:List B} (n:Nat),Paired F xs ys->Paired F (xs.drop n) (ys.drop n)
 |_,_,0,r=>r
 |_,_,_+1,.nil=> .nil
 |_,_,n+1,.cons _ t=>tL n t
theorem uI{A B:Type}{F:A->B->Prop}{x:A}{y:B}(r:F x y):∀ {xs:List A} {ys:List B} (i:Nat),Paired F xs ys->Paired F (xs.set i x) (ys.set i y)
 |_,_,_,.nil=> .nil
 |_,_,0,.cons _ t=> .cons r t
 |_,_,i+1,.cons q t=> .cons q (uI r i t)
theorem k_{A B:Type}{F:A->B->Prop}{xs:List A}{ys:List B}(h:Paired F xs ys):∀k:Nat,Paired F (List.replicate k xs).flatten (List.replicate k ys).flatten
 |0=> .nil
 |k+1=>by
  rw[List.replicate_succ,List.replicate_succ,List.flatten_cons,List.flatten_cons];exact fM h (k_ h k)
theorem aL.get{ds:List D}{vs:List V}{i:Nat}{d:D}(h:aL α H ds vs)(e:ds[i]?=some d):∃v,vs[i]?=some v/\Rep α H d v:=u3 (a7.mp h) e
end
structure Step(α:List (Option Addr))(H:Hp)(α':List (Option Addr))(H':Hp):Prop where
 ext:∀b o,some b∉α->H b=some o->H' b=some o
 pre:∀(n:Nat) (x:Option Addr),α[n]?=some x->α'[n]?=some x\/α'[n]?=some none
 new:∀b,some b∈α'->some b∉α->H b=none
theorem Step.refl{α:List (Option Addr)}{H:Hp}:Step α H α H:=⟨fun _ _ _ h=>h,fun _ _ h=> .inl h,fun _ h n=>absurd h n⟩
theorem Step.trans{α α1 α2:List (Option Addr)}{H H1 H2:Hp}(a:Step α H α1 H1)(b:Step α1 H1 α2 H2):Step α H α2 H2 where
 ext:=fun c o hc e=>b.ext c o (fun z=>by rw[a.new c z hc]at e;cases e) (a.ext c o hc e)
 pre:=fun n x e=>by
  rcases a.pre n x e with h|h
  . exact b.pre n x h
  . rcases b.pre n none h with h'|h'
    . exact .inr h'
    . exact .inr h'
 new:=fun c hc n=>by
  by_cases h1:some c∈α1
  . exact a.new c h1 n
  . have:=b.new c hc h1;cases q:H c with
    |none=>rfl
    |some o=>rw[a.ext c o n q]at this;cases this
theorem Step.laid{α:List (Option Addr)}{H:Hp}{p:Addr}{o:HO}(h:H p=none):Step α H α (upd H p o):=
 ⟨fun b u _ e=>by rw[az (dm e h)];exact e,fun _ _ h=> .inl h,fun _ h n=>absurd h n⟩
theorem Step.cell{α:List (Option Addr)}{H:Hp}{p:Addr}{o:HO}(h:H p=none):Step α H (α++[some p]) (upd H p o):=
 ⟨fun b u _ e=>by rw[az (dm e h)];exact e,fun n x e=> .inl (by rw[List.getElem?_append_left (List.getElem?_eq_some_iff.mp e).1];exact e),fun b hb n=>by
  rcases List.mem_append.mp hb with z|z
  . exact absurd z n
  . have:b=p:=by simpa using z
    subst this;exact h⟩
theorem Step.write{α:List (Option Addr)}{H:Hp}{p:Addr}{o:HO}(h:some p∈α):Step α H α (upd H p o):=
 ⟨fun b u n e=>by rw[az (fun z=>by subst z;exact n h)];exact e,fun _ _ h=> .inl h,fun _ h n=>absurd h n⟩
theorem Step.eQ{α:List (Option Addr)}{H:Hp}{n:Nat}:Step α H (α.set n none) H:=
 ⟨fun _ _ _ h=>h,fun m x e=>by
  by_cases hm:n=m
  . subst hm;exact .inr (List.getElem?_set_self (List.getElem?_eq_some_iff.mp e).1)
  . exact .inl (by rw[List.getElem?_set_ne hm];exact e),fun b hb hn=>by
  rcases List.mem_or_eq_of_mem_set hb with z|z
  . exact absurd z hn
  . cases z⟩
mutual
theorem Rep.step{α α':List (Option Addr)}{H H':Hp}(s:Step α H α' H'):∀ {d:D} {v:V},Rep α H d v->Rep α' H' d v
 | .aH,_,h=>by unfold Rep at h⊢;exact h
 | .bl _,_,h=>by unfold Rep at h⊢;exact h
 | .int _,_,h=>by unfold Rep at h⊢;exact h
 | .str _,_,h=>by unfold Rep at h⊢;exact h
 | .ty _,_,h=>by unfold Rep at h⊢;exact h
 | .ref n,_,h=>by
   unfold Rep at h⊢;rcases h with h|⟨a,e,r⟩
   . rcases s.pre _ _ h with z|z<;>exact .inl z
   . rcases s.pre _ _ e with z|z
     . exact .inr ⟨a,z,r⟩
     . exact .inl z
 | .lst xs,_,h=>by
   unfold Rep at h⊢;obtain⟨a,vs,e,n,r,q⟩:=h;refine⟨a,vs,e,fun z=>?_,?_,aL.step s q⟩
   . have:=s.new a z n;rcases r with r|⟨o,r⟩<;>(rw[this]at r;cases r)
   . rcases r with r|⟨o,r⟩
     . exact .inl (s.ext _ _ n r)
     . exact .inr ⟨o,s.ext _ _ n r⟩
 | .tup xs,_,h=>by
   unfold Rep at h⊢;obtain⟨a,vs,e,n,r,q⟩:=h;exact⟨a,vs,e,(fun z=>by rw[s.new a z n]at r;exact nomatch r),s.ext _ _ n r,aL.step s q⟩
theorem aL.step{α α':List (Option Addr)}{H H':Hp}(s:Step α H α' H'):∀ {ds:List D} {vs:List V},aL α H ds vs->aL α' H' ds vs
 | [],_,h=>by unfold aL at h⊢;exact h
 |d::ds,_,h=>by
  unfold aL at h⊢;obtain⟨v,r,e,h1,h2⟩:=h;exact⟨v,r,e,Rep.step s h1,aL.step s h2⟩
end
structure bW(G F H:Hp):Prop where
 eq:∀b,H b=(G b).or (F b)
 zA:∀b o,G b=some o->F b=none
section
variable {G F H:Hp}
theorem bW.get(P:bW G F H){b:Addr}{o:HO}(h:G b=some o):H b=some o:=by rw[P.eq b,h];rfl
theorem bW.same(P:bW G F H):Fi G H:=fun _ _ h=>P.get h
theorem bW.none(P:bW G F H){b:Addr}(h:H b=none):G b=none/\F b=none:=by
 have e:=P.eq b;rw[h]at e;cases q:G b with
 |none=>rw[q]at e;exact⟨rfl,e.symm⟩
 |some o=>rw[q]at e;cases e
theorem bW.frame(P:bW G F H){b:Addr}{o:HO}(h:F b=some o):H b=some o/\G b=Option.none:=by
 have hn:G b=Option.none:=by
  cases q:G b with
  |none=>rfl
  |some u=>rw[P.zA b u q]at h;cases h
 exact⟨by rw[P.eq b,hn,h];rfl,hn⟩
theorem bW.laid(P:bW G F H){p:Addr}{o:HO}(h:H p=Option.none):bW (upd G p o) F (upd H p o):=by
 obtain⟨h1,h2⟩:=P.none h;refine⟨fun b=>?_,fun b u e=>?_⟩
 . by_cases hb:b=p
   . subst hb;rw[aY,aY];rfl
   . rw[az hb,az hb];exact P.eq b
 . by_cases hb:b=p
   . subst hb;exact h2
   . rw[az hb]at e;exact P.zA b u e
theorem bW.write(P:bW G F H){p:Addr}{o o':HO}(h:G p=some o):bW (upd G p o') F (upd H p o'):=by
 refine⟨fun b=>?_,fun b u e=>?_⟩
 . by_cases hb:b=p
   . subst hb;rw[aY,aY];rfl
   . rw[az hb,az hb];exact P.eq b
 . by_cases hb:b=p
   . subst hb;exact P.zA b o h
   . rw[az hb]at e;exact P.zA b u e
theorem bW.hide(P:bW G F H){p:Addr}{o:HO}(h:H p=Option.none):bW G (upd F p o) (upd H p o):=by
 obtain⟨h1,h2⟩:=P.none h;refine⟨fun b=>?_,fun b u e=>?_⟩
 . by_cases hb:b=p
   . subst hb;rw[aY,aY,h1];rfl
   . rw[az hb,az hb];exact P.eq b
 . by_cases hb:b=p
   . subst hb;rw[h1]at e;cases e
   . rw[az hb];exact P.zA b u e
theorem bW.P8(P:bW G F H){p:Addr}{o o':HO}(h:F p=some o):bW G (upd F p o') (upd H p o'):=by
 have h1:=(P.frame h).2;refine⟨fun b=>?_,fun b u e=>?_⟩
 . by_cases hb:b=p
   . subst hb;rw[aY,aY,h1];rfl
   . rw[az hb,az hb];exact P.eq b
 . by_cases hb:b=p
   . subst hb;rw[h1]at e;cases e
   . rw[az hb];exact P.zA b u e
theorem bW.show{p:Addr}{o:HO}(P:bW G (upd F p o) H)(h:F p=Option.none):bW (upd G p o) F H:=by
 have h1:=(P.frame (b:=p) aY)
 refine⟨fun b=>?_,fun b u e=>?_⟩
 . by_cases hb:b=p
   . subst hb;rw[aY,h1.1];rfl
   . rw[az hb,P.eq b,az hb]
 . by_cases hb:b=p
   . subst hb;exact h
   . rw[az hb]at e;have:=P.zA b u e;rw[az hb]at this;exact this
end
mutual
theorem Rep.mono{α:List (Option Addr)}{G H:Hp}(s:Fi G H):∀ {d:D} {v:V},Rep α G d v->Rep α H d v
 | .aH,_,h=>by unfold Rep at h⊢;exact h
 | .bl _,_,h=>by unfold Rep at h⊢;exact h
 | .int _,_,h=>by unfold Rep at h⊢;exact h
 | .str _,_,h=>by unfold Rep at h⊢;exact h
 | .ty _,_,h=>by unfold Rep at h⊢;exact h
 | .ref n,_,h=>by unfold Rep at h⊢;exact h
 | .lst xs,_,h=>by
   unfold Rep at h⊢;obtain⟨a,vs,e,n,r,q⟩:=h;refine⟨a,vs,e,n,?_,aL.mono s q⟩;rcases r with r|⟨o,r⟩
   . exact .inl (s _ _ r)
   . exact .inr ⟨o,s _ _ r⟩
 | .tup xs,_,h=>by
   unfold Rep at h⊢;obtain⟨a,vs,e,n,r,q⟩:=h;exact⟨a,vs,e,n,s _ _ r,aL.mono s q⟩
theorem aL.mono{α:List (Option Addr)}{G H:Hp}(s:Fi G H):∀ {ds:List D} {vs:List V},aL α G ds vs->aL α H ds vs
 | [],_,h=>by unfold aL at h⊢;exact h
 |d::ds,_,h=>by
  unfold aL at h⊢;obtain⟨v,r,e,h1,h2⟩:=h;exact⟨v,r,e,Rep.mono s h1,aL.mono s h2⟩
end
def jy(α:List (Option Addr))(H:Hp):List (Str×D)->List (Str×V)->Prop:=Paired fun p q=>p.1=q.1/\Rep α H p.2 q.2
def jP(α:List (Option Addr))(H:Hp)(a:Addr):Cell->Prop
 | .lst xs=>∃vs,H a=some (.lst vs)/\aL α H xs vs
 | .ins C fs=>∃dx vs,H a=some (.ins C dx vs)/\jy α H fs vs
 | .dead=>False
 | .tab P pos qual b=>a=P/\∃ps:Array Value,H a=some (.jJ ps)/\TriplesOk ps.toList/\
    ((b=false/\codeAmong pos ps.toList=none)\/(b=true/\∃c o vs t,codeAmong pos ps.toList=some (.ref c)/\some c∉α/\H c=some (.eQ o (.own c))/\o.data= .fields vs/\vs[1]?=some (.str qual t)))
structure aR(α:List (Option Addr))(st:af)(H:Hp):Prop where
 len:α.length=st.length
 nd:∀(i j:Nat) (a:Addr),α[i]?=some (some a)->α[j]?=some (some a)->i=j
 at':∀(n:Nat) (c:Cell),st[n]?=some c->(c= .dead/\α[n]?=some none)\/∃a,α[n]?=some (some a)/\jP α H a c
theorem jy.step{α α':List (Option Addr)}{H H':Hp}(s:Step α H α' H'){ds:List (Str×D)}{vs:List (Str×V)}(h:jy α H ds vs):jy α' H' ds vs:=Paired.FJ h fun _ _ z=>⟨z.1,z.2.step s⟩
theorem jP.same{α α':List (Option Addr)}{H H':Hp}{a:Addr}{c:Cell}(s:Step α H α' H')(e:H' a=H a)(h:jP α H a c):jP α' H' a c:=by
 cases c with
 |lst xs=>obtain⟨vs,h1,h2⟩:=h;exact⟨vs,e.trans h1,h2.step s⟩
 |ins C fs=>obtain⟨dx,vs,h1,h2⟩:=h;exact⟨dx,vs,e.trans h1,h2.step s⟩
 |dead=>exact h.elim
 |tab P pos qual b=>
  obtain⟨z,ps,h1,h2,h3⟩:=h;refine⟨z,ps,e.trans h1,h2,?_⟩;rcases h3 with h3|⟨hb,c,o,vs,t,q1,q2,q3,q4⟩
  . exact .inl h3
  . exact .inr ⟨hb,c,o,vs,t,q1,(fun y=>by rw[s.new c y q2]at q3;cases q3),s.ext c _ q2 q3,q4⟩
theorem jP.some{α:List (Option Addr)}{H:Hp}{a:Addr}{c:Cell}(h:jP α H a c):∃o,H a=some o:=by
 cases c with
 |lst xs=>obtain⟨vs,h1,h2⟩:=h;exact⟨_,h1⟩
 |ins C fs=>obtain⟨dx,vs,h1,h2⟩:=h;exact⟨_,h1⟩
 |dead=>exact h.elim
 |tab P pos qual b=>obtain⟨_,ps,h1,_⟩:=h;exact⟨_,h1⟩
theorem c8{α:List (Option Addr)}{H:Hp}{n:Nat}{v:V}{a:Addr}(e:α[n]?=Option.some (Option.some a))(r:Rep α H (.ref n) v):v= .ref a:=by
 unfold Rep at r;rcases r with r|⟨b,eb,rfl⟩
 . rw[e]at r;cases r
 . rw[e]at eb;cases eb;rfl
section
variable {α:List (Option Addr)}{st:af}{H:Hp}
theorem aR.gn(S:aR α st H){n:Nat}{xs:List D}(e:st[n]?=Option.some (.lst xs)):∃a,α[n]?=Option.some (Option.some a)/\∃vs,H a=Option.some (.lst vs)/\aL α H xs vs:=by
 rcases S.at' n _ e with⟨z,_⟩|z
 . cases z
 . exact z
theorem aR.xO(S:aR α st H){n:Nat}{C:Addr}{fs:List (Str×D)}(e:st[n]?=Option.some (.ins C fs)):∃a,α[n]?=Option.some (Option.some a)/\∃dx vs,H a=Option.some (.ins C dx vs)/\jy α H fs vs:=by
 rcases S.at' n _ e with⟨z,_⟩|z
 . cases z
 . exact z
theorem aR.mem(S:aR α st H){a:Addr}(h:Option.some a∈α):∃(n:Nat) (c:Cell),α[n]?=Option.some (Option.some a)/\st[n]?=Option.some c/\jP α H a c:=by
 obtain⟨n,hn,e⟩:=List.mem_iff_getElem.mp h;have hl:n<st.length:=by rw[<-S.len];exact hn
 have e':α[n]?=Option.some (Option.some a):=by rw[List.getElem?_eq_getElem hn,e]
 rcases S.at' n st[n] (by simp[hl])with⟨_,q⟩|⟨a',q,ca⟩
 . rw[e']at q;cases q
 . rw[e']at q;cases q;exact⟨n,_,e',by simp[hl],ca⟩
theorem aR.j9(S:aR α st H){p:Addr}(h:H p=none):Option.some p∉α:=fun z=>by
 obtain⟨n,c,_,_,ca⟩:=S.mem z;obtain⟨o,e⟩:=ca.some;rw[h]at e;cases e
theorem aR.laid(S:aR α st H){p:Addr}{o:HO}(h:H p=none):aR α st (upd H p o):=
 ⟨S.len,S.nd,fun n c e=>by
  rcases S.at' n c e with z|⟨a,q,ca⟩
  . exact .inl z
  . exact .inr ⟨a,q,ca.same (Step.laid h) (az (by obtain⟨u,z⟩:=ca.some;exact dm z h))⟩⟩
theorem aR.cell(S:aR α st H){p:Addr}{o:HO}{c:Cell}(h:H p=none)(hc:jP (α++[Option.some p]) (upd H p o) p c):aR (α++[Option.some p]) (st++[c]) (upd H p o) where
 len:=by rw[List.length_append,List.length_append,S.len];rfl
 nd:=fun i j a ei ej=>by
  have key:∀(i:Nat) (a:Addr),(α++[Option.some p])[i]?=Option.some (Option.some a)->(i<α.length/\α[i]?=Option.some (Option.some a))\/(i=α.length/\a=p):=by
   intro i a e;by_cases hi:i<α.length
   . rw[List.getElem?_append_left hi]at e;exact .inl ⟨hi,e⟩
   . rw[List.getElem?_append_right (Nat.le_of_not_lt hi)]at e
     have h0:i-α.length=0:=by
      cases q:i-α.length with
      |zero=>rfl
      |succ k=>rw[q]at e;simp at e
     rw[h0]at e;have:p=a:=by simpa using e
     exact .inr ⟨by omega,this.symm⟩
  rcases key i a ei with⟨h1,e1⟩|⟨h1,e1⟩<;>rcases key j a ej with⟨h2,e2⟩|⟨h2,e2⟩
  . exact S.nd i j a e1 e2
  . subst e2;exact absurd (List.mem_of_getElem? e1) (S.j9 h)
  . subst e1;exact absurd (List.mem_of_getElem? e2) (S.j9 h)
  . omega
 at':=fun n d e=>by
  by_cases hn:n<st.length
  . rw[List.getElem?_append_left hn]at e;have hl:n<α.length:=by rw[S.len];exact hn
    rcases S.at' n d e with⟨z,q⟩|⟨a,q,ca⟩
    . exact .inl ⟨z,by rw[List.getElem?_append_left hl];exact q⟩
    . exact .inr ⟨a,by rw[List.getElem?_append_left hl];exact q,ca.same (Step.cell h) (az (by obtain⟨u,z⟩:=ca.some;exact dm z h))⟩
  . rw[List.getElem?_append_right (Nat.le_of_not_lt hn)]at e
    have h0:n-st.length=0:=by
     cases q:n-st.length with
     |zero=>rfl
     |succ k=>rw[q]at e;simp at e
    rw[h0]at e;have hd:c=d:=by simpa using e
    subst hd;refine .inr ⟨p,?_,hc⟩;rw[List.getElem?_append_right (by rw[S.len];exact Nat.le_of_not_lt hn),S.len,h0];rfl
theorem aR.write(S:aR α st H){p:Addr}{o:HO}{c:Cell}{n:Nat}(e:α[n]?=Option.some (Option.some p))(hc:jP α (upd H p o) p c):aR α (st.set n c) (upd H p o) where
 len:=by rw[List.length_set];exact S.len
 nd:=S.nd
 at':=fun m d q=>by
  have hp:Option.some p∈α:=List.mem_of_getElem? e;by_cases hm:m=n
  . subst hm
    have hl:m<st.length:=by
     have:=(List.getElem?_eq_some_iff.mp q).1;rw[List.length_set]at this;exact this
    rw[List.getElem?_set_self hl]at q;cases q;exact .inr ⟨p,e,hc⟩
  . rw[List.getElem?_set_ne (Ne.symm hm)]at q;rcases S.at' m d q with z|⟨a,r,ca⟩
    . exact .inl z
    . refine .inr ⟨a,r,ca.same (Step.write hp) (az fun z=>?_)⟩;subst z;exact hm (S.nd m n _ r e)
theorem aR.eQ(S:aR α st H){n:Nat}(hn:n<st.length):aR (α.set n none) (st.set n .dead) H where
 len:=by rw[List.length_set,List.length_set];exact S.len
 nd:=fun i j a ei ej=>by
  have key:∀(i:Nat),(α.set n none)[i]?=Option.some (Option.some a)->α[i]?=Option.some (Option.some a):=by
   intro i e;by_cases hi:n=i
   . subst hi;rw[List.getElem?_set_self (by rw[S.len];exact hn)]at e;cases e
   . rw[List.getElem?_set_ne hi]at e;exact e
  exact S.nd i j a (key i ei) (key j ej)
 at':=fun m d q=>by
  by_cases hm:n=m
  . subst hm;rw[List.getElem?_set_self hn]at q;cases q;exact .inl ⟨rfl,List.getElem?_set_self (by rw[S.len];exact hn)⟩
  . rw[List.getElem?_set_ne hm]at q;rcases S.at' m d q with⟨z,r⟩|⟨a,r,ca⟩
    . exact .inl ⟨z,by rw[List.getElem?_set_ne hm];exact r⟩
    . exact .inr ⟨a,by rw[List.getElem?_set_ne hm];exact r,ca.same Step.eQ rfl⟩
theorem aR.Jx(S:aR α st H){n:Nat}{xs:List D}{v:V}(e:st[n]?=Option.some (.lst xs))(r:Rep α H (.ref n) v):Rep (α.set n none) H (.lst xs) v:=by
 obtain⟨a,ea,vs,h1,h2⟩:=S.gn e;have:=c8 ea r;subst this;unfold Rep;refine⟨a,vs,rfl,fun z=>?_,.inl h1,h2.step Step.eQ⟩;obtain⟨m,hm,em⟩:=List.mem_iff_getElem.mp z;have em':(α.set n none)[m]?=Option.some (Option.some a):=by rw[List.getElem?_eq_getElem hm,em]
 by_cases hx:n=m
 . subst hx;rw[List.getElem?_set_self (List.getElem?_eq_some_iff.mp ea).1]at em';cases em'
 . rw[List.getElem?_set_ne hx]at em';exact hx (S.nd n m a ea em')
end
abbrev DK:=D->af->Prop
abbrev DE:=bV->af->DK->Prop
abbrev DT:=bV->af->(Bool->af->Prop)->Prop
abbrev DA:=bV->af->(List D->af->Prop)->Prop
structure mK where
 nx:bV->af->Prop
 rt:DK
 bk:bV->af->Prop:=fun _ _=>False
 ct:bV->af->Prop:=fun _ _=>False
abbrev DS:=mK->bV->af->Prop
structure dQ(α:List (Option Addr))(H:Hp)(σd:bV)(σ:L2.St):Prop where
 len:σd.length=σ.length
 at':∀(i:Nat) (d:D),σd[i]?=some (some d)->∃v,σ[i]?=some (some v)/\Rep α H d v
theorem dQ.step{α α':List (Option Addr)}{H H':Hp}{σd:bV}{σ:L2.St}(s:Step α H α' H')(h:dQ α H σd σ):dQ α' H' σd σ:=
 ⟨h.len,fun i d e=>let⟨v,q,r⟩:=h.at' i d e;⟨v,q,r.step s⟩⟩
theorem dQ.set{α:List (Option Addr)}{H:Hp}{σd:bV}{σ:L2.St}(h:dQ α H σd σ)(i:Nat){d:D}{v:V}(r:Rep α H d v):dQ α H (σd.set i (some d)) (σ.set i (some v)):=by
 refine⟨by rw[List.length_set,List.length_set,h.len],fun j e q=>?_⟩;have hl:=h.len;by_cases hj:j=i
 . subst hj
   have hlt:j<σd.length:=by
    have:=(List.getElem?_eq_some_iff.mp q).1;rw[List.length_set]at this;exact this
   rw[List.getElem?_set_self hlt]at q;cases q;exact⟨v,List.getElem?_set_self (by omega),r⟩
 . rw[List.getElem?_set_ne (Ne.symm hj)]at q;rw[List.getElem?_set_ne (Ne.symm hj)];exact h.at' j e q
def LK(α:List (Option Addr))(G F:Hp)(K:DK)(Q:VK):Prop:=∀d st',K d st'->∀α' G' H' v,Step α G α' G'->bW G' F H'->aR α' st' G'->Rep α' G' d v->Q v H'
def Gx(α:List (Option Addr))(G F:Hp)(K:Bool->af->Prop)(Q:Bool->Hp->Prop):Prop:=∀b st',K b st'->∀α' G' H',Step α G α' G'->bW G' F H'->aR α' st' G'->Q b H'
def Qh(α:List (Option Addr))(G F:Hp)(K:List D->af->Prop)(Q:List V->Hp->Prop):Prop:=∀ds st',K ds st'->∀α' G' H' vs,Step α G α' G'->bW G' F H'->aR α' st' G'->aL α' G' ds vs->Q vs H'
inductive Oz(t:DE)(σ:L2.St)(H:Hp)(Q:VK):Prop
 |mk (α:List (Option Addr)) (σd:bV) (st:af) (K:DK) (G F:Hp) (P:bW G F H) (R:dQ α G σd σ) (S:aR α st G) (h:t σd st K) (k:LK α G F K Q):Oz t σ H Q
def LE(t:DE):TE:=Oz t
inductive Oi(t:DT)(σ:L2.St)(H:Hp)(Q:Bool->Hp->Prop):Prop
 |mk (α:List (Option Addr)) (σd:bV) (st:af) (K:Bool->af->Prop) (G F:Hp) (P:bW G F H) (R:dQ α G σd σ) (S:aR α st G) (h:t σd st K) (k:Gx α G F K Q):Oi t σ H Q
def LT(t:DT):TT:=Oi t
inductive OF(t:DA)(σ:L2.St)(H:Hp)(Q:List V->Hp->Prop):Prop
 |mk (α:List (Option Addr)) (σd:bV) (st:af) (K:List D->af->Prop) (G F:Hp) (P:bW G F H) (R:dQ α G σd σ) (S:aR α st G) (h:t σd st K) (k:Qh α G F K Q):OF t σ H Q
def LA(t:DA):TA:=OF t
theorem LK.here{α:List (Option Addr)}{G F H:Hp}{K:DK}{Q:VK}(h:LK α G F K Q)(P:bW G F H){d:D}{st:af}{v:V}(k:K d st)(S:aR α st G)(r:Rep α G d v):Q v H:=h d st k α G H v Step.refl P S r
theorem LK.at{α α1:List (Option Addr)}{G F G1:Hp}{K:DK}{Q:VK}(h:LK α G F K Q)(s:Step α G α1 G1):LK α1 G1 F K Q:=fun d st' k α' G' H' v s' P S r=>h d st' k α' G' H' v (s.trans s') P S r
theorem Gx.at{α α1:List (Option Addr)}{G F G1:Hp}{K:Bool->af->Prop}{Q:Bool->Hp->Prop}(h:Gx α G F K Q)(s:Step α G α1 G1):Gx α1 G1 F K Q:=fun d st' k α' G' H' s' P S=>h d st' k α' G' H' (s.trans s') P S
section
variable {X:Cx}{a b c e:Expr}{es:List Expr}{ta tb tc te:DE}{pos:Pos}
theorem PE.imp{t t':TE}(h:PE X e t)(f:∀σ H Q,t' σ H Q->t σ H Q):PE X e t':=fun pins s σ H Q I q=>h pins s σ H Q I (f σ H Q q)
theorem PT.imp{t t':TT}(h:PT X e t)(f:∀σ H Q,t' σ H Q->t σ H Q):PT X e t':=fun pins s σ H Q I q=>h pins s σ H Q I (f σ H Q q)
theorem PW.imp{t t':TT}(h:PW X e t)(f:∀σ H Q,t' σ H Q->t σ H Q):PW X e t':=fun w pins s σ H Q I q=>h w pins s σ H Q I (f σ H Q q)
theorem PA.imp{t t':TA}(h:PA X es t)(f:∀σ H Q,t' σ H Q->t σ H Q):PA X es t':=fun p pins s σ H Q I q=>h p pins s σ H Q I (f σ H Q q)
def ab(i:Nat):DE:=fun σ st K=>match σ[i]? with|some (some d)=>K d st|_=>False
def dC(d:D):DE:=fun _ st K=>K d st
theorem MV{i:Nat}{x:Str}(h:PE X (.Name x pos) (Ll i)):PE X (.Name x pos) (LE (ab i)):=PE.imp h fun σ H Q ⟨α,σd,st,K,G,F,P,R,S,t,k⟩=>by
 unfold ab at t;split at t
 . rename_i d q;obtain⟨v,e,r⟩:=R.at' i d q;exact⟨v,e,k.here P t S r⟩
 . exact t.elim
theorem o8{v:V}{d:D}(h:PE X e (tC v))(r:∀α H,Rep α H d v):PE X e (LE (dC d)):=PE.imp h fun σ H Q ⟨α,σd,st,K,G,F,P,R,S,t,k⟩=>k.here P t S (r α G)
theorem N9{i:Int}{j:Nat}:PE X (.Constant (.int i) j pos) (LE (dC (.int i))):=o8 KP fun _ _=>by unfold Rep;rfl
theorem PH{i:Bool}{j:Nat}:PE X (.Constant (.bool i) j pos) (LE (dC (.bl i))):=o8 Na fun _ _=>by unfold Rep;rfl
theorem M5{i:Str}{j:Nat}:PE X (.Constant (.str i) j pos) (LE (dC (.str i))):=o8 LL fun _ _=>by unfold Rep;rfl
theorem Od{j:Nat}:PE X (.Constant .none j pos) (LE (dC .aH)):=o8 LB fun _ _=>by unfold Rep;rfl
abbrev cR:=D->D->af->DK->Prop
abbrev yu:=D->af->DK->Prop
abbrev eL:=List D->af->DK->Prop
inductive Ov(r:cR)(x y:V)(H:Hp)(Q:VK):Prop
 |mk (α:List (Option Addr)) (d e:D) (st:af) (K:DK) (G F:Hp) (P:bW G F H) (rx:Rep α G d x) (ry:Rep α G e y) (S:aR α st G) (h:r d e st K) (k:LK α G F K Q):Ov r x y H Q
def LR(r:cR):R2:=Ov r
inductive Mp(r:yu)(x:V)(H:Hp)(Q:VK):Prop
 |mk (α:List (Option Addr)) (d:D) (st:af) (K:DK) (G F:Hp) (P:bW G F H) (rx:Rep α G d x) (S:aR α st G) (h:r d st K) (k:LK α G F K Q):Mp r x H Q
def HC(r:yu):V->Hp->VK->Prop:=Mp r
inductive Lb(r:eL)(xs:List V)(H:Hp)(Q:VK):Prop
 |mk (α:List (Option Addr)) (ds:List D) (st:af) (K:DK) (G F:Hp) (P:bW G F H) (rx:aL α G ds xs) (S:aR α st G) (h:r ds st K) (k:LK α G F K Q):Lb r xs H Q
def fy(r:eL):List V->Hp->VK->Prop:=Lb r
def ao(r:cR)(ta tb:DE):DE:=fun σ st K=>ta σ st fun x st1=>tb σ st1 fun y st2=>r x y st2 K
def kn(r:yu)(ta:DE):DE:=fun σ st K=>ta σ st fun x st1=>r x st1 K
theorem LE.op{r:cR}{σ:L2.St}{H:Hp}{Q:VK}(h:LE (ao r ta tb) σ H Q):Dp (LR r) (LE ta) (LE tb) σ H Q:=by
 obtain⟨α,σd,st,K,G,F,P,R,S,t,k⟩:=h;refine⟨α,σd,st,_,G,F,P,R,S,t,fun d st1 q α1 G1 H1 v s1 P1 S1 r1=>?_⟩;refine⟨α1,σd,st1,_,G1,F,P1,R.step s1,S1,q,fun d2 st2 q2 α2 G2 H2 v2 s2 P2 S2 r2=>?_⟩;exact⟨α2,d,d2,st2,K,G2,F,P2,r1.step s2,r2,S2,q2,(k.at s1).at s2⟩
theorem LE.un{r:yu}{σ:L2.St}{H:Hp}{Q:VK}(h:LE (kn r ta) σ H Q):OB (HC r) (LE ta) σ H Q:=by
 obtain⟨α,σd,st,K,G,F,P,R,S,t,k⟩:=h;refine⟨α,σd,st,_,G,F,P,R,S,t,fun d st1 q α1 G1 H1 v s1 P1 S1 r1=>?_⟩;exact⟨α1,d,st1,K,G1,F,P1,r1,S1,q,k.at s1⟩
theorem Pa{op:Operator}{r:cR}(ho:bM X (binaryOp op) (LR r))(ha:PE X a (LE ta))(hb:PE X b (LE tb)):PE X (.BinOp a op b pos) (LE (ao r ta tb)):=PE.imp (MS ho ha hb) fun _ _ _ h=>LE.op h
theorem Pf{op:UnaryOp}{r:yu}(ho:AE X (unaryOp op) (HC r))(ha:PE X a (LE ta)):PE X (.UnaryOp op a pos) (LE (kn r ta)):=PE.imp (Oe ho ha) fun _ _ _ h=>LE.un h
theorem Oc{op:CmpOp}{r:cR}(ho:bM X (compareOp op) (LR r))(ha:PE X a (LE ta))(hb:PE X b (LE tb))(hm:behindInMarks op b=false:=by first|exact bh _|rfl):PE X (.Compare a [op] [b] pos) (LE (ao r ta tb)):=PE.imp (HS ho ha hb hm) fun _ _ _ h=>LE.op h
def a8(t:DE):DT:=fun σ st K=>t σ st fun d st1=>match d with| .bl b=>K b st1|_=>False
theorem LT.test{σ:L2.St}{H:Hp}{Q:Bool->Hp->Prop}(h:LT (a8 te) σ H Q):LE te σ H fun x H'=>∃k,x= .bl k/\Q k H':=by
 obtain⟨α,σd,st,K,G,F,P,R,S,t,k⟩:=h;refine⟨α,σd,st,_,G,F,P,R,S,t,fun d st1 q α1 G1 H1 v s1 P1 S1 r1=>?_⟩;cases d with
 |bl b=>
  unfold Rep at r1;exact⟨b,r1,k b st1 q α1 G1 H1 s1 P1 S1⟩
 |_=>exact q.elim
theorem Kp{op:CmpOp}{r:cR}(ho:bM X (compareOp op) (LR r))(ha:PE X a (LE ta))(hb:PE X b (LE tb))(hm:behindInMarks op b=false:=by first|exact bh _|rfl):PT X (.Compare a [op] [b] pos) (LT (a8 (ao r ta tb))):=PT.imp (HN ho ha hb hm) fun σ H Q h=>by
 have q:=LT.test h;exact LE.op (Q:=fun x H'=>∃k,x= .bl k/\Q k H') q
theorem Ko(he:PE X e (LE te))(hv:∀whole,isTrue e X.env whole=(do let v <-whole;standAt e.pos;holding [v] (truthy v)):=by intro _;rfl):PT X e (LT (a8 te)):=PT.imp (J0 he hv) fun σ H Q h=>LT.test h
def jf(t:DT):DT:=fun σ st K=>t σ st fun b st1=>K (!b) st1
def qh(t u:DT):DT:=fun σ st K=>t σ st fun b st1=>if b=true then u σ st1 K else K false st1
def nv(t u:DT):DT:=fun σ st K=>t σ st fun b st1=>if b=true then K true st1 else u σ st1 K
theorem Lz{t:DT}(ha:PT X a (LT t)):PT X (.UnaryOp .Not a pos) (LT (jf t)):=PT.imp (Kr ha) fun σ H Q ⟨α,σd,st,K,G,F,P,R,S,t,k⟩=>
 ⟨α,σd,st,_,G,F,P,R,S,t,fun b st1 q α1 G1 H1 s1 P1 S1=>k _ st1 q α1 G1 H1 s1 P1 S1⟩
theorem LT.and{t u:DT}{σ:L2.St}{H:Hp}{Q:Bool->Hp->Prop}(h:LT (qh t u) σ H Q):LZ (LT t) (LT u) σ H Q:=by
 obtain⟨α,σd,st,K,G,F,P,R,S,t,k⟩:=h;refine⟨α,σd,st,_,G,F,P,R,S,t,fun b st1 q α1 G1 H1 s1 P1 S1=>?_⟩;cases b with
 |true=>exact⟨α1,σd,st1,K,G1,F,P1,R.step s1,S1,q,k.at s1⟩
 |false=>exact k _ st1 q α1 G1 H1 s1 P1 S1
theorem LT.or{t u:DT}{σ:L2.St}{H:Hp}{Q:Bool->Hp->Prop}(h:LT (nv t u) σ H Q):Oy (LT t) (LT u) σ H Q:=by
 obtain⟨α,σd,st,K,G,F,P,R,S,t,k⟩:=h;refine⟨α,σd,st,_,G,F,P,R,S,t,fun b st1 q α1 G1 H1 s1 P1 S1=>?_⟩;cases b with
 |false=>exact⟨α1,σd,st1,K,G1,F,P1,R.step s1,S1,q,k.at s1⟩
 |true=>exact k _ st1 q α1 G1 H1 s1 P1 S1
theorem ID{t:DT}(ha:PT X a (LT t)):PW X (.BoolOp .And [a] pos) (LT t):=pw_and1 ha
theorem Lf{t:DT}(ha:PT X a (LT t)):PW X (.BoolOp .Or [a] pos) (LT t):=pw_or1 ha
theorem Mu{t u:DT}(ha:PT X a (LT t))(hb:PW X (.BoolOp .And (b::es) pos) (LT u)):PW X (.BoolOp .And (a::b::es) pos) (LT (qh t u)):=PW.imp (pw_and ha hb) fun _ _ _ h=>LT.and h
theorem N_{t u:DT}(ha:PT X a (LT t))(hb:PW X (.BoolOp .Or (b::es) pos) (LT u)):PW X (.BoolOp .Or (a::b::es) pos) (LT (nv t u)):=PW.imp (pw_or ha hb) fun _ _ _ h=>LT.or h
def ye(ta tb:DE):DE:=fun σ st K=>ta σ st fun d st1=>match d with| .bl b=>if b=true then tb σ st1 K else K (.bl false) st1|_=>False
def xR(t:DT):DE:=fun σ st K=>t σ st fun b st1=>K (.bl (!b)) st1
theorem NS{op:BoolOp}(ha:PE X a (LE ta)):PE X (.BoolOp op [a] pos) (LE ta):=KO ha
theorem MM(ha:PE X a (LE ta))(hb:PE X (.BoolOp .And (b::es) pos) (LE tb)):PE X (.BoolOp .And (a::b::es) pos) (LE (ye ta tb)):=PE.imp (Lk ha hb) fun σ H Q ⟨α,σd,st,K,G,F,P,R,S,t,k⟩=>by
 refine⟨α,σd,st,_,G,F,P,R,S,t,fun d st1 q α1 G1 H1 v s1 P1 S1 r1=>?_⟩;cases d with
 |bl b=>
  unfold Rep at r1;refine⟨b,r1,?_⟩;cases b with
  |true=>exact⟨α1,σd,st1,K,G1,F,P1,R.step s1,S1,q,k.at s1⟩
  |false=>exact k _ st1 q α1 G1 H1 _ s1 P1 S1 (by unfold Rep;rfl)
 |_=>exact q.elim
theorem MU(ha:PE X a (LE ta)):PE X (.UnaryOp .Not a pos) (LE (xR (a8 ta))):=PE.imp (MC ha) fun σ H Q ⟨α,σd,st,K,G,F,P,R,S,t,k⟩=>by
 refine⟨α,σd,st,_,G,F,P,R,S,t,fun d st1 q α1 G1 H1 v s1 P1 S1 r1=>?_⟩;cases d with
 |bl b=>
  unfold Rep at r1;exact⟨b,r1,k _ st1 q α1 G1 H1 _ s1 P1 S1 (by unfold Rep;rfl)⟩
 |_=>exact q.elim
def Dz(t:DT)(ta tb:DE):DE:=fun σ st K=>t σ st fun b st1=>if b=true then ta σ st1 K else tb σ st1 K
theorem MN{t:DT}(hc:PT X c (LT t))(ha:PE X a (LE ta))(hb:PE X b (LE tb)):PE X (.IfExp c a b pos) (LE (Dz t ta tb)):=PE.imp (Ga hc ha hb) fun σ H Q ⟨α,σd,st,K,G,F,P,R,S,t,k⟩=>by
 refine⟨α,σd,st,_,G,F,P,R,S,t,fun b st1 q α1 G1 H1 s1 P1 S1=>?_⟩;cases b with
 |true=>exact⟨α1,σd,st1,K,G1,F,P1,R.step s1,S1,q,k.at s1⟩
 |false=>exact⟨α1,σd,st1,K,G1,F,P1,R.step s1,S1,q,k.at s1⟩
def ak:DA:=fun _ st K=>K [] st
def ae(ta:DE)(tr:DA):DA:=fun σ st K=>ta σ st fun x st1=>tr σ st1 fun xs st2=>K (x::xs) st2
theorem vA:PA X [] (LA ak):=PA.imp K9 fun σ H Q ⟨α,σd,st,K,G,F,P,R,S,t,k⟩=>k [] st t α G H [] Step.refl P S (by unfold aL;rfl)
theorem sj{tr:DA}(ha:PE X e (LE te))(hr:PA X es (LA tr))(hs:starEach (e::es) X.env=(false,eval e X.env)::starEach es X.env:=by rfl):PA X (e::es) (LA (ae te tr)):=PA.imp (I_ ha hr hs) fun σ H Q ⟨α,σd,st,K,G,F,P,R,S,t,k⟩=>by
 refine⟨α,σd,st,_,G,F,P,R,S,t,fun d st1 q α1 G1 H1 v s1 P1 S1 r1=>?_⟩;refine⟨α1,σd,st1,_,G1,F,P1,R.step s1,S1,q,fun ds st2 q2 α2 G2 H2 vs s2 P2 S2 r2=>?_⟩;exact k _ st2 q2 α2 G2 H2 (v::vs) (s1.trans s2) P2 S2 (by unfold aL;exact⟨v,vs,rfl,r1.step s2,r2⟩)
def ie(t:DA):DE:=fun σ st K=>t σ st fun ds st1=>ds.length<=sizeLine/\K (.tup ds) st1
def nu(t:DA):DE:=fun σ st K=>t σ st fun ds st1=>ds.length<=sizeLine/\K (.lst ds) st1
def wd(t:DA):DE:=fun σ st K=>t σ st fun ds st1=>ds.length<=sizeLine/\K (.ref st1.length) (st1++[.lst ds])
theorem LK.tup{α:List (Option Addr)}{G F H:Hp}{K:DK}{Q:VK}{ds:List D}{vs:List V}{st:af}{p:Addr}(k:LK α G F K Q)(P:bW G F H)(q:K (.tup ds) st)(S:aR α st G)(r:aL α G ds vs)(hp:H p=none):Q (.ref p) (upd H p (.tup vs)):=
 have hg:=(P.none hp).1
 k _ st q α _ _ _ (Step.laid hg) (P.laid hp) (S.laid hg) (by unfold Rep;exact⟨p,vs,rfl,S.j9 hg,aY,r.step (Step.laid hg)⟩)
theorem LK.lst{α:List (Option Addr)}{G F H:Hp}{K:DK}{Q:VK}{ds:List D}{vs:List V}{st:af}{p:Addr}(k:LK α G F K Q)(P:bW G F H)(q:K (.lst ds) st)(S:aR α st G)(r:aL α G ds vs)(hp:H p=none):Q (.ref p) (upd H p (.lst vs)):=
 have hg:=(P.none hp).1
 k _ st q α _ _ _ (Step.laid hg) (P.laid hp) (S.laid hg) (by unfold Rep;exact⟨p,vs,rfl,S.j9 hg,.of aY,r.step (Step.laid hg)⟩)
theorem LK.new{α:List (Option Addr)}{G F H:Hp}{K:DK}{Q:VK}{ds:List D}{vs:List V}{st:af}{p:Addr}(k:LK α G F K Q)(P:bW G F H)(q:K (.ref st.length) (st++[.lst ds]))(S:aR α st G)(r:aL α G ds vs)(hp:H p=none):Q (.ref p) (upd H p (.lst vs)):=
 have hg:=(P.none hp).1
 k _ _ q (α++[some p]) _ _ _ (Step.cell hg) (P.laid hp) (S.cell hg ⟨vs,aY,r.step (Step.cell hg)⟩) (by
  unfold Rep;refine .inr ⟨p,?_,rfl⟩;rw[List.getElem?_append_right (by rw[S.len];exact Nat.le_refl _),S.len,Nat.sub_self];rfl)
theorem Nj{n:Nat}{t:DA}(h:PA X es (LA t)):PE X (.Tuple es n pos) (LE (ie t)):=PE.imp (KJ h) fun σ H Q ⟨α,σd,st,K,G,F,P,R,S,t,k⟩=>
 ⟨α,σd,st,_,G,F,P,R,S,t,fun ds st1 q α1 G1 H1 vs s1 P1 S1 r1=>⟨by rw[<-r1.length];exact q.1,fun p hp=>(k.at s1).tup P1 q.2 S1 r1 hp⟩⟩
theorem NX{t:DA}(h:PA X es (LA t)):PE X (.List es pos) (LE (nu t)):=PE.imp (DB h) fun σ H Q ⟨α,σd,st,K,G,F,P,R,S,t,k⟩=>
 ⟨α,σd,st,_,G,F,P,R,S,t,fun ds st1 q α1 G1 H1 vs s1 P1 S1 r1=>⟨by rw[<-r1.length];exact q.1,fun p hp=>(k.at s1).lst P1 q.2 S1 r1 hp⟩⟩
theorem NQ{t:DA}(h:PA X es (LA t)):PE X (.List es pos) (LE (wd t)):=PE.imp (DB h) fun σ H Q ⟨α,σd,st,K,G,F,P,R,S,t,k⟩=>
 ⟨α,σd,st,_,G,F,P,R,S,t,fun ds st1 q α1 G1 H1 vs s1 P1 S1 r1=>⟨by rw[<-r1.length];exact q.1,fun p hp=>(k.at s1).new P1 q.2 S1 r1 hp⟩⟩
abbrev b_:=List D->af->DK->Prop
inductive J3(T:b_)(vs:List V)(H:Hp)(Q:VK):Prop
 |mk (α:List (Option Addr)) (ds:List D) (st:af) (K:DK) (G F:Hp) (P:bW G F H) (rx:aL α G ds vs) (S:aR α st G) (h:T ds st K) (k:LK α G F K Q):J3 T vs H Q
def cp(S:b_):Sp:=fun vs H Q _=>J3 S vs H Q
def aE(S:b_)(t:DA):DE:=fun σ st K=>t σ st fun ds st1=>S ds st1 K
theorem LE.call{S:b_}{t:DA}{σ:L2.St}{H:Hp}{Q:VK}(h:LE (aE S t) σ H Q):Hu (cp S) [] E0 (LA t) σ H Q:=by
 obtain⟨α,σd,st,K,G,F,P,R,S,t,k⟩:=h;refine⟨α,σd,st,_,G,F,P,R,S,t,fun ds st1 q α1 G1 H1 vs s1 P1 S1 r1=>?_⟩;try dsimp only
 rw[List.append_nil];exact⟨α1,ds,st1,K,G1,F,P1,r1,S1,q,k.at s1⟩
theorem J8{S:b_}{k:Nat}{f:Addr}{fd:FuncData}{ps:List Str}{x:Str}{p:Pos}{t:DA}(F:bf X.prog X.w X.K X.mg X.base cj k f fd ps (cp S))(hr:cP k X.A)(hg:Gl X x)(hm:X.mg x=some (.ref f))(hk:PySem.W.keepIn X.K (.ref f)=true)(hb:Binds X.K fd ps [])
 (ha:PA X (e::es) (LA t)) (hdb:(x==("__debug__":Str))=false:=by decide) (he:starEach (e::es) X.env=(false,eval e X.env)::starEach es X.env:=by rfl) (hpl:(backTo pos (starEach es X.env)).any (·.1)=false:=by rfl):
 PE X (.Call (.Name x p) (e::es) [] pos) (LE (aE S t)):=PE.imp (IE F hr hg hm hk hb .nil CD ha hdb he hpl) fun _ _ _ h=>LE.call h
def bo(r:eL)(t:DA):DE:=fun σ st K=>t σ st fun ds st1=>r ds st1 K
theorem LE.cb{r:eL}{t:DA}{σ:L2.St}{H:Hp}{Q:VK}(h:LE (bo r t) σ H Q):Kk (fy r) (LA t) σ H Q:=by
 obtain⟨α,σd,st,K,G,F,P,R,S,t,k⟩:=h;refine⟨α,σd,st,_,G,F,P,R,S,t,fun ds st1 q α1 G1 H1 vs s1 P1 S1 r1=>?_⟩;exact⟨α1,ds,st1,K,G1,F,P1,r1,S1,q,k.at s1⟩
end
section
variable {X:Cx}
theorem bM.imp{f:Value->Value->Sem Value}{r r':R2}(h:bM X f r)(k:∀x y H Q,r' x y H Q->r x y H Q):bM X f r':=fun pins s σ H x y v u Q I rx ry q=>h pins s σ H x y v u Q I rx ry (k x y H Q q)
theorem bD.imp{f:Value}{r r':List V->Hp->VK->Prop}(h:bD X f r)(k:∀xs H Q,r' xs H Q->r xs H Q):bD X f r':=fun pins s σ H xs us Q I rs q=>h pins s σ H xs us Q I rs (k xs H Q q)
def tM(C:Int->Int->Prop)(g:Int->Int->D):cR:=fun x y st K=>match x,y with| .int i,.int j=>C i j/\K (g i j) st|_,_=>False
theorem kh{f:Value->Value->Sem Value}{C:Int->Int->Prop}{g:Int->Int->D}{g':Int->Int->V}(hg:∀i j α H,Rep α H (g i j) (g' i j))(h:bM X f (rI C g')):bM X f (LR (tM C g)):=bM.imp h fun x y H Q ⟨α,d,e,st,K,G,F',P,r1,r2,S,q,k⟩=>by
 cases d<;>cases e<;>first
  |exact q.elim
  |(unfold Rep at r1 r2;exact⟨_,_,r1,r2,q.1,k.here P q.2 S (hg _ _ _ _)⟩)
abbrev T2:Int->Int->Prop:=fun _ _=>True
theorem vj{g:Int->Int->V}{f:Value->Value->Sem Value}(h:bM X f (vq g)):bM X f (rI T2 g):=bM.imp h fun x y H Q ⟨i,j,e1,e2,_,q⟩=>⟨i,j,e1,e2,q⟩
abbrev GI:cR:=tM T2 fun i j=> .int (i-j)
abbrev Dq:cR:=tM (fun _ j=>j≠0/\j.natAbs.log2<9000) fun i j=> .int (i.fdiv j)
abbrev GL:cR:=tM (fun _ j=>j≠0) fun i j=> .int (i.fmod j)
abbrev Hr:cR:=tM F_ fun i j=> .int (i^j.toNat)
abbrev Ki:cR:=tM T2 fun i j=> .bl (decide (i<j))
abbrev K8:cR:=tM T2 fun i j=> .bl (decide (i<=j))
abbrev K0:cR:=tM T2 fun i j=> .bl (decide (j<i))
abbrev JV:cR:=tM T2 fun i j=> .bl (decide (j<=i))
theorem NY:bM X (binaryOp .Sub) (LR GI):=kh (fun _ _ _ _=>by unfold Rep;rfl) (vj Km)
theorem Lv:bM X (binaryOp .FloorDiv) (LR Dq):=kh (fun _ _ _ _=>by unfold Rep;rfl) (GN fun i j _ _ _ _ _ hc q=>floordiv_int hc.1 q (.inl (PyProof.noPylong_of_log2 hc.2)))
theorem NL:bM X (binaryOp .Mod) (LR GL):=kh (fun _ _ _ _=>by unfold Rep;rfl) JP
theorem Nz:bM X (binaryOp .Pow) (LR Hr):=kh (fun _ _ _ _=>by unfold Rep;rfl) Lc
theorem OT:bM X (compareOp .Lt) (LR Ki):=kh (fun _ _ _ _=>by unfold Rep;rfl) (vj MQ)
theorem Px:bM X (compareOp .LtE) (LR K8):=kh (fun _ _ _ _=>by unfold Rep;rfl) (vj M0)
theorem PJ:bM X (compareOp .Gt) (LR K0):=kh (fun _ _ _ _=>by unfold Rep;rfl) (vj NB)
theorem OV:bM X (compareOp .GtE) (LR JV):=kh (fun _ _ _ _=>by unfold Rep;rfl) (vj Np)
def GV:yu:=fun x st K=>match x with| .int i=>K (.int (-i)) st|_=>False
theorem Ny:AE X (unaryOp .USub) (HC GV):=fun pins s σ H x v Q I rx ⟨α,d,st,K,G,F',P,r,S,q,k⟩=>by
 cases d<;>first
  |exact q.elim
  |(unfold Rep at r;exact Ky pins s σ H x v Q I rx ⟨_,r,k.here P q S (by unfold Rep;rfl)⟩)
theorem Inv.uq{pins:List (Addr×Obj)}{σ:L2.St}{H:Hp}{s:Shared}{l:Addr}{xs:List V}(I:Inv X pins σ H s)(h:Rd H l (.lst xs)):
 xs.length<=sizeLine/\∃(its:List Value) (n:Nat),Vals xs its/\xs.length=its.length/\s.heap.get? l=some {cls:= .type "list",data:= .seq its.toArray n}:=by
 obtain⟨z,its,n,r,e⟩:=h.ok I.aP;exact⟨z,its,n,r,r.length,e⟩
theorem fQ{G F H:Hp}(P:bW G F H){a:Addr}{u:HO}(h:Rd G a u):Rd H a u:=by
 rcases h with h|⟨o,h⟩
 . exact .inl (P.get h)
 . exact .inr ⟨o,P.get h⟩
theorem HP:bM X (binaryOp .Add) (fun x y H Q=>∃l b xs zs,x= .ref l/\y= .ref b/\Rd H l (.lst xs)/\Rd H b (.lst zs)/\xs.length+zs.length<=sizeLine/\∀p,H p=none->Q (.ref p) (upd H p (.lst (xs++zs)))):=by
 intro pins s σ H x y v u Q I rx ry h;obtain⟨l,b,xs,zs,rfl,rfl,hH,hB,hz,q⟩:=h;cases rx;cases ry;obtain⟨z,its,n,r,hl,e⟩:=Inv.uq I hH;obtain⟨z2,its2,n2,r2,hl2,e2⟩:=Inv.uq I hB;refine PySem.P.add_list e e2 ?_ (by rw[List.size_toArray,List.size_toArray];omega);have ea:its.toArray++its2.toArray=(its++its2).toArray:=by simp
 rw[ea];exact⟨.ref _,_,I.Fb (t':=s.toks) (r.append r2) (by rw[List.length_append];omega),rfl,q _ I.fresh⟩
theorem A5:bM X (binaryOp .Mult) (fun x y H Q=>∃l k xs,x= .ref l/\y= .int k/\Rd H l (.lst xs)/\ -(2^63)<=k/\k<2^63/\xs.length*k.toNat<=sizeLine/\
 ∀p,H p=none->Q (.ref p) (upd H p (.lst (List.replicate k.toNat xs).flatten))):=by
 intro pins s σ H x y v u Q I rx ry h;obtain⟨l,k,xs,rfl,rfl,hH,h1,h2,hz,q⟩:=h;cases rx;obtain⟨t,rfl⟩:=ry;obtain⟨z,its,n,r,hl,e⟩:=Inv.uq I hH;have hlen:its.toArray.size*k.toNat<=sizeLine:=by rw[List.size_toArray,<-hl];exact hz
 have hcap:¬its.toArray.size*k.toNat>(2^63-1)/8:=by
  have:(sizeLine:Nat)<=(2^63-1)/8:=by decide
  omega
 have hfit:¬(!Builtin.List.listFitsIndex k)=true:=by
  rw[fitsIndex_both h1 h2];exact Bool.false_ne_true
 have hlong:¬Builtin.List.listTooLong (its.toArray.size*k.toNat)=true:=by
  rw[E2 hlen];exact Bool.false_ne_true
 have hnew:List.foldl (fun x1 x2=>x1++x2) #[] (List.replicate (if its.toArray.isEmpty=true then 0 else k.toNat) its.toArray)=(List.replicate k.toNat its).flatten.toArray:=by
  have f0:∀m:Nat,List.foldl (fun x1 x2=>x1++x2) #[] (List.replicate m its.toArray)=(List.replicate m its).flatten.toArray:=fun m=>by
   have:=foldl_rep its m [];rw[List.nil_append]at this;exact this
  rw[f0];cases its with
  |nil=>simp
  |cons a r'=>rw[if_neg (by simp)]
 refine wpAny_binaryOp_repeat_ref (T:="list") (U:="int") (by decide) ⟨_,e,rfl⟩ (fun s'=>typeIs_int s' k t) noFill_list_mul F.fills_int_mul F.slot_int_rmul repeat_list F.slot_int_index.lookup
  (call_meets F.slot_int_rmul (typeIs_int s k t) F.entry_int_rmul (F.args_int_rmul_2 _ _) (int___rmul___int_list k t l its.toArray n)
    ⟨e,rfl,⟨_,e,rfl⟩,call_meets F.slot_list_mul ⟨_,e,rfl⟩ F.entry_list_mul (F.args_list_mul_2 _ _) (AutoListH.list___mul___list_int_3 l its.toArray n k t hfit hcap hlong) ⟨e,?_⟩⟩)
 rw[hnew];exact⟨.ref _,_,I.Fb (t':=s.toks) (r.rep k.toNat) (by rw[len_rep,Nat.mul_comm];exact hz),rfl,q _ I.fresh⟩
theorem E9:bM X (binaryOp .Add) (fun x y H Q=>∃a b xs ys,x= .ref a/\y= .ref b/\H a=some (.tup xs)/\H b=some (.tup ys)/\xs.length+ys.length<=sizeLine/\
 (xs=[]->Q (.ref b) H)/\(xs≠ []->ys=[]->Q (.ref a) H)/\(xs≠ []->ys≠ []->∀p,H p=none->Q (.ref p) (upd H p (.tup (xs++ys))))):=by
 intro pins s σ H x y v u Q I rx ry h;obtain⟨a,b,xs,ys,rfl,rfl,ha,hb,hz,q0,q1,q2⟩:=h;by_cases hx:xs=[]
 . cases rx;cases ry;obtain⟨its,r1,p1,_⟩:=I.tuple (.of ha);obtain⟨its2,r2,p2,_⟩:=I.tuple (.of hb);obtain⟨⟨cls,dd,data,sl⟩,ho,hc,n,hd⟩:=id p1;obtain⟨⟨cls2,dd2,data2,sl2⟩,ho2,hc2,n2,hd2⟩:=id p2;simp only at hc hd hc2 hd2;subst hc hd hc2 hd2;have hi:its=[]:=(L2.Vals.r9 r1).mpr hx
   exact concat_meets ⟨_,ho,rfl⟩ ⟨_,ho2,rfl⟩ noFill_tuple_add seq_tuple_add PySem.F.slot_tuple_add PySem.F.entry_tuple_add (PySem.F.args_tuple_add_2 _ _)
    (tuple_addW0 a b its.toArray its2.toArray n n2 dd dd2 sl sl2 (by simp[hi])) ⟨ho,ho2,⟨.ref b,H,I,rfl,q0 hx⟩⟩
 . exact HQ pins s σ H _ _ v u Q I rx ry ⟨a,b,xs,ys,rfl,rfl,.of ha,.of hb,hx,hz,q1 hx,q2 hx⟩
theorem we:fillsNumberSlot (.type "tuple") "mul"=pure false:=
 PySem.fillsNumberSlot_seq (id:="tuple.__mul__") (r:=some (.builtin "tuple.__rmul__")) F.slot_tuple_mul.lookup (by decide+kernel) F.slot_tuple_rmul.lookup (by decide+kernel)
theorem CJ:seqRepeat? (.type "tuple")=pure (some (.builtin "tuple.__mul__")):=by
 unfold seqRepeat?;rw[PySem.seqSlot_of (T:="tuple") (name:="__mul__") (id:="tuple.__mul__") F.slot_tuple_mul.lookup (by decide+kernel),PySem.seqSlot_of (T:="tuple") (name:="__rmul__") (id:="tuple.__rmul__") F.slot_tuple_rmul.lookup (by decide+kernel)];rfl
theorem zE(a:Int)(t:Tok)(l:Addr)(its:Array Value)(n:Nat)(dd:Option Addr)(sl:Array (Option Value)):Meets (Builtin.«int.__rmul__» ⟨[.int a t,.ref l],[]⟩) (fun _ R s=>s.heap.get? l=some {cls:= .type "tuple",dict:=dd,data:= .seq its n,slots:=sl}/\R (.ok (.ret Value.notImplemented)) s):=
 .of_wp fun P w A R s h=>by
  obtain⟨hp,g,d,tk,os⟩:=s;obtain⟨hl,h⟩:=h
  wp_walk
  exact⟨_,rfl,h⟩
theorem yN(l:Addr)(its:Array Value)(n:Nat)(dd:Option Addr)(sl:Array (Option Value))(x:Int)(u:Tok)(h0:(decide (x< -(2^63))||decide (x>=2^63))=false)(h1:(its.isEmpty||x==1)=true):
 Meets (Builtin.«tuple.__mul__» ⟨[.ref l,.int x u],[]⟩) (fun _ R s=>s.heap.get? l=some {cls:= .type "tuple",dict:=dd,data:= .seq its n,slots:=sl}/\R (.ok (.ret (.ref l))) s):=
 .of_wp fun P w A R s h=>by
  obtain⟨hp,g,d,tk,os⟩:=s;obtain⟨hl,h⟩:=h
  wp_walk
  refine wpAny_ite_false (by rw[h0];rfl) ?_
  wp_walk
  exact⟨_,rfl,h⟩
theorem zW(l:Addr)(its:Array Value)(n:Nat)(dd:Option Addr)(sl:Array (Option Value))(x:Int)(u:Tok)(h0:(decide (x< -(2^63))||decide (x>=2^63))=false)(h1:(its.isEmpty||x==1)=false)(h2:(decide (x<=0)||its.isEmpty)=true):
 Meets (Builtin.«tuple.__mul__» ⟨[.ref l,.int x u],[]⟩) (fun _ R s=>s.heap.get? l=some {cls:= .type "tuple",dict:=dd,data:= .seq its n,slots:=sl}/\R (.ok (.ret (.ref s.heap.objs.size))) {s with heap:=s.heap.push {cls:= .type "tuple",data:= .seq #[]}}):=
 .of_wp fun P w A R s h=>by
  obtain⟨hp,g,d,tk,os⟩:=s;obtain⟨hl,h⟩:=h
  wp_walk
  refine wpAny_ite_false (by rw[h0];rfl) ?_
  wp_walk
  exact⟨_,rfl,h⟩
theorem zN(l:Addr)(its:Array Value)(n:Nat)(dd:Option Addr)(sl:Array (Option Value))(x:Int)(u:Tok)(h0:(decide (x< -(2^63))||decide (x>=2^63))=false)(h1:(its.isEmpty||x==1)=false)(h2:(decide (x<=0)||its.isEmpty)=false)(h3:¬((its.size:Int)*x>(2^63-1)/8))(h4:Builtin.Tuple.tupleTooMany (its.size*x)=false)
 (hz:(List.foldl (fun x1 x2=>x1++x2) #[] (List.replicate x.toNat its)).size<=sizeLine):
 Meets (Builtin.«tuple.__mul__» ⟨[.ref l,.int x u],[]⟩) (fun _ R s=>s.heap.get? l=some {cls:= .type "tuple",dict:=dd,data:= .seq its n,slots:=sl}/\R (.ok (.ret (.ref s.heap.objs.size))) {s with heap:=s.heap.push {cls:= .type "tuple",data:= .seq (List.foldl (fun x1 x2=>x1++x2) #[] (List.replicate x.toNat its))}}):=
 .of_wp fun P w A R s h=>by
  obtain⟨hp,g,d,tk,os⟩:=s;obtain⟨hl,h⟩:=h
  wp_walk
  refine wpAny_ite_false (by rw[h0];rfl) ?_
  wp_walk
  refine wpAny_ite_false (decide_eq_false h3) ?_
  wp_walk
  exact⟨_,rfl,h⟩
theorem IG:bM X (binaryOp .Mult) (fun x y H Q=>∃l k xs,x= .ref l/\y= .int k/\H l=some (.tup xs)/\ -(2^63)<=k/\k<2^63/\xs.length*k.toNat<=sizeLine/\
 ((xs=[]\/k=1)->Q (.ref l) H)/\(¬(xs=[]\/k=1)->∀p,H p=none->Q (.ref p) (upd H p (.tup (List.replicate k.toNat xs).flatten)))):=by
 intro pins s σ H x y v u Q I rx ry h;obtain⟨l,k,xs,rfl,rfl,hH,h1,h2,hz,q1,q2⟩:=h;cases rx;obtain⟨t,rfl⟩:=ry;obtain⟨its,r,p1,_⟩:=I.tuple (.of hH);obtain⟨⟨cls,dd,data,sl⟩,ho,hc,n,hd⟩:=id p1;simp only at hc hd;subst hc hd;have hl:xs.length=its.length:=r.length
 have f0:(decide (k< -(2^63))||decide (k>=2^63))=false:=by
  rw[decide_eq_false (by omega),decide_eq_false (by omega)];rfl
 refine wpAny_binaryOp_repeat_ref (T:="tuple") (U:="int") (by decide) ⟨_,ho,rfl⟩ (fun s'=>typeIs_int s' k t) we F.fills_int_mul F.slot_int_rmul CJ F.slot_int_index.lookup
  (call_meets F.slot_int_rmul (typeIs_int s k t) F.entry_int_rmul (F.args_int_rmul_2 _ _) (zE k t l its.toArray n dd sl) ⟨ho,rfl,⟨_,ho,rfl⟩,?_⟩)
 by_cases hs:xs=[]\/k=1
 . have f1:(its.toArray.isEmpty||k==1)=true:=by
    rcases hs with z|z
    . have:its=[]:=List.length_eq_zero_iff.mp (by rw[<-hl,z];rfl);rw[this];rfl
    . rw[z];simp
   exact call_meets F.slot_tuple_mul ⟨_,ho,rfl⟩ F.entry_tuple_mul (F.args_tuple_mul_2 _ _) (yN l its.toArray n dd sl k t f0 f1) ⟨ho,⟨.ref l,H,I,rfl,q1 hs⟩⟩
 . have hne:its≠ []:=fun z=>hs (.inl (List.length_eq_zero_iff.mp (by rw[hl,z];rfl)));have hk1:k≠1:=fun z=>hs (.inr z);have e1:its.toArray.isEmpty=false:=by simpa using hne
   have f1:(its.toArray.isEmpty||k==1)=false:=by rw[e1];simpa using hk1
   have new:∀(us:List Value) (ys:List V),Vals ys us->ys.length<=sizeLine->Inv X pins σ (upd H s.heap.objs.size (.tup ys)) {s with heap:=s.heap.push {cls:= .type "tuple",data:= .seq us.toArray}}:=fun us ys hv hy=>
    I.laid (t':=s.toks) (fun _ _ q=>Heap.get?_push_of_some _ q) (Nat.le_refl _) ⟨hy,us,hv,⟨_,Heap.get?_push_size _ rfl,rfl,_,rfl⟩⟩
   by_cases h0:k<=0
   . have f2:(decide (k<=0)||its.toArray.isEmpty)=true:=by rw[decide_eq_true h0];rfl
     refine call_meets F.slot_tuple_mul ⟨_,ho,rfl⟩ F.entry_tuple_mul (F.args_tuple_mul_2 _ _) (zW l its.toArray n dd sl k t f0 f1 f2) ⟨ho,?_⟩;have ez:k.toNat=0:=by omega
     rw[ez]at q2;exact⟨.ref _,_,new [] [] .nil (Nat.zero_le _),rfl,q2 hs _ I.fresh⟩
   . have f2:(decide (k<=0)||its.toArray.isEmpty)=false:=by rw[decide_eq_false h0,e1];rfl
     have hk:(k.toNat:Int)=k:=by omega
     have hlen:its.toArray.size*k.toNat<=sizeLine:=by rw[List.size_toArray,<-hl];exact hz
     have hsz:((its.toArray.size:Nat):Int)*k<=(sizeLine:Int):=by
      rw[<-hk]
      exact_mod_cast hlen
     have f3:¬(((its.toArray.size:Nat):Int)*k>(2^63-1)/8):=by
      have:((sizeLine:Nat):Int)<=(2^63-1)/8:=by decide
      omega
     have f4:Builtin.Tuple.tupleTooMany (((its.toArray.size:Nat):Int)*k)=false:=by
      unfold Builtin.Tuple.tupleTooMany;exact decide_eq_false (by omega)
     have hnew:List.foldl (fun x1 x2=>x1++x2) #[] (List.replicate k.toNat its.toArray)=(List.replicate k.toNat its).flatten.toArray:=by
      have:=foldl_rep its k.toNat [];rw[List.nil_append]at this;exact this
     have hfl:(List.replicate k.toNat its).flatten.length=its.length*k.toNat:=by rw[len_rep,Nat.mul_comm]
     refine call_meets F.slot_tuple_mul ⟨_,ho,rfl⟩ F.entry_tuple_mul (F.args_tuple_mul_2 _ _) (zN l its.toArray n dd sl k t f0 f1 f2 f3 f4 (by rw[hnew,List.size_toArray,hfl];exact hlen)) ⟨ho,?_⟩;rw[hnew];exact⟨.ref _,_,new _ _ (r.rep k.toNat) (by rw[len_rep,Nat.mul_comm];exact hz),rfl,q2 hs _ I.fresh⟩
def Hf:cR:=fun x y st K=>match x,y with
 | .int i,.int j=>K (.int (i+j)) st
 | .tup xs,.tup ys=>xs.length+ys.length<=sizeLine/\K (.tup (xs++ys)) st
 | .lst xs,.lst ys=>xs.length+ys.length<=sizeLine/\K (.lst (xs++ys)) st
 | .str x,.str y=>x.length+y.length<=sizeLine/\K (.str (x++y)) st
 |_,_=>False
theorem NP:bM X (binaryOp .Add) (LR Hf):=fun pins s σ H x y v u Q I rx ry ⟨α,d,e,st,K,G,F',P,r1,r2,S,q,k⟩=>by
 cases d<;>cases e<;>try exact q.elim
 . unfold Rep at r1 r2;exact Mw pins s σ H x y v u Q I rx ry ⟨_,_,r1,r2,k.here P q S (by unfold Rep;rfl)⟩
 . unfold Rep at r1 r2;exact BI pins s σ H x y v u Q I rx ry ⟨_,_,r1,r2,q.1,k.here P q.2 S (by unfold Rep;rfl)⟩
 . unfold Rep at r1 r2;obtain⟨a,vs,rfl,na,ha,ra⟩:=r1;obtain⟨b,ws,rfl,nb,hb,rb⟩:=r2;refine HP pins s σ H _ _ v u Q I rx ry ⟨a,b,vs,ws,rfl,rfl,fQ P ha,fQ P hb,by rw[<-ra.length,<-rb.length];exact q.1,fun p hp=>?_⟩;exact k.lst P q.2 S (a7.mpr (fM (a7.mp ra) (a7.mp rb))) hp
 . rename_i xs ys;unfold Rep at r1 r2;obtain⟨a,vs,rfl,na,ha,ra⟩:=r1;obtain⟨b,ws,rfl,nb,hb,rb⟩:=r2;have hl1:=ra.length;have hl2:=rb.length;refine E9 pins s σ H _ _ v u Q I rx ry ⟨a,b,vs,ws,rfl,rfl,P.get ha,P.get hb,by rw[<-hl1,<-hl2];exact q.1,fun z=>?_,fun _ z=>?_,fun _ _ p hp=>?_⟩
   . refine k.here P q.2 S ?_;unfold Rep;have:xs=[]:=by rw[z]at hl1;exact List.length_eq_zero_iff.mp hl1
     subst this;exact⟨b,ws,rfl,nb,hb,rb⟩
   . refine k.here P q.2 S ?_;unfold Rep;have:ys=[]:=by rw[z]at hl2;exact List.length_eq_zero_iff.mp hl2
     subst this;rw[List.append_nil];exact⟨a,vs,rfl,na,ha,ra⟩
   . exact k.tup P q.2 S (a7.mpr (fM (a7.mp ra) (a7.mp rb))) hp
def Hx:cR:=fun x y st K=>match x,y with
 | .int i,.int j=>IntMulOk i j/\K (.int (i*j)) st
 | .lst xs,.int k=>(-(2^63)<=k/\k<2^63/\xs.length*k.toNat<=sizeLine)/\K (.lst (List.replicate k.toNat xs).flatten) st
 | .tup xs,.int k=>(-(2^63)<=k/\k<2^63/\xs.length*k.toNat<=sizeLine)/\K (.tup (List.replicate k.toNat xs).flatten) st
 |_,_=>False
theorem M4:bM X (binaryOp .Mult) (LR Hx):=fun pins s σ H x y v u Q I rx ry ⟨α,d,e,st,K,G,F',P,r1,r2,S,q,k⟩=>by
 cases d<;>cases e<;>try exact q.elim
 . unfold Rep at r1 r2;have h:bM X (binaryOp .Mult) (rI IntMulOk fun i j=> .int (i*j)):=GN fun _ _ _ _ _ _ _ hc q=>mul_int q hc;exact h pins s σ H x y v u Q I rx ry ⟨_,_,r1,r2,q.1,k.here P q.2 S (by unfold Rep;rfl)⟩
 . unfold Rep at r1 r2;obtain⟨a,vs,rfl,na,ha,ra⟩:=r1;refine A5 pins s σ H _ _ v u Q I rx ry ⟨a,_,vs,rfl,r2,fQ P ha,q.1.1,q.1.2.1,by rw[<-ra.length];exact q.1.2.2,fun p hp=>?_⟩;exact k.lst P q.2 S (a7.mpr (k_ (a7.mp ra) _)) hp
 . rename_i xs m;have r1':=r1;unfold Rep at r1 r2;obtain⟨a,vs,rfl,na,ha,ra⟩:=r1;refine IG pins s σ H _ _ v u Q I rx ry ⟨a,_,vs,rfl,r2,P.get ha,q.1.1,q.1.2.1,by rw[<-ra.length];exact q.1.2.2,fun hs=>?_,fun _ p hp=>k.tup P q.2 S (a7.mpr (k_ (a7.mp ra) _)) hp⟩
   have e:(List.replicate m.toNat xs).flatten=xs:=by
    rcases hs with z|z
    . have:xs=[]:=List.length_eq_zero_iff.mp (by rw[ra.length,z];rfl);rw[this];simp
    . rw[z];simp
   have q2:=q.2;rw[e]at q2;exact k.here P q2 S r1'
def live(st:af):D->Bool
 | .ref n=>(match st[n]? with|some (.lst _)=>true|some (.ins _ _)=>true|_=>false)
 |_=>true
theorem yp{α:List (Option Addr)}{H:Hp}{st:af}{n:Nat}{v:V}(S:aR α st H)(h:live st (.ref n)=true)(r:Rep α H (.ref n) v):∃a,v= .ref a:=by
 unfold live at h;simp only at h;split at h
 . rename_i e;obtain⟨a,ea,_⟩:=S.gn e;exact⟨a,c8 ea r⟩
 . rename_i e;obtain⟨a,ea,_⟩:=S.xO e;exact⟨a,c8 ea r⟩
 . cases h
def HX:cR:=fun x y st K=>match y with| .aH=>live st x=true/\K (.bl (match x with| .aH=>false|_=>true)) st|_=>False
theorem IQ:bM X (compareOp .IsNot) (LR HX):=bM.imp IZ fun x y H Q ⟨α,d,e,st,K,G,F',P,r1,r2,S,q,k⟩=>by
 cases e<;>try exact q.elim
 unfold Rep at r2;refine⟨r2,k.here P q.2 S ?_⟩;unfold Rep;cases d
 case ref n=>
  obtain⟨a,rfl⟩:=yp S q.1 r1;rfl
 all_goals(unfold Rep at r1;first|(rw[r1];rfl)|(obtain⟨a,vs,rfl,_⟩:=r1;rfl))
def qr:cR:=fun x y st K=>match y with
 | .int i=>(match x with
   | .lst xs=>(match dG xs i with|some d=>K d st|none=>False)
   | .tup xs=>(match dG xs i with|some d=>K d st|none=>False)
   | .ref n=>(match st[n]? with|some (.lst xs)=>(match dG xs i with|some d=>K d st|none=>False)|_=>False)
   |_=>False)
 |_=>False
theorem aL.dG{α:List (Option Addr)}{H:Hp}{ds:List D}{vs:List V}{i:Int}{d:D}(h:aL α H ds vs)(e:L2.dG ds i=some d):∃v,L2.dG vs i=some v/\Rep α H d v:=by
 unfold L2.dG at e⊢;rw[<-h.length];cases q:mr ds.length i with
 |none=>rw[q]at e;cases e
 |some j=>rw[q]at e;exact h.get e
theorem OM:Gs X (LR qr):=fun value slice pins s σ H x y v u Q I rx ry ⟨α,d,e,st,K,G,F',P,r1,r2,S,q,k⟩ hs=>by
 cases e<;>try exact q.elim
 unfold Rep at r2;cases d<;>try exact q.elim
 . rename_i i n;unfold qr at q;simp only at q;split at q
   . split at q
     . rename_i xs e1 _ d' e2;obtain⟨a,ea,vs,hv,rv⟩:=S.gn e1;have r1':=c8 ea r1;subst r1';obtain⟨z,ez,rz⟩:=rv.dG e2;exact AU value slice pins s σ H _ _ v u Q I rx ry ⟨a,vs,_,z,rfl,r2,.of (P.get hv),ez,k.here P q S rz⟩ hs
     . exact q.elim
   . exact q.elim
 . unfold qr at q;simp only at q;split at q
   . rename_i xs d' e2;unfold Rep at r1;obtain⟨a,vs,rfl,na,ha,ra⟩:=r1;obtain⟨z,ez,rz⟩:=ra.dG e2;exact AU value slice pins s σ H _ _ v u Q I rx ry ⟨a,vs,_,z,rfl,r2,.inl (fQ P ha),ez,k.here P q S rz⟩ hs
   . exact q.elim
 . unfold qr at q;simp only at q;split at q
   . rename_i xs d' e2;unfold Rep at r1;obtain⟨a,vs,rfl,na,ha,ra⟩:=r1;obtain⟨z,ez,rz⟩:=ra.dG e2;exact KQ value slice pins s σ H _ _ v u Q I rx ry ⟨a,vs,_,z,rfl,r2,.of (P.get ha),ez,k.here P q S rz⟩ hs
   . exact q.elim
theorem Pz{a b:Expr}{ta tb:DE}{pos:Pos}(ha:PE X a (LE ta))(hb:PE X b (LE tb))(hs:r_ b:=by intro _ _;rfl):PE X (.Subscript a b pos) (LE (ao qr ta tb)):=PE.imp (MW OM ha hb hs) fun _ _ _ h=>LE.op h
def items?(st:af):D->Option (List D)
 | .lst xs=>some xs
 | .tup xs=>some xs
 | .ref n=>(match st[n]? with|some (.lst xs)=>some xs|_=>none)
 |_=>none
@[simp] theorem OL(st:af)(xs:List D):items? st (.lst xs)=some xs:=rfl
@[simp] theorem OC(st:af)(xs:List D):items? st (.tup xs)=some xs:=rfl
@[simp] theorem items_int(st:af)(i:Int):items? st (.int i)=none:=rfl
@[simp] theorem PM(st:af)(i:Bool):items? st (.bl i)=none:=rfl
@[simp] theorem items_str(st:af)(i:Str):items? st (.str i)=none:=rfl
@[simp] theorem Og(st:af):items? st .aH=none:=rfl
theorem aM{st:af}{n:Nat}{xs:List D}(h:st[n]?=some (.lst xs)):items? st (.ref n)=some xs:=by unfold items?;simp only[h]
theorem oi{α:List (Option Addr)}{H:Hp}{st:af}{d:D}{v:V}{xs:List D}(S:aR α st H)(r:Rep α H d v)(e:items? st d=some xs):
 ∃p vs,v= .ref p/\aL α H xs vs/\(Rd H p (.lst vs)\/H p=some (.tup vs)):=by
 cases d<;>try(cases e;done)
 . unfold items? at e;simp only at e;split at e
   . rename_i ys q;cases e;obtain⟨a,ea,vs,h1,h2⟩:=S.gn q;have r':=c8 ea r;subst r';exact⟨a,vs,rfl,h2,.inl (.of h1)⟩
   . cases e
 . cases e;unfold Rep at r;obtain⟨a,vs,rfl,_,h1,h2⟩:=r;exact⟨a,vs,rfl,h2,.inl h1⟩
 . cases e;unfold Rep at r;obtain⟨a,vs,rfl,_,h1,h2⟩:=r;exact⟨a,vs,rfl,h2,.inr h1⟩
theorem CO{K:PySem.W.Frag}{G F H:Hp}(P:bW G F H){p:Addr}{vs:List V}(h:Rd G p (.lst vs)\/G p=some (.tup vs)):l_ K H p vs\/iE K H p vs:=h.elim (fun z=> .inl (.inl (fQ P z))) fun z=> .inr (.of (P.get z))
theorem gj{α:List (Option Addr)}{H:Hp}{ds:List D}{xs:List V}{d:D}(r:aL α H ds xs)(e:ds=[d]):∃v,xs=[v]/\Rep α H d v:=by
 subst e;unfold aL at r;obtain⟨v,q,rfl,h1,h2⟩:=r;unfold aL at h2;subst h2;exact⟨v,rfl,h1⟩
theorem ou{α:List (Option Addr)}{H:Hp}{ds:List D}{xs:List V}{d e:D}(r:aL α H ds xs)(q:ds=[d,e]):∃v u,xs=[v,u]/\Rep α H d v/\Rep α H e u:=by
 subst q;unfold aL at r;obtain⟨v,q,rfl,h1,h2⟩:=r;obtain⟨u,rfl,h3⟩:=gj h2 rfl;exact⟨v,u,rfl,h1,h3⟩
def x8:eL:=fun ds st K=>match ds with
 | [.str x]=>x.length<=sizeLine/\K (.int x.length) st
 | [d]=>(match items? st d with|some xs=>K (.int xs.length) st|none=>False)
 |_=>False
theorem Nm:bD X (.builtin "len") (fy x8):=fun pins s σ H xs us Q I rs ⟨α,ds,st,K,G,F',P,r,S,q,k⟩=>by
 unfold x8 at q;split at q
 . rename_i x;obtain⟨v,rfl,r1⟩:=gj r rfl;unfold Rep at r1;subst r1;exact yW pins s σ H _ us Q I rs ⟨x,rfl,q.1,k.here P q.2 S (by unfold Rep;rfl)⟩
 . rename_i d _;split at q
   . rename_i ys e;obtain⟨v,rfl,r1⟩:=gj r rfl;obtain⟨p,vs,rfl,r2,h⟩:=oi S r1 e;refine yF pins s σ H _ us Q I rs ⟨p,vs,rfl,CO P h,k.here P q S (by unfold Rep;rw[r2.length])⟩
   . exact q.elim
 . exact q.elim
def Ox(g:Int->Int):eL:=fun ds st K=>match ds with| [.int i]=>K (.int (g i)) st|_=>False
abbrev BP:eL:=Ox fun i=>if i<0 then-i else i
theorem M9:bD X (.builtin "abs") (fy BP):=bD.imp Fp fun xs H Q ⟨α,ds,st,K,G,F',P,r,S,q,k⟩=>by
 unfold BP Ox at q;split at q
 . obtain⟨v,rfl,r1⟩:=gj r rfl;unfold Rep at r1;subst r1;exact⟨_,rfl,k.here P q S (by unfold Rep;rfl)⟩
 . exact q.elim
def BX(g:Int->Int->Int):eL:=fun ds st K=>match ds with| [.int i,.int j]=>K (.int (g i j)) st|_=>False
abbrev Cr:eL:=BX fun i j=>if j>i then j else i
abbrev BU:eL:=BX fun i j=>if j<i then j else i
theorem NJ(hc:X.calm=true):bD X (.builtin "max") (fy Cr):=bD.imp (D5 hc) fun xs H Q ⟨α,ds,st,K,G,F',P,r,S,q,k⟩=>by
 unfold Cr BX at q;split at q
 . obtain⟨v,u,rfl,r1,r2⟩:=ou r rfl;unfold Rep at r1 r2;subst r1 r2;exact⟨_,_,rfl,k.here P q S (by unfold Rep;rfl)⟩
 . exact q.elim
theorem MK(hc:X.calm=true):bD X (.builtin "min") (fy BU):=bD.imp (Ek hc) fun xs H Q ⟨α,ds,st,K,G,F',P,r,S,q,k⟩=>by
 unfold BU BX at q;split at q
 . obtain⟨v,u,rfl,r1,r2⟩:=ou r rfl;unfold Rep at r1 r2;subst r1 r2;exact⟨_,_,rfl,k.here P q S (by unfold Rep;rfl)⟩
 . exact q.elim
def BK:eL:=fun ds st K=>match ds with| [.int i]=>K (.int i) st| [.bl b]=>K (.int (if b then 1 else 0)) st|_=>False
theorem Nk:bD X (.type "int") (fy BK):=bD.imp D1 fun xs H Q ⟨α,ds,st,K,G,F',P,r,S,q,k⟩=>by
 unfold BK at q;split at q
 . obtain⟨v,rfl,r1⟩:=gj r rfl;unfold Rep at r1;subst r1;exact .inl ⟨_,rfl,k.here P q S (by unfold Rep;rfl)⟩
 . obtain⟨v,rfl,r1⟩:=gj r rfl;unfold Rep at r1;subst r1;exact .inr ⟨_,rfl,k.here P q S (by unfold Rep;rfl)⟩
 . exact q.elim
def rW:eL:=fun ds st K=>match ds with| [d]=>(match items? st d with|some xs=>K (.tup xs) st|none=>False)|_=>False
theorem HK:bD X (.type "tuple") (fy rW):=bD.imp xD fun xs H Q ⟨α,ds,st,K,G,F',P,r,S,q,k⟩=>by
 unfold rW at q;split at q
 . rename_i d;split at q
   . rename_i ys e;obtain⟨v,rfl,r1⟩:=gj r rfl;cases d with
     |tup zs=>
      cases e;have r0:=r1;unfold Rep at r1;obtain⟨a,vs,rfl,na,h1,h2⟩:=r1;exact⟨a,vs,rfl,.inr ⟨.of (P.get h1),k.here P q S r0⟩⟩
     |_=>
      obtain⟨p,vs,rfl,r2,h⟩:=oi S r1 e;refine⟨p,vs,rfl,?_⟩;rcases h with h|h
      . exact .inl ⟨.inl (fQ P h),fun l hl=>k.tup P q S r2 hl⟩
      . first
         |(cases e;done)
         |(exfalso
           unfold items? at e;simp only at e
           first
            |(split at e
              . rename_i z;obtain⟨a,ea,vs',h1,h2⟩:=S.gn z;have e':=c8 ea r1;cases e';rw[h]at h1;cases h1
              . cases e)
            |(unfold Rep at r1
              obtain⟨a,vs',e',_,h1,_⟩:=r1;cases e';rcases h1 with h1|⟨o,h1⟩<;>(rw[h]at h1;cases h1)))
   . exact q.elim
 . exact q.elim
def vE:eL:=fun ds st K=>match ds with| [d]=>(match items? st d with|some xs=>K (.lst xs) st|none=>False)|_=>False
theorem L7:bD X (.type "list") (fy vE):=bD.imp qI fun xs H Q ⟨α,ds,st,K,G,F',P,r,S,q,k⟩=>by
 unfold vE at q;split at q
 . split at q
   . rename_i ys e;obtain⟨v,rfl,r1⟩:=gj r rfl;obtain⟨p,vs,rfl,r2,h⟩:=oi S r1 e;exact⟨p,vs,rfl,CO P h,fun l hl=>k.lst P q S r2 hl⟩
   . exact q.elim
 . exact q.elim
def sq:eL:=fun ds st K=>match ds with| [d]=>(match items? st d with|some xs=>K (.ref st.length) (st++[.lst xs])|none=>False)|_=>False
theorem HG:bD X (.type "list") (fy sq):=bD.imp qI fun xs H Q ⟨α,ds,st,K,G,F',P,r,S,q,k⟩=>by
 unfold sq at q;split at q
 . split at q
   . rename_i ys e;obtain⟨v,rfl,r1⟩:=gj r rfl;obtain⟨p,vs,rfl,r2,h⟩:=oi S r1 e;exact⟨p,vs,rfl,CO P h,fun l hl=>k.new P q S r2 hl⟩
   . exact q.elim
 . exact q.elim
def jc:List D->Option (List Bool)
 | []=>some []
 | .bl b::r=>(jc r).map (b:: ·)
 |_::_=>none
def lh:List D->Option (List Int)
 | []=>some []
 | .int b::r=>(lh r).map (b:: ·)
 |_::_=>none
theorem vc{α:List (Option Addr)}{H:Hp}:∀ {ds:List D} {vs:List V} {bs:List Bool},aL α H ds vs->jc ds=some bs->vs=bs.map V.bl
 | [],vs,bs,r,e=>by
   unfold aL at r;cases e;exact r
 |d::ds,vs,bs,r,e=>by
  unfold aL at r;obtain⟨v,q,rfl,h1,h2⟩:=r;cases d<;>try(cases e;done)
  unfold jc at e;cases z:jc ds with
  |none=>rw[z]at e;cases e
  |some cs=>
   rw[z]at e;cases e;unfold Rep at h1;rw[h1,vc h2 z];rfl
theorem rk{α:List (Option Addr)}{H:Hp}:∀ {ds:List D} {vs:List V} {bs:List Int},aL α H ds vs->lh ds=some bs->vs=bs.map V.int
 | [],vs,bs,r,e=>by
   unfold aL at r;cases e;exact r
 |d::ds,vs,bs,r,e=>by
  unfold aL at r;obtain⟨v,q,rfl,h1,h2⟩:=r;cases d<;>try(cases e;done)
  unfold lh at e;cases z:lh ds with
  |none=>rw[z]at e;cases e
  |some cs=>
   rw[z]at e;cases e;unfold Rep at h1;rw[h1,rk h2 z];rfl
theorem uR:∀ {bs:List Bool} {us:List Value},Vals (bs.map V.bl) us->us=bs.map Value.bool
 | [],_,.nil=>rfl
 |b::bs,_,.cons h t=>by
  have h:_=Value.bool b:=h;rw[h,uR t];rfl
def x9:eL:=fun ds st K=>match ds with| [.lst xs]=>(match jc xs with|some bs=>K (.bl (bs.all id)) st|none=>False)|_=>False
theorem range_all{α:Type}(l:List α)(f:α->Bool)(tr:Nat->Bool)(h:∀i x,l[i]?=some x->tr i=f x):(List.range l.length).all tr=l.all f:=by
 induction l generalizing tr with
 |nil=>rfl
 |cons a l ih=>
  rw[List.length_cons,List.range_succ_eq_map,List.all_cons,List.all_cons,List.all_map,h 0 a rfl];congr 1;exact ih (tr∘Nat.succ) fun i x e=>h (i+1) x (by simpa using e)
theorem Nf(hc:X.calm=true):bD X (.builtin "all") (fy x9):=fun pins s σ H xs us Q I rs ⟨α,ds,st,K,G,F',P,r,S,q,k⟩=>by
 unfold x9 at q;split at q
 . rename_i ys;split at q
   . rename_i bs e;obtain⟨v,rfl,r1⟩:=gj r rfl;unfold Rep at r1;obtain⟨a,vs,rfl,na,h1,h2⟩:=r1;obtain⟨u,rfl,ru⟩:=vals1 rs;cases ru;have hv:=vc h2 e;subst hv;obtain⟨z,its,n,rv,hl,eo⟩:=Inv.uq I (fQ P h1);have hits:=uR rv;subst hits;have isL:s.heap.IsList a (bs.map Value.bool).toArray:=⟨_,eo,rfl,n,rfl⟩
     refine call_all_walk (wpAny_pyIter_list isL ?_);have hne:a≠s.heap.objs.size:=Nat.ne_of_lt (Heap.lt_size eo);refine⟨s.heap.objs.size,_,_,_,_,_,fun i=>(bs[i]?).getD true,rfl,Walks.list (A:=X.A.in1) (I.ok.hd hc) _ a hne (bs.map Value.bool).toArray,⟨⟨_,Heap.get?_push_size _ rfl,rfl,rfl⟩,⟨_,Heap.get?_push_of_some _ eo,rfl,n,rfl⟩⟩,?_,?_⟩
     . intro i w s' Q' E' hP hQ;rw[List.getElem?_toArray,List.getElem?_map]at hP;cases zb:bs[i]? with
       |none=>rw[zb]at hP;cases hP
       |some b=>
        rw[zb]at hP;cases hP;simp only[zb]at hQ;exact wpAny_truthy_bool hQ
     . intro h' tk hk
       have kp:∀b o,s.heap.get? b=some o->h'.get? b=some o:=fun b o q=>hk b o (by
        intro hb;have:b=s.heap.objs.size:=by simpa using hb
        exact absurd (Heap.lt_size q) (by rw[this];exact Nat.lt_irrefl _)) (Heap.get?_push_of_some _ q)
       have ea:(List.range (bs.map Value.bool).toArray.size).all (fun i=>(bs[i]?).getD true)=bs.all id:=by
        rw[List.size_toArray,List.length_map];exact range_all bs id _ fun i x e=>by rw[e];rfl
       rw[ea];exact⟨.bl (bs.all id),H,I.kept (t':=tk) kp,rfl,k.here P q S (by unfold Rep;rfl)⟩
   . exact q.elim
 . exact q.elim
def iS(st:af):D->Option String
 | .aH=>some "NoneType"
 | .bl _=>some "bool"
 | .int _=>some "int"
 | .str _=>some "str"
 | .lst _=>some "list"
 | .tup _=>some "tuple"
 | .ref n=>(match st[n]? with|some (.lst _)=>some "list"|_=>none)
 | .ty _=>none
@[simp] theorem Qo(st:af)(xs:List D):iS st (.lst xs)=some "list":=rfl
@[simp] theorem P_(st:af)(xs:List D):iS st (.tup xs)=some "tuple":=rfl
@[simp] theorem ty_int(st:af)(i:Int):iS st (.int i)=some "int":=rfl
@[simp] theorem Qp(st:af)(i:Bool):iS st (.bl i)=some "bool":=rfl
@[simp] theorem ty_str(st:af)(i:Str):iS st (.str i)=some "str":=rfl
@[simp] theorem PY(st:af):iS st .aH=some "NoneType":=rfl
def tX(t c:String):Bool:=t==c||(t=="bool"&&c=="int")
theorem yH{α:List (Option Addr)}{H:Hp}{st:af}{K:PySem.W.Frag}{d:D}{v:V}{t:String}(S:aR α st H)(r:Rep α H d v)(e:iS st d=some t):i0 K H v (.type t):=by
 cases d<;>unfold iS at e<;>try(cases e;done)
 . unfold Rep at r;cases e;subst r;exact .aH
 . unfold Rep at r;cases e;subst r;exact .bl _
 . unfold Rep at r;cases e;subst r;exact .int _
 . unfold Rep at r;cases e;subst r;exact .str _
 . simp only at e;split at e
   . rename_i z;cases e;obtain⟨a,ea,vs',h1,h2⟩:=S.gn z;have r':=c8 ea r;subst r';exact .lst h1
   . cases e
 . cases e;unfold Rep at r;obtain⟨a,vs,rfl,na,h1,h2⟩:=r;rcases h1 with h1|⟨o,h1⟩
   . exact .lst h1
   . exact .eQ h1
 . cases e;unfold Rep at r;obtain⟨a,vs,rfl,na,h1,h2⟩:=r;exact .tup h1
theorem Ba{G F H:Hp}{K:PySem.W.Frag}(P:bW G F H){x:V}{t:Value}(h:i0 K G x t):i0 K H x t:=by
 cases h with
 |aH=>exact .aH
 |bl x=>exact .bl x
 |int x=>exact .int x
 |str x=>exact .str x
 |sT x=>exact .sT x
 |lst e=>exact .lst (P.get e)
 |eQ e=>exact .eQ (P.get e)
 |tup e=>exact .tup (P.get e)
 |dK e=>exact .dK (P.get e)
 |dT e=>exact .dT (P.get e)
 |ins e a b c d f=>exact .ins (P.get e) a b c d f
def si:List String:=["NoneType","bool","int","str","list","tuple"]
def mZ:List String:=["bool","int","str","list","tuple"]
theorem AZ(K:PySem.W.Frag){t c:String}(ht:t∈si)(hc:c∈mZ):PySem.W.kitOne K (.type t) (.type c)=some (tX t c):=by
 simp only[si,mZ,List.mem_cons,List.not_mem_nil,or_false]at ht hc;rcases ht with rfl|rfl|rfl|rfl|rfl|rfl<;>rcases hc with rfl|rfl|rfl|rfl|rfl<;>with_unfolding_all rfl
theorem zS{st:af}{d:D}{t:String}(e:iS st d=some t):t∈si:=by
 cases d<;>unfold iS at e<;>first
  |(cases e;done)
  |(cases e;decide)
  |(simp only at e;split at e<;>cases e;decide)
theorem kitx_of{pins:List (Addr×Obj)}{σ:L2.St}{H:Hp}{s:Shared}{x:V}{u:Value}{t:String}(I:Inv X pins σ H s)(rx:RelV x u)(ty:i0 X.K H x (.type t)):
 ∃Hh:Heap->Prop,PySem.W.KitX X.K u (.type t) Hh/\Hh s.heap/\u≠ .builtin "__main__.__loader__#opaque":=by
 cases ty with
 |aH=>cases (show u=Value.none from rx);exact⟨_,PySem.W.kitx_none,True.intro,fun z=>nomatch z⟩
 |bl y=>cases (show u=Value.bool y from rx);exact⟨_,PySem.W.kitx_bool,True.intro,fun z=>nomatch z⟩
 |int i=>obtain⟨t,q⟩:=(show∃t,u=Value.int i t from rx);cases q;exact⟨_,PySem.W.kitx_int,True.intro,fun z=>nomatch z⟩
 |str y=>obtain⟨t,q⟩:=(show∃t,u=Value.str y t from rx);cases q;exact⟨_,PySem.W.kitx_str,True.intro,fun z=>nomatch z⟩
 |sT y=>obtain⟨t,q⟩:=(show∃t,u=Value.float y t from rx);cases q;exact⟨_,PySem.W.kitx_float,True.intro,fun z=>nomatch z⟩
 | @lst a xs ea=>
   cases (show u=Value.ref a from rx);obtain⟨_,_,n,_,h1⟩:=(show dh X.prog X.w H s.heap a (.lst xs)from I.aP a _ ea)
   exact⟨_,PySem.W.kitx_list,⟨_,h1,rfl⟩,fun z=>nomatch z⟩
 | @eQ a ob xs ea=>
   cases (show u=Value.ref a from rx);obtain⟨_,_,_,n,_,h1⟩:=(show dh X.prog X.w H s.heap a (.eQ ob (.lst xs))from I.aP a _ ea)
   exact⟨_,PySem.W.kitx_list,⟨_,h1,rfl⟩,fun z=>nomatch z⟩
 | @tup a xs ea=>
   cases (show u=Value.ref a from rx);obtain⟨_,_,_,p⟩:=(show dh X.prog X.w H s.heap a (.tup xs)from I.aP a _ ea)
   obtain⟨o,h1,h2,_⟩:=p;exact⟨_,PySem.W.kitx_tuple,⟨o,h1,h2⟩,fun z=>nomatch z⟩
 | @dK a kvs ea=>
   cases (show u=Value.ref a from rx);obtain⟨_,_,vs,_,p⟩:=(show dh X.prog X.w H s.heap a (.dK kvs)from I.aP a _ ea)
   obtain⟨o,es,ep,h1,h2,_⟩:=p;exact⟨_,PySem.W.kitx_dict,⟨o,h1,h2.1⟩,fun z=>nomatch z⟩
 | @dT a kvs ea=>
   cases (show u=Value.ref a from rx);obtain⟨_,_,xs,_,o,es,ep,h1,h2,_⟩:=(show dh X.prog X.w H s.heap a (.dT kvs)from I.aP a _ ea)
   exact⟨_,PySem.W.kitx_dict,⟨o,h1,h2.1⟩,fun z=>nomatch z⟩
def o4:List D->Option (List String)
 | []=>some []
 | .ty b::r=>(o4 r).map (b:: ·)
 |_::_=>none
theorem yK{α:List (Option Addr)}{H:Hp}:∀ {ds:List D} {vs:List V} {bs:List String},aL α H ds vs->o4 ds=some bs->vs=bs.map V.ty
 | [],vs,bs,r,e=>by
   unfold aL at r;cases e;exact r
 |d::ds,vs,bs,r,e=>by
  unfold aL at r;obtain⟨v,q,rfl,h1,h2⟩:=r;cases d<;>try(cases e;done)
  unfold o4 at e;cases z:o4 ds with
  |none=>rw[z]at e;cases e
  |some cs=>
   rw[z]at e;cases e;unfold Rep at h1;rw[h1,yK h2 z];rfl
theorem zX:∀ {bs:List String} {us:List Value},Vals (bs.map V.ty) us->us=bs.map Value.type
 | [],_,.nil=>rfl
 |b::bs,_,.cons h t=>by
  have h:_=Value.type b:=h;rw[h,zX t];rfl
theorem Bi(K:PySem.W.Frag){t:String}(ht:t∈si):∀cs:List String,(∀c∈cs,c∈mZ)->PySem.W.kitAny K (.type t) (cs.map Value.type)=some (cs.any (tX t))
 | [],_=>rfl
 |c::cs,h=>by
  show(match PySem.W.kitOne K (.type t) (.type c)with|some true=>some true|some false=>PySem.W.kitAny K (.type t) (cs.map Value.type)|none=>none)=_;rw[AZ K ht (h c List.mem_cons_self),List.any_cons];cases tX t c with
  |true=>rfl
  |false=>exact Bi K ht cs fun c hc=>h c (List.mem_cons_of_mem _ hc)
def xS:eL:=fun ds st K=>match ds with
 | [d,.ty c]=>(match iS st d with|some t=>c∈mZ/\K (.bl (tX t c)) st|none=>False)
 | [d,.tup cs]=>(match iS st d,o4 cs with|some t,some cl=>(∀c∈cl,c∈mZ)/\K (.bl (cl.any (tX t))) st|_,_=>False)
 |_=>False
theorem MR:bD X (.builtin "isinstance") (fy xS):=fun pins s σ H xs us Q I rs ⟨α,ds,st,K,G,F',P,r,S,q,k⟩=>by
 unfold xS at q;split at q
 . rename_i d c;split at q
   . rename_i t e;obtain⟨v,v2,rfl,r1,r2⟩:=ou r rfl;obtain⟨u,u2,rfl,ru,ru2⟩:=vals2 rs;unfold Rep at r2;subst r2;cases (show u2=Value.type c from ru2);exact DW I ru (Ba P (yH S r1 e)) (AZ _ (zS e) q.1) fun tk=>⟨.bl (tX t c),H,I.tok tk,rfl,k.here P q.2 S (by unfold Rep;rfl)⟩
   . exact q.elim
 . rename_i d cs;split at q
   . rename_i t cl e ec;obtain⟨v,v2,rfl,r1,r2⟩:=ou r rfl;obtain⟨u,u2,rfl,ru,ru2⟩:=vals2 rs;unfold Rep at r2;obtain⟨a,vs,rfl,na,h1,h2⟩:=r2;cases (show u2=Value.ref a from ru2);have hv:=yK h2 ec;subst hv;obtain⟨Hh,Z,hh,hne⟩:=kitx_of I ru (Ba P (yH S r1 e));obtain⟨its,r',pl,hz⟩:=I.tuple (iE.of (P.get h1));have hi:=zX r';subst hi;obtain⟨⟨cls,dd,data,sl⟩,ho,hc,n,hd⟩:=pl;simp only at hc hd;subst hc hd;exact PySem.W.kia_tup Z I.gI hh ho (Bi _ (zS e) cl q.1) hne fun tk=>⟨.bl _,H,I.tok tk,rfl,k.here P q.2 S (by unfold Rep;rfl)⟩
   . exact q.elim
 . exact q.elim
end
end L3
namespace L3
open PySem PySem.Spec L2 PySem.SeqAt
open PyProof.Rows hiding St
mutual
def cK:D->D->Bool
 | .aH,.aH=>true
 | .bl a,.bl b=>a==b
 | .bl a,.int b=>(if a then 1 else 0)==b
 | .int a,.bl b=>a==(if b then 1 else 0)
 | .int a,.int b=>a==b
 | .str a,.str b=>a==b
 | .lst xs,.lst ys=>kQ xs ys
 | .tup xs,.tup ys=>kQ xs ys
 |_,_=>false
def kQ:List D->List D->Bool
 | [],[]=>true
 |x::xs,y::ys=>cK x y&&kQ xs ys
 |_,_=>false
end
def pl:Nat->D->Bool
 |_,.aH=>true
 |_,.bl _=>true
 |_,.int _=>true
 |_,.str _=>true
 |n+1,.lst xs=>xs.all (pl n)
 |n+1,.tup xs=>xs.all (pl n)
 |_,_=>false
mutual
theorem jt:∀(n:Nat) (d:D),pl n d=true->cK d d=true
 |_,.aH,_=>rfl
 |_,.bl _,_=>by simp[cK]
 |_,.int _,_=>by simp[cK]
 |_,.str _,_=>by simp[cK]
 |n+1,.lst xs,h=>by unfold cK;exact rR n xs (by unfold pl at h;exact h)
 |n+1,.tup xs,h=>by unfold cK;exact rR n xs (by unfold pl at h;exact h)
 |0,.lst xs,h=>by cases h
 |0,.tup xs,h=>by cases h
 |_,.ref _,h=>by unfold pl at h;cases h
 |_,.ty _,h=>by unfold pl at h;cases h
theorem rR:∀(n:Nat) (xs:List D),xs.all (pl n)=true->kQ xs xs=true
 |_,[],_=>by unfold kQ;rfl
 |n,x::xs,h=>by
  rw[List.all_cons,Bool.and_eq_true]at h;unfold kQ;rw[jt n x h.1,rR n xs h.2];rfl
end
mutual
theorem Rep.inj{α:List (Option Addr)}{H:Hp}:∀ {d e:D} {v:V} (n:Nat),pl n d=true->pl n e=true->Rep α H d v->Rep α H e v->d=e
 | .aH,e,v,n,_,he,h1,h2=>by
   unfold Rep at h1;subst h1;cases e<;>first|(unfold pl at he;cases he;done)|(unfold Rep at h2;cases h2;rfl)|(unfold Rep at h2;cases h2;done)|(unfold Rep at h2;obtain⟨_,_,h2,_⟩:=h2;cases h2)|rfl|(cases h2;done)|(obtain⟨_,_,h2,_⟩:=h2;cases h2)|(obtain⟨_,_,h2⟩:=h2;cases h2)
 | .bl b,e,v,n,_,he,h1,h2=>by
   unfold Rep at h1;subst h1;cases e<;>first|(unfold pl at he;cases he;done)|(unfold Rep at h2;cases h2;rfl)|(unfold Rep at h2;cases h2;done)|(unfold Rep at h2;obtain⟨_,_,h2,_⟩:=h2;cases h2)|(cases h2;rfl)|(cases h2;done)|(obtain⟨_,_,h2,_⟩:=h2;cases h2)|(obtain⟨_,_,h2⟩:=h2;cases h2)
 | .int b,e,v,n,_,he,h1,h2=>by
   unfold Rep at h1;subst h1;cases e<;>first|(unfold pl at he;cases he;done)|(unfold Rep at h2;cases h2;rfl)|(unfold Rep at h2;cases h2;done)|(unfold Rep at h2;obtain⟨_,_,h2,_⟩:=h2;cases h2)|(cases h2;rfl)|(cases h2;done)|(obtain⟨_,_,h2,_⟩:=h2;cases h2)|(obtain⟨_,_,h2⟩:=h2;cases h2)
 | .str b,e,v,n,_,he,h1,h2=>by
   unfold Rep at h1;subst h1;cases e<;>first|(unfold pl at he;cases he;done)|(unfold Rep at h2;cases h2;rfl)|(unfold Rep at h2;cases h2;done)|(unfold Rep at h2;obtain⟨_,_,h2,_⟩:=h2;cases h2)|(cases h2;rfl)|(cases h2;done)|(obtain⟨_,_,h2,_⟩:=h2;cases h2)|(obtain⟨_,_,h2⟩:=h2;cases h2)
 | .ty b,e,v,n,hd,he,h1,h2=>by unfold pl at hd;cases hd
 | .ref b,e,v,n,hd,he,h1,h2=>by unfold pl at hd;cases hd
 | .lst xs,e,v,0,hd,he,h1,h2=>by cases hd
 | .tup xs,e,v,0,hd,he,h1,h2=>by cases hd
 | .lst xs,e,v,n+1,hd,he,h1,h2=>by
   unfold Rep at h1;obtain⟨a,vs,rfl,na,ha,ra⟩:=h1;cases e<;>unfold Rep at h2<;>try(cases h2;done)
   . unfold pl at he;cases he
   . obtain⟨a',vs',e',na',ha',ra'⟩:=h2;cases e'
     have:vs=vs':=by
      rcases ha with ha|⟨o,ha⟩<;>rcases ha' with ha'|⟨o',ha'⟩<;>(rw[ha]at ha';first|(cases ha';rfl)|(cases ha';done))
     subst this;rw[aL.inj n (by unfold pl at hd;exact hd) (by unfold pl at he;exact he) ra ra']
   . obtain⟨a',vs',e',na',ha',ra'⟩:=h2;cases e';rcases ha with ha|⟨o,ha⟩<;>(rw[ha]at ha';cases ha')
 | .tup xs,e,v,n+1,hd,he,h1,h2=>by
   unfold Rep at h1;obtain⟨a,vs,rfl,na,ha,ra⟩:=h1;cases e<;>unfold Rep at h2<;>try(cases h2;done)
   . unfold pl at he;cases he
   . obtain⟨a',vs',e',na',ha',ra'⟩:=h2;cases e';rcases ha' with ha'|⟨o,ha'⟩<;>(rw[ha]at ha';cases ha')
   . obtain⟨a',vs',e',na',ha',ra'⟩:=h2;cases e';rw[ha]at ha';cases ha';rw[aL.inj n (by unfold pl at hd;exact hd) (by unfold pl at he;exact he) ra ra']
theorem aL.inj{α:List (Option Addr)}{H:Hp}:∀ {ds es:List D} {vs:List V} (n:Nat),ds.all (pl n)=true->es.all (pl n)=true->aL α H ds vs->aL α H es vs->ds=es
 | [],es,vs,n,_,_,h1,h2=>by
   unfold aL at h1;subst h1;cases es with
   |nil=>rfl
   |cons e es=>unfold aL at h2;obtain⟨_,_,h,_⟩:=h2;cases h
 |d::ds,es,vs,n,hd,he,h1,h2=>by
  unfold aL at h1;obtain⟨v,r,rfl,r1,r2⟩:=h1;cases es with
  |nil=>unfold aL at h2;cases h2
  |cons e es=>
   unfold aL at h2;obtain⟨v',r',h,q1,q2⟩:=h2;cases h;rw[List.all_cons,Bool.and_eq_true]at hd he;rw[Rep.inj n hd.1 he.1 r1 q1,aL.inj n hd.2 he.2 r2 q2]
end
theorem nB:∀ {xs ys:List D},xs.length≠ys.length->kQ xs ys=false
 | [],[],h=>absurd rfl h
 | [],_::_,_=>by unfold kQ;rfl
 |_::_,[],_=>by unfold kQ;rfl
 |x::xs,y::ys,h=>by
  unfold kQ;rw[nB (by simpa using h),Bool.and_false]
theorem m6:∀ {xs ys:List D},xs.length=ys.length->kQ xs ys=(List.range xs.length).all fun j=>cK (xs.getD j .aH) (ys.getD j .aH)
 | [],[],_=>by unfold kQ;rfl
 | [],_::_,h=>by cases h
 |_::_,[],h=>by cases h
 |x::xs,y::ys,h=>by
  unfold kQ;rw[List.length_cons,List.range_succ_eq_map,List.all_cons,List.all_map,m6 (by simpa using h)];rfl
section
variable {X:Cx}{pins:List (Addr×Obj)}{σ:L2.St}{H:Hp}{s:Shared}{α:List (Option Addr)}
theorem jN{xs:List D}{vs:List V}{its:List Value}(r:aL α H xs vs)(v:Vals vs its)(j:Nat)(hj:j<its.length):∃x,xs[j]?=some (xs.getD j .aH)/\Rep α H (xs.getD j .aH) x/\RelV x its[j]:=by
 have h1:=r.length;have h2:=v.length;have hx:j<xs.length:=by omega
 have e:xs[j]?=some (xs.getD j .aH):=by rw[List.getElem?_eq_getElem hx,List.getD_eq_getElem?_getD,List.getElem?_eq_getElem hx];rfl
 obtain⟨x,q,rr⟩:=r.get e;obtain⟨u,q2,rv⟩:=v.get q;rw[List.getElem?_eq_getElem hj]at q2;cases q2;exact⟨x,e,rr,rv⟩
theorem iG{xs:List D}{n:Nat}(h:xs.all (pl n)=true)(j:Nat):pl n (xs.getD j .aH)=true:=by
 rw[List.getD_eq_getElem?_getD];cases e:xs[j]? with
 |none=>cases n<;>rfl
 |some d=>exact List.all_eq_true.mp h d (List.mem_of_getElem? e)
def xh:D->Bool
 | .aH=>true
 | .bl _=>true
 | .int _=>true
 | .str _=>true
 |_=>false
theorem Bh{A:Around}{d e:D}{x y:V}{u v:Value}(hd:xh d=true)(he:xh e=true)(rd:Rep α H d x)(re:Rep α H e y)(rx:RelV x u)(ry:RelV y v):RcAt A s u v (cK d e)/\EqAt A s u v (cK d e):=by
 cases d<;>cases e<;>try(first|(cases hd;done)|(cases he;done))
 all_goals(unfold Rep at rd re;subst rd re)
 all_goals(first|(obtain⟨t,rfl⟩:=rx;obtain⟨t',rfl⟩:=ry)|(obtain⟨t,rfl⟩:=rx;cases ry)|(cases rx;obtain⟨t,rfl⟩:=ry)|(cases rx;cases ry))
 all_goals unfold cK
 . exact⟨RcAt.none_none,EqAt.same _⟩
 . exact⟨RcAt.none_bool _,EqAt.none_bool _⟩
 . exact⟨RcAt.none_int _ _,EqAt.none_int _ _⟩
 . exact⟨RcAt.none_str _ _,EqAt.none_str _ _⟩
 . exact⟨RcAt.bool_none _,EqAt.bool_none _⟩
 . exact⟨RcAt.bool_bool _ _,EqAt.bool_bool _ _⟩
 . exact⟨RcAt.bool_int _ _ _,EqAt.bool_int _ _ _⟩
 . exact⟨RcAt.bool_str _ _ _,EqAt.bool_str _ _ _⟩
 . exact⟨RcAt.int_none _ _,EqAt.int_none _ _⟩
 . exact⟨RcAt.int_bool _ _ _,EqAt.int_bool _ _ _⟩
 . exact⟨RcAt.int_int _ _ _ _,EqAt.int_int _ _ _ _⟩
 . exact⟨RcAt.int_str _ _ _ _,EqAt.int_str _ _ _ _⟩
 . exact⟨RcAt.str_none _ _,EqAt.str_none _ _⟩
 . exact⟨RcAt.str_bool _ _ _,EqAt.str_bool _ _ _⟩
 . exact⟨RcAt.str_int _ _ _ _,EqAt.str_int _ _ _ _⟩
 . exact⟨RcAt.str_str _ _ _ _,EqAt.str_str _ _ _ _⟩
theorem lst_is(I:Inv X pins σ H s){xs:List D}{x:V}{u:Value}(r:Rep α H (.lst xs) x)(rx:RelV x u):∃a vs its,u= .ref a/\aL α H xs vs/\Vals vs its/\s.heap.IsList a its.toArray:=by
 unfold Rep at r;obtain⟨a,vs,rfl,na,ha,ra⟩:=r;cases rx;obtain⟨z,its,n,rv,hl,eo⟩:=Inv.uq I ha;exact⟨a,vs,its,rfl,ra,rv,⟨_,eo,rfl,n,rfl⟩⟩
theorem tup_is(I:Inv X pins σ H s){xs:List D}{x:V}{u:Value}(r:Rep α H (.tup xs) x)(rx:RelV x u):∃a vs its,u= .ref a/\aL α H xs vs/\Vals vs its/\s.heap.IsTuple a its.toArray:=by
 unfold Rep at r;obtain⟨a,vs,rfl,na,ha,ra⟩:=r;cases rx;obtain⟨its,r',p,hz⟩:=I.tuple (iE.of ha);exact⟨a,vs,its,rfl,ra,r',p⟩
theorem xj(I:Inv X pins σ H s){A:Around}{xs:List D}{e:D}{x y:V}{u v:Value}(he:xh e=true)(rd:Rep α H (.lst xs) x)(re:Rep α H e y)(rx:RelV x u)(ry:RelV y v)(hu:A.units<cLine):
 (RcAt A s u v (cK (.lst xs) e)/\EqAt A s u v (cK (.lst xs) e))/\RcAt A s v u (cK e (.lst xs))/\EqAt A s v u (cK e (.lst xs)):=by
 obtain⟨a,vs,its,rfl,_,_,hl⟩:=lst_is I rd rx;cases e<;>try(cases he;done)
 all_goals(unfold Rep at re;subst re)
 all_goals(first|(obtain⟨t,rfl⟩:=ry)|(cases ry))
 all_goals unfold cK
 . exact⟨⟨RcAt.list_none hl hu,EqAt.list_none hl hu⟩,RcAt.none_list hl hu,EqAt.none_list hl hu⟩
 . exact⟨⟨RcAt.list_bool _ hl hu,EqAt.list_bool _ hl hu⟩,RcAt.bool_list _ hl hu,EqAt.bool_list _ hl hu⟩
 . exact⟨⟨RcAt.list_int _ _ hl hu,EqAt.list_int _ _ hl hu⟩,RcAt.int_list _ _ hl hu,EqAt.int_list _ _ hl hu⟩
 . exact⟨⟨RcAt.list_str _ _ hl hu,EqAt.list_str _ _ hl hu⟩,RcAt.str_list _ _ hl hu,EqAt.str_list _ _ hl hu⟩
theorem xo(I:Inv X pins σ H s){A:Around}{xs:List D}{e:D}{x y:V}{u v:Value}(he:xh e=true)(rd:Rep α H (.tup xs) x)(re:Rep α H e y)(rx:RelV x u)(ry:RelV y v)(hu:A.units<cLine):
 (RcAt A s u v (cK (.tup xs) e)/\EqAt A s u v (cK (.tup xs) e))/\RcAt A s v u (cK e (.tup xs))/\EqAt A s v u (cK e (.tup xs)):=by
 obtain⟨a,vs,its,rfl,_,_,hl⟩:=tup_is I rd rx;cases e<;>try(cases he;done)
 all_goals(unfold Rep at re;subst re)
 all_goals(first|(obtain⟨t,rfl⟩:=ry)|(cases ry))
 all_goals unfold cK
 . exact⟨⟨RcAt.tuple_none hl hu,EqAt.tuple_none hl hu⟩,RcAt.none_tuple hl hu,EqAt.none_tuple hl hu⟩
 . exact⟨⟨RcAt.tuple_bool _ hl hu,EqAt.tuple_bool _ hl hu⟩,RcAt.bool_tuple _ hl hu,EqAt.bool_tuple _ hl hu⟩
 . exact⟨⟨RcAt.tuple_int _ _ hl hu,EqAt.tuple_int _ _ hl hu⟩,RcAt.int_tuple _ _ hl hu,EqAt.int_tuple _ _ hl hu⟩
 . exact⟨⟨RcAt.tuple_str _ _ hl hu,EqAt.tuple_str _ _ hl hu⟩,RcAt.str_tuple _ _ hl hu,EqAt.str_tuple _ _ hl hu⟩
theorem Bd{A:Around}{n:Nat}{d e:D}{x y:V}{a b:Addr}(hd:pl n d=true)(he:pl n e=true)(rd:Rep α H d x)(re:Rep α H e y)(rx:RelV x (.ref a))(ry:RelV y (.ref b))(h:RcAt A s (.ref a) (.ref b) (cK d e)):
 RcAt A s (.ref a) (.ref b) (cK d e)/\EqAt A s (.ref a) (.ref b) (cK d e):=by
 refine⟨h,?_⟩;by_cases hab:a=b
 . subst hab;have hx:x=y:=RelV.inj rx ry;subst hx;have:=Rep.inj n hd he rd re;subst this;rw[jt n d hd];exact EqAt.same _
 . exact EqAt.of_refs hab h
theorem BR(I:Inv X pins σ H s):∀(n:Nat) (A:Around) (d e:D) (x y:V) (u v:Value),pl n d=true->pl n e=true->Rep α H d x->Rep α H e y->RelV x u->RelV y v->A.units+n<cLine->
 RcAt A s u v (cK d e)/\EqAt A s u v (cK d e):=by
 intro n;induction n with
 |zero=>
  intro A d e x y u v hd he rd re rx ry hu;refine Bh ?_ ?_ rd re rx ry
  . cases d<;>first|rfl|(cases hd)
  . cases e<;>first|rfl|(cases he)
 |succ n ih=>
  intro A d e x y u v hd he rd re rx ry hu;have hu0:A.units<cLine:=by omega
  have hin:A.in1.units+n<cLine:=by rw[Around.in1_units];omega
  cases d<;>try(cases hd;done)
  case lst xs=>
   cases e<;>try(cases he;done)
   case lst ys=>
    have rd0:=rd;have re0:=re;have rx0:=rx;have ry0:=ry;obtain⟨a,vs,its,rfl,r1,v1,l1⟩:=lst_is I rd rx;obtain⟨b,ws,jts,rfl,r2,v2,l2⟩:=lst_is I re ry;have e1:=r1.length;have e2:=v1.length;have e3:=r2.length;have e4:=v2.length;refine Bd hd he rd0 re0 rx0 ry0 ?_;unfold cK;by_cases hlen:xs.length=ys.length
    . rw[m6 hlen];have hsz:its.toArray.size=jts.toArray.size:=by simp only[List.size_toArray];omega
      have hx:xs.length=its.toArray.size:=by simp only[List.size_toArray];omega
      rw[hx];refine RcAt.lists l1 l2 hsz hu0 fun j h1 h2=>?_;have h1':j<its.length:=by simpa using h1
      have h2':j<jts.length:=by simpa using h2
      obtain⟨p,_,q1,q2⟩:=jN r1 v1 j h1';obtain⟨p',_,q1',q2'⟩:=jN r2 v2 j h2';exact(ih A.in1 _ _ p p' _ _ (iG (by unfold pl at hd;exact hd) j) (iG (by unfold pl at he;exact he) j) q1 q1' (by simpa using q2) (by simpa using q2') hin).2
    . rw[nB hlen];exact RcAt.lists_lengths l1 l2 (by simp only[List.size_toArray,bne_iff_ne,ne_eq];omega) hu0
   case tup ys=>
    obtain⟨a,vs,its,rfl,r1,v1,l1⟩:=lst_is I rd rx;obtain⟨b,ws,jts,rfl,r2,v2,l2⟩:=tup_is I re ry;unfold cK;exact⟨RcAt.list_tuple l1 l2 hu0,EqAt.list_tuple l1 l2 hu0⟩
   all_goals exact(xj I rfl rd re rx ry hu0).1
  case tup xs=>
   cases e<;>try(cases he;done)
   case tup ys=>
    have rd0:=rd;have re0:=re;have rx0:=rx;have ry0:=ry;obtain⟨a,vs,its,rfl,r1,v1,l1⟩:=tup_is I rd rx;obtain⟨b,ws,jts,rfl,r2,v2,l2⟩:=tup_is I re ry;have e1:=r1.length;have e2:=v1.length;have e3:=r2.length;have e4:=v2.length;refine Bd hd he rd0 re0 rx0 ry0 ?_;unfold cK
    have key:=RcAt.tuples (e:=fun j=>cK (xs.getD j .aH) (ys.getD j .aH)) l1 l2 hu0 fun j h1 h2=>by
     have h1':j<its.length:=by simpa using h1
     have h2':j<jts.length:=by simpa using h2
     obtain⟨p,_,q1,q2⟩:=jN r1 v1 j h1';obtain⟨p',_,q1',q2'⟩:=jN r2 v2 j h2';exact(ih A.in1 _ _ p p' _ _ (iG (by unfold pl at hd;exact hd) j) (iG (by unfold pl at he;exact he) j) q1 q1' (by simpa using q2) (by simpa using q2') hin).2
    by_cases hlen:xs.length=ys.length
    . rw[m6 hlen];have hsz:its.toArray.size=jts.toArray.size:=by simp only[List.size_toArray];omega
      have hx:xs.length=its.toArray.size:=by simp only[List.size_toArray];omega
      rw[hsz,Nat.min_self,beq_self_eq_true,Bool.and_true,<-hsz,<-hx]at key;exact key
    . rw[nB hlen];have hne:(its.toArray.size==jts.toArray.size)=false:=by simp only[List.size_toArray,beq_eq_false_iff_ne,ne_eq];omega
      rw[hne,Bool.and_false]at key;exact key
   case lst ys=>
    obtain⟨a,vs,its,rfl,r1,v1,l1⟩:=tup_is I rd rx;obtain⟨b,ws,jts,rfl,r2,v2,l2⟩:=lst_is I re ry;unfold cK;exact⟨RcAt.tuple_list l1 l2 hu0,EqAt.tuple_list l1 l2 hu0⟩
   all_goals exact(xo I rfl rd re rx ry hu0).1
  all_goals
   cases e<;>try(cases he;done)
   case lst ys=>exact(xj I rfl re rd ry rx hu0).2
   case tup ys=>exact(xo I rfl re rd ry rx hu0).2
   all_goals exact Bh rfl rfl rd re rx ry
def J4:cR:=fun x y st K=>pl 40 x=true/\pl 40 y=true/\K (.bl (cK x y)) st
theorem OP{k:Nat}(hr:cP k X.A):bM X (compareOp .Eq) (LR J4):=fun pins s σ H x y v u Q I rx ry ⟨α,d,e,st,K,G,F',P,r1,r2,S,q,k⟩=>by
 have hu:=hr.units;exact(BR I 40 X.A d e x y v u q.1 q.2.1 (r1.mono P.same) (r2.mono P.same) rx ry (by omega)).1 _ _ _ _ ⟨.bl (cK d e),H,I,rfl,k.here P q.2.2 S (by unfold Rep;rfl)⟩
def KW:cR:=fun x y st K=>match x,y with
 | .int i,.int j=>K (.bl (!decide (i=j))) st
 | .bl i,.bl j=>K (.bl (!decide (i=j))) st
 | .str i,.str j=>K (.bl (!decide (i=j))) st
 |_,_=>False
theorem Pe:bM X (compareOp .NotEq) (LR KW):=bM.imp NO fun x y H Q ⟨α,d,e,st,K,G,F',P,r1,r2,S,q,k⟩=>by
 cases d<;>cases e<;>try exact q.elim
 all_goals(unfold Rep at r1 r2;subst r1 r2)
 . exact⟨rfl,k.here P q S (by unfold Rep;congr 2;exact decide_eq_decide.mpr ⟨fun h=>by cases h;rfl,fun h=>by rw[h]⟩)⟩
 . exact⟨rfl,k.here P q S (by unfold Rep;congr 2;exact decide_eq_decide.mpr ⟨fun h=>by cases h;rfl,fun h=>by rw[h]⟩)⟩
 . exact⟨rfl,k.here P q S (by unfold Rep;congr 2;exact decide_eq_decide.mpr ⟨fun h=>by cases h;rfl,fun h=>by rw[h]⟩)⟩
end
end L3
namespace L3
open PySem PySem.Spec L2
open PyProof.Rows hiding St
def LC(α:List (Option Addr))(G F:Hp)(K:bV->af->Prop)(Q:L2.St->Hp->Prop):Prop:=∀σd' st',K σd' st'->∀α' G' H' σ',Step α G α' G'->bW G' F H'->dQ α' G' σd' σ'->aR α' st' G'->Q σ' H'
structure x4(α:List (Option Addr))(G F:Hp)(DD:mK)(D:Ends):Prop where
 nx:LC α G F DD.nx D.nx
 rt:LK α G F DD.rt D.rt
 bk:LC α G F DD.bk D.bk
 ct:LC α G F DD.ct D.ct
inductive OI(t:DS)(D:Ends)(σ:L2.St)(H:Hp):Prop
 |mk (α:List (Option Addr)) (σd:bV) (st:af) (DD:mK) (G F:Hp) (P:bW G F H) (R:dQ α G σd σ) (S:aR α st G) (h:t DD σd st) (k:x4 α G F DD D):OI t D σ H
def LS(t:DS):TS:=OI t
theorem LC.at{α α1:List (Option Addr)}{G F G1:Hp}{K:bV->af->Prop}{Q:L2.St->Hp->Prop}(h:LC α G F K Q)(s:Step α G α1 G1):LC α1 G1 F K Q:=fun d st' k α' G' H' v s' P R S=>h d st' k α' G' H' v (s.trans s') P R S
theorem LC.here{α:List (Option Addr)}{G F H:Hp}{K:bV->af->Prop}{Q:L2.St->Hp->Prop}(h:LC α G F K Q)(P:bW G F H){σd:bV}{st:af}{σ:L2.St}(k:K σd st)(R:dQ α G σd σ)(S:aR α st G):Q σ H:=h σd st k α G H σ Step.refl P R S
theorem x4.at{α α1:List (Option Addr)}{G F G1:Hp}{DD:mK}{D:Ends}(h:x4 α G F DD D)(s:Step α G α1 G1):x4 α1 G1 F DD D:=⟨h.nx.at s,h.rt.at s,h.bk.at s,h.ct.at s⟩
section
variable {X:Cx}{a b c e o i:Expr}{es:List Expr}{ta tb tc te:DE}{pos:Pos}{st:Stmt}{sts:List Stmt}{t u:DS}
theorem PS.imp{t t':TS}(h:PS X st t)(f:∀D σ H,t' D σ H->t D σ H):PS X st t':=fun pins s σ H D I q=>h pins s σ H D I (f D σ H q)
theorem gG.imp{t t':TS}(h:gG X sts t)(f:∀D σ H,t' D σ H->t D σ H):gG X sts t':=fun pins s σ H D I q=>h pins s σ H D I (f D σ H q)
def cJ:DS:=fun D σ st=>D.nx σ st
def aF(t u:DS):DS:=fun D σ st=>t {D with nx:=u D} σ st
theorem JH:gG X [] (LS cJ):=gG.imp Jb fun D σ H ⟨α,σd,st,DD,G,F,P,R,S,t,k⟩=>k.nx.here P t R S
theorem IU(h:PS X st (LS t)):gG X [st] (LS t):=Ib h
theorem FP(h:PS X st (LS t))(h2:gG X sts (LS u)):gG X (st::sts) (LS (aF t u)):=gG.imp (FA h h2) fun D σ H ⟨α,σd,st,DD,G,F,P,R,S,t,k⟩=>
 ⟨α,σd,st,_,G,F,P,R,S,t,fun σd' st' q α' G' H' σ' s' P' R' S'=>⟨α',σd',st',DD,G',F,P',R',S',q,k.at s'⟩,k.rt,k.bk,k.ct⟩
def bc(te:DE):DS:=fun D σ st=>te σ st D.rt
theorem Mr(h:PE X e (LE te)):PS X (.Return (some e) pos) (LS (bc te)):=PS.imp (J9 h) fun D σ H ⟨α,σd,st,DD,G,F,P,R,S,t,k⟩=>⟨α,σd,st,_,G,F,P,R,S,t,k.rt⟩
def lb(te:DE):DS:=fun D σ st=>te σ st fun _ st1=>D.nx σ st1
theorem IY(h:PE X e (LE te))(hs:swapsWith e none pos.line X.env=pure false:=by rfl):PS X (.Expr e pos) (LS (lb te)):=PS.imp (HJ h hs) fun D σ H ⟨α,σd,st,DD,G,F,P,R,S,t,k⟩=>
 ⟨α,σd,st,_,G,F,P,R,S,t,fun d st1 q α1 G1 H1 v s1 P1 S1 r1=>(k.nx.at s1).here P1 q (R.step s1) S1⟩
def dN(c:DT)(t u:DS):DS:=fun D σ st=>c σ st fun b st1=>if b=true then t D σ st1 else u D σ st1
theorem NV{x y:List Stmt}{tc:DT}(hc:PT X c (LT tc))(ha:gG X x (LS t))(hb:gG X y (LS u)):PS X (.If c x y pos) (LS (dN tc t u)):=PS.imp (N4 hc ha hb) fun D σ H ⟨α,σd,st,DD,G,F,P,R,S,t,k⟩=>by
 refine⟨α,σd,st,_,G,F,P,R,S,t,fun b st1 q α1 G1 H1 s1 P1 S1=>?_⟩;cases b with
 |true=>exact⟨α1,σd,st1,DD,G1,F,P1,R.step s1,S1,q,k.at s1⟩
 |false=>exact⟨α1,σd,st1,DD,G1,F,P1,R.step s1,S1,q,k.at s1⟩
abbrev fA:=D->bV->Option bV
def bp(i:Nat):fA:=fun d σ=>some (σ.set i (some d))
def km(i j:Nat):fA:=fun d σ=>match d with| .tup [x,y]=>some ((σ.set i (some x)).set j (some y))|_=>none
inductive Of(t:fA)(v:V)(σ:L2.St)(H:Hp)(Q:L2.St->Hp->Prop):Prop
 |mk (α:List (Option Addr)) (σd:bV) (st:af) (d:D) (K:bV->af->Prop) (G F:Hp) (P:bW G F H) (R:dQ α G σd σ) (S:aR α st G) (r:Rep α G d v) (h:∃σ',t d σd=some σ'/\K σ' st) (k:LC α G F K Q):Of t v σ H Q
def LG(t:fA):TG:=Of t
theorem PG.imp{tg:Expr}{t t':TG}(h:PG X tg t)(f:∀v σ H Q,t' v σ H Q->t v σ H Q):PG X tg t':=fun pins s σ H v u Q I r q=>h pins s σ H v u Q I r (f v σ H Q q)
theorem Iu{tg:Expr}{i:Nat}(h:PG X tg (mL i)):PG X tg (LG (bp i)):=PG.imp h fun v σ H Q ⟨α,σd,st,d,K,G,F,P,R,S,r,⟨σ',e,q⟩,k⟩=>by
 cases e;exact k.here P q (R.set i r) S
theorem Mh{tg:Expr}{i j:Nat}(h:PG X tg (JX X.K 2 (BC (mL i) (BC (mL j) ME)))):PG X tg (LG (km i j)):=PG.imp h fun v σ H Q ⟨α,σd,st,d,K,G,F,P,R,S,r,⟨σ',e,q⟩,k⟩=>by
 unfold km at e;split at e
 . rename_i x y;cases e;unfold Rep at r;obtain⟨a,vs,rfl,na,h1,h2⟩:=r;obtain⟨v1,v2,rfl,r1,r2⟩:=ou h2 rfl;exact⟨a,_,rfl,.of (P.get h1),rfl,v1,_,rfl,v2,_,rfl,rfl,k.here P q ((R.set i r1).set j r2) S⟩
 . cases e
def a9(i:Nat)(te:DE):DS:=fun D σ st=>te σ st fun d st1=>D.nx (σ.set i (some d)) st1
theorem JR{i:Nat}(h:PS X st (oR (LE te) (mL i))):PS X st (LS (a9 i te)):=PS.imp h fun D σ H ⟨α,σd,st,DD,G,F,P,R,S,t,k⟩=>
 ⟨α,σd,st,_,G,F,P,R,S,t,fun d st1 q α1 G1 H1 v s1 P1 S1 r1=>(k.nx.at s1).here P1 q ((R.step s1).set i r1) S1⟩
def FH(tg:fA)(te:DE):DS:=fun D σ st=>te σ st fun d st1=>∃σ',tg d σ=some σ'/\D.nx σ' st1
theorem Md{tg:fA}(h:PS X st (oR (LE te) (LG tg))):PS X st (LS (FH tg te)):=PS.imp h fun D σ H ⟨α,σd,st,DD,G,F,P,R,S,t,k⟩=>
 ⟨α,σd,st,_,G,F,P,R,S,t,fun d st1 q α1 G1 H1 v s1 P1 S1 r1=>⟨α1,σd,st1,d,DD.nx,G1,F,P1,R.step s1,S1,r1,q,k.nx.at s1⟩⟩
def Bu(i:Nat)(r:cR)(te:DE):DS:=fun D σ st=>match σ[i]? with|some (some x)=>te σ st fun y st1=>r x y st1 fun z st2=>D.nx (σ.set i (some z)) st2|_=>False
def zM(f:Int->Int->Int):cR:=fun x y st K=>match x,y with| .int i,.int j=>K (.int (f i j)) st|_,_=>False
theorem Mt{i:Nat}{f:Int->Int->Int}(h:PS X st (Kx i (LE te) (Lp f))):PS X st (LS (Bu i (zM f) te)):=PS.imp h fun D σ H ⟨α,σd,st,DD,G,F,P,R,S,t,k⟩=>by
 unfold Bu at t;split at t
 . rename_i x e;obtain⟨v,ev,rv⟩:=R.at' i x e;refine⟨v,ev,α,σd,st,_,G,F,P,R,S,t,fun y st1 q α1 G1 H1 w s1 P1 S1 r1=>?_⟩;cases x<;>cases y<;>try exact q.elim
   have rv':=rv;unfold Rep at rv r1;exact⟨_,_,rv,r1,(k.nx.at s1).here P1 q ((R.step s1).set i (by unfold Rep;rfl)) S1⟩
 . exact t.elim
def Ck(x y d:D)(st:af)(K:af->Prop):Prop:=match x,y with
 | .ref n,.int k=>(match st[n]? with
   |some (.lst xs)=>(match mr xs.length k with|some j=>K (st.set n (.lst (xs.set j d)))|none=>False)
   |_=>False)
 |_,_=>False
def Ln(to ti te:DE):DS:=fun D σ st=>te σ st fun d st1=>to σ st1 fun x st2=>ti σ st2 fun y st3=>Ck x y d st3 fun st4=>D.nx σ st4
theorem E_{to ti:DE}(h:PS X st (oR (LE te) (Cj (LE to) (LE ti) ya))):PS X st (LS (Ln to ti te)):=PS.imp h fun D σ H ⟨α,σd,st,DD,G,F,P,R,S,t,k⟩=>by
 refine⟨α,σd,st,_,G,F,P,R,S,t,fun d st1 q α1 G1 H1 v s1 P1 S1 r1=>?_⟩;refine⟨α1,σd,st1,_,G1,F,P1,R.step s1,S1,q,fun x st2 q2 α2 G2 H2 v2 s2 P2 S2 r2=>?_⟩;refine⟨α2,σd,st2,_,G2,F,P2,(R.step s1).step s2,S2,q2,fun y st3 q3 α3 G3 H3 v3 s3 P3 S3 r3=>?_⟩;cases x<;>cases y<;>try exact q3.elim
 rename_i n kk;unfold Ck at q3;simp only at q3;split at q3
 . rename_i xs e;split at q3
   . rename_i j ej;obtain⟨p,ep,vs,hv,rv⟩:=S3.gn e;have r2':=c8 ep (r2.step s3);subst r2';unfold Rep at r3;have hm:some p∈α3:=List.mem_of_getElem? ep;have rd:=(r1.step s2).step s3;refine⟨p,vs,kk,j,rfl,r3,P3.get hv,by rw[<-rv.length];exact ej,?_⟩;refine(((k.nx.at s1).at s2).at s3) σd _ q3 α3 (upd G3 p (.lst (vs.set j v))) _ σ (Step.write hm) (P3.write hv) ((((R.step s1).step s2).step s3).step (Step.write hm)) ?_;exact S3.write ep ⟨vs.set j v,aY,(a7.mpr (uI rd j (a7.mp rv))).step (Step.write hm)⟩
   . exact q3.elim
 . exact q3.elim
def pG(c:DT)(tb:DS):DS:=fun D σ st=>∃W:Nat->bV->af->Prop,(∃m,W m σ st)/\∀m σ st,W m σ st->
 c σ st fun b st1=>if b=true then tb {D with nx:=fun σ' st'=>∃m',m'<m/\W m' σ' st',ct:=fun σ' st'=>∃m',m'<m/\W m' σ' st',bk:=D.nx} σ st1 else D.nx σ st1
theorem FI{tc:DT}(h:PS X st (C8 (LT tc) (LS t))):PS X st (LS (pG tc t)):=PS.imp h fun D σ H ⟨α,σd,st,DD,G,F,P,R,S,⟨W,⟨m0,w0⟩,turn⟩,k⟩=>by
 refine⟨fun m σ' H'=>∃α' σd' st' G',Step α G α' G'/\bW G' F H'/\dQ α' G' σd' σ'/\aR α' st' G'/\W m σd' st',⟨m0,α,σd,st,G,Step.refl,P,R,S,w0⟩,?_⟩;rintro m σ1 H1 ⟨α1,σd1,st1,G1,s1,P1,R1,S1,w1⟩;refine⟨α1,σd1,st1,_,G1,F,P1,R1,S1,turn m σd1 st1 w1,fun b st2 q α2 G2 H2 s2 P2 S2=>?_⟩;cases b with
 |false=>exact((k.nx.at s1).at s2).here P2 q (R1.step s2) S2
 |true=>
  refine⟨fun σ' H'=>∃m',m'<m/\∃α' σd' st' G',Step α G α' G'/\bW G' F H'/\dQ α' G' σd' σ'/\aR α' st' G'/\W m' σd' st',fun σ' H' z=>z,?_⟩;refine⟨α2,σd1,st2,_,G2,F,P2,R1.step s2,S2,q,?_⟩;refine⟨?_,(k.rt.at s1).at s2,(k.nx.at s1).at s2,?_⟩
  . rintro σd3 st3 ⟨m',hm,w3⟩ α3 G3 H3 σ3 s3 P3 R3 S3;exact⟨m',hm,α3,σd3,st3,G3,(s1.trans s2).trans s3,P3,R3,S3,w3⟩
  . rintro σd3 st3 ⟨m',hm,w3⟩ α3 G3 H3 σ3 s3 P3 R3 S3;exact⟨m',hm,α3,σd3,st3,G3,(s1.trans s2).trans s3,P3,R3,S3,w3⟩
abbrev DI:=bV->af->(List D->(af->Prop)->af->Prop)->Prop
structure tW(J:It)(α:List (Option Addr))(G:Hp)(ok:af->Prop)(xs:List D):Prop where
 stop:∀(n:Nat) α' G' F' H' st',Step α G α' G'->bW G' F' H'->aR α' st' G'->ok st'->xs.length<=n->J.stop n H'
 go:∀(n:Nat) d α' G' F' H' st',Step α G α' G'->bW G' F' H'->aR α' st' G'->ok st'->xs[n]?=some d->J.go n H'
 nQ:∀(n:Nat) d α' G' F' H' st' x H'',Step α G α' G'->bW G' F' H'->aR α' st' G'->ok st'->xs[n]?=some d->J.nQ n H' x H''->∃G'',Step α' G' α' G''/\bW G'' F' H''/\aR α' st' G''/\Rep α' G'' d x
def LI(t:DI):TI:=fun σ H R=>∃α σd st K G F,bW G F H/\dQ α G σd σ/\aR α st G/\t σd st K/\∀xs ok st1,K xs ok st1->∀J α1 G1 H1,Step α G α1 G1->bW G1 F H1->aR α1 st1 G1->tW J α1 G1 ok xs->R J H1
def wx(d:D)(st1:af)(K:List D->(af->Prop)->af->Prop):Prop:=match d with
 | .lst xs=>K xs (fun _=>True) st1
 | .tup xs=>K xs (fun _=>True) st1
 | .ref n=>(match st1[n]? with|some (.lst xs)=>K xs (fun st'=>st'[n]?=some (.lst xs)) st1|_=>False)
 |_=>False
def MT(t:DE):DI:=fun σ st K=>t σ st fun d st1=>wx d st1 K
theorem Bg{K:PySem.W.Frag}{a:Addr}{α:List (Option Addr)}{G:Hp}{ok:af->Prop}{xs:List D}
 (h:∀α' G' st',Step α G α' G'->aR α' st' G'->ok st'->∃vs,Rd G' a (.lst vs)/\aL α' G' xs vs):tW (LF K a) α G ok xs where
 stop:=fun n α' G' F' H' st' s P S o hn=>by
  obtain⟨vs,h1,h2⟩:=h α' G' st' s S o;exact⟨vs,.inl (fQ P h1),by rw[<-h2.length];exact hn⟩
 go:=fun n d α' G' F' H' st' s P S o hn=>by
  obtain⟨vs,h1,h2⟩:=h α' G' st' s S o;obtain⟨v,e,_⟩:=h2.get hn;exact⟨vs,v,.inl (fQ P h1),e⟩
 nQ:=fun n d α' G' F' H' st' x H'' s P S o hn y=>by
  obtain⟨vs,h1,h2⟩:=h α' G' st' s S o;obtain⟨v,e,r⟩:=h2.get hn;obtain⟨rfl,y⟩:=y;have:=y vs (.inl (fQ P h1));rw[e]at this;cases this;exact⟨G',Step.refl,P,S,r⟩
theorem KR{K:PySem.W.Frag}{a:Addr}{α:List (Option Addr)}{G:Hp}{ok:af->Prop}{xs:List D}
 (h:∀α' G' st',Step α G α' G'->aR α' st' G'->ok st'->∃vs,G' a=some (.tup vs)/\aL α' G' xs vs):tW (Ka K a) α G ok xs where
 stop:=fun n α' G' F' H' st' s P S o hn=>by
  obtain⟨vs,h1,h2⟩:=h α' G' st' s S o;exact⟨vs,.of (P.get h1),by rw[<-h2.length];exact hn⟩
 go:=fun n d α' G' F' H' st' s P S o hn=>by
  obtain⟨vs,h1,h2⟩:=h α' G' st' s S o;obtain⟨v,e,_⟩:=h2.get hn;exact⟨vs,v,.of (P.get h1),e⟩
 nQ:=fun n d α' G' F' H' st' x H'' s P S o hn y=>by
  obtain⟨vs,h1,h2⟩:=h α' G' st' s S o;obtain⟨v,e,r⟩:=h2.get hn;obtain⟨rfl,y⟩:=y;have:=y vs (.of (P.get h1));rw[e]at this;cases this;exact⟨G',Step.refl,P,S,r⟩
theorem FF{α α':List (Option Addr)}{G G':Hp}{a:Addr}{vs:List V}{xs:List D}(s:Step α G α' G')(na:some a∉α)(h1:Rd G a (.lst vs))(h2:aL α G xs vs):Rd G' a (.lst vs)/\aL α' G' xs vs:=by
 refine⟨?_,h2.step s⟩;rcases h1 with h|⟨o,h⟩
 . exact .inl (s.ext _ _ na h)
 . exact .inr ⟨o,s.ext _ _ na h⟩
theorem Kf{l tg:Expr}{tl:DE}(hl:PE X l (LE tl)):PI X tg l (LI (MT tl)):=by
 intro pins s σ H R I h;obtain⟨α,σd,st,K,G,F,P,RS,S,t,k⟩:=h;refine bO (hl pins s σ H (fun x H1=>∃d α1 G1 st1,Step α G α1 G1/\bW G1 F H1/\aR α1 st1 G1/\Rep α1 G1 d x/\wx d st1 K) I ⟨α,σd,st,_,G,F,P,RS,S,t,fun d st1 q α1 G1 H1 v s1 P1 S1 r1=>⟨d,α1,G1,st1,s1,P1,S1,r1,q⟩⟩) fun v s1 ⟨x,H1,I1,rx,d,α1,G1,st1,s1',P1,S1,r1,q⟩=>?_;unfold wx at q
 have viaL:∀ {a:Addr} {vs:List V},x= .ref a->Rd H1 a (.lst vs)->R (LF X.K a) H1->wpAny (model X.prog X.w) X.A (pyIter v) (Hm X pins σ tg R) X.xe s1:=by
  intro a vs ex hr hR;subst ex;cases rx;obtain⟨its,rv,p,hz⟩:=I1.list (.inl hr);refine wpAny_pyIter_list p.isList ?_;refine⟨s1.heap.objs.size,[s1.heap.objs.size],_,_,H1,rfl,I1.kept (t':=s1.toks) fun b o e=>Heap.get?_push_of_some _ e,CT a _,⟨_,Heap.get?_push_size _ rfl,rfl,rfl⟩,fun b hb=>?_,hR⟩;have e:b=s1.heap.objs.size:=by simpa using hb
  subst e;exact I1.uo (Nat.le_refl _) (I1.aP.fresh (Nat.le_refl _))
 have viaT:∀ {a:Addr} {vs:List V},x= .ref a->H1 a=some (.tup vs)->R (Ka X.K a) H1->wpAny (model X.prog X.w) X.A (pyIter v) (Hm X pins σ tg R) X.xe s1:=by
  intro a vs ex hr hR;subst ex;cases rx;obtain⟨its,rv,p,hz⟩:=I1.tuple (iE.of hr);refine wpAny_pyIter_tuple (show s1.heap.IsTuple a its.toArray from p) ?_;refine⟨s1.heap.objs.size,[s1.heap.objs.size],_,_,H1,rfl,I1.kept (t':=s1.toks) fun b o e=>Heap.get?_push_of_some _ e,Cv a _,⟨_,Heap.get?_push_size _ rfl,rfl,rfl⟩,fun b hb=>?_,hR⟩;have e:b=s1.heap.objs.size:=by simpa using hb
  subst e;exact I1.uo (Nat.le_refl _) (I1.aP.fresh (Nat.le_refl _))
 cases d<;>try exact q.elim
 . rename_i n;simp only at q;split at q
   . rename_i xs e;obtain⟨a,ea,vs,h1,h2⟩:=S1.gn e;have r1':=c8 ea r1;subst r1';refine viaL rfl (fQ P1 (.of h1)) (k _ _ st1 q _ α1 G1 H1 s1' P1 S1 (Bg fun α' G' st' s S o=>?_));obtain⟨b,eb,ws,g1,g2⟩:=S.gn o
     have hb:b=a:=by
      rcases s.pre _ _ ea with z|z<;>(rw[z]at eb;cases eb)
      rfl
     subst hb;exact⟨ws,.of g1,g2⟩
   . exact q.elim
 . unfold Rep at r1;obtain⟨a,vs,rfl,na,ha,ra⟩:=r1;exact viaL rfl (fQ P1 ha) (k _ _ st1 q _ α1 G1 H1 s1' P1 S1 (Bg fun α' G' st' s S o=>⟨vs,FF s na ha ra⟩))
 . unfold Rep at r1;obtain⟨a,vs,rfl,na,ha,ra⟩:=r1;exact viaT rfl (P1.get ha) (k _ _ st1 q _ α1 G1 H1 s1' P1 S1 (KR fun α' G' st' s S o=>⟨vs,s.ext _ _ na ha,ra.step s⟩))
def c9(lo:Int)(n:Nat):List D:=(List.range n).map fun(k:Nat)=>D.int (lo+(k:Int))
theorem uB{lo:Int}{n k:Nat}:(c9 lo n)[k]?=if k<n then some (.int (lo+(k:Int)))else none:=by
 unfold c9;rw[List.getElem?_map];by_cases h:k<n
 . rw[List.getElem?_range h,if_pos h];rfl
 . rw[List.getElem?_eq_none (by simpa using h),if_neg h];rfl
theorem di{lo:Int}{n:Nat}:(c9 lo n).length=n:=by unfold c9;simp
theorem yz{α:List (Option Addr)}{G:Hp}{lo:Int}{n:Nat}:tW (xq lo n) α G (fun _=>True) (c9 lo n) where
 stop:=fun m α' G' F' H' st' s P S o hn=>by rw[di]at hn;exact hn
 go:=fun m d α' G' F' H' st' s P S o hn=>by
  rw[uB]at hn;split at hn
  . assumption
  . cases hn
 nQ:=fun m d α' G' F' H' st' x H'' s P S o hn y=>by
  obtain⟨rfl,rfl⟩:=y;rw[uB]at hn;split at hn
  . cases hn;exact⟨G',Step.refl,P,S,by unfold Rep;rfl⟩
  . cases hn
theorem PI.imp{tg iter:Expr}{t t':TI}(h:PI X tg iter t)(f:∀σ H R,t' σ H R->t σ H R):PI X tg iter t':=fun pins s σ H R I q=>h pins s σ H R I (f σ H R q)
def GK(ds:List D)(st1:af)(K:List D->(af->Prop)->af->Prop):Prop:=match ds with
 | [.int j]=>(-(2^62)<=j/\j<2^62)/\K (c9 0 j.toNat) (fun _=>True) st1
 |_=>False
def Gu(ds:List D)(st1:af)(K:List D->(af->Prop)->af->Prop):Prop:=match ds with
 | [.int i,.int j]=>(-(2^62)<=i/\i<2^62/\ -(2^62)<=j/\j<2^62)/\K (c9 i (j-i).toNat) (fun _=>True) st1
 |_=>False
def Jm(t:DA):DI:=fun σ st K=>t σ st fun ds st1=>GK ds st1 K
def Ik(t:DA):DI:=fun σ st K=>t σ st fun ds st1=>Gu ds st1 K
theorem DP{tg iter:Expr}{t:DA}(h:PI X tg iter (BQ (LA t))):PI X tg iter (LI (Jm t)):=PI.imp h fun σ H R ⟨α,σd,st,K,G,F,P,RS,S,t,k⟩=>by
 refine⟨α,σd,st,_,G,F,P,RS,S,t,fun ds st1 q α1 G1 H1 vs s1 P1 S1 r1=>?_⟩;match ds,q,r1 with
 | [.int j],q,r1=>
   obtain⟨v,rfl,r2⟩:=gj r1 rfl;unfold Rep at r2;subst r2;exact⟨j,rfl,q.1.1,q.1.2,k _ _ st1 q.2 _ α1 G1 H1 s1 P1 S1 yz⟩
theorem EL{tg iter:Expr}{t:DA}(h:PI X tg iter (B7 (LA t))):PI X tg iter (LI (Ik t)):=PI.imp h fun σ H R ⟨α,σd,st,K,G,F,P,RS,S,t,k⟩=>by
 refine⟨α,σd,st,_,G,F,P,RS,S,t,fun ds st1 q α1 G1 H1 vs s1 P1 S1 r1=>?_⟩;match ds,q,r1 with
 | [.int i,.int j],q,r1=>
   obtain⟨v,u,rfl,r2,r3⟩:=ou r1 rfl;unfold Rep at r2 r3;subst r2 r3;exact⟨i,j,rfl,q.1,k _ _ st1 q.2 _ α1 G1 H1 s1 P1 S1 yz⟩
def iH(tg:fA)(body:DS)(ok:af->Prop)(E:mK):List D->bV->af->Prop
 | [],σ,st=>ok st/\E.nx σ st
 |x::xs,σ,st=>ok st/\∃σ1,tg x σ=some σ1/\body {E with nx:=iH tg body ok E xs,ct:=iH tg body ok E xs,bk:=E.nx} σ1 st
def ib(src:DI)(tg:fA)(body:DS):DS:=fun D σ st=>src σ st fun xs ok st1=>iH tg body ok D xs σ st1
theorem LQ{src:DI}{tg:fA}(h:PS X st (Kv (LI src) (LG tg) (LS t))):PS X st (LS (ib src tg t)):=PS.imp h fun D σ H ⟨α,σd,st,DD,G,F,P,R,S,tt,k⟩=>by
 refine⟨α,σd,st,_,G,F,P,R,S,tt,fun xs ok st1 q J α1 G1 H1 s1 P1 S1 it=>?_⟩;refine⟨fun i m σ' H'=>∃α' σd' st' G',Step α1 G1 α' G'/\bW G' F H'/\dQ α' G' σd' σ'/\aR α' st' G'/\iH tg t ok DD (xs.drop i) σd' st'/\m=xs.length-i,⟨xs.length,α1,σd,st1,G1,Step.refl,P1,R.step s1,S1,q,rfl⟩,?_⟩;rintro i m σ2 H2 ⟨α2,σd2,st2,G2,s2,P2,R2,S2,q2,rfl⟩;cases e:xs[i]? with
 |none=>
  have hl:xs.length<=i:=List.getElem?_eq_none_iff.mp e;rw[List.drop_eq_nil_of_le hl]at q2;unfold iH at q2;exact .inl ⟨it.stop i α2 G2 F H2 st2 s2 P2 S2 q2.1 hl,((k.nx.at s1).at s2).here P2 q2.2 R2 S2⟩
 |some d=>
  have hl:i<xs.length:=(List.getElem?_eq_some_iff.mp e).1
  have ed:xs.drop i=d::xs.drop (i+1):=by
   rw[List.drop_eq_getElem_cons hl];congr 1;rw[List.getElem?_eq_getElem hl]at e;exact Option.some.inj e
  rw[ed]at q2;unfold iH at q2;obtain⟨aP,σ3,e3,q3⟩:=q2;refine .inr ⟨it.go i d α2 G2 F H2 st2 s2 P2 S2 aP e,fun σ' H'=>∃α' σd' st' G',Step α1 G1 α' G'/\bW G' F H'/\dQ α' G' σd' σ'/\aR α' st' G'/\iH tg t ok DD (xs.drop (i+1)) σd' st',?_,?_⟩
  . rintro σ' H' ⟨α',σd',st',G',z1,z2,z3,z4,z5⟩;exact⟨xs.length-(i+1),by omega,α',σd',st',G',z1,z2,z3,z4,z5,rfl⟩
  . intro x H' y;obtain⟨G3,s3,P3,S3,r3⟩:=it.nQ i d α2 G2 F H2 st2 x H' s2 P2 S2 aP e y;refine⟨α2,σd2,st2,d,fun σ' st'=>σ'=σ3/\st'=st2,G3,F,P3,R2.step s3,S3,r3,⟨σ3,e3,rfl,rfl⟩,?_⟩;rintro σ' st' ⟨rfl,rfl⟩ α4 G4 H4 σ4 s4 P4 R4 S4;have s24:=(s2.trans s3).trans s4;refine⟨α4,σ',st',_,G4,F,P4,R4,S4,q3,?_,((k.rt.at s1).at s24),(k.nx.at s1).at s24,?_⟩
    . intro σd5 st5 q5 α5 G5 H5 σ5 s5 P5 R5 S5;exact⟨α5,σd5,st5,G5,s24.trans s5,P5,R5,S5,q5⟩
    . intro σd5 st5 q5 α5 G5 H5 σ5 s5 P5 R5 S5;exact⟨α5,σd5,st5,G5,s24.trans s5,P5,R5,S5,q5⟩
end
def gz(fr:List (Option Nat))(σ:bV):bV:=fr.map fun o=>o.bind fun j=>(σ[j]?).join
theorem dQ.comp{α:List (Option Addr)}{G:Hp}{σd:bV}{σ:L2.St}{fr:List (Option Nat)}(h:dQ α G σd σ):dQ α G (gz fr σd) (σC fr σ):=by
 refine⟨by unfold gz σC;simp,fun i d e=>?_⟩;unfold gz at e;rw[List.getElem?_map]at e;cases q:fr[i]? with
 |none=>rw[q]at e;cases e
 |some o=>
  rw[q]at e;cases o with
  |none=>simp at e
  |some j=>
   simp only[Option.map_some,Option.some.injEq,Option.bind_some]at e
   have ej:σd[j]?=some (some d):=by
    cases r:σd[j]? with
    |none=>rw[r]at e;cases e
    |some u=>rw[r]at e;simp at e;rw[e]
   obtain⟨v,ev,rv⟩:=h.at' j d ej;refine⟨v,?_,rv⟩;unfold σC;rw[List.getElem?_map,q];simp[ev]
def du(tg:fA)(c:DT)(te:DE)(ok:af->Prop)(σc:bV):List D->List D->af->(List D->af->Prop)->Prop
 | [],acc,st,K=>ok st/\K acc st
 |x::xs,acc,st,K=>ok st/\∃σ2,tg x σc=some σ2/\c σ2 st fun b st1=>if b=true then te σ2 st1 fun y st2=>du tg c te ok σc xs (acc++[y]) st2 K else du tg c te ok σc xs acc st1 K
def dn(src:DI)(fr:List (Option Nat))(tg:fA)(c:DT)(te:DE):DE:=fun σ st K=>src σ st fun xs ok st1=>xs.length<=sizeLine/\du tg c te ok (gz fr σ) xs [] st1 fun ys st2=>K (.lst ys) st2
def rB(src:DI)(fr:List (Option Nat))(tg:fA)(c:DT)(te:DE):DE:=fun σ st K=>src σ st fun xs ok st1=>xs.length<=sizeLine/\du tg c te ok (gz fr σ) xs [] st1 fun ys st2=>K (.ref st2.length) (st2++[.lst ys])
def cH:DT:=fun _ st K=>K true st
def tE(fr:List (Option Nat))(tg:fA):Prop:=∀(σ:bV) (d:D) (σ2:bV),tg d (gz fr σ)=some σ2->σ2.length=(gz fr σ).length/\∀(i:Nat) (e:D),(gz fr σ)[i]?=some (some e)->σ2[i]?=some (some e)
theorem qW{fr:List (Option Nat)}{σ:bV}{k:Nat}(h:fr[k]?=some none){e:D}(q:(gz fr σ)[k]?=some (some e)):False:=by
 unfold gz at q;rw[List.getElem?_map,h]at q;simp at q
theorem bZ{fr:List (Option Nat)}{k:Nat}(h:fr[k]?=some none:=by rfl):tE fr (bp k):=fun σ d σ2 e=>by
 cases e;refine⟨List.length_set,fun i x q=>?_⟩;by_cases hi:i=k
 . subst hi;exact(qW h q).elim
 . rw[List.getElem?_set_ne (Ne.symm hi)];exact q
theorem Jj{fr:List (Option Nat)}{k j:Nat}(h:fr[k]?=some none:=by rfl)(h':fr[j]?=some none:=by rfl):tE fr (km k j):=fun σ d σ2 e=>by
 unfold km at e;split at e
 . cases e;refine⟨by rw[List.length_set,List.length_set],fun i x q=>?_⟩;by_cases hi:i=k
   . subst hi;exact(qW h q).elim
   . by_cases hj:i=j
     . subst hj;exact(qW h' q).elim
     . rw[List.getElem?_set_ne (Ne.symm hj),List.getElem?_set_ne (Ne.symm hi)];exact q
 . cases e
section
variable {X:Cx}
theorem Li{c:Expr}{t:DT}(h:PT X c (LT t)):qJ X [c] (LT t):=Jl h
theorem FL:qJ X [] (LT cH):=fun pins s σ H Q I ⟨α,σd,st,K,G,F,P,R,S,t,k⟩=>Jy pins s σ H Q I (k true st t α G H Step.refl P S)
theorem LE.comp{src:DI}{fr:List (Option Nat)}{tg:fA}{c:DT}{te:DE}(fit:tE fr tg){σ:L2.St}{H:Hp}{Q:VK}{α:List (Option Addr)}{σd:bV}{st:af}{KE:List D->af->Prop}{G F:Hp}(P:bW G F H)(R:dQ α G σd σ)(S:aR α st G)
 (t:src σd st fun xs ok st1=>xs.length<=sizeLine/\du tg c te ok (gz fr σd) xs [] st1 KE)
 (fin:∀ys st2 α2 G2 H2 l vs,KE ys st2->Step α G α2 G2->bW G2 (upd F l (.lst vs)) H2->F l=none->aR α2 st2 G2->aL α2 G2 ys vs->Q (.ref l) H2):
 vm (LI src) fr (LG tg) (LT c) (LE te) σ H Q:=by
 refine⟨α,σd,st,_,G,F,P,R,S,t,fun xs ok st1 q J α1 G1 H1 s1 P1 S1 it l hl=>?_⟩;obtain⟨hsz,q⟩:=q;obtain⟨hG,hF⟩:=P1.none hl
 refine⟨fun i m σ' H'=>∃α' st' G' acc vs,Step α1 G1 α' G'/\bW G' (upd F l (.lst vs)) H'/\dQ α' G' (gz fr σd) σ'/\aR α' st' G'/\aL α' G' acc vs/\acc.length<=i/\i<=xs.length/\du tg c te ok (gz fr σd) (xs.drop i) acc st' KE/\m=xs.length-i,
  ⟨xs.length,α1,st1,G1,[],[],Step.refl,P1.hide hl,(R.step s1).comp,S1,by unfold aL;rfl,Nat.le_refl _,Nat.zero_le _,q,rfl⟩,?_⟩
 rintro i m σ2 H2 ⟨α2,st2,G2,acc,vs,s2,P2,R2,S2,ra,hacc,hi,q2,rfl⟩;cases e:xs[i]? with
 |none=>
  have hl2:xs.length<=i:=List.getElem?_eq_none_iff.mp e;rw[List.drop_eq_nil_of_le hl2]at q2;unfold du at q2;exact .inl ⟨it.stop i α2 G2 _ H2 st2 s2 P2 S2 q2.1 hl2,fin acc st2 α2 G2 H2 l vs q2.2 (s1.trans s2) P2 hF S2 ra⟩
 |some d=>
  have hl2:i<xs.length:=(List.getElem?_eq_some_iff.mp e).1
  have ed:xs.drop i=d::xs.drop (i+1):=by
   rw[List.drop_eq_getElem_cons hl2];congr 1;rw[List.getElem?_eq_getElem hl2]at e;exact Option.some.inj e
  rw[ed]at q2;unfold du at q2;obtain⟨aP,σ3,e3,q3⟩:=q2;refine .inr ⟨it.go i d α2 G2 _ H2 st2 s2 P2 S2 aP e,fun σ' H'=>∃α' st' G' acc vs,Step α1 G1 α' G'/\bW G' (upd F l (.lst vs)) H'/\dQ α' G' (gz fr σd) σ'/\aR α' st' G'/\aL α' G' acc vs/\acc.length<=i+1/\du tg c te ok (gz fr σd) (xs.drop (i+1)) acc st' KE,?_,?_⟩
  . rintro σ' H' ⟨α',st',G',acc',vs',z1,z2,z3,z4,z5,z6,z7⟩;exact⟨xs.length-(i+1),by omega,α',st',G',acc',vs',z1,z2,z3,z4,z5,z6,hl2,z7,rfl⟩
  . intro x H' y;obtain⟨G3,s3,P3,S3,r3⟩:=it.nQ i d α2 G2 _ H2 st2 x H' s2 P2 S2 aP e y;refine⟨α2,gz fr σd,st2,d,fun σ' st'=>σ'=σ3/\st'=st2,G3,_,P3,R2.step s3,S3,r3,⟨σ3,e3,rfl,rfl⟩,?_⟩;rintro σ' st' ⟨rfl,rfl⟩ α4 G4 H4 σ4 s4 P4 R4 S4;have s24:=(s2.trans s3).trans s4;have Rc:dQ α4 G4 (gz fr σd) σ4:=⟨by rw[<-(fit σd d σ' e3).1];exact R4.len,fun j z hz=>R4.at' j z ((fit σd d σ' e3).2 j z hz)⟩
    refine⟨α4,σ',st',_,G4,_,P4,R4,S4,q3,fun b st5 q5 α5 G5 H5 s5 P5 S5=>?_⟩;cases b with
    |false=>exact⟨α5,st5,G5,acc,vs,s24.trans s5,P5,Rc.step s5,S5,((ra.step s3).step s4).step s5,by omega,q5⟩
    |true=>
     refine⟨α5,σ',st5,_,G5,_,P5,R4.step s5,S5,q5,fun z st6 q6 α6 G6 H6 v6 s6 P6 S6 r6=>?_⟩;have hr:=(((ra.step s3).step s4).step s5).step s6;refine⟨vs,(P6.frame aY).1,by rw[<-hr.length];omega,α6,st6,G6,acc++[z],vs++[v6],(s24.trans s5).trans s6,?_,(Rc.step s5).step s6,S6,a7.mpr (fM (a7.mp hr) (.cons r6 .nil)),by rw[List.length_append,List.length_singleton];omega,q6⟩;have:=P6.P8 (p:=l) (o':= .lst (vs++[v6])) aY;rw[Ia]at this;exact this
theorem KU{scope:Scope}{Nc:List Str}{elt tg iter:Expr}{ifs:List Expr}{pos:Pos}{src:DI}{fr:List (Option Nat)}{dtg:fA}{c:DT}{te:DE}(S:bz X scope Nc fr)(hi:PI X tg iter (LI src))
 (hg:∀C s H ex,PG (fu X scope Nc C s H ex) tg (LG dtg)) (ht:∀C s H ex,qJ (fu X scope Nc C s H ex) ifs (LT c)) (he:∀C s H ex,PE (fu X scope Nc C s H ex) elt (LE te)) (fit:tE fr dtg)
 (hx:X.xe=fun _ _=>False:=by rfl) (hc:X.calm=true:=by rfl) (hs:∀x,foldedSetIterable iter X.env x=pure x:=by intro _;rfl):PE X (.ListComp elt [⟨tg,iter,ifs,0⟩] scope pos) (LE (dn src fr dtg c te)):=
 PE.imp (A9 hx hc S hi hg ht he hs) fun σ H Q ⟨α,σd,st,K,G,F,P,R,S,t,k⟩=>LE.comp fit P R S t fun ys st2 α2 G2 H2 l vs q s2 P2 hl S2 r=>by
  have hg:G2 l=none:=(P2.frame aY).2;refine k _ st2 q α2 (upd G2 l (.lst vs)) H2 (.ref l) (s2.trans (Step.laid hg)) (P2.show hl) (S2.laid hg) ?_;unfold Rep;exact⟨l,vs,rfl,S2.j9 hg,.of aY,r.step (Step.laid hg)⟩
theorem Ir{scope:Scope}{Nc:List Str}{elt tg iter:Expr}{ifs:List Expr}{pos:Pos}{src:DI}{fr:List (Option Nat)}{dtg:fA}{c:DT}{te:DE}(S:bz X scope Nc fr)(hi:PI X tg iter (LI src))
 (hg:∀C s H ex,PG (fu X scope Nc C s H ex) tg (LG dtg)) (ht:∀C s H ex,qJ (fu X scope Nc C s H ex) ifs (LT c)) (he:∀C s H ex,PE (fu X scope Nc C s H ex) elt (LE te)) (fit:tE fr dtg)
 (hx:X.xe=fun _ _=>False:=by rfl) (hc:X.calm=true:=by rfl) (hs:∀x,foldedSetIterable iter X.env x=pure x:=by intro _;rfl):PE X (.ListComp elt [⟨tg,iter,ifs,0⟩] scope pos) (LE (rB src fr dtg c te)):=
 PE.imp (A9 hx hc S hi hg ht he hs) fun σ H Q ⟨α,σd,st,K,G,F,P,R,S,t,k⟩=>LE.comp fit P R S t fun ys st2 α2 G2 H2 l vs q s2 P2 hl S2 r=>by
  have hg:G2 l=none:=(P2.frame aY).2;refine k _ _ q (α2++[some l]) (upd G2 l (.lst vs)) H2 (.ref l) (s2.trans (Step.cell hg)) (P2.show hl) (S2.cell hg ⟨vs,aY,r.step (Step.cell hg)⟩) ?_;unfold Rep;refine .inr ⟨l,?_,rfl⟩;rw[List.getElem?_append_right (by rw[S2.len];exact Nat.le_refl _),S2.len,Nat.sub_self];rfl
theorem Jv{st:Stmt}{k:Nat}{src:DI}{fr:List (Option Nat)}{dtg:fA}{c:DT}{te:DE}(fit:tE fr dtg)(h:PS X st (oR (vm (LI src) fr (LG dtg) (LT c) (LE te)) (mL k))):PS X st (LS (a9 k (dn src fr dtg c te))):=
 PS.imp h fun D σ H ⟨α,σd,st,DD,G,F,P,R,S,t,q⟩=>LE.comp fit P R S t fun ys st2 α2 G2 H2 l vs qq s2 P2 hl S2 r=>by
  have hg:G2 l=none:=(P2.frame aY).2;have s3:=s2.trans (Step.laid (o:= .lst vs) hg);refine q.nx _ st2 qq α2 (upd G2 l (.lst vs)) H2 _ s3 (P2.show hl) ((R.step s3).set k ?_) (S2.laid hg);unfold Rep;exact⟨l,vs,rfl,S2.j9 hg,.of aY,r.step (Step.laid hg)⟩
def aT(N:List Str)(ds:List D):bV:=ds.map some++List.replicate (N.length-ds.length) none
theorem dQ.start{α:List (Option Addr)}{G:Hp}{N:List Str}{ds:List D}{vs:List V}(r:aL α G ds vs):dQ α G (aT N ds) (L2.start N vs):=by
 have hl:=r.length;refine⟨by unfold aT L2.start;simp[hl],fun i d e=>?_⟩;unfold aT at e;by_cases hi:i<ds.length
 . rw[List.getElem?_append_left (by simpa using hi),List.getElem?_map]at e;cases q:ds[i]? with
   |none=>rw[q]at e;cases e
   |some x=>
    rw[q]at e;cases e;obtain⟨v,ev,rv⟩:=r.get q;refine⟨v,?_,rv⟩;unfold L2.start;rw[List.getElem?_append_left (by rw[List.length_map];omega),List.getElem?_map,ev];rfl
 . rw[List.getElem?_append_right (by simpa using hi),List.getElem?_replicate]at e;split at e<;>cases e
theorem N0{P:Program}{w:World}{K:PySem.W.Frag}{mg:Str->Option Value}{base:Heap}{x qual:Str}{st:Stmt}{f:Addr}{fd:FuncData}{N ps:List Str}{k:Nat}{sp:b_}{t:DS}(F:nG K x qual st f fd)(S:aO N ps (ag st))
 (hbody:∀(cdv:Value) (A:Around) (outer:List Env) (s:Shared) (H:Hp) (E:XK),cP k (A.deeper (envOfC qual (ag st) s.heap.objs.size f cdv))->gG (qt cj P w K mg base N qual (ag st) f cdv A outer s H E).uH (fI st) (LS t))
 (hsp:∀ds st K,sp ds st K->ds.length=ps.length/\t {nx:=fun _ st'=>K .aH st',rt:=K} (aT N ds) st):bf P w K mg base cj (k+1) f fd ps (cp sp):=by
 refine F.ok S (fun vs H Q E h=>?_) fun cdv A outer s H vs Q E hr h=>⟨_,hbody cdv A outer s H E hr,?_⟩
 . obtain⟨α,ds,st,K,G,F,P,r,S,q,k⟩:=h;rw[<-r.length];exact(hsp ds st K q).1
 . obtain⟨α,ds,st,K,G,F,P,r,S,q,k⟩:=h;refine⟨α,aT N ds,st,_,G,F,P,dQ.start r,S,(hsp ds st K q).2,?_,k,?_,?_⟩
   . intro σd' st' kk α' G' H' σ' s' P' R' S';exact k .aH st' kk α' G' H' .aH s' P' S' (by unfold Rep;rfl)
   . intro σd' st' kk;exact kk.elim
   . intro σd' st' kk;exact kk.elim
def pw(to te:DE):DE:=fun σ st K=>to σ st fun x st1=>match x with
 | .ref n=>(match st1[n]? with
   |some (.lst _)=>te σ st1 fun y st2=>∃y',[y]=[y']/\(match st2[n]? with|some (.lst xs)=>xs.length<sizeLine/\K .aH (st2.set n (.lst (xs++[y'])))|_=>False)
   |_=>False)
 |_=>False
end
structure bC(K:PySem.W.Frag)(mg:Str->Option Value)(x qual:Str)(st:Stmt)(ps:List Str)(f:Addr)(fd:FuncData):Prop where
 fn:nG K x qual st f fd
 mg:mg x=some (.ref f)
 bd:Binds K fd ps []
def vp(sc:Scope)(N:List Str)(scope:Scope)(Nc:List Str)(fr:List (Option Nat)):Bool:=
 (scope.kind== .function)&&scope.names.all (fun x=>x.2 != .cell||scope.names.lookup x.1==some .cell)&&scope.names.all (fun x=>x.2 != .local||scope.names.lookup x.1==some .local)&&
 scope.names.all (fun x=>x.2 != .free||sc.names.lookup x.1==some .cell||sc.names.lookup x.1==some .free)&&(fr.length==Nc.length)&&
 (List.range fr.length).all fun i=>match fr[i]?,Nc[i]? with
   |some (some j),some x=>(N[j]?==some x)&&(scope.names.lookup x==some .free)&&(sc.names.lookup x==some .cell||sc.names.lookup x==some .free)
   |_,_=>true
theorem bz.look{X:Cx}{scope:Scope}{Nc:List Str}{fr:List (Option Nat)}(sc:Scope)(N:List Str)(h:vp sc N scope Nc fr=true)(hsc:X.env.scope=sc:=by rfl)(hN:X.N=N:=by rfl):bz X scope Nc fr:=by
 unfold vp at h;simp only[Bool.and_eq_true]at h;obtain⟨⟨⟨⟨⟨h1,h2⟩,h3⟩,h4⟩,h5⟩,h6⟩:=h;subst hsc hN;refine⟨by simpa using h1,fun x hx hk=>?_,fun x hx hk=>?_,fun x hx hk=>?_,by simpa using h5,fun i j x e1 e2=>?_⟩
 . have:=List.all_eq_true.mp h2 x hx;rw[hk]at this;simpa using this
 . have:=List.all_eq_true.mp h3 x hx;rw[hk]at this;simpa using this
 . have:=List.all_eq_true.mp h4 x hx;rw[hk]at this;have z:X.env.scope.names.lookup x.1=some .cell\/X.env.scope.names.lookup x.1=some .free:=by simpa using this
   exact z
 . have hi:i<fr.length:=(List.getElem?_eq_some_iff.mp e2).1;have:=List.all_eq_true.mp h6 i (List.mem_range.mpr hi);rw[e1,e2]at this;simp only[Bool.and_eq_true,Bool.or_eq_true,beq_iff_eq]at this;exact⟨this.1.1,this.1.2,this.2⟩
section
variable {X:Cx}
theorem Pw{e:Expr}{es:List Expr}{pos p:Pos}{x:Str}{id:String}{r:eL}{t:DA}(hc:bD X (.builtin id) (fy r))(ha:PA X (e::es) (LA t))(hm:X.mg x=none)(hv:bootBuiltins x=some (.builtin id))(hg:Gl X x:=by rfl)(hn:x≠"__name__":=by decide)(hdb:(x==("__debug__":Str))=false:=by decide)
 (he:starEach (e::es) X.env=(false,eval e X.env)::starEach es X.env:=by rfl) (hpl:(backTo pos (starEach es X.env)).any (·.1)=false:=by rfl):PE X (.Call (.Name x p) (e::es) [] pos) (LE (bo r t)):=PE.imp (Fy hc hg hm hv ha hn hdb he hpl) fun _ _ _ h=>LE.cb h
theorem Pd{e:Expr}{es:List Expr}{pos p:Pos}{x:Str}{T:String}{r:eL}{t:DA}(hc:bD X (.type T) (fy r))(ha:PA X (e::es) (LA t))(hm:X.mg x=none)(hv:bootBuiltins x=some (.type T))(hg:Gl X x:=by rfl)(hn:x≠"__name__":=by decide)(hdb:(x==("__debug__":Str))=false:=by decide)
 (he:starEach (e::es) X.env=(false,eval e X.env)::starEach es X.env:=by rfl) (hpl:(backTo pos (starEach es X.env)).any (·.1)=false:=by rfl):PE X (.Call (.Name x p) (e::es) [] pos) (LE (bo r t)):=PE.imp (EK hc hg hm hv ha hn hdb he hpl) fun _ _ _ h=>LE.cb h
theorem O9{pos:Pos}{x:Str}{T:String}(hm:X.mg x=none)(hv:bootBuiltins x=some (.type T))(hg:Gl X x:=by rfl)(hn:x≠"__name__":=by decide)(hdb:(x==("__debug__":Str))=false:=by decide):PE X (.Name x pos) (LE (dC (.ty T))):=
 o8 (v:= .ty T) (Iq hg hm hv rfl hn hdb) fun _ _=>by unfold Rep;rfl
theorem Pl{e:Expr}{es:List Expr}{pos p:Pos}{x qual:Str}{st:Stmt}{ps:List Str}{f:Addr}{fd:FuncData}{k:Nat}{S:b_}{t:DA}(A:bC X.K X.mg x qual st ps f fd)(F:bf X.prog X.w X.K X.mg X.base cj k f fd ps (cp S))(hr:cP k X.A)
 (ha:PA X (e::es) (LA t)) (hg:Gl X x:=by rfl) (hdb:(x==("__debug__":Str))=false:=by decide) (he:starEach (e::es) X.env=(false,eval e X.env)::starEach es X.env:=by rfl) (hpl:(backTo pos (starEach es X.env)).any (·.1)=false:=by rfl):
 PE X (.Call (.Name x p) (e::es) [] pos) (LE (aE S t)):=J8 F hr hg A.mg A.fn.kp A.bd ha hdb he hpl
def Mm(d:D)(b:Bool):Bool:=match d with| .bl c=>c==b|_=>false
def Ow(d:D):Bool:=match d with| .aH=>true|_=>false
theorem Ig{α:List (Option Addr)}{H:Hp}{st:af}{d:D}{v:V}{u:Value}{b:Bool}(S:aR α st H)(hl:live st d=true)(r:Rep α H d v)(ru:RelV v u):(u==Value.bool b)=Mm d b:=by
 cases d
 case ref n=>
  obtain⟨a,rfl⟩:=yp S hl r;cases ru;rfl
 all_goals unfold Rep at r
 case bl c=>
  subst r;cases ru;cases c<;>cases b<;>rfl
 all_goals first
  |(subst r;first|(cases ru;rfl)|(obtain⟨t,rfl⟩:=ru;rfl))
  |(obtain⟨a,vs,rfl,_⟩:=r;cases ru;rfl)
def ve(r r':cR)(ta tb tc:DE):DE:=fun σ st K=>ta σ st fun x st1=>tb σ st1 fun y st2=>r x y st2 fun z st3=>match z with
 | .bl b=>if b=true then tc σ st3 fun w st4=>r' y w st4 K else K (.bl false) st3
 |_=>False
theorem LE.chain{r r':cR}{ta tb tc:DE}{σ:L2.St}{H:Hp}{Q:VK}(h:LE (ve r r' ta tb tc) σ H Q):Dt (LR r) (LR r') (LE ta) (LE tb) (LE tc) σ H Q:=by
 obtain⟨α,σd,st,K,G,F,P,R,S,t,k⟩:=h;refine⟨α,σd,st,_,G,F,P,R,S,t,fun d st1 q α1 G1 H1 v s1 P1 S1 r1=>?_⟩;refine⟨α1,σd,st1,_,G1,F,P1,R.step s1,S1,q,fun d2 st2 q2 α2 G2 H2 v2 s2 P2 S2 r2=>?_⟩;refine⟨α2,d,d2,st2,_,G2,F,P2,r1.step s2,r2,S2,q2,fun z st3 q3 α3 G3 H3 v3 s3 P3 S3 r3=>?_⟩;cases z<;>try exact q3.elim
 rename_i b;unfold Rep at r3;refine⟨b,r3,?_⟩;cases b with
 |false=>exact((k.at s1).at s2).at s3 _ st3 q3 α3 G3 H3 _ Step.refl P3 S3 (by unfold Rep;rfl)
 |true=>exact⟨α3,σd,st3,_,G3,F,P3,((R.step s1).step s2).step s3,S3,q3,fun d4 st4 q4 α4 G4 H4 v4 s4 P4 S4 r4=>⟨α4,d2,d4,st4,K,G4,F,P4,(r2.step s3).step s4,r4,S4,q4,(((k.at s1).at s2).at s3).at s4⟩⟩
theorem JM{a b c:Expr}{ta tb tc:DE}{pos:Pos}{op op':CmpOp}{r r':cR}(ho:bM X (compareOp op) (LR r))(ho':bM X (compareOp op') (LR r'))(ha:PE X a (LE ta))(hb:PE X b (LE tb))(hc:PE X c (LE tc))
 (hm:lastMarks [op,op'] [b,c]=false:=by with_unfolding_all rfl):PE X (.Compare a [op,op'] [b,c] pos) (LE (ve r r' ta tb tc)):=PE.imp (FR ho ho' ha hb hc hm) fun _ _ _ h=>LE.chain h
theorem LE.append{to te:DE}{σ:L2.St}{H:Hp}{Q:VK}(h:LE (pw to te) σ H Q):Kc X.K "list" Bm (LE to) (LA (ae te ak)) σ H Q:=by
 obtain⟨α,σd,st,K,G,F,P,R,S,t,k⟩:=h;refine⟨α,σd,st,_,G,F,P,R,S,t,fun x st1 q α1 G1 H1 v s1 P1 S1 r1=>?_⟩;cases x<;>try exact q.elim
 rename_i n;simp only at q;split at q
 . rename_i ys e;obtain⟨p,ep,vs,h1,h2⟩:=S1.gn e;have r1':=c8 ep r1;subst r1';refine⟨.inl ⟨rfl,vs,.inl (.of (P1.get h1))⟩,α1,σd,st1,fun ds st2=>∃y,ds=[y]/\(match st2[n]? with|some (.lst xs)=>xs.length<sizeLine/\K .aH (st2.set n (.lst (xs++[y])))|_=>False),G1,F,P1,R.step s1,S1,?_,?_⟩
   . refine Eq.mp ?_ q;rfl
   . rintro ds st2 ⟨y,rfl,q2⟩ α2 G2 H2 ws s2 P2 S2 r2;obtain⟨w,rfl,rw'⟩:=gj r2 rfl;split at q2
     . rename_i xs e2;obtain⟨p2,ep2,us,g1,g2⟩:=S2.gn e2
       have:p2=p:=by
        rcases s2.pre _ _ ep with z|z<;>(rw[z]at ep2;cases ep2)
        rfl
       subst this;have hm:some p2∈α2:=List.mem_of_getElem? ep2;refine⟨p2,us,w,rfl,rfl,P2.get g1,by rw[<-g2.length];exact q2.1,?_⟩;refine((k.at s1).at s2) _ _ q2.2 α2 (upd G2 p2 (.lst (us++[w]))) _ .aH (Step.write hm) (P2.write g1) ?_ (by unfold Rep;rfl);exact S2.write ep2 ⟨us++[w],aY,(a7.mpr (fM (a7.mp g2) (.cons rw' .nil))).step (Step.write hm)⟩
     . exact q2.elim
 . exact q.elim
theorem F3{o e:Expr}{to te:DE}{apos cpos:Pos}(ho:PE X o (LE to))(he:PE X e (LE te))(hbase:attributeBase o "append" X.env (eval o X.env)=eval o X.env:=by rfl)
 (hfew:((backTo cpos (starEach [e] X.env)).all (fun x=> !x.1)&&(backToKw cpos (keywordEach [] X.env)).all (fun x=>x.1.isSome)
   &&decide (([e]:List Expr).length+([]:List Keyword).length+(if([]:List Keyword).isEmpty then 0 else 1)<30))=true:=by rfl)
 (hline:(apos.endLine==cpos.line)=true:=by rfl) (hs:starEach [e] X.env=(false,eval e X.env)::starEach [] X.env:=by rfl) (hplain:(backTo cpos (starEach [] X.env)).any (·.1)=false:=by rfl):PE X (.Call (.Attribute o "append" apos) [e] [] cpos) (LE (pw to te)):=
 PE.imp (Gv PySem.F.plainAttrs_list PySem.F.slot_list_append PySem.F.type_list_append wO ho (sj he vA hs) hbase hfew hline hs hplain) fun _ _ _ h=>LE.append h
end
end L3
namespace L3
open PySem L2
open PySem.Spec hiding items?
open PyProof.Rows hiding St
section
variable {X:Cx}
@[irreducible] def dc:cR:=Hf
theorem e7:bM X (binaryOp .Add) (LR dc):=by unfold dc;exact NP
@[irreducible] def mf:cR:=GI
theorem pN:bM X (binaryOp .Sub) (LR mf):=by unfold mf;exact NY
@[irreducible] def cM:cR:=Hx
theorem dz:bM X (binaryOp .Mult) (LR cM):=by unfold cM;exact M4
@[irreducible] def lg:cR:=Dq
theorem qZ:bM X (binaryOp .FloorDiv) (LR lg):=by unfold lg;exact Lv
@[irreducible] def h_:cR:=GL
theorem nY:bM X (binaryOp .Mod) (LR h_):=by unfold h_;exact NL
@[irreducible] def uh:cR:=Hr
theorem Ce:bM X (binaryOp .Pow) (LR uh):=by unfold uh;exact Nz
@[irreducible] def nS:cR:=Ki
theorem uw:bM X (compareOp .Lt) (LR nS):=by unfold nS;exact OT
@[irreducible] def wI:cR:=K8
theorem LM:bM X (compareOp .LtE) (LR wI):=by unfold wI;exact Px
@[irreducible] def pD:cR:=K0
theorem zu:bM X (compareOp .Gt) (LR pD):=by unfold pD;exact PJ
@[irreducible] def CW:cR:=JV
theorem O8:bM X (compareOp .GtE) (LR CW):=by unfold CW;exact OV
@[irreducible] def lX:cR:=KW
theorem oK:bM X (compareOp .NotEq) (LR lX):=by unfold lX;exact Pe
@[irreducible] def gH:cR:=J4
theorem hV{k:Nat}(hr:cP k X.A):bM X (compareOp .Eq) (LR gH):=by unfold gH;exact OP hr
@[irreducible] def gv:yu:=GV
theorem N6:AE X (unaryOp .USub) (HC gv):=by unfold gv;exact Ny
@[irreducible] def aK:cR:=qr
theorem PF{a b:Expr}{ta tb:DE}{pos:Pos}(ha:PE X a (LE ta))(hb:PE X b (LE tb))(hs:r_ b:=by intro _ _;rfl):PE X (.Subscript a b pos) (LE (ao aK ta tb)):=by unfold aK;exact Pz ha hb hs
@[irreducible] def dH:eL:=x8
theorem dw:bD X (.builtin "len") (fy dH):=by unfold dH;exact Nm
@[irreducible] def nA:eL:=BP
theorem qo:bD X (.builtin "abs") (fy nA):=by unfold nA;exact M9
@[irreducible] def wA:eL:=Cr
theorem NG(hc:X.calm=true):bD X (.builtin "max") (fy wA):=by unfold wA;exact NJ hc
@[irreducible] def vT:eL:=BU
theorem GX(hc:X.calm=true):bD X (.builtin "min") (fy vT):=by unfold vT;exact MK hc
@[irreducible] def tP:eL:=BK
theorem BG:bD X (.type "int") (fy tP):=by unfold tP;exact Nk
@[irreducible] def dY:eL:=rW
theorem eF:bD X (.type "tuple") (fy dY):=by unfold dY;exact HK
@[irreducible] def j_:eL:=vE
theorem nt:bD X (.type "list") (fy j_):=by unfold j_;exact L7
@[irreducible] def oZ:eL:=sq
theorem AN:bD X (.type "list") (fy oZ):=by unfold oZ;exact HG
@[irreducible] def qV:eL:=x9
theorem xY(hc:X.calm=true):bD X (.builtin "all") (fy qV):=by unfold qV;exact Nf hc
@[irreducible] def nE:eL:=xS
theorem p8:bD X (.builtin "isinstance") (fy nE):=by unfold nE;exact MR
@[irreducible] def oH:D->af->(List D->(af->Prop)->af->Prop)->Prop:=wx
def d6(t:DE):DI:=fun σ st K=>t σ st fun d st1=>oH d st1 K
theorem Kb{l tg:Expr}{tl:DE}(hl:PE X l (LE tl)):PI X tg l (LI (d6 tl)):=by unfold d6 oH;exact Kf hl
@[irreducible] def yd:List D->af->(List D->(af->Prop)->af->Prop)->Prop:=GK
@[irreducible] def xZ:List D->af->(List D->(af->Prop)->af->Prop)->Prop:=Gu
def d8(t:DA):DI:=fun σ st K=>t σ st fun ds st1=>yd ds st1 K
def pv(t:DA):DI:=fun σ st K=>t σ st fun ds st1=>xZ ds st1 K
theorem DF{tg iter:Expr}{t:DA}(h:PI X tg iter (BQ (LA t))):PI X tg iter (LI (d8 t)):=by unfold d8 yd;exact DP h
theorem DZ{tg iter:Expr}{t:DA}(h:PI X tg iter (B7 (LA t))):PI X tg iter (LI (pv t)):=by unfold pv xZ;exact EL h
@[irreducible] def yZ:D->D->D->af->(af->Prop)->Prop:=Ck
def d5(to ti te:DE):DS:=fun D σ st=>te σ st fun d st1=>to σ st1 fun x st2=>ti σ st2 fun y st3=>yZ x y d st3 fun st4=>D.nx σ st4
theorem Gn{st:Stmt}{to ti te:DE}(h:PS X st (oR (LE te) (Cj (LE to) (LE ti) ya))):PS X st (LS (d5 to ti te)):=by unfold d5 yZ;exact E_ h
end
section
variable {st:af}{K:DK}{i j:Int}{b c:Bool}{xs ys:List D}{d e:D}{n:Nat}
theorem eR(k:K (.int (i+j)) st):dc (.int i) (.int j) st K:=by unfold dc;exact k
theorem H0(h:xs.length+ys.length<=sizeLine)(k:K (.tup (xs++ys)) st):dc (.tup xs) (.tup ys) st K:=by unfold dc;exact⟨h,k⟩
theorem Jd(h:xs.length+ys.length<=sizeLine)(k:K (.lst (xs++ys)) st):dc (.lst xs) (.lst ys) st K:=by unfold dc;exact⟨h,k⟩
theorem rh(k:K (.int (i-j)) st):mf (.int i) (.int j) st K:=by unfold mf;exact⟨trivial,k⟩
theorem fR(h:IntMulOk i j)(k:K (.int (i*j)) st):cM (.int i) (.int j) st K:=by unfold cM;exact⟨h,k⟩
theorem Jz(h: -(2^63)<=i/\i<2^63/\xs.length*i.toNat<=sizeLine)(k:K (.lst (List.replicate i.toNat xs).flatten) st):cM (.lst xs) (.int i) st K:=by unfold cM;exact⟨h,k⟩
theorem IM(h: -(2^63)<=i/\i<2^63/\xs.length*i.toNat<=sizeLine)(k:K (.tup (List.replicate i.toNat xs).flatten) st):cM (.tup xs) (.int i) st K:=by unfold cM;exact⟨h,k⟩
theorem pE(h0:j≠0)(h:j.natAbs.log2<9000)(k:K (.int (i.fdiv j)) st):lg (.int i) (.int j) st K:=by unfold lg;exact⟨⟨h0,h⟩,k⟩
theorem ny(h0:j≠0)(k:K (.int (i.fmod j)) st):h_ (.int i) (.int j) st K:=by unfold h_;exact⟨h0,k⟩
theorem yn(h:F_ i j)(k:K (.int (i^j.toNat)) st):uh (.int i) (.int j) st K:=by unfold uh;exact⟨h,k⟩
theorem GF(k:K (.bl (decide (i<j))) st):nS (.int i) (.int j) st K:=by unfold nS;exact⟨trivial,k⟩
theorem Hv(k:K (.bl (decide (i<=j))) st):wI (.int i) (.int j) st K:=by unfold wI;exact⟨trivial,k⟩
theorem Hz(k:K (.bl (decide (j<i))) st):pD (.int i) (.int j) st K:=by unfold pD;exact⟨trivial,k⟩
theorem N3(k:K (.bl (decide (j<=i))) st):CW (.int i) (.int j) st K:=by unfold CW;exact⟨trivial,k⟩
theorem Gz(k:K (.bl (!decide (i=j))) st):lX (.int i) (.int j) st K:=by unfold lX;exact k
theorem sr(h1:pl 40 d=true)(h2:pl 40 e=true)(k:K (.bl (cK d e)) st):gH d e st K:=by unfold gH;exact⟨h1,h2,k⟩
theorem IA(a b:Int):(a==b)=decide (a=b):=by
 by_cases h:a=b
 . subst h;simp
 . simp[h]
theorem Eg(k:K (.bl (decide (i=j))) st):gH (.int i) (.int j) st K:=by
 refine sr rfl rfl ?_;have:cK (.int i) (.int j)=decide (i=j):=by unfold cK;exact IA i j
 rw[this];exact k
theorem i5(k:K (.int (-i)) st):gv (.int i) st K:=by unfold gv;exact k
theorem Fs(h:items? st d=some xs)(a:dG xs i=some e)(k:K e st):qr d (.int i) st K:=by
 cases d<;>unfold items? at h<;>first
  |(cases h;done)
  |(cases h;simp only[qr,a];exact k)
  |(simp only at h
    split at h
    . rename_i q;cases h;simp only[qr,q,a];exact k
    . cases h)
theorem ay(h:items? st d=some xs)(a:dG xs i=some e)(k:K e st):aK d (.int i) st K:=by unfold aK;exact Fs h a k
theorem cS(h:items? st d=some xs)(k:K (.int xs.length) st):dH [d] st K:=by
 unfold dH x8;split
 . rename_i z;cases z;cases h
 . rename_i z;cases z;rw[h];exact k
 . rename_i z1 z2;exact absurd rfl (z2 d)
theorem Ij(i:Int):(if i<0 then-i else i)=((i.natAbs:Nat):Int):=by split<;>omega
theorem vw(k:K (.int ((i.natAbs:Nat):Int)) st):nA [.int i] st K:=by unfold nA;show K (.int (if i<0 then-i else i)) st;rw[Ij];exact k
theorem LX(k:K (.int (if j>i then j else i)) st):wA [.int i,.int j] st K:=by unfold wA;exact k
theorem ER(k:K (.int (if j<i then j else i)) st):vT [.int i,.int j] st K:=by unfold vT;exact k
theorem pB(k:K (.int (if b then 1 else 0)) st):tP [.bl b] st K:=by unfold tP;exact k
theorem dX(h:items? st d=some xs)(k:K (.tup xs) st):dY [d] st K:=by unfold dY rW;simp only[h];exact k
theorem kM(h:items? st d=some xs)(k:K (.lst xs) st):j_ [d] st K:=by unfold j_ vE;simp only[h];exact k
theorem yR(h:items? st d=some xs)(k:K (.ref st.length) (st++[.lst xs])):oZ [d] st K:=by unfold oZ sq;simp only[h];exact k
theorem uU{bs:List Bool}(h:jc xs=some bs)(k:K (.bl (bs.all id)) st):qV [.lst xs] st K:=by unfold qV x9;simp only[h];exact k
theorem nN{t c:String}(h:iS st d=some t)(hc:c∈mZ)(k:K (.bl (tX t c)) st):nE [d,.ty c] st K:=by unfold nE xS;simp only[h];exact⟨hc,k⟩
theorem qO{K:List D->(af->Prop)->af->Prop}(h:items? st d=some xs)(k:∀ok:af->Prop,ok st->K xs ok st):oH d st K:=by
 unfold oH wx
 cases d<;>unfold items? at h<;>first
  |(cases h;done)
  |(cases h;exact k _ trivial)
  |(simp only at h
    split at h
    . rename_i q;cases h;simp only[q];exact k _ q
    . cases h)
theorem AH{K:List D->(af->Prop)->af->Prop}(k:K xs (fun _=>True) st):oH (.lst xs) st K:=by unfold oH;exact k
theorem fH{K:List D->(af->Prop)->af->Prop}(k:K xs (fun _=>True) st):oH (.tup xs) st K:=by unfold oH;exact k
theorem fk{K:List D->(af->Prop)->af->Prop}(h: -(2^62)<=j/\j<2^62)(k:K (c9 0 j.toNat) (fun _=>True) st):yd [.int j] st K:=by unfold yd;exact⟨h,k⟩
theorem AJ{K:List D->(af->Prop)->af->Prop}(h: -(2^62)<=i/\i<2^62/\ -(2^62)<=j/\j<2^62)(k:K (c9 i (j-i).toNat) (fun _=>True) st):xZ [.int i,.int j] st K:=by unfold xZ;exact⟨h,k⟩
theorem i7{K:af->Prop}{m:Nat}(h:st[n]?=some (.lst xs))(e:mr xs.length i=some m)(k:K (st.set n (.lst (xs.set m d)))):yZ (.ref n) (.int i) d st K:=by unfold yZ Ck;simp only[h,e];exact k
end
def Dm(K:PySem.W.Frag):Bool:=K.all fun p=>p.2.cls != .type "list"
theorem tf{a:Addr}{o:Obj}:∀ {l:List (Addr×Obj)},l.lookup a=some o->(a,o)∈l
 | [],h=>by cases h
 |(b,u)::r,h=>by
  rw[List.lookup_cons]at h;split at h
  . rename_i z;cases h;have:a=b:=by simpa using z
    subst this;exact List.mem_cons_self
  . exact List.mem_cons_of_mem _ (tf h)
theorem xH{K:PySem.W.Frag}(h:Dm K=true){a:Addr}{o:Obj}(e:K.lookup a=some o):o.cls≠ .type "list":=by
 have:=List.all_eq_true.mp h (a,o) (tf e);simpa using this
theorem xg{α:List (Option Addr)}{G:Hp}:∀ns:List Int,aL α G (ns.map D.int) (ns.map V.int)
 | []=>by unfold aL;rfl
 |n::ns=>by
  rw[List.map_cons,List.map_cons];unfold aL;exact⟨_,_,rfl,by unfold Rep;rfl,xg ns⟩
def notStar:Expr->Bool
 | .Starred .. =>false
 |_=>true
theorem cu{e:Expr}{es:List Expr}{env:Env}(h:notStar e=true):starEach (e::es) env=(false,eval e env)::starEach es env:=by
 cases e<;>first|rfl|cases h
def fK:List Expr->Bool
 | []=>true
 |e::es=>notStar e&&fK es
theorem jv{pos:Pos}{env:Env}:∀ {es:List Expr},fK es=true->(backTo pos (starEach es env)).any (·.1)=false
 | [],_=>rfl
 |e::es,h=>by
  unfold fK at h;rw[Bool.and_eq_true]at h;rw[cu h.1];have ih:=jv (pos:=pos) (env:=env) h.2;unfold backTo at ih⊢;rw[List.map_cons,List.any_cons,ih];rfl
def nM:Expr->Bool
 | .Slice .. =>false
 |_=>true
def qF:Expr->Bool
 | .Name .. =>true
 | .Call .. =>true
 | .Subscript .. =>true
 | .Attribute .. =>true
 |_=>false
def kB:Expr->Bool
 | .ListComp .. =>false
 | .SetComp .. =>false
 | .DictComp .. =>false
 |_=>true
section
variable {X:Cx}
theorem FT{b:Expr}(h:nM b=true):r_ b:=by
 intro o i;cases b<;>first|rfl|cases h
theorem Co{e:Expr}(h:qF e=true):∀whole,isTrue e X.env whole=(do let v <-whole;standAt e.pos;holding [v] (truthy v)):=by
 intro whole;cases e<;>first|(cases h;done)|rfl
theorem wm{e:Expr}{tg:Option Expr}{n:Nat}{env:Env}(h:kB e=true):swapsWith e tg n env=pure false:=by
 cases e<;>first|(cases h;done)|rfl
theorem Gm{e:Expr}{es:List Expr}{te:DE}{tr:DA}(ha:PE X e (LE te))(hr:PA X es (LA tr))(hs:notStar e=true:=by rfl):PA X (e::es) (LA (ae te tr)):=sj ha hr (cu hs)
theorem M_{e:Expr}{es:List Expr}{pos p:Pos}{x:Str}{id:String}{r:eL}{t:DA}(hc:bD X (.builtin id) (fy r))(ha:PA X (e::es) (LA t))(hm:X.mg x=none)(hv:bootBuiltins x=some (.builtin id))(hn:x≠"__name__")(hdb:(x==("__debug__":Str))=false)(hg:Gl X x:=by rfl)(hs:notStar e=true:=by rfl)(hs2:fK es=true:=by rfl):
 PE X (.Call (.Name x p) (e::es) [] pos) (LE (bo r t)):=Pw hc ha hm hv hg hn hdb (cu hs) (jv hs2)
theorem M3{e:Expr}{es:List Expr}{pos p:Pos}{x:Str}{T:String}{r:eL}{t:DA}(hc:bD X (.type T) (fy r))(ha:PA X (e::es) (LA t))(hm:X.mg x=none)(hv:bootBuiltins x=some (.type T))(hn:x≠"__name__")(hdb:(x==("__debug__":Str))=false)(hg:Gl X x:=by rfl)(hs:notStar e=true:=by rfl)(hs2:fK es=true:=by rfl):
 PE X (.Call (.Name x p) (e::es) [] pos) (LE (bo r t)):=Pd hc ha hm hv hg hn hdb (cu hs) (jv hs2)
theorem M8{e:Expr}{es:List Expr}{pos p:Pos}{x qual:Str}{st:Stmt}{ps:List Str}{f:Addr}{fd:FuncData}{k:Nat}{S:b_}{t:DA}(A:bC X.K X.mg x qual st ps f fd)(F:bf X.prog X.w X.K X.mg X.base cj k f fd ps (cp S))(hr:cP k X.A)
 (ha:PA X (e::es) (LA t)) (hdb:(x==("__debug__":Str))=false) (hg:Gl X x:=by rfl) (hs:notStar e=true:=by rfl) (hs2:fK es=true:=by rfl):
 PE X (.Call (.Name x p) (e::es) [] pos) (LE (aE S t)):=Pl A F hr ha hg hdb (cu hs) (jv hs2)
theorem NW{a b:Expr}{ta tb:DE}{pos:Pos}(ha:PE X a (LE ta))(hb:PE X b (LE tb))(hs:nM b=true:=by rfl):PE X (.Subscript a b pos) (LE (ao aK ta tb)):=PF ha hb (FT hs)
theorem Iy{e:Expr}{te:DE}(he:PE X e (LE te))(h:qF e=true:=by rfl):PT X e (LT (a8 te)):=Ko he (Co h)
theorem FC{e:Expr}{te:DE}{pos:Pos}(he:PE X e (LE te))(h:kB e=true:=by rfl):PS X (.Expr e pos) (LS (lb te)):=IY he (wm h)
theorem II{i:Nat}{x:Str}{e:Expr}{te:TE}{pos pos':Pos}(hN:X.N.Nodup)(hi:X.N[i]?=some x)(hx:Loc X.env.scope x)(he:PE X e te)(hf:X.fn x=true\/X.env.scope.names.lookup x=some .local:=by first|exact .inl rfl|exact .inr rfl)(h:kB e=true:=by rfl):
 PS X (.Assign [.Name x pos'] e pos) (oR te (mL i)):=Mf hN hi hx he (wm h) hf
theorem IX{i:Nat}{x:Str}{pos:Pos}(hd:(x==("__debug__":Str))=false)(hcd:(x==("__classdict__":Str))=false)(hv:z_ X.env.scope x)(hN:X.N[i]?=some x:=by rfl):PE X (.Name x pos) (LE (ab i)):=MV (Kd hN hv hd hcd)
theorem LU{o i e:Expr}{to ti te:TE}{pos pos':Pos}(he:PE X e te)(ho:PE X o to)(hi:PE X i ti)(h1:kB e=true:=by rfl)(h2:nM i=true:=by rfl):PS X (.Assign [.Subscript o i pos'] e pos) (oR te (Cj to ti ya)):=
 DH he (LH ho hi set_list (by intro v;cases i<;>first|rfl|cases h2)) (by unfold swapsWithSole;exact wm h1) (by cases e<;>rfl) rfl
end
@[irreducible] def JE(X:Cx)(e:Expr)(t:DE):Prop:=PE X e (LE t)
@[irreducible] def JT(X:Cx)(e:Expr)(t:DT):Prop:=PT X e (LT t)
@[irreducible] def JW(X:Cx)(e:Expr)(t:DT):Prop:=PW X e (LT t)
@[irreducible] def JA(X:Cx)(es:List Expr)(t:DA):Prop:=PA X es (LA t)
@[irreducible] def JS(X:Cx)(s:Stmt)(t:DS):Prop:=PS X s (LS t)
@[irreducible] def JB(X:Cx)(s:List Stmt)(t:DS):Prop:=gG X s (LS t)
@[irreducible] def JG(X:Cx)(e:Expr)(t:fA):Prop:=PG X e (LG t)
@[irreducible] def JI(X:Cx)(tg e:Expr)(t:DI):Prop:=PI X tg e (LI t)
@[irreducible] def JC(X:Cx)(es:List Expr)(t:DT):Prop:=qJ X es (LT t)
section
variable {X:Cx}{a b c e o i:Expr}{es:List Expr}{ta tb tc te to ti:DE}{t u:DT}{ar:DA}{pos p pos':Pos}{s:Stmt}{ss:List Stmt}{T U:DS}
theorem EV{n:Nat}{x:Str}(hd:(x==("__debug__":Str))=false)(hcd:(x==("__classdict__":Str))=false)(hv:z_ X.env.scope x)(hN:X.N[n]?=some x:=by rfl):JE X (.Name x pos) (ab n):=by unfold JE;exact IX hd hcd hv hN
theorem uj{x:Str}{T:String}(hm:X.mg x=none)(hv:bootBuiltins x=some (.type T))(hn:x≠"__name__")(hdb:(x==("__debug__":Str))=false)(hg:Gl X x):JE X (.Name x pos) (dC (.ty T)):=by unfold JE;exact O9 hm hv hg hn hdb
theorem aj{k:Int}{j:Nat}:JE X (.Constant (.int k) j pos) (dC (.int k)):=by unfold JE;exact N9
theorem jr{k:Bool}{j:Nat}:JE X (.Constant (.bool k) j pos) (dC (.bl k)):=by unfold JE;exact PH
theorem GW{k:Str}{j:Nat}:JE X (.Constant (.str k) j pos) (dC (.str k)):=by unfold JE;exact M5
theorem GB{j:Nat}:JE X (.Constant .none j pos) (dC .aH):=by unfold JE;exact Od
theorem ba{op:Operator}{r:cR}(ho:bM X (binaryOp op) (LR r))(ha:JE X a ta)(hb:JE X b tb):JE X (.BinOp a op b pos) (ao r ta tb):=by unfold JE at*;exact Pa ho ha hb
theorem iV(ha:JE X a ta):JE X (.UnaryOp .USub a pos) (kn gv ta):=by unfold JE at*;exact Pf N6 ha
theorem Gy(ha:JE X a ta):JE X (.UnaryOp .Not a pos) (xR (a8 ta)):=by unfold JE at*;exact MU ha
theorem Hj{op:BoolOp}(ha:JE X a ta):JE X (.BoolOp op [a] pos) ta:=by unfold JE at*;exact NS ha
theorem GR(ha:JE X a ta)(hb:JE X (.BoolOp .And (b::es) pos) tb):JE X (.BoolOp .And (a::b::es) pos) (ye ta tb):=by unfold JE at*;exact MM ha hb
theorem pW{op:CmpOp}{r:cR}(ho:bM X (compareOp op) (LR r))(hm:behindInMarks op b=false)(ha:JE X a ta)(hb:JE X b tb):JE X (.Compare a [op] [b] pos) (ao r ta tb):=by unfold JE at*;exact Oc ho ha hb hm
theorem Ji{op op':CmpOp}{r r':cR}(ho:bM X (compareOp op) (LR r))(ho':bM X (compareOp op') (LR r'))(ha:JE X a ta)(hb:JE X b tb)(hc:JE X c tc)(hm:lastMarks [op,op'] [b,c]=false:=by with_unfolding_all rfl):JE X (.Compare a [op,op'] [b,c] pos) (ve r r' ta tb tc):=by unfold JE at*;exact JM ho ho' ha hb hc hm
theorem BE(hc:JT X c t)(ha:JE X a ta)(hb:JE X b tb):JE X (.IfExp c a b pos) (Dz t ta tb):=by unfold JE at*;unfold JT at hc;exact MN hc ha hb
theorem gd{n:Nat}(h:JA X es ar):JE X (.Tuple es n pos) (ie ar):=by unfold JE;unfold JA at h;exact Nj h
theorem nX(h:JA X es ar):JE X (.List es pos) (nu ar):=by unfold JE;unfold JA at h;exact NX h
theorem xT(h:JA X es ar):JE X (.List es pos) (wd ar):=by unfold JE;unfold JA at h;exact NQ h
theorem ai:JA X [] ak:=by unfold JA;exact vA
theorem aa(ha:JE X e te)(hr:JA X es ar)(hs:notStar e=true:=by rfl):JA X (e::es) (ae te ar):=by unfold JA at*;unfold JE at ha;exact Gm ha hr hs
theorem aB(ha:JE X a ta)(hb:JE X b tb)(hs:nM b=true:=by rfl):JE X (.Subscript a b pos) (ao aK ta tb):=by unfold JE at*;exact NW ha hb hs
theorem bY{x:Str}{id:String}{r:eL}(hc:bD X (.builtin id) (fy r))(ha:JA X (e::es) ar)(hm:X.mg x=none)(hv:bootBuiltins x=some (.builtin id))(hn:x≠"__name__")(hdb:(x==("__debug__":Str))=false)(hg:Gl X x)(hs:notStar e=true:=by rfl)(hs2:fK es=true:=by rfl):JE X (.Call (.Name x p) (e::es) [] pos) (bo r ar):=by
 unfold JE;unfold JA at ha;exact M_ hc ha hm hv hn hdb hg hs hs2
theorem eK{x:Str}{T:String}{r:eL}(hc:bD X (.type T) (fy r))(ha:JA X (e::es) ar)(hm:X.mg x=none)(hv:bootBuiltins x=some (.type T))(hn:x≠"__name__")(hdb:(x==("__debug__":Str))=false)(hg:Gl X x)(hs:notStar e=true:=by rfl)(hs2:fK es=true:=by rfl):JE X (.Call (.Name x p) (e::es) [] pos) (bo r ar):=by
 unfold JE;unfold JA at ha;exact M3 hc ha hm hv hn hdb hg hs hs2
theorem aS{x qual:Str}{st:Stmt}{ps:List Str}{f:Addr}{fd:FuncData}{k:Nat}{S:b_}(A:bC X.K X.mg x qual st ps f fd)(F:bf X.prog X.w X.K X.mg X.base cj k f fd ps (cp S))(hr:cP k X.A)(ha:JA X (e::es) ar)(hdb:(x==("__debug__":Str))=false)(hg:Gl X x)(hs:notStar e=true:=by rfl)(hs2:fK es=true:=by rfl):
 JE X (.Call (.Name x p) (e::es) [] pos) (aE S ar):=by unfold JE;unfold JA at ha;exact M8 A F hr ha hdb hg hs hs2
theorem Ft{apos cpos:Pos}(ho:JE X o to)(he:JE X e te)(hbase:attributeBase o "append" X.env (eval o X.env)=eval o X.env:=by rfl)(hline:(apos.endLine==cpos.line)=true:=by rfl)(hs:notStar e=true:=by rfl):JE X (.Call (.Attribute o "append" apos) [e] [] cpos) (pw to te):=by
 unfold JE at*;refine F3 ho he hbase ?_ hline (cu hs) rfl;rw[cu hs];rfl
theorem bR{op:CmpOp}{r:cR}(ho:bM X (compareOp op) (LR r))(hm:behindInMarks op b=false)(ha:JE X a ta)(hb:JE X b tb):JT X (.Compare a [op] [b] pos) (a8 (ao r ta tb)):=by unfold JE at*;unfold JT;exact Kp ho ha hb hm
theorem i4(ha:JT X a t):JT X (.UnaryOp .Not a pos) (jf t):=by unfold JT at*;exact Lz ha
theorem gD(he:JE X e te)(h:qF e=true:=by rfl):JT X e (a8 te):=by unfold JT;unfold JE at he;exact Iy he h
theorem vK(ha:JT X a t):JW X (.BoolOp .And [a] pos) t:=by unfold JW;unfold JT at ha;exact ID ha
theorem rL(ha:JT X a t):JW X (.BoolOp .Or [a] pos) t:=by unfold JW;unfold JT at ha;exact Lf ha
theorem vo(ha:JT X a t)(hb:JW X (.BoolOp .And (b::es) pos) u):JW X (.BoolOp .And (a::b::es) pos) (qh t u):=by unfold JW at*;unfold JT at ha;exact Mu ha hb
theorem nR(ha:JT X a t)(hb:JW X (.BoolOp .Or (b::es) pos) u):JW X (.BoolOp .Or (a::b::es) pos) (nv t u):=by unfold JW at*;unfold JT at ha;exact N_ ha hb
theorem nU(h:JW X e t):JT X e t:=by unfold JT;unfold JW at h;exact PW.pt h
theorem eV{l tg:Expr}(hl:JE X l ta):JI X tg l (d6 ta):=by unfold JI;unfold JE at hl;exact Kb hl
theorem eJ{tg:Expr}(hg:Gl X "range")(hm:X.mg "range"=none)(ha:JA X [a] ar)(hs:notStar a=true:=by rfl):JI X tg (.Call (.Name "range" p) [a] [] pos) (d8 ar):=by unfold JI;unfold JA at ha;exact DF (EB hg hm ha (cu hs))
theorem yT{tg:Expr}(hg:Gl X "range")(hm:X.mg "range"=none)(ha:JA X [a,b] ar)(hs:notStar a=true:=by rfl)(hs2:notStar b=true:=by rfl):JI X tg (.Call (.Name "range" p) [a,b] [] pos) (pv ar):=by unfold JI;unfold JA at ha;exact DZ (DQ hg hm ha (by rw[cu hs,cu hs2];rfl) (cu hs2))
theorem c5{k:Nat}{x:Str}(hN:X.N.Nodup)(hx:Loc X.env.scope x)(hf:X.fn x=true\/X.env.scope.names.lookup x=some .local)(hi:X.N[k]?=some x:=by rfl):JG X (.Name x pos) (bp k):=by unfold JG;exact Iu (vO hN hi hx hf)
theorem se{k j n:Nat}{x y:Str}{px py:Pos}(hc:X.calm=true)(hN:X.N.Nodup)(hx:Loc X.env.scope x)(hf:X.fn x=true\/X.env.scope.names.lookup x=some .local)(hy:Loc X.env.scope y)(hg:X.fn y=true\/X.env.scope.names.lookup y=some .local)(hi:X.N[k]?=some x:=by rfl)(hj:X.N[j]?=some y:=by rfl):
 JG X (.Tuple [.Name x px,.Name y py] n pos) (km k j):=by unfold JG;exact Mh (L4 hc (yg (vO hN hi hx hf) (yg (vO hN hj hy hg) Il)))
theorem cL:JC X [] cH:=by unfold JC;exact FL
theorem uS(h:JT X c t):JC X [c] t:=by unfold JC;unfold JT at h;exact Li h
theorem dU{scope:Scope}{Nc:List Str}{elt tg iter:Expr}{ifs:List Expr}{src:DI}{fr:List (Option Nat)}{dtg:fA}(S:bz X scope Nc fr)(hi:JI X tg iter src)(hg:∀C s H ex,JG (fu X scope Nc C s H ex) tg dtg)(ht:∀C s H ex,JC (fu X scope Nc C s H ex) ifs t)(he:∀C s H ex,JE (fu X scope Nc C s H ex) elt te)(fit:tE fr dtg)
 (hx:X.xe=fun _ _=>False:=by rfl) (hc:X.calm=true:=by rfl) (hs:∀x,foldedSetIterable iter X.env x=pure x:=by intro _;rfl):JE X (.ListComp elt [⟨tg,iter,ifs,0⟩] scope pos) (dn src fr dtg t te):=by
 unfold JE JI JG JC at*;exact KU S hi hg ht he fit hx hc hs
theorem vU{scope:Scope}{Nc:List Str}{elt tg iter:Expr}{ifs:List Expr}{src:DI}{fr:List (Option Nat)}{dtg:fA}(S:bz X scope Nc fr)(hi:JI X tg iter src)(hg:∀C s H ex,JG (fu X scope Nc C s H ex) tg dtg)(ht:∀C s H ex,JC (fu X scope Nc C s H ex) ifs t)(he:∀C s H ex,JE (fu X scope Nc C s H ex) elt te)(fit:tE fr dtg)
 (hx:X.xe=fun _ _=>False:=by rfl) (hc:X.calm=true:=by rfl) (hs:∀x,foldedSetIterable iter X.env x=pure x:=by intro _;rfl):JE X (.ListComp elt [⟨tg,iter,ifs,0⟩] scope pos) (rB src fr dtg t te):=by
 unfold JE JI JG JC at*;exact Ir S hi hg ht he fit hx hc hs
theorem cF:JB X [] cJ:=by unfold JB;exact JH
theorem aw(h:JS X s T):JB X [s] T:=by unfold JB;unfold JS at h;exact IU h
theorem au(h:JS X s T)(h2:JB X ss U):JB X (s::ss) (aF T U):=by unfold JB at*;unfold JS at h;exact FP h h2
theorem aN(h:JE X e te):JS X (.Return (some e) pos) (bc te):=by unfold JS;unfold JE at h;exact Mr h
theorem kK(h:JE X e te)(hc:kB e=true:=by rfl):JS X (.Expr e pos) (lb te):=by unfold JS;unfold JE at h;exact FC h hc
theorem dy{x y:List Stmt}(hc:JT X c t)(ha:JB X x T)(hb:JB X y U):JS X (.If c x y pos) (dN t T U):=by unfold JS;unfold JB at*;unfold JT at hc;exact NV hc ha hb
theorem t_{x:List Stmt}(hc:JT X c t)(hb:JB X x T)(hx:X.xe=fun _ _=>False:=by rfl):JS X (.While c x [] pos) (pG t T):=by unfold JS;unfold JB at hb;unfold JT at hc;exact FI (Gf (by rw[hx];exact PassesOwn.never) hc hb)
theorem fv{tg iter:Expr}{x:List Stmt}{src:DI}{dtg:fA}(hi:JI X tg iter src)(hg:JG X tg dtg)(hb:JB X x T)(hx:X.xe=fun _ _=>False:=by rfl)(hc:X.calm=true:=by rfl)(hs:∀x,foldedSetIterable iter X.env x=pure x:=by intro _;rfl):JS X (.For tg iter x [] pos) (ib src dtg T):=by
 unfold JS;unfold JI at hi;unfold JG at hg;unfold JB at hb;exact LQ (JZ (by rw[hx];exact PassesOwn.never) hc hi hg hb hs)
theorem aQ{k:Nat}{x:Str}(hN:X.N.Nodup)(hx:Loc X.env.scope x)(he:JE X e te)(hf:X.fn x=true\/X.env.scope.names.lookup x=some .local:=by first|exact .inl rfl|exact .inr rfl)(h:kB e=true:=by rfl)(hi:X.N[k]?=some x:=by rfl):JS X (.Assign [.Name x pos'] e pos) (a9 k te):=by
 unfold JS;unfold JE at he;exact JR (II hN hi hx he hf h)
theorem vH{scope:Scope}{Nc:List Str}{elt tg iter:Expr}{ifs:List Expr}{src:DI}{fr:List (Option Nat)}{dtg:fA}{k:Nat}{x:Str}(hN:X.N.Nodup)(hl:Loc X.env.scope x)(S:bz X scope Nc fr)(hi:JI X tg iter src)(hg:∀C s H ex,JG (fu X scope Nc C s H ex) tg dtg)(ht:∀C s H ex,JC (fu X scope Nc C s H ex) ifs t)(he:∀C s H ex,JE (fu X scope Nc C s H ex) elt te)(fit:tE fr dtg)
 (hf:X.fn x=true\/X.env.scope.names.lookup x=some .local:=by first|exact .inl rfl|exact .inr rfl) (hsw:swapsWith (.ListComp elt [⟨tg,iter,ifs,0⟩] scope p) (some (.Name x pos')) pos.line X.env=pure true:=by rfl) (hni:X.N[k]?=some x:=by rfl) (hx:X.xe=fun _ _=>False:=by rfl) (hc:X.calm=true:=by rfl) (hs:∀x,foldedSetIterable iter X.env x=pure x:=by intro _;rfl):
 JS X (.Assign [.Name x pos'] (.ListComp elt [⟨tg,iter,ifs,0⟩] scope p) pos) (a9 k (dn src fr dtg t te)):=by
 unfold JS;unfold JE JI JG JC at*;exact Jv fit (HH hx hc S hi hg ht he hN hni hl hf hsw hs)
theorem dP(he:JE X e te)(ho:JE X o to)(hi:JE X i ti)(h1:kB e=true:=by rfl)(h2:nM i=true:=by rfl):JS X (.Assign [.Subscript o i pos'] e pos) (d5 to ti te):=by unfold JS;unfold JE at*;exact Gn (LU he ho hi h1 h2)
theorem L6{k:Nat}{x:Str}{op:Operator}{f:Int->Int->Int}(hN:X.N.Nodup)(hx:Loc X.env.scope x)(he:JE X e te)(ho:Mc X op (Lp f))(hf:X.fn x=true\/X.env.scope.names.lookup x=some .local:=by first|exact .inl rfl|exact .inr rfl)(hi:X.N[k]?=some x:=by rfl):JS X (.AugAssign (.Name x pos') op e pos) (Bu k (zM f) te):=by
 unfold JS;unfold JE at he;exact Mt (Mj hN hi hx he ho hf)
theorem L8{tg:Expr}{dtg:fA}(he:JE X e te)(hg:JG X tg dtg)(hs:swapsWithSole [tg] e pos.line X.env=pure false:=by rfl)(hw:swappedStores [tg] e X.env=pure none:=by rfl)(h1:(assignEach [tg] X.env).map (·.2)=[assign tg X.env]:=by rfl):JS X (.Assign [tg] e pos) (FH dtg te):=by
 unfold JS;unfold JE at he;unfold JG at hg;exact Md (DH he hg hs hw h1)
end
theorem bB{P:Program}{w:World}{K:PySem.W.Frag}{mg:Str->Option Value}{base:Heap}{x qual:Str}{st:Stmt}{f:Addr}{fd:FuncData}{N ps:List Str}{k:Nat}{sp:b_}{t:DS}(F:nG K x qual st f fd)(S:aO N ps (ag st))
 (hbody:∀(cdv:Value) (A:Around) (outer:List Env) (s:Shared) (H:Hp) (E:XK),cP k (A.deeper (envOfC qual (ag st) s.heap.objs.size f cdv))->JB (qt cj P w K mg base N qual (ag st) f cdv A outer s H E).uH (fI st) t)
 (hsp:∀ds st K,sp ds st K->ds.length=ps.length/\t {nx:=fun _ st'=>K .aH st',rt:=K} (aT N ds) st):bf P w K mg base cj (k+1) f fd ps (cp sp):=by
 unfold JB at hbody;exact N0 F S hbody hsp
end L3
namespace HT
open PySem PyProof.Rows
section
variable {prog:Program}{w:World}{A:Around}{E:Value->Shared->Prop}{s:Shared}
theorem qB{t sl:Addr}{items:Array Value}{vl vu:Value}{lo hi:Option Int}{Q:Value->Shared->Prop}(ht:IsTup s.heap t items)(hs:s.heap.IsSliceOf sl vl vu .none)(pl:IsPart vl lo)(pu:IsPart vu hi)
 (hw:bS items.size 0 lo=0/\bS items.size items.size hi=items.size) (h:Q (.ref t) s):wpAny (model prog w) A (getItem (.ref t) (.ref sl)) Q E s:=by
 obtain⟨os,hos,hcs,hds⟩:=id hs;have hTs:s.TypeIs (.ref sl) "slice":=⟨os,hos,hcs⟩
 unfold getItem;try with_reducible refine wpAny_holding ?_
 first|refine wpAny_bind (wpAny_pure ?_)|skip
 refine wpAny_bind (wpAny_sequenceKey ht.typeIs (by decide) ?_)
 refine wpAny_bind (wpAny_callSpecial?_slot (name:=Str.ofString "__getitem__") ht.typeIs PyProof.Rows.slot_tuple_getitem
  (wpAny_call_entry PyProof.Rows.slot_tuple_getitem ht.typeIs entry_tuple_getitem ?_ (args_tuple_getitem _ _)))
 show wpAny _ _ (Builtin.Tuple.tupleItemsOf (.ref t) >>= _) _ _ s;refine wpAny_bind (tupleItemsOf_ ht ?_);refine wpAny_bind (wpAny_typeOf hTs ?_);rw[if_pos (by decide)];refine wpAny_bind (nq hs pl pu ?_)
 have hyes:(((bS items.size 0 lo:Nat):Int)==0&&(1:Int)==1&&(bS items.size items.size hi-bS items.size 0 lo)==items.size)=true:=by
  rw[hw.1,hw.2];simp
 show wpAny _ _ (if(((bS items.size 0 lo:Nat):Int)==0&&(1:Int)==1&&(bS items.size items.size hi-bS items.size 0 lo)==items.size)=true then _ else _) _ _ s;rw[if_pos hyes];refine wpAny_bind ?_;unfold Builtin.Tuple.tupleIsExact;exact wpAny_bind (wpAny_typeOf ht.typeIs (wpAny_pure (wpAny_bind (wpAny_rule (wpAny_pure ⟨_,rfl,wpAny_pure h⟩)))))
end
end HT
namespace L3
open PySem L2
open PySem.Spec hiding items?
open PyProof.Rows hiding St
abbrev DO:=bV->af->(Option Int->af->Prop)->Prop
def fJ:DO:=fun _ st K=>K none st
def je(t:DE):DO:=fun σ st K=>t σ st fun d st1=>match d with| .int i=>K (some i) st1|_=>False
def cutD(xs:List D)(lo hi:Option Int):List D:=(xs.drop (HT.bS xs.length 0 lo)).take (HT.bS xs.length xs.length hi-HT.bS xs.length 0 lo)
def zf(d:D)(lo hi:Option Int)(st:af)(K:DK):Prop:=match d with
 | .lst xs=>K (.lst (cutD xs lo hi)) st
 | .tup xs=>K (.tup (cutD xs lo hi)) st
 | .ref n=>(match st[n]? with|some (.lst xs)=>K (.lst (cutD xs lo hi)) st|_=>False)
 |_=>False
@[irreducible] def jX:D->Option Int->Option Int->af->DK->Prop:=zf
def gY(t:DE)(lo hi:DO):DE:=fun σ st K=>t σ st fun d st1=>lo σ st1 fun l st2=>hi σ st2 fun u st3=>jX d l u st3 K
theorem uy{α:List (Option Addr)}{G:Hp}{xs:List D}{vs:List V}{lo hi:Option Int}(r:aL α G xs vs):aL α G (cutD xs lo hi) (qm vs lo hi):=by
 unfold cutD qm;rw[<-r.length];exact a7.mpr (tJ _ (tL _ (a7.mp r)))
def PQ(α:List (Option Addr))(G F:Hp)(K:Option Int->af->Prop)(Q:Option Int->Hp->Prop):Prop:=∀o st',K o st'->∀α' G' H',Step α G α' G'->bW G' F H'->aR α' st' G'->Q o H'
inductive Oq(t:DO)(σ:L2.St)(H:Hp)(Q:Option Int->Hp->Prop):Prop
 |mk (α:List (Option Addr)) (σd:bV) (st:af) (K:Option Int->af->Prop) (G F:Hp) (P:bW G F H) (R:dQ α G σd σ) (S:aR α st G) (h:t σd st K) (k:PQ α G F K Q):Oq t σ H Q
def LO(t:DO):TO:=Oq t
section
variable {X:Cx}
theorem PO.imp{e:Option Expr}{t t':TO}(h:PO X e t)(f:∀σ H Q,t' σ H Q->t σ H Q):PO X e t':=fun pins s σ H Q I q=>h pins s σ H Q I (f σ H Q q)
theorem Jf:PO X none (LO fJ):=PO.imp Jr fun σ H Q ⟨α,σd,st,K,G,F,P,R,S,t,k⟩=>k none st t α G H Step.refl P S
theorem IP{e:Expr}{te:DE}(h:PE X e (LE te)):PO X (some e) (LO (je te)):=PO.imp (Jk h) fun σ H Q ⟨α,σd,st,K,G,F,P,R,S,t,k⟩=>by
 refine⟨α,σd,st,_,G,F,P,R,S,t,fun d st1 q α1 G1 H1 v s1 P1 S1 r1=>?_⟩;cases d<;>try exact q.elim
 unfold Rep at r1;exact⟨_,r1,k _ st1 q α1 G1 H1 s1 P1 S1⟩
def P9(x:V)(lo hi:Option Int)(H:Hp)(Q:VK):Prop:=∃α d st K G F,bW G F H/\Rep α G d x/\aR α st G/\jX d lo hi st K/\LK α G F K Q
theorem Ic:D4 X (fun x lo hi H Q=>∃a xs,x= .ref a/\H a=some (.tup xs)/\((HT.bS xs.length 0 lo=0/\HT.bS xs.length xs.length hi=xs.length)->Q (.ref a) H)/\(¬(HT.bS xs.length 0 lo=0/\HT.bS xs.length xs.length hi=xs.length)->∀p,H p=none->Q (.ref p) (upd H p (.tup (qm xs lo hi))))):=by
 intro pins s σ H x v vl vu lo hi sl Q I rx hs pl pu h;obtain⟨a,xs,rfl,hx,q1,q2⟩:=h;by_cases hw:HT.bS xs.length 0 lo=0/\HT.bS xs.length xs.length hi=xs.length
 . cases rx;obtain⟨its,r,ht,hz⟩:=I.tuple (iE.of hx);have hlen:its.toArray.size=xs.length:=by rw[List.size_toArray];exact r.length.symm
   exact⟨"tuple",_,PyProof.Rows.slot_tuple_getitem.lookup,ht.typeIs,HT.qB ht hs pl pu (by rw[hlen];exact hw) ⟨.ref a,H,I,rfl,q1 hw⟩⟩
 . exact Kj pins s σ H _ v vl vu lo hi sl Q I rx hs pl pu ⟨a,xs,rfl,.of hx,hw,q2 hw⟩
theorem C6{xs:List D}{lo hi:Option Int}(hw:HT.bS xs.length 0 lo=0/\HT.bS xs.length xs.length hi=xs.length):cutD xs lo hi=xs:=by
 unfold cutD;rw[hw.1,hw.2];simp
theorem Lm:D4 X P9:=by
 intro pins s σ H x v vl vu lo hi sl Q I rx hs pl pu ⟨α,d,st,K,G,F',P,r1,S,q,k⟩;unfold jX zf at q;cases d<;>try exact q.elim
 . rename_i n;simp only at q;split at q
   . rename_i xs e;obtain⟨a,ea,vs,h1,h2⟩:=S.gn e;have r1':=c8 ea r1;subst r1';exact Bp pins s σ H _ v vl vu lo hi sl Q I rx hs pl pu ⟨a,vs,rfl,.inl (.of (P.get h1)),fun p hp=>k.lst P q S (uy h2) hp⟩
   . exact q.elim
 . unfold Rep at r1;obtain⟨a,vs,rfl,na,ha,ra⟩:=r1;exact Bp pins s σ H _ v vl vu lo hi sl Q I rx hs pl pu ⟨a,vs,rfl,.inl (fQ P ha),fun p hp=>k.lst P q S (uy ra) hp⟩
 . rename_i xs;have r0:=r1;unfold Rep at r1;obtain⟨a,vs,rfl,na,ha,ra⟩:=r1;refine Ic pins s σ H _ v vl vu lo hi sl Q I rx hs pl pu ⟨a,vs,rfl,P.get ha,fun hw=>?_,fun _ p hp=>k.tup P q S (uy ra) hp⟩;rw[<-ra.length]at hw;simp only at q;rw[C6 hw]at q;exact k.here P q S r0
theorem JL{e:Expr}{lo hi:Option Expr}{te:DE}{tl th:DO}{p2 pos:Pos}(he:PE X e (LE te))(hl:PO X lo (LO tl))(hh:PO X hi (LO th)):PE X (.Subscript e (.Slice lo hi none p2) pos) (LE (gY te tl th)):=PE.imp (FW Lm he hl hh) fun σ H Q ⟨α,σd,st,K,G,F,P,R,S,t,k⟩=>by
 refine⟨α,σd,st,_,G,F,P,R,S,t,fun d st1 q α1 G1 H1 v s1 P1 S1 r1=>?_⟩;refine⟨α1,σd,st1,_,G1,F,P1,R.step s1,S1,q,fun l st2 q2 α2 G2 H2 s2 P2 S2=>?_⟩;refine⟨α2,σd,st2,_,G2,F,P2,(R.step s1).step s2,S2,q2,fun u st3 q3 α3 G3 H3 s3 P3 S3=>?_⟩;exact⟨α3,d,st3,K,G3,F,P3,(r1.step s2).step s3,S3,q3,((k.at s1).at s2).at s3⟩
@[irreducible] def JO(X:Cx)(e:Option Expr)(t:DO):Prop:=PO X e (LO t)
theorem jA:JO X none fJ:=by unfold JO;exact Jf
theorem jz{e:Expr}{te:DE}(h:JE X e te):JO X (some e) (je te):=by unfold JO;unfold JE at h;exact IP h
theorem jG{e:Expr}{lo hi:Option Expr}{te:DE}{tl th:DO}{p2 pos:Pos}(he:JE X e te)(hl:JO X lo tl)(hh:JO X hi th):JE X (.Subscript e (.Slice lo hi none p2) pos) (gY te tl th):=by unfold JE at*;unfold JO at*;exact JL he hl hh
end
theorem oh{st:af}{K:DK}{xs:List D}{lo hi:Option Int}(k:K (.lst (cutD xs lo hi)) st):jX (.lst xs) lo hi st K:=by unfold jX;exact k
theorem qS{st:af}{K:DK}{xs:List D}{lo hi:Option Int}(k:K (.tup (cutD xs lo hi)) st):jX (.tup xs) lo hi st K:=by unfold jX;exact k
theorem Eo{st:af}{K:DK}{xs:List D}{lo hi:Option Int}{n:Nat}(h:st[n]?=some (.lst xs))(k:K (.lst (cutD xs lo hi)) st):jX (.ref n) lo hi st K:=by unfold jX zf;simp only[h];exact k
section
variable {prog:Program}{w:World}{A:Around}{E:Value->Shared->Prop}{s:Shared}
theorem Ci{iT tp:Addr}{n:Nat}{its:Array Value}{v:Value}{Q:Value->Shared->Prop}(hI:s.heap.IsTupleIter iT tp n)(hT:s.heap.IsTuple tp its)(hv:its[n]?=some v)
 (q:∀g,g.IsTupleIter iT tp (n+1)->Heap.SameBut iT s.heap g->Q v {s with heap:=g}):wpAny (model prog w) A (Builtin.SmallTypes.nextOf (.ref iT)) Q E s:=by
 obtain⟨oI,eI,cI,dI⟩:=id hI;obtain⟨oT,eT,_,nT,dT⟩:=hT;unfold Builtin.SmallTypes.nextOf;refine wpAny_bind (wpAny_callSpecial?_slot (name:=Str.ofString "__next__") hI.typeIs F.slot_tuple_iterator_next (wpAny_call_entry F.slot_tuple_iterator_next hI.typeIs F.entry_tuple_iterator_next ?_ (F.args_tuple_iterator_next_1 _)));show wpAny _ _ (field (.ref iT) 0 >>= _) _ _ s;refine wpAny_bind (wpAny_field eI dI (x:= .ref tp) rfl ?_);show wpAny _ _ (if(Value.ref tp==Value.none)=true then _ else _) _ _ s;rw[if_neg (show¬((Value.ref tp==Value.none)=true)from Bool.false_ne_true)];show wpAny _ _ (field (.ref iT) 1 >>= _) _ _ s;refine wpAny_bind (wpAny_field eI dI (x:= .int n 0) rfl ?_);show wpAny _ _ (seqItems? (.ref tp) >>= _) _ _ s;refine wpAny_bind (wpAny_seqItems eT dT ?_);simp only[Int.toNat_natCast,hv];refine wpAny_bind (wpAny_setField eI dI (by simp) (wpAny_pure ⟨v,rfl,wpAny_pure (q _ ?_ (Heap.SameBut.update ..))⟩));refine⟨_,Heap.get?_update_self _ eI (Obj.isFreed_of_fields (Obj.data_mapFields dI _)),(Obj.cls_mapFields ..).trans cI,?_⟩;rw[Obj.data_mapFields dI];simp[rawInt]
theorem EU{iT tp:Addr}{n:Nat}{its:Array Value}{Q:Value->Shared->Prop}(hh:A.handled=none)(hI:s.heap.IsTupleIter iT tp n)(hT:s.heap.IsTuple tp its)(hv:its[n]?=none)
 (q:∀g e,Heap.ExtBut iT s.heap g->(∃o,g.get? e=some o/\o.cls= .type "StopIteration")->E (.ref e) {s with heap:=g}):wpAny (model prog w) A (Builtin.SmallTypes.nextOf (.ref iT)) Q E s:=by
 obtain⟨oI,eI,cI,dI⟩:=id hI;obtain⟨oT,eT,_,nT,dT⟩:=hT;unfold Builtin.SmallTypes.nextOf;refine wpAny_bind (wpAny_callSpecial?_slot (name:=Str.ofString "__next__") hI.typeIs F.slot_tuple_iterator_next (wpAny_call_entry F.slot_tuple_iterator_next hI.typeIs F.entry_tuple_iterator_next ?_ (F.args_tuple_iterator_next_1 _)));show wpAny _ _ (field (.ref iT) 0 >>= _) _ _ s;refine wpAny_bind (wpAny_field eI dI (x:= .ref tp) rfl ?_);show wpAny _ _ (if(Value.ref tp==Value.none)=true then _ else _) _ _ s;rw[if_neg (show¬((Value.ref tp==Value.none)=true)from Bool.false_ne_true)];show wpAny _ _ (field (.ref iT) 1 >>= _) _ _ s;refine wpAny_bind (wpAny_field eI dI (x:= .int n 0) rfl ?_);show wpAny _ _ (seqItems? (.ref tp) >>= _) _ _ s;refine wpAny_bind (wpAny_seqItems eT dT ?_);simp only[Int.toNat_natCast,hv];refine wpAny_bind (wpAny_rule (wpAny_bind (wpAny_setField eI dI (by simp) ?_)));show wpAny _ _ (newExc (.type "StopIteration") [] >>= _) _ _ _;refine wpAny_bind ?_;simp only[newExc,newTuple];refine wpAny_bind (wpAny_newObj_type ?_ (by size_fits));refine wpAny_bind (m:=firstArgMember _ _) (wpAny_of_eq (a:=Value.none) (by first|rfl|(simp only[firstArgMember];rfl)) ?_);refine wpAny_newObj_type ?_ (by size_fits);simp only[raiseNew];refine wpAny_bind (wpAny_handled ?_);first|rw[show A.in1.handled=none from hh]|rw[hh]
 refine wpAny_bind (wpAny_pure (wpAny_throw ?_));exact q _ _ (((Heap.SameBut.update ..).extBut.push _).push _) ⟨_,Heap.get?_push_size _ rfl,rfl⟩
end
section
variable {st:af}{K:DK}{i j:Int}{b c:Bool}{xs ys:List D}{d e:D}{n:Nat}
theorem eqT(h:i=j)(k:K (.bl true) st):gH (.int i) (.int j) st K:=Eg (by rw[decide_eq_true h];exact k)
theorem Qk(h:i≠j)(k:K (.bl false) st):gH (.int i) (.int j) st K:=Eg (by rw[decide_eq_false h];exact k)
theorem eq2(h1:i=j->K (.bl true) st)(h2:i≠j->K (.bl false) st):gH (.int i) (.int j) st K:=by
 by_cases h:i=j
 . exact eqT h (h1 h)
 . exact Qk h (h2 h)
theorem neT(h:i≠j)(k:K (.bl true) st):lX (.int i) (.int j) st K:=Gz (by rw[decide_eq_false h];exact k)
theorem Eb(h:i=j)(k:K (.bl false) st):lX (.int i) (.int j) st K:=Gz (by rw[decide_eq_true h];exact k)
theorem ne2(h1:i≠j->K (.bl true) st)(h2:i=j->K (.bl false) st):lX (.int i) (.int j) st K:=by
 by_cases h:i=j
 . exact Eb h (h2 h)
 . exact neT h (h1 h)
theorem Ot(h:i<j)(k:K (.bl true) st):nS (.int i) (.int j) st K:=GF (by rw[decide_eq_true h];exact k)
theorem OD(h:j<=i)(k:K (.bl false) st):nS (.int i) (.int j) st K:=GF (by rw[decide_eq_false (by omega)];exact k)
theorem Ly(h1:i<j->K (.bl true) st)(h2:j<=i->K (.bl false) st):nS (.int i) (.int j) st K:=by
 by_cases h:i<j
 . exact Ot h (h1 h)
 . exact OD (by omega) (h2 (by omega))
theorem Qa(h:i<=j)(k:K (.bl true) st):wI (.int i) (.int j) st K:=Hv (by rw[decide_eq_true h];exact k)
theorem Qd(h:j<i)(k:K (.bl false) st):wI (.int i) (.int j) st K:=Hv (by rw[decide_eq_false (by omega)];exact k)
theorem PU(h:j<i)(k:K (.bl true) st):pD (.int i) (.int j) st K:=Hz (by rw[decide_eq_true h];exact k)
theorem Qe(h:i<=j)(k:K (.bl false) st):pD (.int i) (.int j) st K:=Hz (by rw[decide_eq_false (by omega)];exact k)
theorem EE(h1:j<i->K (.bl true) st)(h2:i<=j->K (.bl false) st):pD (.int i) (.int j) st K:=by
 by_cases h:j<i
 . exact PU h (h1 h)
 . exact Qe (by omega) (h2 (by omega))
theorem Qj{P:Prop}(h:xs.length<=1000)(k:P):xs.length<=sizeLine/\P:=⟨by rw[sizeLine_eq];omega,k⟩
theorem cG{m:Nat}(h:m<=1000):m<=sizeLine:=by rw[sizeLine_eq];omega
theorem vV(h0:0<=i)(e:xs[i.toNat]?=some d):dG xs i=some d:=by
 have:=g_ e;rw[Int.toNat_of_nonneg h0]at this;exact this
theorem Di{m:Nat}(h0:0<=i)(h:i.toNat<m):mr m i=some i.toNat:=by
 unfold mr;have:i<(m:Int):=by omega
 simp[h0,this]
end
theorem hJ{tg:fA}{body:DS}{ok:af->Prop}{E:mK}(I:List D->bV->af->Prop)(hend:∀σ st,I [] σ st->ok st/\E.nx σ st)
 (hstep:∀x xs σ st,I (x::xs) σ st->(∀σ' st',I xs σ' st'->iH tg body ok E xs σ' st')->ok st/\∃σ1,tg x σ=some σ1/\body {E with nx:=iH tg body ok E xs,ct:=iH tg body ok E xs,bk:=E.nx} σ1 st):
 ∀xs σ st,I xs σ st->iH tg body ok E xs σ st
 | [],σ,st,h=>by unfold iH;exact hend σ st h
 |x::xs,σ,st,h=>by unfold iH;exact hstep x xs σ st h fun σ' st' h'=>hJ I hend hstep xs σ' st' h'
theorem ft{tg:fA}{c:DT}{te:DE}{ok:af->Prop}{σc:bV}{K:List D->af->Prop}(I:List D->List D->af->Prop)(hend:∀acc st,I [] acc st->ok st/\K acc st)
 (hstep:∀x xs acc st,I (x::xs) acc st->(∀acc' st',I xs acc' st'->du tg c te ok σc xs acc' st' K)->ok st/\∃σ2,tg x σc=some σ2/\c σ2 st fun b st1=>if b=true then te σ2 st1 fun y st2=>du tg c te ok σc xs (acc++[y]) st2 K else du tg c te ok σc xs acc st1 K):
 ∀xs acc st,I xs acc st->du tg c te ok σc xs acc st K
 | [],acc,st,h=>by unfold du;exact hend acc st h
 |x::xs,acc,st,h=>by unfold du;exact hstep x xs acc st h fun acc' st' h'=>ft I hend hstep xs acc' st' h'
theorem comp_map{tg:fA}{te:DE}{ok:af->Prop}{σc:bV}{st:af}{K:List D->af->Prop}{g:D->D}(aP:ok st)(xs:List D)(hx:∀x∈xs,∀K',K' (g x) st->∃σ2,tg x σc=some σ2/\te σ2 st K')(k:K (xs.map g) st):du tg cH te ok σc xs [] st K:=by
 refine ft (fun r acc st'=>st'=st/\(∀x∈r,x∈xs)/\acc++r.map g=xs.map g) (fun acc st' h=>?_) (fun x r acc st' h next=>?_) xs [] st ⟨rfl,fun _ h=>h,rfl⟩
 . obtain⟨rfl,_,e⟩:=h;rw[List.map_nil,List.append_nil]at e;rw[e];exact⟨aP,k⟩
 . obtain⟨rfl,hm,e⟩:=h;obtain⟨σ2,e2,q⟩:=hx x (hm x List.mem_cons_self) (fun y st2=>du tg cH te ok σc r (acc++[y]) st2 K) (next _ _ ⟨rfl,fun z hz=>hm z (List.mem_cons_of_mem _ hz),by rw[<-e];simp⟩);exact⟨aP,σ2,e2,q⟩
theorem kI{A B:DS}{E:mK}{σ:bV}{st:af}(J:bV->af->Prop)(h:∀nx,(∀σ' st',J σ' st'->nx σ' st')->A {E with nx:=nx} σ st)(k:∀σ' st',J σ' st'->B E σ' st'):aF A B E σ st:=h (B E) k
def LD(n:Nat)(K:DK)(y:D)(st2:af):Prop:=∃y',[y]=[y']/\(match st2[n]? with|some (.lst xs)=>xs.length<sizeLine/\K .aH (st2.set n (.lst (xs++[y'])))|_=>False)
theorem Im{n:Nat}{K:DK}{y:D}{st:af}{xs:List D}(e:st[n]?=some (.lst xs))(h:xs.length<sizeLine)(k:K .aH (st.set n (.lst (xs++[y])))):LD n K y st:=by
 refine⟨y,rfl,?_⟩;simp only[e];exact⟨h,k⟩
@[irreducible] def o5(to te:DE):DE:=pw to te
theorem Ku{σ:bV}{st:af}{K:DK}{i n:Nat}{xs:List D}{te:DE}(ei:σ[i]?=some (some (.ref n)))(e:st[n]?=some (.lst xs))(h:te σ st (LD n K)):o5 (ab i) te σ st K:=by
 unfold o5 pw ab;simp only[ei,e];exact h
theorem DL{X:Cx}{o e:Expr}{to te:DE}{apos cpos:Pos}(ho:JE X o to)(he:JE X e te)(hbase:attributeBase o "append" X.env (eval o X.env)=eval o X.env:=by rfl)(hline:(apos.endLine==cpos.line)=true:=by rfl)(hs:notStar e=true:=by rfl):JE X (.Call (.Attribute o "append" apos) [e] [] cpos) (o5 to te):=by
 unfold o5;exact Ft ho he hbase hline hs
@[irreducible] def pJ(i:Nat)(t:DS):DS:=fun D σ st=>match σ[i]? with
 |some (some (.ref n))=>(match st[n]? with|some (.lst xs)=>t D (σ.set i (some (.lst xs))) (st.set n .dead)|_=>False)
 |_=>False
section
variable {X:Cx}
theorem Mo{s:Stmt}{i:Nat}{t:DS}(h:PS X s (LS t)):PS X s (LS (pJ i t)):=PS.imp h fun D σ H ⟨α,σd,st,DD,G,F,P,R,S,q,k⟩=>by
 unfold pJ at q;split at q
 . rename_i n e;split at q
   . rename_i xs e2;have hn:n<st.length:=(List.getElem?_eq_some_iff.mp e2).1;obtain⟨v,ev,rv⟩:=R.at' i _ e;have R2:dQ (α.set n none) G (σd.set i (some (.lst xs))) (σ.set i (some v)):=(R.step Step.eQ).set i (S.Jx e2 rv)
     have es:σ.set i (some v)=σ:=by
      refine List.ext_getElem? fun j=>?_;by_cases hj:i=j
      . subst hj;rw[List.getElem?_set_self (List.getElem?_eq_some_iff.mp ev).1,ev]
      . rw[List.getElem?_set_ne hj]
     rw[es]at R2;exact⟨α.set n none,_,_,DD,G,F,P,R2,S.eQ hn,q,k.at Step.eQ⟩
   . exact q.elim
 . exact q.elim
theorem Dv{s:Stmt}{i:Nat}{t:DS}(h:JS X s t):JS X s (pJ i t):=by unfold JS at*;exact Mo h
end
theorem C0{σ:bV}{st:af}{E:mK}{i n:Nat}{t:DS}{xs:List L3.D}(e:σ[i]?=some (some (.ref n)))(e2:st[n]?=some (.lst xs))(k:t E (σ.set i (some (.lst xs))) (st.set n .dead)):pJ i t E σ st:=by
 unfold pJ;simp only[e,e2];exact k
structure Src(P:Program)(w:World)(t a:Addr)(J:Nat->Heap->Prop)(us:Array Value):Prop where
 fr:∀n g k,J n g->(∀b,b=t\/b=a->∀o,g.get? b=some o->k.get? b=some o)->J n k
 lv:∀n g,J n g->(∃o,g.get? t=some o)/\∃o,g.get? a=some o
 nx:∀n (A:Around) (s:Shared) (Q:Value->Shared->Prop) (E:Value->Shared->Prop) v,J n s.heap->us[n]?=some v->(∀k,J (n+1) k->Heap.SameBut t s.heap k->Q v {s with heap:=k})->wpAny (model P w) A (Builtin.SmallTypes.nextOf (.ref t)) Q E s
 en:∀n (A:Around) (s:Shared) (Q:Value->Shared->Prop) (E:Value->Shared->Prop),A.handled=none->J n s.heap->us[n]?=none->(∀k e,Heap.ExtBut t s.heap k->(∃o,k.get? e=some o/\o.cls= .type "StopIteration")->E (.ref e) {s with heap:=k})->wpAny (model P w) A (Builtin.SmallTypes.nextOf (.ref t)) Q E s
section
variable {P:Program}{w:World}
theorem src_list(t a:Addr)(hne:a≠t)(us:Array Value):Src P w t a (fun n g=>g.IsListIter t a n/\g.IsList a us) us where
 fr:=fun n g k j kp=>⟨j.1.at fun o e=>kp t (.inl rfl) o e,j.2.at fun o e=>kp a (.inr rfl) o e⟩
 lv:=fun n g j=>⟨let⟨o,e,_⟩:=j.1;⟨o,e⟩,let⟨o,e,_⟩:=j.2;⟨o,e⟩⟩
 nx:=fun n A s Q E v j hv q=>wpAny_nextOf_list_item j.1 j.2 hv fun k jk sb=>q k ⟨jk,j.2.extBut sb.extBut hne⟩ sb
 en:=fun n A s Q E hh j hv q=>wpAny_nextOf_list_end hh j.1 j.2 hv q
theorem Jg(t a:Addr)(hne:a≠t)(us:Array Value):Src P w t a (fun n g=>g.IsTupleIter t a n/\g.IsTuple a us) us where
 fr:=fun n g k j kp=>by
  obtain⟨⟨o,e,r⟩,⟨o2,e2,r2⟩⟩:=j;exact⟨⟨o,kp t (.inl rfl) o e,r⟩,⟨o2,kp a (.inr rfl) o2 e2,r2⟩⟩
 lv:=fun n g j=>⟨let⟨o,e,_⟩:=j.1;⟨o,e⟩,let⟨o,e,_⟩:=j.2;⟨o,e⟩⟩
 nx:=fun n A s Q E v j hv q=>Ci j.1 j.2 hv fun k jk sb=>q k ⟨jk,j.2.extBut sb.extBut hne⟩ sb
 en:=fun n A s Q E hh j hv q=>EU hh j.1 j.2 hv q
theorem Src.ext{t a c:Addr}{J:Nat->Heap->Prop}{us:Array Value}(S:Src P w t a J us){n:Nat}{g k:Heap}(j:J n g)(x:Heap.ExtBut c g k)(h1:c≠t)(h2:c≠a):J n k:=
 S.fr n g k j fun b hb o e=>x b o (by rcases hb with rfl|rfl;exact Ne.symm h1;exact Ne.symm h2) e
structure AV(z ti to t1 t2 a1 a2:Addr):Prop where
 nd: [z,ti,to,t1,t2].Nodup
 a1:a1∉[z,ti,to,t1,t2]
 a2:a2∉[z,ti,to,t1,t2]
section
variable {z ti to t1 t2 a1 a2:Addr}
theorem AV.n(D:AV z ti to t1 t2 a1 a2):(ti≠z/\to≠z/\t1≠z/\t2≠z)/\(ti≠to/\ti≠t1/\ti≠t2)/\(to≠t1/\to≠t2)/\t1≠t2:=by
 have:=D.nd;simp only[List.nodup_cons,List.mem_cons,not_or,List.not_mem_nil,not_false_eq_true,and_true,List.nodup_nil]at this;obtain⟨⟨b1,b2,b3,b4⟩,⟨b5,b6,b7⟩,⟨b8,b9⟩,b10⟩:=this;exact⟨⟨Ne.symm b1,Ne.symm b2,Ne.symm b3,Ne.symm b4⟩,⟨b5,b6,b7⟩,⟨b8,b9⟩,b10⟩
theorem C4{A:Around}{s:Shared}{E:Value->Shared->Prop}{J1 J2:Nat->Heap->Prop}{us vs:Array Value}{n:Nat}{x y a b:Value}{Q:Value->Shared->Prop}(D:AV z ti to t1 t2 a1 a2)(S1:Src P w t1 a1 J1 us)(S2:Src P w t2 a2 J2 vs)
 (Z:IsZip s.heap z ti to .none) (pI:IsPair s.heap ti (.ref t1) (.ref t2)) (pO:IsPair s.heap to a b) (j1:J1 n s.heap) (j2:J2 n s.heap) (ex:us[n]?=some x) (ey:vs[n]?=some y)
 (q:∀k,IsZip k z ti to (rawInt s.heap.objs.size)->IsPair k to x y->J1 (n+1) k->J2 (n+1) k->IsPair k s.heap.objs.size x y->k.objs.size=s.heap.objs.size+1->
   (∀c o,c≠z->c≠to->c≠t1->c≠t2->s.heap.get? c=some o->k.get? c=some o)->Q (.ref s.heap.objs.size) {s with heap:=k}):
 wpAny (model P w) A (Builtin.«zip.__next__» ⟨[.ref z],[]⟩) (fun fin s'=>∃v,fin= .done (.ret v)/\Q v s') E s:=by
 obtain⟨⟨n1,n2,n3,n4⟩,⟨n5,n6,n7⟩,⟨n8,n9⟩,n10⟩:=D.n;have m1:=D.a1;have m2:=D.a2;simp only[List.mem_cons,not_or,List.not_mem_nil,not_false_eq_true,and_true]at m1 m2;show wpAny _ _ (field (.ref z) 2 >>= _) _ _ _;refine wpAny_bind (wpAny_field Z rfl (x:= .bool false) rfl ?_);show wpAny _ _ (field (.ref z) 3 >>= _) _ _ _;refine wpAny_bind (wpAny_field Z rfl (x:= .ref ti) rfl ?_);refine wpAny_bind (wpAny_seqItems pI rfl ?_);show wpAny _ _ (Builtin.SmallTypes.ownedTupleIsFree (.ref z) >>= _) _ _ _;refine wpAny_bind ?_;unfold Builtin.SmallTypes.ownedTupleIsFree;refine wpAny_bind (wpAny_field Z rfl (x:= .none) rfl (wpAny_pure ?_));simp only[if_true];refine wpAny_bind (wpAny_rule ?_);refine wpAny_bind (wpAny_field Z rfl (x:= .ref to) rfl ?_);refine wpAny_bind (wpAny_setField_rec Z (by simp) fun k1 Z1 b1=>?_);replace Z1:IsZip k1 z ti to .ellipsis:=Z1;refine wpAny_bind ?_;simp only[List.zipIdx_cons,List.zipIdx_nil,List.forIn_cons,List.forIn_nil];refine wpAny_bind (wpAny_bind (wpAny_onRaise ?_));show wpAny _ _ (Builtin.SmallTypes.nextOf (.ref t1) >>= _) _ _ _;refine wpAny_bind (S1.nx n _ _ _ _ x (S1.ext j1 b1.extBut (Ne.symm n3) (Ne.symm m1.1)) ex fun k2 j1b b2=>wpAny_pure ?_);have pO2:IsPair k2 to a b:=b2.extBut _ _ n8 (b1.extBut _ _ n2 pO);refine wpAny_bind (wpAny_seqItems pO2 rfl ?_);refine wpAny_bind (wpAny_updateSeq_pair pO2 fun k3 pO3 b3=>?_);replace pO3:IsPair k3 to x b:=pO3;refine wpAny_bind (wpAny_letGo (wpAny_pure ?_));refine wpAny_bind (wpAny_bind (wpAny_onRaise ?_));show wpAny _ _ (Builtin.SmallTypes.nextOf (.ref t2) >>= _) _ _ _;have j2c:J2 n k3:=S2.ext (S2.ext (S2.ext j2 b1.extBut (Ne.symm n4) (Ne.symm m2.1)) b2.extBut n10 (Ne.symm m2.2.2.2.1)) b3.extBut n9 (Ne.symm m2.2.2.1);refine wpAny_bind (S2.nx n _ _ _ _ y j2c ey fun k4 j2d b4=>wpAny_pure ?_);have pO4:IsPair k4 to x b:=b4.extBut _ _ n9 pO3;refine wpAny_bind (wpAny_seqItems pO4 rfl ?_);refine wpAny_bind (wpAny_updateSeq_pair pO4 fun k5 pO5 b5=>?_);replace pO5:IsPair k5 to x y:=pO5;refine wpAny_bind (wpAny_letGo (wpAny_pure (wpAny_pure ?_)));refine wpAny_bind (wpAny_seqItems pO5 rfl ?_);refine wpAny_bind (wpAny_newTuple ?_);have sz:k5.objs.size=s.heap.objs.size:=by rw[b5.1,b4.1,b3.1,b2.1,b1.1]
 have Z5:IsZip k5 z ti to .ellipsis:=b5.extBut _ _ (Ne.symm n2) (b4.extBut _ _ (Ne.symm n4) (b3.extBut _ _ (Ne.symm n2) (b2.extBut _ _ (Ne.symm n3) Z1)));have kp5:∀c o,c≠z->c≠to->c≠t1->c≠t2->s.heap.get? c=some o->k5.get? c=some o:=fun c o c1 c2 c3 c4 e=>b5.extBut _ _ c2 (b4.extBut _ _ c4 (b3.extBut _ _ c2 (b2.extBut _ _ c3 (b1.extBut _ _ c1 e))));have j1e:J1 (n+1) k5:=S1.ext (S1.ext (S1.ext j1b b3.extBut n8 (Ne.symm m1.2.2.1)) b4.extBut (Ne.symm n10) (Ne.symm m1.2.2.2.2)) b5.extBut n8 (Ne.symm m1.2.2.1);have j2e:J2 (n+1) k5:=S2.ext j2d b5.extBut n9 (Ne.symm m2.2.2.1);have ltz:z<k5.objs.size:=Heap.lt_size Z5;show wpAny _ _ (Builtin.SmallTypes.ownedTupleHandOut (.ref z) (.ref k5.objs.size) >>= _) _ _ _;refine wpAny_bind ?_;unfold Builtin.SmallTypes.ownedTupleHandOut;have Z6:IsZip (k5.push {cls:= .type "tuple",data:= .seq #[x,y]}) z ti to .ellipsis:=Heap.get?_push_of_some _ Z5;refine wpAny_bind (wpAny_setField_rec Z6 (by simp) fun k7 Z7 b7=>?_);replace Z7:IsZip k7 z ti to (rawInt k5.objs.size):=Z7;refine wpAny_setField_rec Z7 (by simp) fun k8 Z8 b8=>?_;replace Z8:IsZip k8 z ti to (rawInt k5.objs.size):=Z8;have up:∀c o,c≠z->k5.get? c=some o->k8.get? c=some o:=fun c o c1 e=>b8.extBut _ _ c1 (b7.extBut _ _ c1 (Heap.get?_push_of_some _ e));have pT:IsPair k8 k5.objs.size x y:=b8.extBut _ _ (Nat.ne_of_gt ltz) (b7.extBut _ _ (Nat.ne_of_gt ltz) (Heap.get?_push_size _ rfl));have sz8:k8.objs.size=k5.objs.size+1:=by rw[b8.1,b7.1,Heap.size_push]
 rw[sz]at Z8 pT sz8;refine wpAny_pure ⟨_,rfl,?_⟩;show Q (.ref k5.objs.size) _;rw[sz];refine q k8 Z8 (up _ _ n2 pO5) (S1.fr _ _ _ j1e fun b hb o e=>up b o ?_ e) (S2.fr _ _ _ j2e fun b hb o e=>up b o ?_ e) pT sz8 fun c o c1 c2 c3 c4 e=>up c o c1 (kp5 c o c1 c2 c3 c4 e)
 . rcases hb with rfl|rfl
   . exact n3
   . exact m1.1
 . rcases hb with rfl|rfl
   . exact n4
   . exact m2.1
theorem Fg{A:Around}{s:Shared}{E:Value->Shared->Prop}{J1 J2:Nat->Heap->Prop}{us vs:Array Value}{n:Nat}{a b:Value}{Q:Fin->Shared->Prop}(hh:A.handled=none)(D:AV z ti to t1 t2 a1 a2)(S1:Src P w t1 a1 J1 us)(S2:Src P w t2 a2 J2 vs)
 (Z:IsZip s.heap z ti to .none) (pI:IsPair s.heap ti (.ref t1) (.ref t2)) (pO:IsPair s.heap to a b) (j1:J1 n s.heap) (j2:J2 n s.heap) (he:us[n]?=none\/vs[n]?=none)
 (q:∀k e,(∀c o,c≠z->c≠to->c≠t1->c≠t2->s.heap.get? c=some o->k.get? c=some o)->(∃o,k.get? e=some o/\o.cls= .type "StopIteration")->E (.ref e) {s with heap:=k}):
 wpAny (model P w) A (Builtin.«zip.__next__» ⟨[.ref z],[]⟩) Q E s:=by
 obtain⟨⟨n1,n2,n3,n4⟩,⟨n5,n6,n7⟩,⟨n8,n9⟩,n10⟩:=D.n;have m1:=D.a1;have m2:=D.a2;simp only[List.mem_cons,not_or,List.not_mem_nil,not_false_eq_true,and_true]at m1 m2;show wpAny _ _ (field (.ref z) 2 >>= _) _ _ _;refine wpAny_bind (wpAny_field Z rfl (x:= .bool false) rfl ?_);show wpAny _ _ (field (.ref z) 3 >>= _) _ _ _;refine wpAny_bind (wpAny_field Z rfl (x:= .ref ti) rfl ?_);refine wpAny_bind (wpAny_seqItems pI rfl ?_);show wpAny _ _ (Builtin.SmallTypes.ownedTupleIsFree (.ref z) >>= _) _ _ _;refine wpAny_bind ?_;unfold Builtin.SmallTypes.ownedTupleIsFree;refine wpAny_bind (wpAny_field Z rfl (x:= .none) rfl (wpAny_pure ?_));simp only[if_true];refine wpAny_bind (wpAny_rule ?_);refine wpAny_bind (wpAny_field Z rfl (x:= .ref to) rfl ?_);refine wpAny_bind (wpAny_setField_rec Z (by simp) fun k1 Z1 b1=>?_);replace Z1:IsZip k1 z ti to .ellipsis:=Z1;refine wpAny_bind ?_;simp only[List.zipIdx_cons,List.zipIdx_nil,List.forIn_cons,List.forIn_nil];refine wpAny_bind (wpAny_bind (wpAny_onRaise ?_));show wpAny _ _ (Builtin.SmallTypes.nextOf (.ref t1) >>= _) _ _ _;have j1a:J1 n k1:=S1.ext j1 b1.extBut (Ne.symm n3) (Ne.symm m1.1);cases ex:us[n]? with
 |none=>
  refine wpAny_bind (S1.en n _ _ _ _ hh j1a ex fun k2 e b2 hx=>?_);obtain⟨oe,he1,he2⟩:=hx;have Z2:IsZip k2 z ti to .ellipsis:=b2 _ _ (Ne.symm n3) Z1;have hez:e≠z:=fun c=>by subst c;rw[Z2]at he1;cases he1;simp at he2
  refine wpAny_setField_rec Z2 (by simp) fun k3 _ b3=>q k3 e (fun c o c1 _ c3 _ f=>b3.extBut _ _ c1 (b2 _ _ c3 (b1.extBut _ _ c1 f))) ⟨oe,b3.extBut _ _ hez he1,he2⟩
 |some x=>
  have ey:vs[n]?=none:=by
   rcases he with h|h
   . rw[ex]at h;cases h
   . exact h
  refine wpAny_bind (S1.nx n _ _ _ _ x j1a ex fun k2 j1b b2=>wpAny_pure ?_);have pO2:IsPair k2 to a b:=b2.extBut _ _ n8 (b1.extBut _ _ n2 pO);refine wpAny_bind (wpAny_seqItems pO2 rfl ?_);refine wpAny_bind (wpAny_updateSeq_pair pO2 fun k3 pO3 b3=>?_);refine wpAny_bind (wpAny_letGo (wpAny_pure ?_));refine wpAny_bind (wpAny_bind (wpAny_onRaise ?_));show wpAny _ _ (Builtin.SmallTypes.nextOf (.ref t2) >>= _) _ _ _;have j2c:J2 n k3:=S2.ext (S2.ext (S2.ext j2 b1.extBut (Ne.symm n4) (Ne.symm m2.1)) b2.extBut n10 (Ne.symm m2.2.2.2.1)) b3.extBut n9 (Ne.symm m2.2.2.1);refine wpAny_bind (S2.en n _ _ _ _ hh j2c ey fun k4 e b4 hx=>?_);obtain⟨oe,he1,he2⟩:=hx;have Z4:IsZip k4 z ti to .ellipsis:=b4 _ _ (Ne.symm n4) (b3.extBut _ _ (Ne.symm n2) (b2.extBut _ _ (Ne.symm n3) Z1));have hez:e≠z:=fun c=>by subst c;rw[Z4]at he1;cases he1;simp at he2
  refine wpAny_setField_rec Z4 (by simp) fun k5 _ b5=>q k5 e (fun c o c1 c2 c3 c4 f=>b5.extBut _ _ c1 (b4 _ _ c4 (b3.extBut _ _ c2 (b2.extBut _ _ c3 (b1.extBut _ _ c1 f))))) ⟨oe,b5.extBut _ _ hez he1,he2⟩
end
end
theorem Hc{X:Cx}{pins:List (Addr×Obj)}{σ:L2.St}{H:Hp}{s:Shared}{g:Heap}{tk:Nat}{fp:List Addr}{T:Addr}{xs:List V}(I:Inv X pins σ H s)(hf:∀b∈fp,kW X pins H b)
 (k:∀b o,b∉fp->s.heap.get? b=some o->g.get? b=some o) (hT:s.heap.objs.size<=T) (new:dh X.prog X.w (upd H T (.tup xs)) g T (.tup xs)):Inv X pins σ (upd H T (.tup xs)) {s with heap:=g,toks:=tk}:=by
 have hn:H T=none:=I.aP.fresh hT;have nfp:∀b u,H b=some u->b∉fp:=fun b u e z=>by rw[(hf b z).1]at e;cases e
 have nT:∀b u,H b=some u->b≠T:=fun b u e=>dm e hn
 refine I.step (g':=s.gens) (d':=s.drawn) (ch:=fp) (fun b hb=>?_) (fun b o _ _ hc e _=>k b o hc e) (fun b o _ _ hc e _=>⟨o.slots,k b o hc e⟩) (fun b o _ e n=>?_) (fun b o hc e=>⟨o,k b o hc e⟩)
  (fun b ys e=>by rw[az (nT b _ e)];exact e) (fun b o u e=>by rw[az (nT b _ e)];exact e) (fun b ps e=>⟨#[],by rw[az (nT b _ e),e];simp⟩) (fun m hm=>?_) (fun b u e=>?_) I.bare
 . obtain⟨f0,f1,f2,f3,f4,f5⟩:=hf b hb;exact⟨f3,f1,f4,f5⟩
 . rw[az (Nat.ne_of_lt (Nat.lt_of_lt_of_le (Heap.lt_size e) hT))];exact n
 . obtain⟨o,es,ep,ho,r⟩:=hm;exact⟨o,es,ep,k _ o (fun z=>(hf _ z).2.1 rfl) ho,r⟩
 . by_cases hb:b=T
   . subst hb;rw[aY]at e;cases e;exact new
   . rw[az hb]at e;refine(I.aP b u e).oQ (fun c v hc q=>k c v ?_ q) (fun c q=>by rw[az (nT c _ q)];exact q) fun c ys q=>by rw[az (nT c _ q)];exact q
     rcases hc with z|z
     . rw[z];exact nfp b u e
     . exact nfp c _ z
theorem GA{X:Cx}{pins:List (Addr×Obj)}{σ:L2.St}{H:Hp}{s:Shared}{g:Heap}{tk:Nat}{fp:List Addr}(I:Inv X pins σ H s)(hf:∀b∈fp,kW X pins H b)
 (k:∀b o,b∉fp->s.heap.get? b=some o->g.get? b=some o):Inv X pins σ H {s with heap:=g,toks:=tk}:=by
 have nfp:∀b u,H b=some u->b∉fp:=fun b u e z=>by rw[(hf b z).1]at e;cases e
 refine I.step (g':=s.gens) (d':=s.drawn) (ch:=fp) (fun b hb=>?_) (fun b o _ _ hc e _=>k b o hc e) (fun b o _ _ hc e _=>⟨o.slots,k b o hc e⟩) (fun b o _ e n=>n) (fun b o hc e=>⟨o,k b o hc e⟩)
  (fun b ys e=>e) (fun b o u e=>e) (fun b ps e=>⟨#[],by rw[e];simp⟩) (fun m hm=>?_) (fun b u e=>?_) I.bare
 . obtain⟨f0,f1,f2,f3,f4,f5⟩:=hf b hb;exact⟨f3,f1,f4,f5⟩
 . obtain⟨o,es,ep,ho,r⟩:=hm;exact⟨o,es,ep,k _ o (fun z=>(hf _ z).2.1 rfl) ho,r⟩
 . refine(I.aP b u e).oQ (fun c v hc q=>k c v ?_ q) (fun c q=>q) fun c ys q=>q;rcases hc with z|z
   . rw[z];exact nfp b u e
   . exact nfp c _ z
inductive SK where
 |l|t
def o7(k:SK)(K:PySem.W.Frag)(H:Hp)(a:Addr)(xs:List V):Prop:=match k with
 | .l=>l_ K H a xs
 | .t=>iE K H a xs
def qu(k:SK)(t a:Addr)(n:Nat)(g:Heap):Prop:=match k with
 | .l=>g.IsListIter t a n
 | .t=>g.IsTupleIter t a n
def ko(k:SK)(g:Heap)(a:Addr)(us:Array Value):Prop:=match k with
 | .l=>g.IsList a us
 | .t=>g.IsTuple a us
def zw(k:SK)(a:Addr):Obj:=match k with
 | .l=>{cls:= .type "list_iterator",data:= .fields #[.ref a,.int 0 0]}
 | .t=>{cls:= .type "tuple_iterator",data:= .fields #[.ref a,.int 0 0]}
theorem mH{P:Program}{w:World}(k:SK)(t a:Addr)(hne:a≠t)(us:Array Value):Src P w t a (fun n g=>qu k t a n g/\ko k g a us) us:=by
 cases k
 . exact src_list t a hne us
 . exact Jg t a hne us
theorem j0{X:Cx}{pins:List (Addr×Obj)}{σ:L2.St}{H:Hp}{s:Shared}{k:SK}{a:Addr}{xs:List V}(I:Inv X pins σ H s)(h:o7 k X.K H a xs):∃its:List Value,Vals xs its/\ko k s.heap a its.toArray:=by
 cases k
 . obtain⟨its,rv,p,_⟩:=I.list h;exact⟨its,rv,p.isList⟩
 . obtain⟨its,rv,p,_⟩:=I.tuple h;exact⟨its,rv,p⟩
theorem wj{X:Cx}{pins:List (Addr×Obj)}{σ:L2.St}{H:Hp}{s:Shared}{k:SK}{a:Addr}{xs ys:List V}(I:Inv X pins σ H s)(h:o7 k X.K H a xs)(h':o7 k X.K H a ys):xs=ys:=by
 cases k
 . exact I.zt h h'
 . exact I.wQ h h'
theorem Ef{P:Program}{w:World}{A:Around}{s:Shared}{E:Value->Shared->Prop}{k:SK}{a:Addr}{us:Array Value}{Q:Value->Shared->Prop}(h:ko k s.heap a us)(q:Q (.ref s.heap.objs.size) {s with heap:=s.heap.push (zw k a)}):wpAny (model P w) A (pyIter (.ref a)) Q E s:=by
 cases k
 . exact wpAny_pyIter_list h q
 . exact wpAny_pyIter_tuple h q
theorem ko.push{k:SK}{g:Heap}{a:Addr}{us:Array Value}(h:ko k g a us)(o:Obj):ko k (g.push o) a us:=by
 cases k
 . obtain⟨o',e,r⟩:=h;exact⟨o',Heap.get?_push_of_some _ e,r⟩
 . obtain⟨o',e,r⟩:=h;exact⟨o',Heap.get?_push_of_some _ e,r⟩
theorem ko.some{k:SK}{g:Heap}{a:Addr}{us:Array Value}(h:ko k g a us):∃o,g.get? a=Option.some o:=by
 cases k
 . obtain⟨o',e,r⟩:=h;exact⟨o',e⟩
 . obtain⟨o',e,r⟩:=h;exact⟨o',e⟩
theorem Bc{k:SK}{g h:Heap}{t a:Addr}(e:g.get? t=Option.some (zw k a)):qu k t a 0 g:=by
 cases k
 . exact⟨_,e,rfl,rfl⟩
 . exact⟨_,e,rfl,rfl⟩
theorem pf{k:SK}{t a:Addr}{n:Nat}{g g':Heap}(h:qu k t a n g)(kp:∀o,g.get? t=Option.some o->g'.get? t=Option.some o):qu k t a n g':=by
 cases k
 . obtain⟨o,e,r⟩:=h;exact⟨o,kp o e,r⟩
 . obtain⟨o,e,r⟩:=h;exact⟨o,kp o e,r⟩
theorem mO{k:SK}{t a:Addr}{n:Nat}{g:Heap}(h:qu k t a n g):∃o,g.get? t=Option.some o/\∀v,o.data≠ .cell v:=by
 cases k
 . obtain⟨o,e,c,d⟩:=h;exact⟨o,e,fun v z=>by rw[d]at z;cases z⟩
 . obtain⟨o,e,c,d⟩:=h;exact⟨o,e,fun v z=>by rw[d]at z;cases z⟩
def Ol(K:PySem.W.Frag)(k1 k2:SK)(a1 a2:Addr):It:=
 ⟨fun i H=>∃xs ys x y,o7 k1 K H a1 xs/\o7 k2 K H a2 ys/\xs[i]?=some x/\ys[i]?=some y,
  fun i H v H'=>∃T x y,H T=none/\v= .ref T/\H'=upd H T (.tup [x,y])/\(∀xs,o7 k1 K H a1 xs->xs[i]?=some x)/\∀ys,o7 k2 K H a2 ys->ys[i]?=some y,
  fun i H=>∃xs ys,o7 k1 K H a1 xs/\o7 k2 K H a2 ys/\(xs.length<=i\/ys.length<=i)⟩
def M7(z ti to t1 t2 a1 a2:Addr)(k1 k2:SK)(i:Nat)(h:Heap):Prop:=IsZip h z ti to .none/\IsPair h ti (.ref t1) (.ref t2)/\(∃a b,IsPair h to a b)/\qu k1 t1 a1 i h/\qu k2 t2 a2 i h
theorem E1{P:Program}{w:World}{K:PySem.W.Frag}{elts:List Expr}{kx:Nat}{pos:Pos}{z ti to t1 t2 a1 a2:Addr}(k1 k2:SK)(D:AV z ti to t1 t2 a1 a2):
 Turn P w K (.Tuple elts kx pos) (Ol K k1 k2 a1 a2) [z,ti,to,t1,t2] z (M7 z ti to t1 t2 a1 a2 k1 k2) where
 mem:=by simp
 obj:=fun i h st b hb=>by
  obtain⟨Z,pI,⟨a,b',pO⟩,i1,i2⟩:=st;simp only[List.mem_cons,List.not_mem_nil,or_false]at hb;rcases hb with rfl|rfl|rfl|rfl|rfl
  . exact⟨_,Z,fun v e=>by cases e⟩
  . exact⟨_,pI,fun v e=>by cases e⟩
  . exact⟨_,pO,fun v e=>by cases e⟩
  . exact mO i1
  . exact mO i2
 keep:=fun i h h' st k=>by
  obtain⟨Z,pI,⟨a,b',pO⟩,i1,i2⟩:=st;exact⟨k z (by simp) _ Z,k ti (by simp) _ pI,⟨a,b',k to (by simp) _ pO⟩,pf i1 (k t1 (by simp)),pf i2 (k t2 (by simp))⟩
 item:=by
  intro X hP hw hK hc i pins s σ H E I hf st hg;subst hP hw hK;obtain⟨Z,pI,⟨a,b',pO⟩,i1,i2⟩:=st;obtain⟨xs,ys,x,y,q1,q2,ex,ey⟩:=hg;obtain⟨us,r1,l1⟩:=j0 I q1;obtain⟨vs,r2,l2⟩:=j0 I q2;obtain⟨u,eu,ru⟩:=r1.get ex;obtain⟨v,ev,rv⟩:=r2.get ey;have m1:=D.a1;have m2:=D.a2;simp only[List.mem_cons,not_or,List.not_mem_nil,not_false_eq_true,and_true]at m1 m2;obtain⟨⟨n1,n2,n3,n4⟩,⟨n5,n6,n7⟩,⟨n8,n9⟩,n10⟩:=D.n;have tz:s.TypeIs (.ref z) "zip":=⟨_,Z,rfl⟩
  unfold pyNext;refine wpAny_bind (wpAny_attempt (wpAny_callSpecial?_slot (name:=Str.ofString "__next__") tz F.slot_zip_next (wpAny_call_entry F.slot_zip_next tz F.entry_zip_next (C4 D (mH k1 t1 a1 m1.2.2.2.1 us.toArray) (mH k2 t2 a2 m2.2.2.2.2 vs.toArray) Z pI pO ⟨i1,l1⟩ ⟨i2,l2⟩ (x:=u) (y:=v) (by simpa using eu) (by simpa using ev) fun k Z2 pO2 j1 j2 pT szk kp=>wpAny_pure ⟨_,rfl,?_⟩) (F.args_zip_next_1 _))));refine wpAny_letOwnedTupleGo_zip (s:={s with heap:=k}) Z2 fun k' Z3 b3=>?_;have hT:s.heap.objs.size≠z:=Nat.ne_of_gt (Heap.lt_size Z)
  have kp3:∀b o,b∉[z,ti,to,t1,t2]->s.heap.get? b=some o->k'.get? b=some o:=fun b o hb e=>by
   simp only[List.mem_cons,not_or,List.not_mem_nil,not_false_eq_true,and_true]at hb;exact b3.extBut _ _ hb.1 (kp b o hb.1 hb.2.2.1 hb.2.2.2.1 hb.2.2.2.2 e)
  refine⟨.ref s.heap.objs.size,upd H s.heap.objs.size (.tup [x,y]),Hc (s:=s) (tk:=s.toks) I hf kp3 (Nat.le_refl _) ?_,rfl,⟨s.heap.objs.size,x,y,I.aP.fresh (Nat.le_refl _),rfl,rfl,?_,?_⟩,?_,?_⟩
  . refine⟨Nat.le_of_ble_eq_true rfl,[u,v],.cons ru (.cons rv .nil),?_⟩;exact⟨_,b3.extBut _ _ hT pT,rfl,_,rfl⟩
  . intro xs' q';rw[wj I q' q1];exact ex
  . intro ys' q';rw[wj I q' q2];exact ey
  . refine⟨Z3,b3.extBut _ _ n1 (kp _ _ n1 n5 n6 n7 pI),⟨_,_,b3.extBut _ _ n2 pO2⟩,pf j1.1 fun o e=>b3.extBut _ _ n3 e,pf j2.1 fun o e=>b3.extBut _ _ n4 e⟩
  . intro b hb
    have:b≠s.heap.objs.size:=by
     obtain⟨o,e,_⟩:∃o,s.heap.get? b=some o/\True:=by
      simp only[List.mem_cons,List.not_mem_nil,or_false]at hb;rcases hb with rfl|rfl|rfl|rfl|rfl
      . exact⟨_,Z,trivial⟩
      . exact⟨_,pI,trivial⟩
      . exact⟨_,pO,trivial⟩
      . obtain⟨o,e,_⟩:=mO i1;exact⟨o,e,trivial⟩
      . obtain⟨o,e,_⟩:=mO i2;exact⟨o,e,trivial⟩
     exact Nat.ne_of_lt (Heap.lt_size e)
    rw[az this];exact(hf b hb).1
 done:=by
  intro X hP hw hK hc i pins s σ H E I hf st hg;subst hP hw hK;obtain⟨Z,pI,⟨a,b',pO⟩,i1,i2⟩:=st;obtain⟨xs,ys,q1,q2,he⟩:=hg;obtain⟨us,r1,l1⟩:=j0 I q1;obtain⟨vs,r2,l2⟩:=j0 I q2;have e1:=r1.length;have e2:=r2.length;have m1:=D.a1;have m2:=D.a2;simp only[List.mem_cons,not_or,List.not_mem_nil,not_false_eq_true,and_true]at m1 m2;have tz:s.TypeIs (.ref z) "zip":=⟨_,Z,rfl⟩
  unfold pyNext;refine wpAny_bind (wpAny_attempt (wpAny_callSpecial?_slot (name:=Str.ofString "__next__") tz F.slot_zip_next (wpAny_call_entry F.slot_zip_next tz F.entry_zip_next (Fg (I.ok.hd hc) D (mH k1 t1 a1 m1.2.2.2.1 us.toArray) (mH k2 t2 a2 m2.2.2.2.2 vs.toArray) Z pI pO ⟨i1,l1⟩ ⟨i2,l2⟩ ?_ fun k e kp hx=>?_) (F.args_zip_next_1 _))))
  . rcases he with h|h
    . left;simp;omega
    . right;simp;omega
  . obtain⟨o,ho,hc2⟩:=hx;refine wpAny_bind (wpAny_isInstance (T:="StopIteration") (b:=true) ⟨o,ho,hc2⟩ isSubtype_stop ?_);refine wpAny_pure ⟨rfl,GA (s:=s) (tk:=s.toks) I hf fun b o hb e=>?_⟩;simp only[List.mem_cons,not_or,List.not_mem_nil,not_false_eq_true,and_true]at hb;exact kp b o hb.1 hb.2.2.1 hb.2.2.2.1 hb.2.2.2.2 e
 self:=fun _ _ _ _ _ st h=>wpAny_pyIter_zip st.1 h
abbrev G8(h:Heap)(k1:SK)(a1:Addr):Heap:=h.push (zw k1 a1)
abbrev Hk(h:Heap)(k1 k2:SK)(a1 a2:Addr):Heap:=(G8 h k1 a1).push (zw k2 a2)
abbrev GZ(h:Heap)(k1 k2:SK)(a1 a2:Addr):Heap:=(Hk h k1 k2 a1 a2).push {cls:= .type "tuple",data:= .seq #[.ref h.objs.size,.ref (G8 h k1 a1).objs.size]}
abbrev Hg(h:Heap)(k1 k2:SK)(a1 a2:Addr):Heap:=(GZ h k1 k2 a1 a2).push {cls:= .type "tuple",data:= .seq #[.none,.none]}
abbrev A4(h:Heap)(k1 k2:SK)(a1 a2:Addr):Heap:=(Hg h k1 k2 a1 a2).push {cls:= .type "zip",data:= .fields #[.none,.bool false,.bool false,.ref (Hk h k1 k2 a1 a2).objs.size,.ref (GZ h k1 k2 a1 a2).objs.size]}
theorem Dl(k1 k2:SK)(a1 a2:Addr)(us vs:Array Value):Meets (Builtin.«zip.__new__» ⟨[.type "zip",.ref a1,.ref a2],[]⟩) (fun _ R s=>ko k1 s.heap a1 us/\ko k2 s.heap a2 vs/\
 R (.ok (.ret (.ref (Hg s.heap k1 k2 a1 a2).objs.size))) {s with heap:=A4 s.heap k1 k2 a1 a2}):=
 .of_wp fun P w A R s h=>by
  obtain⟨hp,g,d,tk,os⟩:=s;obtain⟨c1,c2,h⟩:=h;have hsub:=sub_zip;have L1:ko k1 (Shared.heap ⟨hp,g,d,tk,os⟩) a1 us:=c1;have L2:ko k2 (Shared.heap ⟨hp.push (zw k1 a1),g,d,tk,os⟩) a2 vs:=ko.push c2 _
  wp_walk using Ef L1,Ef L2
  exact⟨_,rfl,h⟩
theorem Fh{P:Program}{w:World}{A:Around}{s:Shared}{E:Value->Shared->Prop}{k1 k2:SK}{a1 a2:Addr}{us vs:Array Value}{Q:Value->Shared->Prop}(c1:ko k1 s.heap a1 us)(c2:ko k2 s.heap a2 vs)
 (q:∀g n,n=s.heap.objs.size->IsZip g (n+4) (n+2) (n+3) .none->IsPair g (n+2) (.ref n) (.ref (n+1))->IsPair g (n+3) .none .none->qu k1 n a1 0 g->qu k2 (n+1) a2 0 g->(∀c o,s.heap.get? c=some o->g.get? c=some o)->Q (.ref (n+4)) {s with heap:=g}):
 wpAny (model P w) A (call (.type "zip") [.ref a1,.ref a2]) Q E s:=by
 refine callType_new F.called_zip (by decide) (F.typeCall_zip_2 _ _) (F.newCall_zip_2 _ _) (fun ob=>F.args_object_init_3 ob _ _) F.entry_zip_new (Dl k1 k2 a1 a2 us vs) ⟨c1,c2,?_⟩;have y1:(G8 s.heap k1 a1).objs.size=s.heap.objs.size+1:=Heap.size_push ..;have y2:(Hk s.heap k1 k2 a1 a2).objs.size=s.heap.objs.size+2:=by rw[Heap.size_push,y1]
 have y3:(GZ s.heap k1 k2 a1 a2).objs.size=s.heap.objs.size+3:=by rw[Heap.size_push,y2]
 have y4:(Hg s.heap k1 k2 a1 a2).objs.size=s.heap.objs.size+4:=by rw[Heap.size_push,y3]
 have e5:(A4 s.heap k1 k2 a1 a2).get? (Hg s.heap k1 k2 a1 a2).objs.size=some _:=Heap.get?_push_size _ rfl;have e4:(A4 s.heap k1 k2 a1 a2).get? (GZ s.heap k1 k2 a1 a2).objs.size=some _:=Heap.get?_push_of_some _ (Heap.get?_push_size _ rfl);have e3:(A4 s.heap k1 k2 a1 a2).get? (Hk s.heap k1 k2 a1 a2).objs.size=some _:=Heap.get?_push_of_some _ (Heap.get?_push_of_some _ (Heap.get?_push_size _ rfl));have e2:(A4 s.heap k1 k2 a1 a2).get? (G8 s.heap k1 a1).objs.size=some (zw k2 a2):=Heap.get?_push_of_some _ (Heap.get?_push_of_some _ (Heap.get?_push_of_some _ (Heap.get?_push_size _ (by cases k2<;>rfl))));have e1:(A4 s.heap k1 k2 a1 a2).get? s.heap.objs.size=some (zw k1 a1):=Heap.get?_push_of_some _ (Heap.get?_push_of_some _ (Heap.get?_push_of_some _ (Heap.get?_push_of_some _ (Heap.get?_push_size _ (by cases k1<;>rfl)))));show _/\_;rw[y2,y3,y4]at e5;rw[y1,y2]at e3;rw[y3]at e4;rw[y1]at e2;rw[y4];exact⟨⟨_,e5,rfl⟩,q _ _ rfl e5 e3 e4 (Bc (h:=s.heap) e1) (Bc (h:=s.heap) e2) fun c o x=>Heap.get?_push_of_some _ (Heap.get?_push_of_some _ (Heap.get?_push_of_some _ (Heap.get?_push_of_some _ (Heap.get?_push_of_some _ x))))⟩
def Hn:D->SK
 | .tup _=> .t
 |_=> .l
def D3(k:SK)(G:Hp)(a:Addr)(vs:List V):Prop:=match k with
 | .l=>Rd G a (.lst vs)
 | .t=>G a=some (.tup vs)
theorem ji{K:PySem.W.Frag}{k:SK}{G F H:Hp}(P:bW G F H){a:Addr}{vs:List V}(h:D3 k G a vs):o7 k K H a vs:=by
 cases k
 . exact .inl (fQ P h)
 . exact iE.of (P.get h)
theorem m4{α:List (Option Addr)}{H:Hp}{st:af}{d:D}{v:V}{xs:List D}(S:aR α st H)(r:Rep α H d v)(e:items? st d=some xs):∃p vs,v= .ref p/\aL α H xs vs/\D3 (Hn d) H p vs:=by
 cases d<;>try(cases e;done)
 . unfold items? at e;simp only at e;split at e
   . rename_i ys q;cases e;obtain⟨a,ea,vs,h1,h2⟩:=S.gn q;exact⟨a,vs,c8 ea r,h2,Rd.of h1⟩
   . cases e
 . cases e;unfold Rep at r;obtain⟨a,vs,rfl,_,h1,h2⟩:=r;exact⟨a,vs,rfl,h2,h1⟩
 . cases e;unfold Rep at r;obtain⟨a,vs,rfl,_,h1,h2⟩:=r;exact⟨a,vs,rfl,h2,h1⟩
def jY(xs ys:List D):List D:=(xs.zip ys).map fun p=> .tup [p.1,p.2]
theorem yi{xs ys:List D}:(jY xs ys).length=min xs.length ys.length:=by unfold jY;simp
theorem tV{xs ys:List D}{n:Nat}{d:D}(e:(jY xs ys)[n]?=some d):∃x y,xs[n]?=some x/\ys[n]?=some y/\d= .tup [x,y]:=by
 unfold jY at e;rw[List.getElem?_map]at e;cases q:(xs.zip ys)[n]? with
 |none=>rw[q]at e;cases e
 |some p=>
  rw[q]at e;cases e;rw[List.getElem?_zip_eq_some]at q;exact⟨p.1,p.2,q.1,q.2,rfl⟩
theorem L5{K:PySem.W.Frag}{k1 k2:SK}{a1 a2:Addr}{α:List (Option Addr)}{G:Hp}{ok:af->Prop}{xs ys:List D}
 (h:∀α' G' st',Step α G α' G'->aR α' st' G'->ok st'->∃vs ws,D3 k1 G' a1 vs/\D3 k2 G' a2 ws/\aL α' G' xs vs/\aL α' G' ys ws):tW (Ol K k1 k2 a1 a2) α G ok (jY xs ys) where
 stop:=fun n α' G' F' H' st' s P S o hn=>by
  obtain⟨vs,ws,h1,h2,r1,r2⟩:=h α' G' st' s S o;rw[yi]at hn;refine⟨vs,ws,ji P h1,ji P h2,?_⟩;have:=r1.length;have:=r2.length;omega
 go:=fun n d α' G' F' H' st' s P S o hn=>by
  obtain⟨vs,ws,h1,h2,r1,r2⟩:=h α' G' st' s S o;obtain⟨x,y,ex,ey,rfl⟩:=tV hn;obtain⟨v,ev,_⟩:=r1.get ex;obtain⟨u,eu,_⟩:=r2.get ey;exact⟨vs,ws,v,u,ji P h1,ji P h2,ev,eu⟩
 nQ:=fun n d α' G' F' H' st' x H'' s P S o hn y=>by
  obtain⟨vs,ws,h1,h2,r1,r2⟩:=h α' G' st' s S o;obtain⟨c,e,ec,ee,rfl⟩:=tV hn;obtain⟨T,v,u,hT,rfl,rfl,y1,y2⟩:=y;obtain⟨v',ev,rv⟩:=r1.get ec;obtain⟨u',eu,ru⟩:=r2.get ee;rw[y1 vs (ji P h1)]at ev;rw[y2 ws (ji P h2)]at eu;cases ev;cases eu;have hg:=(P.none hT).1;refine⟨upd G' T (.tup [v,u]),Step.laid hg,P.laid hT,S.laid hg,?_⟩;unfold Rep;refine⟨T,[v,u],rfl,S.j9 hg,aY,?_⟩;unfold aL;refine⟨v,[u],rfl,rv.step (Step.laid hg),?_⟩;unfold aL;exact⟨u,[],rfl,ru.step (Step.laid hg),by unfold aL;rfl⟩
def Gb(ds:List D)(st1:af)(K:List D->(af->Prop)->af->Prop):Prop:=match ds with
 | [x,y]=>(match items? st1 x,items? st1 y with
   |some xs,some ys=>K (jY xs ys) (fun st'=>items? st' x=some xs/\items? st' y=some ys) st1
   |_,_=>False)
 |_=>False
@[irreducible] def vB:List D->af->(List D->(af->Prop)->af->Prop)->Prop:=Gb
def zV(t:DA):DI:=fun σ st K=>t σ st fun ds st1=>vB ds st1 K
theorem JJ{n a1 a2:Nat}(h1:a1<n)(h2:a2<n):AV (n+4) (n+2) (n+3) n (n+1) a1 a2:=by
 have e0:([n+4,n+2,n+3,n,n+1]:List Nat).Nodup:=by
  simp only[List.nodup_cons,List.mem_cons,not_or,List.not_mem_nil,not_false_eq_true,and_true,List.nodup_nil];omega
 have e1:∀a:Nat,a<n->a∉([n+4,n+2,n+3,n,n+1]:List Nat):=fun a ha=>by
  simp only[List.mem_cons,not_or,List.not_mem_nil,not_false_eq_true,and_true];omega
 exact⟨e0,e1 a1 h1,e1 a2 h2⟩
theorem Lg{X:Cx}{a b:Expr}{elts:List Expr}{kx:Nat}{tpos p pos:Pos}{t:DA}(hg:Gl X "zip")(hm:X.mg "zip"=none)(ha:PA X [a,b] (LA t))(hs:starEach [a,b] X.env=[(false,eval a X.env),(false,eval b X.env)])(hs2:starEach [b] X.env=[(false,eval b X.env)]):
 PI X (.Tuple elts kx tpos) (.Call (.Name "zip" p) [a,b] [] pos) (LI (zV t)):=by
 intro pins s σ H R I h;obtain⟨α,σd,st,K,G,F,P,RS,S,t,k⟩:=h;refine Call_ (j8 I hg hm boot_zip (PyProof.Rows.callWith_type1 (bO (ha pos pins s σ H (fun vs H1=>∃ds α1 G1 st1,Step α G α1 G1/\bW G1 F H1/\aR α1 st1 G1/\aL α1 G1 ds vs/\vB ds st1 K) I ⟨α,σd,st,_,G,F,P,RS,S,t,fun ds st1 q α1 G1 H1 vs s1 P1 S1 r1=>⟨ds,α1,G1,st1,s1,P1,S1,r1,q⟩⟩) fun us s1 ⟨vs,H1,I1,rv,ds,α1,G1,st1,w1,P1,S1,r1,q⟩=>?_) (by rw[hs,hs2]) (by rw[hs2];rfl)));unfold vB Gb at q;split at q
 . rename_i x y;split at q
   . rename_i xs ys ex ey;obtain⟨v1,v2,rfl,q1,q2⟩:=ou r1 rfl;obtain⟨p1,vs1,rfl,g1,c1⟩:=m4 S1 q1 ex;obtain⟨p2,vs2,rfl,g2,c2⟩:=m4 S1 q2 ey;obtain⟨u1,u2,rfl,ru1,ru2⟩:=vals2 rv;cases ru1;cases ru2;obtain⟨its1,_,l1⟩:=j0 I1 (ji P1 c1);obtain⟨its2,_,l2⟩:=j0 I1 (ji P1 c2);refine Fh l1 l2 fun g n hn Z pI pO i1 i2 kp=>?_;obtain⟨o1,eo1⟩:=l1.some;obtain⟨o2,eo2⟩:=l2.some;refine wpAny_pyIter_zip (s:={s1 with heap:=g}) Z ?_;refine⟨n+4,[n+4,n+2,n+3,n,n+1],_,_,H1,rfl,I1.kept (t':=s1.toks) kp,E1 (Hn x) (Hn y) (JJ (by rw[hn];exact Heap.lt_size eo1) (by rw[hn];exact Heap.lt_size eo2)),⟨Z,pI,⟨_,_,pO⟩,i1,i2⟩,fun b hb=>?_,?_⟩
     . have hb':s1.heap.objs.size<=b:=by
        simp only[List.mem_cons,List.not_mem_nil,or_false]at hb;rcases hb with rfl|rfl|rfl|rfl|rfl<;>(rw[<-hn];first|exact Nat.le_refl _|exact Nat.le_add_right _ _)
       exact I1.uo hb' (I1.aP.fresh hb')
     . refine k _ _ st1 q _ α1 G1 H1 w1 P1 S1 (L5 fun α' G' st' s' S' o=>?_);obtain⟨p1',ws1,e1,f1,d1⟩:=m4 S' (q1.step s') o.1;obtain⟨p2',ws2,e2,f2,d2⟩:=m4 S' (q2.step s') o.2;cases e1;cases e2;exact⟨ws1,ws2,d1,d2,f1,f2⟩
   . exact q.elim
 . exact q.elim
theorem DX{st:af}{x y:D}{xs ys:List D}{K:List D->(af->Prop)->af->Prop}(ex:items? st x=some xs)(ey:items? st y=some ys)(k:∀ok:af->Prop,(∀st',items? st' x=some xs->items? st' y=some ys->ok st')->K (jY xs ys) ok st):vB [x,y] st K:=by
 unfold vB Gb;simp only[ex,ey];exact k _ fun st' h1 h2=>⟨h1,h2⟩
theorem BF{X:Cx}{a b:Expr}{elts:List Expr}{kx:Nat}{tpos p pos:Pos}{ar:DA}(hg:Gl X "zip")(hm:X.mg "zip"=none)(ha:JA X [a,b] ar)(hs:notStar a=true:=by rfl)(hs2:notStar b=true:=by rfl):JI X (.Tuple elts kx tpos) (.Call (.Name "zip" p) [a,b] [] pos) (zV ar):=by
 unfold JI;unfold JA at ha;exact Lg hg hm ha (by rw[cu hs,cu hs2];rfl) (cu hs2)
theorem zp(f:Nat->Int):∀n,preSum f (n+1)=f 0+preSum (fun i=>f (i+1)) n
 |0=>by show preSum f 0+f 0=f 0+0;show(0:Int)+f 0=f 0+0;omega
 |n+1=>by
  have h:=zp f n;show preSum f (n+1)+f (n+1)=f 0+(preSum (fun i=>f (i+1)) n+f (n+1));rw[h];omega
theorem AQ:∀ns:List Int,preSum (fun i=>ns.getD i 0) ns.length=ns.sum
 | []=>rfl
 |n::ns=>by
  rw[List.length_cons,zp];have:(fun i=>(n::ns).getD (i+1) 0)=fun i=>ns.getD i 0:=by funext i;simp
  rw[this,AQ ns,List.sum_cons];rfl
section
variable {X:Cx}
def x5:eL:=fun ds st K=>match ds with| [.lst xs]=>(match lh xs with|some ns=>K (.int ns.sum) st|none=>False)|_=>False
theorem l6:∀ {ns:List Int} {us:List Value},Vals (ns.map V.int) us->∀(i:Nat) (u:Value),us[i]?=some u->∃t,u=Value.int (ns.getD i 0) t
 | [],_,.nil,i,u,e=>by simp at e
 |n::ns,_,.cons h t,0,u,e=>by
  obtain⟨tk,rfl⟩:=h;simp at e;exact⟨tk,by rw[<-e];rfl⟩
 |n::ns,_,.cons h t,i+1,u,e=>by
  obtain⟨tk,q⟩:=l6 t i u (by simpa using e);exact⟨tk,by rw[q];simp⟩
theorem NH(hc:X.calm=true):bD X (.builtin "sum") (fy x5):=fun pins s σ H xs us Q I rs ⟨α,ds,st,K,G,F',P,r,S,q,k⟩=>by
 unfold x5 at q;split at q
 . rename_i ys;split at q
   . rename_i ns e;obtain⟨v,rfl,r1⟩:=gj r rfl;unfold Rep at r1;obtain⟨a,vs,rfl,na,h1,h2⟩:=r1;obtain⟨u,rfl,ru⟩:=vals1 rs;cases ru;have hv:=rk h2 e;subst hv;obtain⟨z,its,n,rv,hl,eo⟩:=Inv.uq I (fQ P h1);have isL:s.heap.IsList a its.toArray:=⟨_,eo,rfl,n,rfl⟩
     refine call_sum_walkAnyB (wpAny_pyIter_list isL ?_);have hne:a≠s.heap.objs.size:=Nat.ne_of_lt (Heap.lt_size eo);refine⟨s.heap.objs.size,_,_,_,_,_,_,fun i=>ns.getD i 0,rfl,(Walks.list (A:=X.A.in1) (I.ok.hd hc) _ a hne its.toArray).toS,⟨⟨_,Heap.get?_push_size _ rfl,rfl,rfl⟩,⟨_,Heap.get?_push_of_some _ eo,rfl,n,rfl⟩⟩,?_,?_,?_⟩
     . intro b hb;rw[Heap.size_push];simp only[List.mem_cons,List.not_mem_nil,or_false]at hb;rcases hb with rfl|rfl
       . exact Nat.lt_succ_self _
       . exact Nat.lt_succ_of_lt (Heap.lt_size eo)
     . intro i w hw;obtain⟨t,e⟩:=l6 rv i w (by simpa using hw);exact .inl ⟨t,e⟩
     . intro s' t' hm
       have kp:∀b o,s.heap.get? b=some o->s'.heap.get? b=some o:=fun b o q=>hm.heap b o (by
        intro hb;have:b=s.heap.objs.size:=by simpa using hb
        exact absurd (Heap.lt_size q) (by rw[this];exact Nat.lt_irrefl _)) (Heap.get?_push_of_some _ q)
       have es:s'= {s with heap:=s'.heap,toks:=s'.toks}:=by
        have g:=hm.gens;have d:=hm.drawn;have o:=hm.os;cases s';cases s
        simp_all
       have en:preSum (fun i=>ns.getD i 0) its.toArray.size=ns.sum:=by
        have:its.toArray.size=ns.length:=by rw[List.size_toArray,<-hl,List.length_map]
        rw[this];exact AQ ns
       rw[en,es];exact⟨.int ns.sum,H,I.kept (t':=s'.toks) kp,⟨t',rfl⟩,k.here P q S (by unfold Rep;rfl)⟩
   . exact q.elim
 . exact q.elim
@[irreducible] def ui:eL:=x5
theorem GO(hc:X.calm=true):bD X (.builtin "sum") (fy ui):=by unfold ui;exact NH hc
end
theorem ints_map:∀ns:List Int,lh (ns.map D.int)=some ns
 | []=>rfl
 |n::ns=>by simp[lh,ints_map ns]
theorem EA{st:af}{K:DK}{xs:List D}{ns:List Int}(h:lh xs=some ns)(k:K (.int ns.sum) st):ui [.lst xs] st K:=by unfold ui x5;simp only[h];exact k
section
variable {X:Cx}{pos:Pos}
theorem N8{α:List (Option Addr)}{H:Hp}{ds:List D}{xs:List V}{d e f:D}(r:aL α H ds xs)(q:ds=[d,e,f]):∃v u t,xs=[v,u,t]/\Rep α H d v/\Rep α H e u/\Rep α H f t:=by
 subst q;unfold aL at r;obtain⟨v,q,rfl,h1,h2⟩:=r;obtain⟨u,t,rfl,h3,h4⟩:=ou h2 rfl;exact⟨v,u,t,rfl,h1,h3,h4⟩
end
end L3
namespace L3
open PySem L2 PySem.SeqAt
open PySem.Spec hiding items?
open PyProof.Rows hiding St
section
variable {X:Cx}{pins:List (Addr×Obj)}{σ:L2.St}{H:Hp}{s:Shared}{α:List (Option Addr)}
theorem Bj{A:Around}{d e:D}{x y:V}{u v:Value}(hd:xh d=true)(he:xh e=true)(rd:Rep α H d x)(re:Rep α H e y)(rx:RelV x u)(ry:RelV y v):RcNeAt A s u v (!cK d e):=by
 cases d<;>cases e<;>try(first|(cases hd;done)|(cases he;done))
 all_goals(unfold Rep at rd re;subst rd re)
 all_goals(first|(obtain⟨t,rfl⟩:=rx;obtain⟨t',rfl⟩:=ry)|(obtain⟨t,rfl⟩:=rx;cases ry)|(cases rx;obtain⟨t,rfl⟩:=ry)|(cases rx;cases ry))
 all_goals unfold cK
 . exact RcNeAt.none_none
 . exact RcNeAt.none_bool _
 . exact RcNeAt.none_int _ _
 . exact RcNeAt.none_str _ _
 . exact RcNeAt.bool_none _
 . exact RcNeAt.bool_bool _ _
 . exact RcNeAt.bool_int _ _ _
 . exact RcNeAt.bool_str _ _ _
 . exact RcNeAt.int_none _ _
 . exact RcNeAt.int_bool _ _ _
 . exact RcNeAt.int_int _ _ _ _
 . exact RcNeAt.int_str _ _ _ _
 . exact RcNeAt.str_none _ _
 . exact RcNeAt.str_bool _ _ _
 . exact RcNeAt.str_int _ _ _ _
 . exact RcNeAt.str_str _ _ _ _
theorem wH(I:Inv X pins σ H s){A:Around}{xs:List D}{e:D}{x y:V}{u v:Value}(he:xh e=true)(rd:Rep α H (.lst xs) x)(re:Rep α H e y)(rx:RelV x u)(ry:RelV y v)(hu:A.units<cLine):
 RcNeAt A s u v (!cK (.lst xs) e)/\RcNeAt A s v u (!cK e (.lst xs)):=by
 obtain⟨a,vs,its,rfl,_,_,hl⟩:=lst_is I rd rx;cases e<;>try(cases he;done)
 all_goals(unfold Rep at re;subst re)
 all_goals(first|(obtain⟨t,rfl⟩:=ry)|(cases ry))
 all_goals unfold cK
 . exact⟨RcNeAt.list_none hl hu,RcNeAt.none_list hl hu⟩
 . exact⟨RcNeAt.list_bool _ hl hu,RcNeAt.bool_list _ hl hu⟩
 . exact⟨RcNeAt.list_int _ _ hl hu,RcNeAt.int_list _ _ hl hu⟩
 . exact⟨RcNeAt.list_str _ _ hl hu,RcNeAt.str_list _ _ hl hu⟩
theorem wD(I:Inv X pins σ H s){A:Around}{xs:List D}{e:D}{x y:V}{u v:Value}(he:xh e=true)(rd:Rep α H (.tup xs) x)(re:Rep α H e y)(rx:RelV x u)(ry:RelV y v)(hu:A.units<cLine):
 RcNeAt A s u v (!cK (.tup xs) e)/\RcNeAt A s v u (!cK e (.tup xs)):=by
 obtain⟨a,vs,its,rfl,_,_,hl⟩:=tup_is I rd rx;cases e<;>try(cases he;done)
 all_goals(unfold Rep at re;subst re)
 all_goals(first|(obtain⟨t,rfl⟩:=ry)|(cases ry))
 all_goals unfold cK
 . exact⟨RcNeAt.tuple_none hl hu,RcNeAt.none_tuple hl hu⟩
 . exact⟨RcNeAt.tuple_bool _ hl hu,RcNeAt.bool_tuple _ hl hu⟩
 . exact⟨RcNeAt.tuple_int _ _ hl hu,RcNeAt.int_tuple _ _ hl hu⟩
 . exact⟨RcNeAt.tuple_str _ _ hl hu,RcNeAt.str_tuple _ _ hl hu⟩
theorem Nh(I:Inv X pins σ H s)(n:Nat)(A:Around)(d e:D)(x y:V)(u v:Value)(hd:pl n d=true)(he:pl n e=true)(rd:Rep α H d x)(re:Rep α H e y)(rx:RelV x u)(ry:RelV y v)(hu:A.units+n<cLine):RcNeAt A s u v (!cK d e):=by
 cases n with
 |zero=>
  refine Bj ?_ ?_ rd re rx ry
  . cases d<;>first|rfl|(cases hd)
  . cases e<;>first|rfl|(cases he)
 |succ n=>
  have hu0:A.units<cLine:=by omega
  have hin:A.in1.units+n<cLine:=by rw[Around.in1_units];omega
  cases d<;>try(cases hd;done)
  case lst xs=>
   cases e<;>try(cases he;done)
   case lst ys=>
    obtain⟨a,vs,its,rfl,r1,v1,l1⟩:=lst_is I rd rx;obtain⟨b,ws,jts,rfl,r2,v2,l2⟩:=lst_is I re ry;have e1:=r1.length;have e2:=v1.length;have e3:=r2.length;have e4:=v2.length;unfold cK;by_cases hlen:xs.length=ys.length
    . rw[m6 hlen];have hsz:its.toArray.size=jts.toArray.size:=by simp only[List.size_toArray];omega
      have hx:xs.length=its.toArray.size:=by simp only[List.size_toArray];omega
      rw[hx];refine RcNeAt.lists l1 l2 hsz hu0 fun j h1 h2=>?_;obtain⟨p,_,q1,q2⟩:=jN r1 v1 j (by simpa using h1);obtain⟨p',_,q1',q2'⟩:=jN r2 v2 j (by simpa using h2);exact(BR I n A.in1 _ _ p p' _ _ (iG (by unfold pl at hd;exact hd) j) (iG (by unfold pl at he;exact he) j) q1 q1' (by simpa using q2) (by simpa using q2') hin).2
    . rw[nB hlen];exact RcNeAt.lists_lengths l1 l2 (by simp only[List.size_toArray,bne_iff_ne,ne_eq];omega) hu0
   case tup ys=>
    obtain⟨a,vs,its,rfl,r1,v1,l1⟩:=lst_is I rd rx;obtain⟨b,ws,jts,rfl,r2,v2,l2⟩:=tup_is I re ry;unfold cK;exact RcNeAt.list_tuple l1 l2 hu0
   all_goals exact(wH I rfl rd re rx ry hu0).1
  case tup xs=>
   cases e<;>try(cases he;done)
   case tup ys=>
    obtain⟨a,vs,its,rfl,r1,v1,l1⟩:=tup_is I rd rx;obtain⟨b,ws,jts,rfl,r2,v2,l2⟩:=tup_is I re ry;have e1:=r1.length;have e2:=v1.length;have e3:=r2.length;have e4:=v2.length;unfold cK
    have key:=RcNeAt.tuples (e:=fun j=>cK (xs.getD j .aH) (ys.getD j .aH)) l1 l2 hu0 fun j h1 h2=>by
     obtain⟨p,_,q1,q2⟩:=jN r1 v1 j (by simpa using h1);obtain⟨p',_,q1',q2'⟩:=jN r2 v2 j (by simpa using h2);exact(BR I n A.in1 _ _ p p' _ _ (iG (by unfold pl at hd;exact hd) j) (iG (by unfold pl at he;exact he) j) q1 q1' (by simpa using q2) (by simpa using q2') hin).2
    by_cases hlen:xs.length=ys.length
    . rw[m6 hlen];have hsz:its.toArray.size=jts.toArray.size:=by simp only[List.size_toArray];omega
      have hx:xs.length=its.toArray.size:=by simp only[List.size_toArray];omega
      rw[hsz,Nat.min_self,beq_self_eq_true,Bool.and_true,<-hsz,<-hx]at key;exact key
    . rw[nB hlen];have hne:(its.toArray.size==jts.toArray.size)=false:=by simp only[List.size_toArray,beq_eq_false_iff_ne,ne_eq];omega
      rw[hne,Bool.and_false]at key;exact key
   case lst ys=>
    obtain⟨a,vs,its,rfl,r1,v1,l1⟩:=tup_is I rd rx;obtain⟨b,ws,jts,rfl,r2,v2,l2⟩:=lst_is I re ry;unfold cK;exact RcNeAt.tuple_list l1 l2 hu0
   all_goals exact(wD I rfl rd re rx ry hu0).1
  all_goals
   cases e<;>try(cases he;done)
   case lst ys=>exact(wH I rfl re rd ry rx hu0).2
   case tup ys=>exact(wD I rfl re rd ry rx hu0).2
   all_goals exact Bj rfl rfl rd re rx ry
def MH:cR:=fun x y st K=>pl 40 x=true/\pl 40 y=true/\K (.bl (!cK x y)) st
theorem ND{k:Nat}(hr:cP k X.A):bM X (compareOp .NotEq) (LR MH):=fun pins s σ H x y v u Q I rx ry ⟨α,d,e,st,K,G,F',P,r1,r2,S,q,k⟩=>by
 have hu:=hr.units;exact Nh I 40 X.A d e x y v u q.1 q.2.1 (r1.mono P.same) (r2.mono P.same) rx ry (by omega) _ _ _ _ ⟨.bl (!cK d e),H,I,rfl,k.here P q.2.2 S (by unfold Rep;rfl)⟩
@[irreducible] def vR:cR:=MH
theorem Nn{k:Nat}(hr:cP k X.A):bM X (compareOp .NotEq) (LR vR):=by unfold vR;exact ND hr
end
theorem LY{st:af}{K:DK}{d e:D}(h1:pl 40 d=true)(h2:pl 40 e=true)(k:K (.bl (!cK d e)) st):vR d e st K:=by unfold vR;exact⟨h1,h2,k⟩
theorem Gi{st:af}{K:DK}{d:D}(h:pl 40 d=true)(k:K (.bl false) st):vR d d st K:=LY h h (by rw[jt 40 d h];exact k)
theorem qY{st:af}{n:Nat}{xs:List D}(h:items? st (.ref n)=some xs):st[n]?=some (.lst xs):=by
 unfold items? at h;simp only at h;split at h
 . rename_i q;cases h;exact q
 . cases h
theorem AY{st:af}{d:D}{xs:List D}{K:List D->(af->Prop)->af->Prop}(h:items? st d=some xs)(k:∀ok:af->Prop,(∀st',items? st' d=some xs->ok st')->K xs ok st):oH d st K:=by
 cases d with
 |lst ys=>cases h;exact AH (k _ fun _ _=>trivial)
 |tup ys=>cases h;exact fH (k _ fun _ _=>trivial)
 |ref n=>
  have e:=qY h;unfold oH wx;simp only[e];exact k _ fun st' h'=>qY h'
 |_=>cases h
theorem pP{env:Env}:∀(l:List (Str×NameKind)) (x:Str),(l.lookup x=some .cell\/l.lookup x=some .free)->
 ((l.map fun(n,k)=>if(k== .free&&env.scope.kind== .function&&env.kindOf n==some .cell)then(n,.cell)else(n,k)).lookup x=some .cell\/(l.map fun(n,k)=>if(k== .free&&env.scope.kind== .function&&env.kindOf n==some .cell)then(n,.cell)else(n,k)).lookup x=some .free)
 | [],x,h=>by simp at h
 |(n,k)::l,x,h=>by
  rw[List.map_cons];dsimp only;by_cases hx:x=n
  . subst hx;rw[List.lookup_cons_self]at h;split
    . rw[List.lookup_cons_self];exact .inl rfl
    . rw[List.lookup_cons_self];exact h
  . have hb:(x==n)=false:=by simpa using hx
    have e1:List.lookup x ((n,k)::l)=List.lookup x l:=by rw[List.lookup_cons,hb]
    rw[e1]at h;have ih:=pP (env:=env) l x h;split
    . rw[List.lookup_cons,hb];exact ih
    . rw[List.lookup_cons,hb];exact ih
theorem bz.He{X0:Cx}{scope0 scope:Scope}{Nc0 Nc:List Str}{C:Addr}{s:Shared}{H:Hp}{ex:List Addr}{fr:List (Option Nat)}(h:vp scope0 Nc0 scope Nc fr=true):bz (fu X0 scope0 Nc0 C s H ex) scope Nc fr:=by
 unfold vp at h;simp only[Bool.and_eq_true]at h;obtain⟨⟨⟨⟨⟨h1,h2⟩,h3⟩,h4⟩,h5⟩,h6⟩:=h;refine⟨by simpa using h1,fun x hx hk=>?_,fun x hx hk=>?_,fun x hx hk=>?_,by simpa using h5,fun i j x e1 e2=>?_⟩
 . have:=List.all_eq_true.mp h2 x hx;rw[hk]at this;simpa using this
 . have:=List.all_eq_true.mp h3 x hx;rw[hk]at this;simpa using this
 . have:=List.all_eq_true.mp h4 x hx;rw[hk]at this;have z:scope0.names.lookup x.1=some .cell\/scope0.names.lookup x.1=some .free:=by simpa using this
   exact pP _ _ z
 . have hi:i<fr.length:=(List.getElem?_eq_some_iff.mp e2).1;have:=List.all_eq_true.mp h6 i (List.mem_range.mpr hi);rw[e1,e2]at this;simp only[Bool.and_eq_true,Bool.or_eq_true,beq_iff_eq]at this;exact⟨this.1.1,this.1.2,pP _ _ this.2⟩
end L3
namespace L3
open PySem L2
open PySem.Spec hiding items?
open PyProof.Rows hiding St
section
variable {X:Cx}
def Hq:cR:=fun x y st K=>match x,y with
 | .lst xs,.int k=>(-(2^63)<=k/\k<2^63/\xs.length*k.toNat<=sizeLine)/\K (.ref st.length) (st++[.lst (List.replicate k.toNat xs).flatten])
 |_,_=>False
theorem Kh:bM X (binaryOp .Mult) (LR Hq):=fun pins s σ H x y v u Q I rx ry ⟨α,d,e,st,K,G,F',P,r1,r2,S,q,k⟩=>by
 cases d<;>cases e<;>try exact q.elim
 unfold Rep at r1 r2;obtain⟨a,vs,rfl,na,ha,ra⟩:=r1;refine A5 pins s σ H _ _ v u Q I rx ry ⟨a,_,vs,rfl,r2,fQ P ha,q.1.1,q.1.2.1,by rw[<-ra.length];exact q.1.2.2,fun p hp=>?_⟩;exact k.new P q.2 S (a7.mpr (k_ (a7.mp ra) _)) hp
@[irreducible] def BO:cR:=Hq
theorem Lq:bM X (binaryOp .Mult) (LR BO):=by unfold BO;exact Kh
end
theorem CV{n:Nat}{d:D}(h:d∈c9 0 n):∃i:Nat,i<n/\d= .int (i:Int):=by
 unfold c9 at h;obtain⟨i,hi,rfl⟩:=List.mem_map.mp h;rw[List.mem_range]at hi;exact⟨i,hi,by rw[Int.zero_add]⟩
theorem Ex{f:Nat->D}(n:Nat):(c9 0 n).map (fun d=>match d with| .int i=>f i.toNat|_=> .aH)=(List.range n).map f:=by
 unfold c9;rw[List.map_map];refine List.map_congr_left fun i _=>?_;show f ((0:Int)+(i:Int)).toNat=f i;have:((0:Int)+(i:Int)).toNat=i:=by omega
 rw[this]
theorem jV{tg:fA}{te:DE}{σc:bV}{st:af}{K:List D->af->Prop}(f:Nat->D)(n:Nat)(hx:∀i:Nat,i<n->∀K',K' (f i) st->∃σ2,tg (.int (i:Int)) σc=some σ2/\te σ2 st K')(k:K ((List.range n).map f) st):du tg cH te (fun _=>True) σc (c9 0 n) [] st K:=by
 refine comp_map (g:=fun d=>match d with| .int i=>f i.toNat|_=> .aH) trivial _ (fun d hd K' q=>?_) (by rw[Ex];exact k);obtain⟨i,hi,rfl⟩:=CV hd;exact hx i hi K' q
theorem lI{tg:fA}{body:DS}{E:mK}(n:Nat)(I:Nat->bV->af->Prop)(hend:∀σ st,I n σ st->E.nx σ st)
 (hstep:∀(j:Nat) σ st (rest:List D),j<n->I j σ st->(∀σ' st',I (j+1) σ' st'->iH tg body (fun _=>True) E rest σ' st')->∃σ1,tg (.int (j:Int)) σ=some σ1/\body {E with nx:=iH tg body (fun _=>True) E rest,ct:=iH tg body (fun _=>True) E rest,bk:=E.nx} σ1 st)
 {σ:bV} {st:af} (h0:I 0 σ st):iH tg body (fun _=>True) E (c9 0 n) σ st:=by
 refine hJ (fun rest σ st=>∃j:Nat,j<=n/\rest=(List.range (n-j)).map (fun i=>D.int (((j+i:Nat):Int)))/\I j σ st) ?_ ?_ _ _ _ ⟨0,Nat.zero_le _,by unfold c9;simp,h0⟩
 . rintro σ st ⟨j,hj,hr,hI⟩
   have:n-j=0:=by
    cases q:n-j with
    |zero=>rfl
    |succ m=>rw[q,List.range_succ_eq_map]at hr;cases hr
   have hjn:j=n:=by omega
   subst hjn;exact⟨trivial,hend σ st hI⟩
 . rintro d rest σ st ⟨j,hj,hr,hI⟩ next
   cases q:n-j with
   |zero=>rw[q]at hr;cases hr
   |succ m=>
    rw[q,List.range_succ_eq_map,List.map_cons,List.map_map]at hr;simp only[List.cons.injEq]at hr;obtain⟨rfl,hrest⟩:=hr;refine⟨trivial,hstep j σ st rest (by omega) hI fun σ' st' h'=>next σ' st' ⟨j+1,by omega,?_,h'⟩⟩;have:n-(j+1)=m:=by omega
    rw[this,hrest];refine List.map_congr_left fun i _=>?_;show D.int (((j+(i+1):Nat):Int))=D.int (((j+1+i:Nat):Int));congr 2;omega
abbrev DM:=Nat->List D->af->DK->Prop
def LiftM(r:DM)(rM:V->List V->Hp->VK->Prop):Prop:=∀(α:List (Option Addr)) (G F H:Hp) (st:af) (K:DK) (Q:VK) (n:Nat) (a:Addr) (ds:List D) (ws:List V),bW G F H->aR α st G->α[n]?=some (some a)->aL α G ds ws->r n ds st K->LK α G F K Q->rM (.ref a) ws H Q
@[irreducible] def qk(r:DM)(to:DE)(ta:DA):DE:=fun σ st K=>to σ st fun x st1=>match x with
 | .ref n=>(match st1[n]? with|some (.lst _)=>ta σ st1 fun ds st2=>(∃xs,st2[n]?=some (.lst xs))/\r n ds st2 K|_=>False)
 |_=>False
section
variable {X:Cx}
theorem LE.Pt{r:DM}{rM:V->List V->Hp->VK->Prop}(L:LiftM r rM){to:DE}{ta:DA}{σ:L2.St}{H:Hp}{Q:VK}(h:LE (qk r to ta) σ H Q):Kc X.K "list" rM (LE to) (LA ta) σ H Q:=by
 obtain⟨α,σd,st,K,G,F,P,R,S,t,k⟩:=h;unfold qk at t;refine⟨α,σd,st,_,G,F,P,R,S,t,fun x st1 q α1 G1 H1 v s1 P1 S1 r1=>?_⟩;cases x<;>try exact q.elim
 rename_i n;simp only at q;split at q
 . rename_i ys e;obtain⟨p,ep,vs,h1,h2⟩:=S1.gn e;have r1':=c8 ep r1;subst r1';refine⟨.inl ⟨rfl,vs,.inl (.of (P1.get h1))⟩,α1,σd,st1,_,G1,F,P1,R.step s1,S1,q,?_⟩;rintro ds st2 ⟨⟨xs,e2⟩,q2⟩ α2 G2 H2 ws s2 P2 S2 r2;obtain⟨p2,ep2,_⟩:=S2.gn e2
   have:p2=p:=by
    rcases s2.pre _ _ ep with z|z<;>(rw[z]at ep2;cases ep2)
    rfl
   subst this;exact L α2 G2 F H2 st2 K Q n p2 ds ws P2 S2 ep2 r2 q2 ((k.at s1).at s2)
 . exact q.elim
theorem LJ{r:DM}{rM:V->List V->Hp->VK->Prop}{name:Str}{id:String}(L:LiftM r rM)(slot:Slot "list" name id)(hty:typeOf (.builtin id)=pure (.type "method_descriptor"))(hm:KI X id rM){o e:Expr}{es:List Expr}{to:DE}{ta:DA}{apos cpos:Pos}(ho:PE X o (LE to))(ha:PA X (e::es) (LA ta))
 (hbase:attributeBase o name X.env (eval o X.env)=eval o X.env) (hfew:((backTo cpos (starEach (e::es) X.env)).all (fun x=> !x.1)&&(backToKw cpos (keywordEach [] X.env)).all (fun x=>x.1.isSome)
   &&decide ((e::es).length+([]:List Keyword).length+(if([]:List Keyword).isEmpty then 0 else 1)<30))=true)
 (hline:(apos.endLine==cpos.line)=true) (hs:starEach (e::es) X.env=(false,eval e X.env)::starEach es X.env) (hplain:(backTo cpos (starEach es X.env)).any (·.1)=false):PE X (.Call (.Attribute o name apos) (e::es) [] cpos) (LE (qk r to ta)):=
 PE.imp (Gv PySem.F.plainAttrs_list slot hty hm ho ha hbase hfew hline hs hplain) fun _ _ _ h=>LE.Pt L h
end
section
variable {X:Cx}{pos:Pos}
end
section
variable {X:Cx}
theorem vL{M:Model}{A:Around}{E:Value->Shared->Prop}{s:Shared}{Q:Value->Shared->Prop}{x:V}{v:Value}{b:Bool}(r:RelV x v)(h:Q (.bool (!(v== .bool b))) s):wpAny M A (compareOp .IsNot v (.bool b)) Q E s:=by
 cases x
 case bl c=>
  cases r;cases c<;>cases b<;>exact wpAny_pure h
 all_goals first
  |(cases r;exact wpAny_pure h)
  |(obtain⟨t,rfl⟩:=r;exact wpAny_pure h)
def zH:cR:=fun x y st K=>match y with| .aH=>live st x=true/\K (.bl (!Ow x)) st| .bl b=>live st x=true/\K (.bl (!Mm x b)) st|_=>False
theorem Fv:bM X (compareOp .IsNot) (LR zH):=fun pins s σ H x y v u Q I rx ry ⟨α,d,e,st,K,G,F',P,r1,r2,S,q,k⟩=>by
 cases e<;>try exact q.elim
 . refine IQ pins s σ H x y v u Q I rx ry ⟨α,d,.aH,st,K,G,F',P,r1,r2,S,⟨q.1,?_⟩,k⟩;have q2:=q.2;cases d<;>exact q2
 . rename_i b;unfold Rep at r2;subst r2;cases ry;refine vL rx ?_;rw[Ig S q.1 r1 rx];exact⟨.bl (!Mm d b),H,I,rfl,k.here P q.2 S (by unfold Rep;rfl)⟩
@[irreducible] def uQ:cR:=zH
theorem LP:bM X (compareOp .IsNot) (LR uQ):=by unfold uQ;exact Fv
end
section
variable {st:af}{K:DK}{d:D}{b:Bool}
theorem L9(h:live st d=true)(k:K (.bl (!Ow d)) st):uQ d .aH st K:=by unfold uQ;exact⟨h,k⟩
end
section
variable {X:Cx}
end
end L3
namespace L3
open PySem L2
open PySem.Spec hiding items?
open PyProof.Rows hiding St
open AutoSeq1 (wpAny_loadPart')
theorem Io{P:Program}{w:World}{A:Around}(hh:A.handled=none)(k:SK)(t a:Addr)(hne:a≠t)(us:Array Value):Draws P w A t [t,a] us.size (fun i v=>us[i]?=some v) (fun n g=>qu k t a n g/\ko k g a us) where
 live:=fun i h z=>((mH (P:=P) (w:=w) k t a hne us).lv i h z).1
 frame:=fun i h h' z kp=>(mH (P:=P) (w:=w) k t a hne us).fr i h h' z fun b hb o e=>kp b (by rcases hb with rfl|rfl<;>simp) o e
 item:=fun i s Q E hi z q=>(mH (P:=P) (w:=w) k t a hne us).nx i A s Q E us[i] z (by simp[hi]) fun g j sb=>q _ g s.toks (by simp[hi]) j sb
 done:=fun s Q E z q=>(mH (P:=P) (w:=w) k t a hne us).en us.size A s Q E hh z (by simp) q
theorem pX(l:Addr)(items:Array Value)(n:Nat)(dct:Option Addr)(sl:Array (Option Value)):
 Meets (Builtin.«enumerate.__new__» ⟨[.type "enumerate",.ref l],[]⟩) (fun _ R s=>s.heap.get? l=some {cls:= .type "tuple",dict:=dct,data:= .seq items n,slots:=sl}/\
  R (.ok (.ret (.ref (s.heap.push {cls:= .type "tuple_iterator",data:= .fields #[.ref l,.int 0 0]}).objs.size)))
   {s with heap:=(s.heap.push {cls:= .type "tuple_iterator",data:= .fields #[.ref l,.int 0 0]}).push {cls:= .type "enumerate",data:= .fields #[.none,.bool false,.ref s.heap.objs.size,rawInt 0,.none,.none]}}):=
 .of_wp fun prog w A R s h=>by
  obtain⟨hp,g,d,tk,os⟩:=s;obtain⟨hl,h⟩:=h;have hsub:=sub_enumerate;have hL:Heap.IsTuple (Shared.heap ⟨hp,g,d,tk,os⟩) l items:=⟨_,hl,rfl,n,rfl⟩
  wp_walk using wpAny_loadPart' hl
  refine wpAny_stack_any fun st=>wpAny_pure ?_;split
  . rename_i c _ _ _ _ _;cases (c==Value.type "enumerate")
    . wp_walk using wpAny_loadPart' hl,wpAny_pyIter_tuple hL
      exact⟨_,rfl,h⟩
    . wp_walk using wpAny_loadPart' hl,wpAny_pyIter_tuple hL
      exact⟨_,rfl,h⟩
  . wp_walk using wpAny_loadPart' hl,wpAny_pyIter_tuple hL
    exact⟨_,rfl,h⟩
theorem DJ{P:Program}{w:World}{A:Around}{s:Shared}{E:Value->Shared->Prop}{k:SK}{a:Addr}{us:Array Value}{Q:Value->Shared->Prop}(c:ko k s.heap a us)
 (q:∀g,IsEnum g (s.heap.objs.size+1) s.heap.objs.size 0 .none->qu k s.heap.objs.size a 0 g->(∀b o,s.heap.get? b=some o->g.get? b=some o)->Q (.ref (s.heap.objs.size+1)) {s with heap:=g}):
 wpAny (model P w) A (call (.type "enumerate") [.ref a]) Q E s:=by
 cases k
 . exact call_enumerate_list c fun g h1 h2 _ h4=>q g h1 h2 h4
 . obtain⟨⟨c,dct,dt,sl⟩,hl,hc,n,hd⟩:=c;replace hc:c= .type "tuple":=hc;replace hd:dt= .seq us n:=hd;subst hc hd
   refine callType_new F.called_enumerate (by decide) (F.typeCall_enumerate_1 _) (F.newCall_enumerate_1 _) (fun obj=>F.args_object_init_2 obj _) F.entry_enumerate_new
    (pX a us n dct sl) ⟨hl,?_⟩
   have hz:(s.heap.push {cls:= .type "tuple_iterator",data:= .fields #[.ref a,.int 0 0]}).objs.size=s.heap.objs.size+1:=Heap.size_push ..;show _/\_;rw[hz]
   have he:IsEnum ((s.heap.push {cls:= .type "tuple_iterator",data:= .fields #[.ref a,.int 0 0]}).push
    {cls:= .type "enumerate",data:= .fields #[.none,.bool false,.ref s.heap.objs.size,rawInt 0,.none,.none]}) (s.heap.objs.size+1) s.heap.objs.size 0 .none:=by
    have:=Heap.get?_push_size (s.heap.push {cls:= .type "tuple_iterator",data:= .fields #[.ref a,.int 0 0]})
     (o:={cls:= .type "enumerate",data:= .fields #[.none,.bool false,.ref s.heap.objs.size,rawInt 0,.none,.none]}) rfl
    rw[hz]at this;exact this
   exact⟨⟨_,he,rfl⟩,q _ he ⟨_,Heap.get?_push_of_some _ (Heap.get?_push_size _ rfl),rfl,rfl⟩ fun b o x=>Heap.get?_push_of_some _ (Heap.get?_push_of_some _ x)⟩
def OK(K:PySem.W.Frag)(k:SK)(a:Addr):It:=
 ⟨fun i H=>∃xs x,o7 k K H a xs/\xs[i]?=some x,
  fun i H v H'=>∃T x,H T=none/\v= .ref T/\H'=upd H T (.tup [.int (i:Int),x])/\∀xs,o7 k K H a xs->xs[i]?=some x,
  fun i H=>∃xs,o7 k K H a xs/\xs.length<=i⟩
def Po(e t a:Addr)(k:SK)(i:Nat)(h:Heap):Prop:=(∃old,IsEnum h e t i old)/\qu k t a i h
theorem C7{P:Program}{w:World}{K:PySem.W.Frag}{elts:List Expr}{kx:Nat}{pos:Pos}{e t a:Addr}(k:SK)(n1:e≠t)(n2:a≠e)(n3:a≠t):
 Turn P w K (.Tuple elts kx pos) (OK K k a) [e,t] e (Po e t a k) where
 mem:=by simp
 obj:=fun i h st b hb=>by
  obtain⟨⟨old,he⟩,i1⟩:=st;simp only[List.mem_cons,List.not_mem_nil,or_false]at hb;rcases hb with rfl|rfl
  . exact⟨_,he,fun v z=>by cases z⟩
  . exact mO i1
 keep:=fun i h h' st kp=>by
  obtain⟨⟨old,he⟩,i1⟩:=st;exact⟨⟨old,kp e (by simp) _ he⟩,pf i1 (kp t (by simp))⟩
 item:=by
  intro X hP hw hK hc i pins s σ H E I hf st hg;subst hP hw hK;obtain⟨⟨old,he⟩,i1⟩:=st;obtain⟨xs,x,q1,ex⟩:=hg;obtain⟨us,r1,l1⟩:=j0 I q1;obtain⟨u,eu,ru⟩:=r1.get ex
  have hlt:i<us.toArray.size:=by
   have:=(List.getElem?_eq_some_iff.mp eu).1;simpa using this
  refine wpAny_pyNext_enum_itemD (Io (A:=X.A.in1) (show X.A.in1.handled=none from I.ok.hd hc) k t a n3 us.toArray) he ⟨i1,l1⟩ hlt n1 (by simp only[List.mem_cons,List.not_mem_nil,or_false,not_or];exact⟨n1,Ne.symm n2⟩) fun y h' tk py ho hs hT hsz kp=>⟨_,rfl,?_⟩
  have hy:y=u:=by
   have:us[i]?=some y:=by simpa using py
   rw[eu]at this;cases this;rfl
  subst hy;refine wpAny_letOwnedTupleGo_enum (s:={s with heap:=h',toks:=tk+1}) ho fun k' he' sb=>?_;have hTe:s.heap.objs.size≠e:=Nat.ne_of_gt (Heap.lt_size he)
  have kp3:∀b o,b∉[e,t]->s.heap.get? b=some o->k'.get? b=some o:=fun b o hb eb=>by
   simp only[List.mem_cons,not_or,List.not_mem_nil,not_false_eq_true,and_true]at hb;exact sb.extBut _ _ hb.1 (kp b o hb.1 hb.2 eb)
  refine⟨.ref s.heap.objs.size,upd H s.heap.objs.size (.tup [.int (i:Int),x]),Hc (s:=s) (tk:=tk+1) I hf kp3 (Nat.le_refl _) ?_,rfl,⟨s.heap.objs.size,x,I.aP.fresh (Nat.le_refl _),rfl,rfl,?_⟩,?_,?_⟩
  . refine⟨Nat.le_of_ble_eq_true rfl,[.int (i:Int) tk,y],.cons ⟨tk,rfl⟩ (.cons ru .nil),?_⟩;exact⟨_,sb.extBut _ _ hTe hT,rfl,_,rfl⟩
  . intro xs' q';rw[wj I q' q1];exact ex
  . refine⟨⟨_,by simpa using he'⟩,pf hs.1 fun o eo=>sb.extBut _ _ (Ne.symm n1) eo⟩
  . intro b hb
    have:b≠s.heap.objs.size:=by
     obtain⟨o,eb⟩:∃o,s.heap.get? b=some o:=by
      simp only[List.mem_cons,List.not_mem_nil,or_false]at hb;rcases hb with rfl|rfl
      . exact⟨_,he⟩
      . obtain⟨o,eo,_⟩:=mO i1;exact⟨o,eo⟩
     exact Nat.ne_of_lt (Heap.lt_size eb)
    rw[az this];exact(hf b hb).1
 done:=by
  intro X hP hw hK hc i pins s σ H E I hf st hg;subst hP hw hK;obtain⟨⟨old,he⟩,i1⟩:=st;obtain⟨xs,q1,hle⟩:=hg;obtain⟨us,r1,l1⟩:=j0 I q1;have e1:=r1.length;have tz:s.TypeIs (.ref e) "enumerate":=⟨_,he,rfl⟩
  unfold pyNext;refine wpAny_bind (wpAny_attempt (wpAny_callSpecial?_slot (name:=Str.ofString "__next__") tz F.slot_enumerate_next (wpAny_call_entry F.slot_enumerate_next tz F.entry_enumerate_next ?_ (F.args_enumerate_next_1 _))));show wpAny _ _ (field (.ref e) 2 >>= _) _ _ _;refine wpAny_bind (wpAny_field he rfl (x:= .ref t) rfl ?_);refine wpAny_bind ((mH k t a n3 us.toArray).en i _ s _ _ (I.ok.hd hc) ⟨i1,l1⟩ (by simp;omega) fun g x sb hx=>?_);obtain⟨o,ho,hc2⟩:=hx;refine wpAny_bind (wpAny_isInstance (T:="StopIteration") (b:=true) ⟨o,ho,hc2⟩ isSubtype_stop ?_);refine wpAny_pure ⟨rfl,GA (s:=s) (tk:=s.toks) I hf fun b o hb eb=>?_⟩;simp only[List.mem_cons,not_or,List.not_mem_nil,not_false_eq_true,and_true]at hb;exact sb b o hb.2 eb
 self:=fun _ _ _ _ _ st h=>wpAny_pyIter_enum st.1.choose_spec h
def gm:Nat->List D->List D
 |_,[]=>[]
 |i,x::xs=> .tup [.int (i:Int),x]::gm (i+1) xs
theorem wR:∀ {xs:List D} {i:Nat},(gm i xs).length=xs.length
 | [],_=>rfl
 |_::xs,i=>by unfold gm;rw[List.length_cons,List.length_cons,wR]
theorem rj:∀ {xs:List D} {i n:Nat} {d:D},(gm i xs)[n]?=some d->∃x,xs[n]?=some x/\d= .tup [.int ((i+n:Nat):Int),x]
 | [],_,_,_,e=>by unfold gm at e;cases e
 |x::xs,i,0,d,e=>by
  unfold gm at e;rw[List.getElem?_cons_zero]at e;cases e;exact⟨x,rfl,rfl⟩
 |x::xs,i,n+1,d,e=>by
  unfold gm at e;rw[List.getElem?_cons_succ]at e;obtain⟨y,h1,h2⟩:=rj e;refine⟨y,by rw[List.getElem?_cons_succ];exact h1,?_⟩;rw[h2,show i+1+n=i+(n+1) by omega]
theorem IC{K:PySem.W.Frag}{k:SK}{a:Addr}{α:List (Option Addr)}{G:Hp}{ok:af->Prop}{xs:List D}
 (h:∀α' G' st',Step α G α' G'->aR α' st' G'->ok st'->∃vs,D3 k G' a vs/\aL α' G' xs vs):tW (OK K k a) α G ok (gm 0 xs) where
 stop:=fun n α' G' F' H' st' s P S o hn=>by
  obtain⟨vs,h1,r1⟩:=h α' G' st' s S o;rw[wR]at hn;refine⟨vs,ji P h1,?_⟩;have:=r1.length;omega
 go:=fun n d α' G' F' H' st' s P S o hn=>by
  obtain⟨vs,h1,r1⟩:=h α' G' st' s S o;obtain⟨x,ex,rfl⟩:=rj hn;obtain⟨v,ev,_⟩:=r1.get ex;exact⟨vs,v,ji P h1,ev⟩
 nQ:=fun n d α' G' F' H' st' x H'' s P S o hn y=>by
  obtain⟨vs,h1,r1⟩:=h α' G' st' s S o;obtain⟨c,ec,rfl⟩:=rj hn;obtain⟨T,v,hT,rfl,rfl,y1⟩:=y;obtain⟨v',ev,rv⟩:=r1.get ec;rw[y1 vs (ji P h1)]at ev;cases ev;have hg:=(P.none hT).1;refine⟨upd G' T (.tup [.int (n:Int),v]),Step.laid hg,P.laid hT,S.laid hg,?_⟩;unfold Rep;refine⟨T,[.int (n:Int),v],rfl,S.j9 hg,aY,?_⟩;unfold aL;refine⟨.int (n:Int),[v],rfl,?_,?_⟩
  . unfold Rep;rw[Nat.zero_add]
  unfold aL;exact⟨v,[],rfl,rv.step (Step.laid hg),by unfold aL;rfl⟩
def CL(ds:List D)(st1:af)(K:List D->(af->Prop)->af->Prop):Prop:=match ds with
 | [x]=>(match items? st1 x with
   |some xs=>K (gm 0 xs) (fun st'=>items? st' x=some xs) st1
   |_=>False)
 |_=>False
@[irreducible] def rO:List D->af->(List D->(af->Prop)->af->Prop)->Prop:=CL
def xX(t:DA):DI:=fun σ st K=>t σ st fun ds st1=>rO ds st1 K
theorem EW:bootBuiltins "enumerate"=some (.type "enumerate"):=by decide+kernel
theorem IJ{X:Cx}{a:Expr}{elts:List Expr}{kx:Nat}{tpos p pos:Pos}{t:DA}(hg:Gl X "enumerate")(hm:X.mg "enumerate"=none)(ha:PA X [a] (LA t))(hs:starEach [a] X.env=[(false,eval a X.env)]):
 PI X (.Tuple elts kx tpos) (.Call (.Name "enumerate" p) [a] [] pos) (LI (xX t)):=by
 intro pins s σ H R I h;obtain⟨α,σd,st,K,G,F,P,RS,S,t,k⟩:=h;refine Call_ (j8 I hg hm EW (PyProof.Rows.callWith_type1 (bO (ha pos pins s σ H (fun vs H1=>∃ds α1 G1 st1,Step α G α1 G1/\bW G1 F H1/\aR α1 st1 G1/\aL α1 G1 ds vs/\rO ds st1 K) I ⟨α,σd,st,_,G,F,P,RS,S,t,fun ds st1 q α1 G1 H1 vs s1 P1 S1 r1=>⟨ds,α1,G1,st1,s1,P1,S1,r1,q⟩⟩) fun us s1 ⟨vs,H1,I1,rv,ds,α1,G1,st1,w1,P1,S1,r1,q⟩=>?_) (by rw[hs];rfl) (by rfl)));unfold rO CL at q;split at q
 . rename_i x;split at q
   . rename_i xs ex;obtain⟨v1,rfl,q1⟩:=gj r1 rfl;obtain⟨p1,vs1,rfl,g1,c1⟩:=m4 S1 q1 ex;obtain⟨u1,rfl,ru1⟩:=vals1 rv;cases ru1;obtain⟨its1,_,l1⟩:=j0 I1 (ji P1 c1);refine DJ l1 fun g he i1 kp=>?_;obtain⟨o1,eo1⟩:=l1.some;have hp1:p1<s1.heap.objs.size:=Heap.lt_size eo1;refine wpAny_pyIter_enum (s:={s1 with heap:=g}) he ?_;refine⟨s1.heap.objs.size+1,[s1.heap.objs.size+1,s1.heap.objs.size],_,_,H1,rfl,I1.kept (t':=s1.toks) kp,C7 (Hn x) (Nat.ne_of_gt (Nat.lt_succ_self _)) (Nat.ne_of_lt (Nat.lt_succ_of_lt hp1)) (Nat.ne_of_lt hp1),⟨⟨_,he⟩,i1⟩,fun b hb=>?_,?_⟩
     . have hb':s1.heap.objs.size<=b:=by
        simp only[List.mem_cons,List.not_mem_nil,or_false]at hb;rcases hb with rfl|rfl
        . exact Nat.le_succ _
        . exact Nat.le_refl _
       exact I1.uo hb' (I1.aP.fresh hb')
     . refine k _ _ st1 q _ α1 G1 H1 w1 P1 S1 (IC fun α' G' st' s' S' o=>?_);obtain⟨p1',ws1,e1,f1,d1⟩:=m4 S' (q1.step s') o;cases e1;exact⟨ws1,d1,f1⟩
   . exact q.elim
 . exact q.elim
theorem A3{st:af}{x:D}{xs:List D}{K:List D->(af->Prop)->af->Prop}(ex:items? st x=some xs)(k:∀ok:af->Prop,(∀st',items? st' x=some xs->ok st')->K (gm 0 xs) ok st):rO [x] st K:=by
 unfold rO CL;simp only[ex];exact k _ fun st' h1=>h1
theorem EX{X:Cx}{a:Expr}{elts:List Expr}{kx:Nat}{tpos p pos:Pos}{ar:DA}(hg:Gl X "enumerate")(hm:X.mg "enumerate"=none)(ha:JA X [a] ar)(hs:notStar a=true:=by rfl):JI X (.Tuple elts kx tpos) (.Call (.Name "enumerate" p) [a] [] pos) (xX ar):=by
 unfold JI;unfold JA at ha;exact IJ hg hm ha (cu hs)
end L3
namespace L3
open PySem L2
open PySem.Spec hiding items?
open PyProof.Rows hiding St
section
variable {prog:Program}{w:World}{A:Around}{E:Value->Shared->Prop}{s:Shared}
end
section
variable {X:Cx}{tg:Expr}
end
section
variable {X:Cx}
end
end L3
namespace L3
open PySem L2
open PySem.Spec hiding items?
open PyProof.Rows hiding St
open PySem PySem.Spec L2 PySem.SeqAt
section
variable {X:Cx}
end
end L3
namespace L3
open PySem L2
open PySem.Spec hiding items?
open PyProof.Rows hiding St
section
variable {X:Cx}
end
section
variable {P:Program}{w:World}
section
variable {z ti to t1 t2 t3 a1 a2 a3:Addr}
end
end
section
variable {X:Cx}
end
end L3
namespace L3
open PySem L2
open PySem.Spec hiding items?
open PyProof.Rows hiding St
open Sem (wp)
section
variable {prog:Program}{w:World}{A:Around}{s:Shared}{E:Value->Shared->Prop}
end
section
variable {prog:Program}{w:World}{A:Around}{R:Result->Shared->Prop}{I:Addr}{fp wr:List Addr}{G:Array GenState->Array GenState->Prop}{n:Nat}{P:Nat->Value->Prop}{Sx:Nat->Shared->Prop}
end
section
variable {prog:Program}{w:World}{A:Around}{E:Value->Shared->Prop}{s:Shared}
end
section
variable {X:Cx}{pins:List (Addr×Obj)}{σ:L2.St}{H:Hp}{s:Shared}{α:List (Option Addr)}
end
end L3
namespace L3
open PySem L2
open PySem.Spec hiding items?
open PyProof.Rows hiding St
section
variable {X:Cx}
theorem range_any{α:Type}(l:List α)(f:α->Bool)(tr:Nat->Bool)(h:∀i x,l[i]?=some x->tr i=f x):(List.range l.length).any tr=l.any f:=by
 induction l generalizing tr with
 |nil=>rfl
 |cons a l ih=>
  rw[List.length_cons,List.range_succ_eq_map,List.any_cons,List.any_cons,List.any_map,h 0 a rfl];congr 1;exact ih (tr∘Nat.succ) fun i x e=>h (i+1) x (by simpa using e)
end
def putD(f:Str)(v:D):List (Str×D)->List (Str×D)
 | []=>[(f,v)]
 |(g,x)::r=>if g=f then(g,v)::r else(g,x)::putD f v r
theorem jy.look{α:List (Option Addr)}{H:Hp}{f:Str}{v:D}:∀ {fs:List (Str×D)} {vs:List (Str×V)},jy α H fs vs->fs.lookup f=some v->∃u,vs.lookup f=some u/\Rep α H v u
 | [],_,_,e=>by cases e
 |(g,x)::fs,_,.cons (b:=q) h t,e=>by
  obtain⟨g',y⟩:=q;obtain⟨h1,h2⟩:=h;simp only at h1 h2;subst h1;rw[List.lookup_cons]at e⊢;cases hb:f==g with
  |true=>rw[hb]at e;cases e;exact⟨y,rfl,h2⟩
  |false=>rw[hb]at e;exact jy.look t e
theorem jy.none{α:List (Option Addr)}{H:Hp}{f:Str}:∀ {fs:List (Str×D)} {vs:List (Str×V)},jy α H fs vs->fs.lookup f=Option.none->vs.lookup f=Option.none
 | [],_,.nil,_=>rfl
 |(g,x)::fs,_,.cons (b:=q) h t,e=>by
  obtain⟨g',y⟩:=q;obtain⟨h1,h2⟩:=h;simp only at h1 h2;subst h1;rw[List.lookup_cons]at e⊢;cases hb:f==g with
  |true=>rw[hb]at e;cases e
  |false=>rw[hb]at e;exact jy.none t e
theorem jy.put{α:List (Option Addr)}{H:Hp}{f:Str}{d:D}{v:V}(r:Rep α H d v):∀ {fs:List (Str×D)} {vs:List (Str×V)},jy α H fs vs->jy α H (putD f d fs) (gy f v vs)
 | [],_,.nil=> .cons ⟨rfl,r⟩ .nil
 |(g,x)::fs,_,.cons (b:=q) h t=>by
  obtain⟨g',y⟩:=q;obtain⟨h1,h2⟩:=h;simp only at h1 h2;subst h1;unfold putD gy;by_cases hb:g=f
  . rw[if_pos hb,if_pos hb];exact .cons ⟨rfl,r⟩ t
  . rw[if_neg hb,if_neg hb];exact .cons ⟨rfl,h2⟩ (jy.put r t)
def Fm(C:Addr)(f:Str)(d:D)(st:af)(K:DK):Prop:=match d with
 | .ref n=>(match st[n]? with|some (.ins C' fs)=>C'=C/\∃v,fs.lookup f=some v/\K v st|_=>False)
 |_=>False
@[irreducible] def CK(C:Addr)(f:Str):D->af->DK->Prop:=Fm C f
def dO(C:Addr)(f:Str)(te:DE):DE:=fun σ st K=>te σ st fun d st1=>CK C f d st1 K
theorem cz{C:Addr}{f:Str}{n:Nat}{st:af}{K:DK}{fs:List (Str×D)}{v:D}(e:st[n]?=some (.ins C fs))(h:fs.lookup f=some v)(k:K v st):CK C f (.ref n) st K:=by
 unfold CK Fm;simp only[e];exact⟨trivial,v,h,k⟩
def CH(C:Addr)(f:Str)(x d:D)(st:af)(K:af->Prop):Prop:=match x with
 | .ref n=>(match st[n]? with|some (.ins C' fs)=>C'=C/\fs.length<1000/\K (st.set n (.ins C (putD f d fs)))|_=>False)
 |_=>False
@[irreducible] def x_(C:Addr)(f:Str):D->D->af->(af->Prop)->Prop:=CH C f
def nZ(C:Addr)(f:Str)(to te:DE):DS:=fun D σ st=>te σ st fun d st1=>to σ st1 fun x st2=>x_ C f x d st2 fun st3=>D.nx σ st3
theorem m5{C:Addr}{f:Str}{n:Nat}{d:D}{st:af}{K:af->Prop}{fs:List (Str×D)}(e:st[n]?=some (.ins C fs))(h:fs.length<1000)(k:K (st.set n (.ins C (putD f d fs)))):x_ C f (.ref n) d st K:=by
 unfold x_ CH;simp only[e];exact⟨trivial,h,k⟩
def Cc(C:Addr)(m:Str)(x:D)(st:af)(k:Prop):Prop:=match x with
 | .ref n=>(match st[n]? with|some (.ins C' fs)=>C'=C/\fs.lookup m=none/\k|_=>False)
 |_=>False
@[irreducible] def x3(C:Addr)(m:Str):D->af->Prop->Prop:=Cc C m
theorem jE{C:Addr}{m:Str}{n:Nat}{st:af}{k:Prop}{fs:List (Str×D)}(e:st[n]?=some (.ins C fs))(h:fs.lookup m=none)(q:k):x3 C m (.ref n) st k:=by
 unfold x3 Cc;simp only[e];exact⟨trivial,h,q⟩
def i6(C:Addr)(m:Str)(S:b_)(to:DE)(t:DA):DE:=fun σ st K=>to σ st fun x st1=>x3 C m x st1 (t σ st1 fun ds st2=>S (x::ds) st2 K)
def BH(C:Addr)(S:b_)(t:DA):DE:=fun σ st K=>t σ st fun ds st1=>S (.ref st1.length::ds) (st1++[.ins C []]) fun r st2=>r= .aH/\K (.ref st1.length) st2
section
variable {X:Cx}{C f g:Addr}{fd:FuncData}{k:Nat}{x m fl:Str}{e o value:Expr}{es:List Expr}{p pos pos' apos:Pos}{te to:DE}{t:DA}{S:b_}{ps:List Str}
theorem NF(c:m9 X.K C)(na:fT X.K C fl)(he:PE X e (LE te))(hb:attributeBase e fl X.env (eval e X.env)=eval e X.env):PE X (.Attribute e fl pos) (LE (dO C fl te)):=PE.imp (L_ he hb) fun σ H Q ⟨α,σd,st,K,G,F,P,R,S,t,k⟩=>by
 refine⟨α,σd,st,_,G,F,P,R,S,t,fun d st1 q α1 G1 H1 v s1 P1 S1 r1=>?_⟩;unfold CK Fm at q;cases d<;>try exact q.elim
 simp only at q;split at q
 . rename_i C' fs e';obtain⟨rfl,w,hw,q⟩:=q;obtain⟨a,ea,dx,vs,h1,h2⟩:=S1.xO e';have r1':=c8 ea r1;subst r1';obtain⟨u,hu,ru⟩:=h2.look hw;exact⟨a,_,dx,vs,u,rfl,P1.get h1,c,na,hu,(k.at s1).here P1 q S1 ru⟩
 . exact q.elim
theorem Le(c:m9 X.K C)(na:fT X.K C fl)(ho:PE X o (LE to))(hv:PE X value (LE te))(hs:swapsWith value (some (.Attribute o fl pos')) pos.line X.env=pure false):PS X (.Assign [.Attribute o fl pos'] value pos) (LS (nZ C fl to te)):=PS.imp (Kt ho hv hs) fun D σ H ⟨α,σd,st,DD,G,F,P,R,S,t,k⟩=>by
 refine⟨α,σd,st,_,G,F,P,R,S,t,fun d st1 q α1 G1 H1 v s1 P1 S1 r1=>?_⟩;refine⟨α1,σd,st1,_,G1,F,P1,R.step s1,S1,q,fun x st2 q2 α2 G2 H2 v2 s2 P2 S2 r2=>?_⟩;unfold x_ CH at q2;cases x<;>try exact q2.elim
 simp only at q2;split at q2
 . rename_i C' fs e';obtain⟨rfl,hl,q2⟩:=q2;obtain⟨a,ea,dx,vs,h1,h2⟩:=S2.xO e';have r2':=c8 ea r2;subst r2';have hm:some a∈α2:=List.mem_of_getElem? ea;have lv:vs.length<1000:=by rw[<-h2.length];exact hl
   refine⟨a,_,dx,vs,rfl,P2.get h1,c,na,lv,?_⟩;refine((k.nx.at s1).at s2) σd _ q2 α2 (upd G2 a (.ins _ dx (gy fl v vs))) _ σ (Step.write hm) (P2.write h1) (((R.step s1).step s2).step (Step.write hm)) ?_;exact S2.write ea ⟨dx,gy fl v vs,aY,(h2.put (r1.step s2)).step (Step.write hm)⟩
 . exact q2.elim
theorem LE.NM{σ:L2.St}{H:Hp}{Q:VK}(h:LE (i6 C m S to t) σ H Q):Gr C m (cp S) [] E0 (LE to) (LA t) σ H Q:=by
 obtain⟨α,σd,st,K,G,F,P,R,Sr,tt,k⟩:=h;refine⟨α,σd,st,_,G,F,P,R,Sr,tt,fun d st1 q α1 G1 H1 v s1 P1 S1 r1=>?_⟩;unfold x3 Cc at q;cases d<;>try exact q.elim
 simp only at q;split at q
 . rename_i n C' fs e';obtain⟨rfl,hl,q⟩:=q;obtain⟨a,ea,dx,vs,h1,h2⟩:=S1.xO e';have r1':=c8 ea r1;subst r1';refine⟨a,dx,vs,rfl,P1.get h1,h2.none hl,?_⟩;refine⟨α1,σd,st1,_,G1,F,P1,R.step s1,S1,q,fun ds st2 q2 α2 G2 H2 us s2 P2 S2 r2=>?_⟩;try dsimp only
   rw[List.append_nil];exact⟨α2,_,st2,K,G2,F,P2,by unfold aL;exact⟨_,_,rfl,r1.step s2,r2⟩,S2,q2,(k.at s1).at s2⟩
 . exact q.elim
theorem LE.make{σ:L2.St}{H:Hp}{Q:VK}(h:LE (BH C S t) σ H Q):Gw C (cp S) [] E0 (LA t) σ H Q:=by
 obtain⟨α,σd,st,K,G,F,P,R,Sr,tt,k⟩:=h;refine⟨α,σd,st,_,G,F,P,R,Sr,tt,fun ds st1 q α1 G1 H1 us s1 P1 S1 r1=>?_⟩;intro x dx hx hdx hne;have hgd:=(P1.none hdx).1;have P2:=P1.laid (o:= .own x) hdx;have S2:=S1.laid (o:= .own x) hgd;have hx2:upd H1 dx (.own x) x=none:=by rw[az (Ne.symm hne)];exact hx
 have hg2:=(P2.none hx2).1;have P3:=P2.laid (o:= .ins C dx []) hx2;have S3:=S2.cell (o:= .ins C dx []) (c:= .ins C []) hg2 ⟨dx,[],aY,.nil⟩;have s2:Step α1 G1 α1 (upd G1 dx (.own x)):=Step.laid hgd;have s3:Step α1 (upd G1 dx (.own x)) (α1++[some x]) (upd (upd G1 dx (.own x)) x (.ins C dx [])):=Step.cell hg2
 have rx:Rep (α1++[some x]) (upd (upd G1 dx (.own x)) x (.ins C dx [])) (.ref st1.length) (.ref x):=by
  unfold Rep;refine .inr ⟨x,?_,rfl⟩;rw[List.getElem?_append_right (by rw[S1.len];exact Nat.le_refl _),S1.len,Nat.sub_self];rfl
 rw[List.append_nil];refine⟨α1++[some x],.ref st1.length::ds,st1++[.ins C []],_,_,F,P3,by unfold aL;exact⟨_,_,rfl,rx,(r1.step s2).step s3⟩,S3,q,fun d st2 q2 α' G' H' v s' P' S' r'=>?_⟩;obtain⟨rfl,q2⟩:=q2;unfold Rep at r';exact⟨r',(((k.at s1).at s2).at s3) _ st2 q2 α' G' H' _ s' P' S' (rx.step s')⟩
end
def Mq(a:Int)(n:Nat):It:=⟨fun i _=>i<n,fun i H x H'=>H'=H/\x= .int (a+(i:Nat)*(-1)),fun i _=>n<=i⟩
theorem Dx{P:Program}{w:World}{K:PySem.W.Frag}{tg:Expr}(it:Addr)(a:Int)(n:Nat):Turn P w K tg (Mq a n) [it] it (fun i h=>IsRangeIter h it (a+(i:Nat)*(-1)) ((n:Int)-(i:Nat)) (-1)) where
 mem:=by simp
 obj:=fun i h st b hb=>by
  have e:b=it:=by simpa using hb
  subst e
  exact⟨_,st,fun v z=>by
   have z':Data.fields _=Data.cell v:=z;cases z'⟩
 keep:=fun i h h' st k=>k it (by simp) _ st
 item:=by
  intro X hP hw hK hc i pins s σ H E I hf st hg;subst hP hw hK;obtain⟨f0,f1,f2,f3,f4,f5⟩:=hf it (by simp);have W:=Walks.range (prog:=X.prog) (w:=X.w) (I.ok.hd hc) it a (-1) n;refine W.item i s _ _ hg st fun v h' tk hv st' kk=>?_;obtain⟨t,rfl⟩:=hv;have I1:Inv X pins σ H {s with heap:=h',toks:=tk}:=I.turned (fun b o hb e=>kk b o (by simpa using hb) e) f0 f1 f3 f4 f5;exact⟨_,rfl,yb (s:={s with heap:=h',toks:=tk}) (n:="range_iterator") st' rfl rfl (by decide) ⟨.int (a+(i:Nat)*(-1)),H,I1,⟨t,rfl⟩,⟨rfl,rfl⟩,st',fun b hb=>(hf b hb).1⟩⟩
 done:=by
  intro X hP hw hK hc i pins s σ H E I hf st hg;subst hP hw hK;obtain⟨f0,f1,f2,f3,f4,f5⟩:=hf it (by simp);exact wpAny_pyNext_range_end (I.ok.hd hc) st (by have:n<=i:=hg;omega) fun h' eb=>⟨rfl,I.turned (t':=s.toks) (fun b o hb e=>eb b o hb e) f0 f1 f3 f4 f5⟩
 self:=fun _ _ _ _ _ st h=>wpAny_pyIter_rangeiter st h
theorem w9(a b:Int):Builtin.Range.rangeSize a b (-1)=((a-b).toNat:Int):=by
 unfold Builtin.Range.rangeSize;rw[if_neg (by decide)];have e:(a-b-1)/(- -1:Int)=a-b-1:=by simp
 rw[e];split<;>omega
theorem small_down{a b:Int}(ha: -(2^62)<=a)(ha':a<2^62)(hb: -(2^62)<=b)(hb':b<2^62):Builtin.Range.small a b (-1)=true:=by
 unfold Builtin.Range.small;rw[w9];simp only[Builtin.Range.rangeFitsLong,Bool.and_eq_true,Bool.or_eq_true,decide_eq_true_eq,beq_iff_eq,show¬((-1:Int)>0) by decide,if_false];omega
def Hl(ta:TA):TI:=fun σ H R=>ta σ H fun vs H1=>∃i j:Int,vs=[.int i,.int j,.int (-1)]/\(-(2^62)<=i/\i<2^62/\ -(2^62)<=j/\j<2^62)/\R (Mq i (i-j).toNat) H1
section
variable {X:Cx}{tg:Expr}
theorem CS{a b c:Expr}{ta:TA}{p pos:Pos}(hg:Gl X "range")(hm:X.mg "range"=none)(ha:PA X [a,b,c] ta)(hs:notStar a=true:=by rfl)(hs2:notStar b=true:=by rfl)(hs3:notStar c=true:=by rfl):
 PI X tg (.Call (.Name "range" p) [a,b,c] [] pos) (Hl ta):=by
 intro pins s σ H R I h;refine Call_ (j8 I hg hm boot_range (PyProof.Rows.callWith_type1 (bO (ha pos pins s σ H _ I h) fun us s1 ⟨vs,H1,I1,r1,q1⟩=>?_) (cu hs) (jv (by simp[fK,hs2,hs3]))));obtain⟨i,j,e,⟨q1,q2,q3,q4⟩,q⟩:=q1;subst e;cases r1 with
 |cons r rr=>
  cases rr with
  |cons r' rr=>
   cases rr with
   |cons r'' rr=>
    cases rr;obtain⟨t,rfl⟩:=r;obtain⟨t',rfl⟩:=r';obtain⟨t'',rfl⟩:=r'';refine call_range_3 (by decide) ?_ (Or.inl (PyProof.noPylong_of_log2 (by decide+kernel)));refine wpAny_pyIter_range (IsRange.new ..) (small_down q1 q2 q3 q4) ?_;have I2:Inv X pins σ H1 {s1 with heap:=s1.heap.push {cls:= .type "range",data:= .fields #[.int i t,.int j t',.int (-1) t'']},toks:=s1.toks}:=I1.kept fun b o e=>Heap.get?_push_of_some _ e;generalize({s1 with heap:=s1.heap.push {cls:= .type "range",data:= .fields #[.int i t,.int j t',.int (-1) t'']},toks:=s1.toks}:Shared)=s2 at I2⊢;refine⟨s2.heap.objs.size,[s2.heap.objs.size],_,_,H1,rfl,I2.kept (t':=s2.toks) fun b o e=>Heap.get?_push_of_some _ e,Dx _ i (i-j).toNat,?_,fun b hb=>?_,q⟩
    . show IsRangeIter _ _ (i+((0:Nat):Int)*(-1)) ((((i-j).toNat:Nat):Int)-((0:Nat):Int)) (-1);have e1:i+((0:Nat):Int)*(-1)=i:=by omega
      have e2:(((i-j).toNat:Nat):Int)-((0:Nat):Int)=Builtin.Range.rangeSize i j (-1):=by rw[w9];omega
      rw[e1,e2];exact Heap.get?_push_size _ rfl
    . have e:b=s2.heap.objs.size:=by simpa using hb
      subst e;exact I2.uo (Nat.le_refl _) (I2.aP.fresh (Nat.le_refl _))
end
def r8(a:Int)(n:Nat):List D:=(List.range n).map fun(k:Nat)=>D.int (a+(k:Nat)*(-1))
theorem xf{a:Int}{n k:Nat}:(r8 a n)[k]?=if k<n then some (.int (a+(k:Nat)*(-1)))else none:=by
 unfold r8;rw[List.getElem?_map];by_cases h:k<n
 . rw[List.getElem?_range h,if_pos h];rfl
 . rw[List.getElem?_eq_none (by simpa using h),if_neg h];rfl
theorem D7{a:Int}{n:Nat}:(r8 a n).length=n:=by unfold r8;simp
theorem HF{α:List (Option Addr)}{G:Hp}{a:Int}{n:Nat}:tW (Mq a n) α G (fun _=>True) (r8 a n) where
 stop:=fun m α' G' F' H' st' s P S o hn=>by rw[D7]at hn;exact hn
 go:=fun m d α' G' F' H' st' s P S o hn=>by
  rw[xf]at hn;split at hn
  . assumption
  . cases hn
 nQ:=fun m d α' G' F' H' st' x H'' s P S o hn y=>by
  obtain⟨rfl,rfl⟩:=y;rw[xf]at hn;split at hn
  . cases hn;exact⟨G',Step.refl,P,S,by unfold Rep;rfl⟩
  . cases hn
def MJ(ds:List D)(st1:af)(K:List D->(af->Prop)->af->Prop):Prop:=match ds with
 | [.int i,.int j,.int c]=>(c= -1/\ -(2^62)<=i/\i<2^62/\ -(2^62)<=j/\j<2^62)/\K (r8 i (i-j).toNat) (fun _=>True) st1
 |_=>False
@[irreducible] def GY:List D->af->(List D->(af->Prop)->af->Prop)->Prop:=MJ
def wa(t:DA):DI:=fun σ st K=>t σ st fun ds st1=>GY ds st1 K
theorem DN{X:Cx}{tg iter:Expr}{t:DA}(h:PI X tg iter (Hl (LA t))):PI X tg iter (LI (wa t)):=PI.imp h fun σ H R ⟨α,σd,st,K,G,F,P,RS,S,t,k⟩=>by
 refine⟨α,σd,st,_,G,F,P,RS,S,t,fun ds st1 q α1 G1 H1 vs s1 P1 S1 r1=>?_⟩;unfold GY at q;match ds,q,r1 with
 | [.int i,.int j,.int c],q,r1=>
   obtain⟨v,u,w,rfl,r2,r3,r4⟩:=N8 r1 rfl;unfold Rep at r2 r3 r4;subst r2 r3 r4;obtain⟨⟨rfl,q1⟩,q2⟩:=q;exact⟨i,j,rfl,q1,k _ _ st1 q2 _ α1 G1 H1 s1 P1 S1 HF⟩
theorem FD{X:Cx}{tg a b c:Expr}{p pos:Pos}{ar:DA}(hg:Gl X "range")(hm:X.mg "range"=none)(ha:JA X [a,b,c] ar)(hs:notStar a=true:=by rfl)(hs2:notStar b=true:=by rfl)(hs3:notStar c=true:=by rfl):JI X tg (.Call (.Name "range" p) [a,b,c] [] pos) (wa ar):=by
 unfold JI;unfold JA at ha;exact DN (CS hg hm ha hs hs2 hs3)
section
variable {X:Cx}
end
section
variable {X:Cx}{e o i value:Expr}{es:List Expr}{te to ti:DE}{t:DA}{pos pos' tpos apos p:Pos}{C f:Addr}{fl m x:Str}{S:b_}{k:Nat}{fd:FuncData}{ps:List Str}
theorem ED{value o:Expr}{fl:Str}{pos':Pos}{n:Nat}{env:Env}:swapsWith value (some (.Attribute o fl pos')) n env=pure false:=by cases value<;>rfl
theorem cX(c:m9 X.K C)(na:fT X.K C fl)(he:JE X e te)(hb:attributeBase e fl X.env (eval e X.env)=eval e X.env:=by rfl):JE X (.Attribute e fl pos) (dO C fl te):=by unfold JE at*;exact NF c na he hb
theorem mV(c:m9 X.K C)(na:fT X.K C fl)(ho:JE X o to)(hv:JE X value te):JS X (.Assign [.Attribute o fl pos'] value pos) (nZ C fl to te):=by unfold JS;unfold JE at*;exact Le c na ho hv ED
theorem l8{pl:Sem Bool}(he:JE X o to)(c:m9 X.K C)(hm:Meth X.K C m f)(F:bf X.prog X.w X.K X.mg X.base cj k f fd ps (cp S))(hr:cP k X.A)(hb:Binds X.K fd ps [])(ha:JA X (e::es) t)
 (hs:notStar e=true:=by rfl) (hs2:fK es=true:=by rfl)
 (ht:eval (.Call (.Attribute o m apos) (e::es) [] pos) X.env=(do
   let ov <-eval o X.env
   standAt apos.atName
   let(f,first) <-holding [ov] (getMethod ov m pl)
   callWith pos f first (backTo pos (starEach (e::es) X.env)) (backToKw pos (keywordEach [] X.env))):=by rfl):
 JE X (.Call (.Attribute o m apos) (e::es) [] pos) (i6 C m S to t):=by
 unfold JE at*;unfold JA at ha;exact PE.imp (IT he c hm F hr hb .nil CD ha (cu hs) (jv hs2) ht) fun _ _ _ h=>LE.NM h
theorem Kg(M:Mk X.K C f)(F:bf X.prog X.w X.K X.mg X.base cj k f fd ps (cp S))(hr:cP (k+1) X.A)(hg:Gl X x)(hmg:X.mg x=some (.ref C))(hb:Binds X.K fd ps [])(ha:JA X (e::es) t)(hdb:(x==("__debug__":Str))=false)
 (hs:notStar e=true:=by rfl) (hs2:fK es=true:=by rfl):JE X (.Call (.Name x p) (e::es) [] pos) (BH C S t):=by
 unfold JE;unfold JA at ha;exact PE.imp (JF M F hr hg hmg hb .nil CD ha hdb (cu hs) (jv hs2)) fun _ _ _ h=>LE.make h
end
end L3
namespace L2
open PySem PySem.Spec PyProof.Rows
structure Entry(K:PySem.W.Frag)(ts:List (Addr×Addr))(a:Addr)(ns:List Int)(H:Hp):Prop where
 lst:l_ K H a (ns.map V.int)
 tab:∀q∈ts,H q.2=some (.jJ #[])/\q.2≠a
theorem w_:∀ {vs:List Value} {ns:List Int},IntsAre vs ns->Vals (ns.map V.int) vs
 |_,_,.nil=> .nil
 |_,_,.cons n t h=> .cons ⟨t,rfl⟩ (w_ h)
structure Me(K:PySem.W.Frag)(ts:List (Addr×Addr))(h:Heap):Prop where
 hd:∀q∈ts,PySem.W.codeHdIn K q.1 q.2=true
 no:∀q∈ts,K.lookup q.2=none
 at':∀q∈ts,h.get? q.2=some (PySem.W.tabObj #[])
theorem Ds{P:Program}{w:World}{K:PySem.W.Frag}{mg mb:Str->Option Value}{k:Nat}{fa a:Addr}{fd:FuncData}{x:Str}{sp:Sp}{s₁:Shared}{vs:List Value}{ns:List Int}{ts:List (Addr×Addr)}
 (KX:K.In s₁.heap) (hns:s₁.heap.Ns mainGlobals mg) (hb:s₁.heap.Ns builtinsNs mb) (hbb:∀x:Str,x≠"__name__"->mb x=bootBuiltins x) (hlim:s₁.heap.NoLimit) (hse:s₁.heap.NoSeer) (hgt:P.given.tree=none)
 (hbm:∃bm ob,mg "__builtins__"=some (.ref bm)/\bm≠builtinsNs/\s₁.heap.get? bm=some ob/\ob.cls= .type "module"/\ob.dict=some builtinsNs/\ob.data= .plain) (hT:Me K ts s₁.heap) (hg:s₁.gens= #[])
 (ha:s₁.heap.get? a=some {cls:= .type "list",data:= .seq vs.toArray}) (hi:IntsAre vs ns) (hl:ns.length<=sizeLine) (hr:cP k callerA)
 (F:∀base:Heap,K.In base->base.Ns mainGlobals mg->bf P w K mg base (fun _ _ _ _ _ _=>False) k fa fd [x] sp) (hbind:∀(s:Shared) (u:Value),BindsTo s fd ⟨[u],[]⟩ [(x,u)])
 (hsp:∀H:Hp,Entry K ts a ns H->sp [.ref a] H (fun v _=>v= .bl true) fun _ _ _=>False):
 codeAny (model P w) callerA (.call (.ref fa) ⟨[.ref a],[]⟩) (fun r s'=>r= .ok (.ret (.bool true))/\OldK s₁.heap s'.heap/\s'.os=s₁.os/\AllBare s'.gens) s₁:=by
 have rv:=w_ hi;have lenV:=hi.length
 have nta:∀q∈ts,q.2≠a:=fun q hq z=>by
  have:=hT.at' q hq;rw[z,ha]at this;cases this
 let sc:Option HO:=match K.lookup a with
  |some _=>none
  |none=>some (.eQ {cls:= .type "list",data:= .seq vs.toArray} (.lst (ns.map V.int)))
 let H:Hp:=fun b=>if b=a then sc else if b∈ts.map (·.2)then some (.jJ #[])else none
 have Ha:H a=sc:=if_pos rfl
 have Ht:∀q∈ts,H q.2=some (.jJ #[]):=fun q hq=>by
  show(if q.2=a then sc else if q.2∈ts.map (·.2)then some (HO.jJ #[])else none)=_;rw[if_neg (nta q hq),if_pos (List.mem_map_of_mem hq)]
 have Hs:∀b u,H b=some u->(b=a/\K.lookup a=none/\u= .eQ {cls:= .type "list",data:= .seq vs.toArray} (.lst (ns.map V.int)))\/(∃q∈ts,q.2=b/\u= .jJ #[]):=fun b u e=>by
  have e':(if b=a then sc else if b∈ts.map (·.2)then some (HO.jJ #[])else none)=some u:=e;by_cases hba:b=a
  . rw[if_pos hba]at e'
    have e2:(match K.lookup a with
     |some _=>none
     |none=>some (HO.eQ {cls:= .type "list",data:= .seq vs.toArray} (.lst (ns.map V.int))))=some u:=e'
    cases q:K.lookup a with
    |some o=>rw[q]at e2;cases e2
    |none=>rw[q]at e2;cases e2;exact .inl ⟨hba,rfl,rfl⟩
  . rw[if_neg hba]at e';by_cases hbt:b∈ts.map (·.2)
    . rw[if_pos hbt]at e';cases e';obtain⟨q,hq,e⟩:=List.mem_map.mp hbt;exact .inr ⟨q,hq,e,rfl⟩
    . rw[if_neg hbt]at e';cases e'
 have aP:gX P w H s₁.heap:=fun b u e=>by
  rcases Hs b u e with⟨rfl,_,rfl⟩|⟨q,hq,rfl,rfl⟩
  . exact⟨ha,by rw[List.length_map];exact hl,vs,_,rv,ha⟩
  . exact hT.at' q hq
 have hE:Entry K ts a ns H:=by
  refine⟨?_,fun q hq=>⟨Ht q hq,nta q hq⟩⟩;cases q:K.lookup a with
  |some o=>
   have e:=KX a o q;rw[ha]at e;cases e;exact .inr ⟨_,vs.toArray,_,q,rfl,rfl,rfl,by rw[List.size_toArray,lenV];exact hl,by simpa using rv⟩
  |none=>
   refine .inl (.inr ⟨{cls:= .type "list",data:= .seq vs.toArray},?_⟩);rw[Ha]
   show(match K.lookup a with
    |some _=>none
    |none=>some (HO.eQ {cls:= .type "list",data:= .seq vs.toArray} (.lst (ns.map V.int))))=_
   rw[q]
 have dictNo:∀ {b:Addr} {o:Obj},s₁.heap.get? b=some o->(∀es ep,o.data≠ .seq es ep)->o.cls≠ .none->H b=none:=fun{b o} e d1 d2=>by
  cases q:H b with
  |none=>rfl
  |some u=>
   rcases Hs b u q with⟨rfl,_,_⟩|⟨t,ht,rfl,_⟩
   . rw[ha]at e;cases e;exact absurd rfl (d1 _ _)
   . rw[hT.at' t ht]at e;cases e;exact absurd rfl d2
 have nsK:∀ {b:Addr} {m:Str->Option Value},s₁.heap.Ns b m->(oU s₁.heap H).Ns b m:=fun{b m} ⟨o,es,ep,e,d,r⟩=>by
  refine⟨o,es,ep,qi e ?_,d,r⟩;cases q:H b with
  |none=>rfl
  |some u=>
   rcases Hs b u q with⟨rfl,_,_⟩|⟨t,ht,rfl,_⟩
   . rw[ha]at e;cases e;cases d
   . rw[hT.at' t ht]at e;cases e;cases d
 have hKb:K.In (oU s₁.heap H):=fun b o e=>qi (KX b o e) (by
  cases q:H b with
  |none=>rfl
  |some u=>
   rcases Hs b u q with⟨rfl,z,_⟩|⟨t,ht,rfl,_⟩
   . rw[z]at e;cases e
   . rw[hT.no t ht]at e;cases e)
 obtain⟨bm,ob,b1,b2,b3,b4,b5,b6⟩:=hbm;have hbmK:(oU s₁.heap H).get? bm=some ob:=qi b3 (dictNo b3 (fun es ep z=>by rw[b6]at z;cases z) (fun z=>by rw[b4]at z;cases z))
 have seK:(oU s₁.heap H).NoSeer:=by
  obtain⟨⟨m1,a1,a2⟩,⟨m2,c1,c2⟩,⟨m3,d1,d2⟩,⟨mg',bm',ob',e1,e2,e3,e4,e5⟩⟩:=hse;refine⟨⟨m1,nsK a1,a2⟩,⟨m2,nsK c1,c2⟩,⟨m3,nsK d1,d2⟩,⟨mg',bm',ob',nsK e1,e2,qi e3 ?_,e4,e5⟩⟩;cases q:H bm' with
  |none=>rfl
  |some u=>
   rcases Hs bm' u q with⟨rfl,_,_⟩|⟨t,ht,rfl,_⟩
   . rw[ha]at e3;cases e3;exact absurd (show Value.type "list"=Value.type "module" from e4) (by intro z;injection z with z;exact absurd z (by decide))
   . rw[hT.at' t ht]at e3;cases e3;cases e4
 have hM:Mod K mg (oU s₁.heap H):=⟨hKb,nsK hns,⟨mb,nsK hb,hbb⟩,let⟨mc,h1,h2⟩:=hlim;⟨mc,nsK h1,h2⟩,seK,⟨bm,ob,b1,b2,hbmK,b4,b5,b6⟩⟩
 have e0:um P w K mg (oU s₁.heap H) callerA [] s₁ H:=⟨rfl,hM,fun b o e=>Jn e,Nat.le_of_eq (ES _ _),trivial,fun b hb=>absurd (show b∈([]:List Addr)from hb) (by simp),aP,.of_eq hg,hgt⟩
 refine codeAny_mono ((F _ hKb (nsK hns)).run callerA [] s₁ H ⟨[.ref a],[]⟩ [.ref a] [.ref a] _ _ hr e0 (hbind s₁ (.ref a)) (.cons rfl .nil) (hsp H hE)) fun r s' h=>?_;cases r with
 |error e=>exact False.elim h
 |ok fl=>
  cases fl with
  |next=>exact False.elim h
  |brk=>exact False.elim h
  |cont=>exact False.elim h
  |ret u=>
   obtain⟨v,H',os,bare,un,hok',r',q⟩:=h;have q':v= .bl true:=q;subst q';obtain rfl:u=Value.bool true:=r';have noF:∀b:Addr,b∉pe ([]:List Env):=fun b z=>absurd (show b∈([]:List Addr)from z) (by simp);refine⟨rfl,⟨fun b o e=>?_,fun b o e=>un.there b o e (by simp)⟩,os,bare⟩;cases q:H b with
   |none=>exact .inl (un.keep b o e q (noF b) (by simp))
   |some u=>
    rcases Hs b u q with⟨rfl,_,rfl⟩|⟨t,ht,rfl,rfl⟩
    . obtain⟨e2,_⟩:=hok' b _ (un.nK b _ _ q);rw[ha]at e;cases e;exact .inl e2
    . obtain⟨more,e1⟩:=un.nF _ _ q;have e2:s'.heap.get? t.2=some {cls:= .none,data:= .fields (#[]++more)}:=hok' _ _ e1;have e3:=hT.at' t ht;rw[e3]at e;cases e;have C:PySem.W.CodeHd s₁.heap t.1 t.2:=PySem.W.codeHd_of_K KX (hT.hd t ht);exact .inr (.inl ⟨(C.tab e3).isCodeTable,rfl,#[],more,rfl,e2⟩)
theorem NN{l:PySem.W.OpenLaw}{n k:Nat}{q:Program}{loose:List Str}{XP:(Str->Option Value)->Heap->Prop}{YP:World->Heap->Prop}{d:DefRec}{K:Params->PySem.W.Frag}{sp:World->Sp}{x:Str}{ts:List (Addr×Addr)}
 (hn:l.most=some n) (hn2:n<=sizeLine) (hdf:d.params.defaults=[]) (hr:cP k callerA) (hq:importsNone q=true) (hgt:l.prog.given.tree=none)
 (hY:∀(w:World) (h:Heap),YP w h->(K w.params).In h/\Me (K w.params) ts h)
 (F:∀(w:World) (mg:Str->Option Value) (fa:Addr) (h:Heap),(K w.params).In h->h.Ns mainGlobals mg->mg d.name=some (.ref fa)->
   ∃fd:FuncData,(∀(s:Shared) (u:Value),BindsTo s fd ⟨[u],[]⟩ [(x,u)])/\
    ∀base:Heap,(K w.params).In base->base.Ns mainGlobals mg->bf l.prog w (K w.params) mg base (fun _ _ _ _ _ _=>False) k fa fd [x] (sp w))
 (hsp:∀(w:World) (H:Hp) (a:Addr) (ns:List Int),ns.length<=n->Entry (K w.params) ts a ns H->sp w [.ref a] H (fun v _=>v= .bl true) fun _ _ _=>False):
 PySem.W.WalkO q loose XP YP l.row.toRowW d [] (fun f vs=>PySem.call f vs):=by
 refine Att.AD hn hdf fun w s₀ s₁ mg mb fa o pm cd doc a vs ns G Y ho hd hcd hmg hobj hints hlen hg=>?_;obtain⟨KX,hT⟩:=hY w _ Y;obtain⟨fd,hb,hF⟩:=F w mg fa _ KX G.T.g hmg;exact Ds KX G.T.g G.T.b G.T.builtins G.T.nolimit (G.T.seer hq) hgt G.T.bmain hT hg hobj hints (Nat.le_trans hlen hn2) hr hF hb fun H hE=>hsp w H a ns hlen hE
end L2
namespace L3
open PySem PySem.Spec L2
open PyProof.Rows hiding St
section
variable {X:Cx}{pins:List (Addr×Obj)}{σ:L2.St}{H:Hp}{s:Shared}{p:Addr}{o o':Obj}{h':Heap}
theorem kP{t':Nat}(I:Inv X pins σ H s)(hd:∀v,o.data≠ .cell v)(hfr:o.isFreed=false:=by rfl):Inv X (pins++[(s.heap.objs.size,o)]) σ H {s with heap:=s.heap.push o,toks:=t'}:=by
 have I':=I.kept (h':=s.heap.push o) (t':=t') (fun b u e=>Heap.get?_push_of_some _ e);refine I'.rV fun q hq=>?_;rcases List.mem_append.mp hq with hq|hq
 . exact I'.pin q (List.mem_append_right _ hq)
 . have e:q=(s.heap.objs.size,o):=by simpa using hq
   subst e;exact⟨Heap.get?_push_size _ hfr,I.aP.fresh (Nat.le_refl _),Nat.ne_of_gt I.lt,I.K_ (Nat.le_refl _),hd⟩
theorem fw(I:Inv X (pins++[(p,o)]) σ H s):s.heap.get? p=some o/\H p=none/\p≠X.env.locals/\p∉X.fs/\∀v,o.data≠ .cell v:=
 I.pin (p,o) (List.mem_append_right _ (List.mem_append_right _ (List.mem_singleton.mpr rfl)))
theorem zy(I:Inv X (pins++[(p,o)]) σ H s):∀x c,X.env.cells.lookup x=some c->c≠p:=fun x c e z=>by
 obtain⟨v,u,hu,hd⟩:=I.cell x c e;obtain⟨h1,_,_,_,h5⟩:=fw I;rw[z,h1]at hu;cases hu;exact h5 v hd
theorem nc{t':Nat}(I:Inv X (pins++[(p,o)]) σ H s)(hs:Heap.SameBut p s.heap h')(hn:h'.get? p=some o')(hd:∀v,o'.data≠ .cell v)(h0:X.s₀.heap.objs.size<=p)(hp:∀q∈X.pn++pins,q.1≠p):
 Inv X (pins++[(p,o')]) σ H {s with heap:=h',toks:=t'}:=by
 obtain⟨_,n,neL,nfs,_⟩:=fw I;have I0:Inv X pins σ H s:=I.gL;have I1:=I0.turned (t':=t') (h':=h') (it:=p) (fun b u hb e=>(hs.2 b hb).trans e) n neL (.inr h0) (zy I) hp;refine I1.rV fun q hq=>?_;rcases List.mem_append.mp hq with hq|hq
 . exact I1.pin q (List.mem_append_right _ hq)
 . have e:q=(p,o'):=by simpa using hq
   subst e;exact⟨hn,n,neL,nfs,hd⟩
theorem Dk{u:HO}(I:Inv X (pins++[(p,o)]) σ H s)(h0:X.s₀.heap.objs.size<=p)(hp:∀q∈X.pn++pins,q.1≠p)(new:dh X.prog X.w (upd H p u) s.heap p u):Inv X pins σ (upd H p u) s:=by
 obtain⟨e0,n,neL,nfs,_⟩:=fw I;have ne:∀ {b:Addr} {w:HO},H b=some w->b≠p:=fun e=>dm e n;have ne0:∀ {b:Addr} {w:Obj},X.s₀.heap.get? b=some w->b≠p:=fun e=>Nat.ne_of_lt (Nat.lt_of_lt_of_le (Heap.lt_size e) h0);refine⟨I.ok,I.os,I.bare,⟨I.base.keep,I.base.slot,fun b w e q hx=>?_,I.base.there,fun b xs e=>?_,fun b w y e=>?_,fun b ps e=>?_⟩,I.loc,I.cell,?_,fun x c e=>?_,fun q hq=>?_,fun b w e=>?_,I.len⟩
 . rw[az (ne0 e)];exact I.base.free b w e q hx
 . have:=I.base.oy b xs e;rw[az (ne this)];exact this
 . have:=I.base.nK b w y e;rw[az (ne this)];exact this
 . obtain⟨m,q⟩:=I.base.nF b ps e;exact⟨m,by rw[az (ne q)];exact q⟩
 . rw[az (Ne.symm neL)];exact I.free
 . rw[az (zy I x c e)];exact I.ir x c e
 . have hq':q∈X.pn++(pins++[(p,o)]):=by
    rcases List.mem_append.mp hq with z|z
    . exact List.mem_append_left _ z
    . exact List.mem_append_right _ (List.mem_append_left _ z)
   obtain⟨a1,a2,a3⟩:=I.pin q hq';exact⟨a1,by rw[az (hp q hq)];exact a2,a3⟩
 . by_cases hb:b=p
   . subst hb;rw[aY]at e;cases e;exact new
   . rw[az hb]at e;exact(I.aP b w e).oQ (fun _ _ _ q=>q) (fun c q=>by rw[az (ne q)];exact q) fun c xs q=>by rw[az (ne q)];exact q
end
def mn(X:Cx)(pins:List (Addr×Obj))(σ:L2.St)(R:Hp->Prop)(own:List (Addr×Obj))(s:Shared):Prop:=∃H,Inv X (pins++own) σ H s/\R H
section
variable {X:Cx}{pins:List (Addr×Obj)}{σ:L2.St}{R:Hp->Prop}{s:Shared}{A:Around}{E:Value->Shared->Prop}{a kS:Addr}{e1 e:Nat}{keys:Array Value}{P:PySem.Fin->Shared->Prop}
structure Own(X:Cx)(pins:List (Addr×Obj))(p:Addr):Prop where
 ge:X.s₀.heap.objs.size<=p
 ne:∀q∈X.pn++pins,q.1≠p
theorem sE{H:Hp}(I:Inv X pins σ H s):Own X pins s.heap.objs.size:=⟨I.sz,fun q hq=>Nat.ne_of_lt (Heap.lt_size (I.pin q hq).1)⟩
theorem zK{p:Addr}{q:Addr×Obj}(h:Own X pins p)(hq:q.1≠p):Own X (pins++[q]) p:=⟨h.ge,fun r hr=>by
 rcases List.mem_append.mp hr with z|z
 . exact h.ne r (List.mem_append_left _ z)
 . rcases List.mem_append.mp z with z|z
   . exact h.ne r (List.mem_append_right _ z)
   . have e:r=q:=by simpa using z
     rw[e];exact hq⟩
theorem yO{x y:Addr×Obj}(J:mn X pins σ R [x,y] s):∃H,Inv X ((pins++[x])++[y]) σ H s/\R H:=by
 obtain⟨H,I,r⟩:=J;exact⟨H,by rw[List.append_assoc];exact I,r⟩
theorem C_{x y:Addr×Obj}{H:Hp}(I:Inv X ((pins++[x])++[y]) σ H s)(r:R H):mn X pins σ R [x,y] s:=⟨H,by rw[List.append_assoc]at I;exact I,r⟩
theorem zD{st:SortSt}(J:mn X pins σ R [(a,seqObj "list" #[] e1),(kS,seqObj "list" keys e)] s)(ha:Own X pins a)(hk:Own X pins kS)(hka:kS≠a)(hz1:keys.size<=sizeLine)(hz2:(arrOf st).size<=sizeLine)(hf:failedOf st=none)
 (h:∀s' c,mn X pins σ R [(a,seqObj "list" ((arrOf st).map (·.2)) c)] s'->P (.done (.ret .none)) s'):
 wpAny (model X.prog X.w) A (PyProof.Rows.ksk_tail a false e1 (.ref kS) st) P E s:=by
 obtain⟨H,I,r⟩:=yO J;have k1:=(fw I).1;have s1:=Heap.SameBut.update s.heap kS (Obj.mapSeq fun _=>(#[]:Array Value));have I1:=nc (t':=s.toks) I s1 (get?_update_seq k1 fun _=> #[]) (fun v z=>by cases z) hk.ge (zK hk hka.symm).ne;have I2:Inv X (pins++[(a,seqObj "list" #[] e1)]) σ H {s with heap:=s.heap.update kS (Obj.mapSeq fun _=>(#[]:Array Value)),toks:=s.toks}:=I1.gL;have a1:=(fw I2).1;have s2:=Heap.SameBut.update (s.heap.update kS (Obj.mapSeq fun _=>(#[]:Array Value))) a (Obj.mapSeq fun _=>(arrOf st).map (·.2));have I3:=nc (t':=s.toks) I2 s2 (get?_update_seq a1 fun _=>(arrOf st).map (·.2)) (fun v z=>by cases z) ha.ge ha.ne;unfold ksk_tail;simp only[Bool.false_eq_true,if_false];refine wpAny_bind (listUpdate_at k1 rfl ?_ hz1 (Nat.zero_le _));refine wpAny_bind (wpAny_letGo ?_);refine wpAny_bind (seqEpoch_at a1 rfl ?_);refine wpAny_bind (listUpdate_at a1 rfl ?_ (Nat.zero_le _) (Nat.le_succ_of_le (by rw[Array.size_map];exact hz2)));rw[hf];simp only[bne_self_eq_false,Bool.false_eq_true,if_false];exact wpAny_pure (h _ _ ⟨H,I3,r⟩)
def By(kz:List Int)(vs out:List Value):Prop:=
 ∃ps:List (Int×Value),ps.Perm (kz.zip vs)/\out=ps.map Prod.snd/\ps.Pairwise fun p q=>p.1<=q.1
theorem AI{kz:List Int}{vs:List Value}(hk:IntsAre keys.toList kz){xs:Array Keyed}(hp:xs.Perm (keys.zip vs.toArray))(hs:SortedTo xs xs.size):By kz vs (xs.map (·.2)).toList:=by
 obtain⟨ps,h1,h2,h3⟩:=ksk_out hk (b:=false) hp hs;exact⟨ps,h1,h2,h3⟩
theorem Iv{kz:List Int}{vs:List Value}(J:mn X pins σ R [(a,seqObj "list" #[] e1),(kS,seqObj "list" keys e)] s)(ha:Own X pins a)(hk:Own X pins kS)(hka:kS≠a)(hi:IntsAre keys.toList kz)(hl:kz.length=vs.length)(h64:vs.length<64)
 (h:∀s' out c,mn X pins σ R [(a,seqObj "list" out c)] s'->By kz vs out.toList->P (.done (.ret .none)) s'):
 wpAny (model X.prog X.w) A (ksk_end a false vs.toArray e1 (.ref kS) keys) P E s:=by
 have hsz:keys.size=vs.length:=by have:=hi.length;rw[Array.length_toList]at this;omega
 have hzs:(keys.zip vs.toArray).size=vs.length:=by rw[Array.size_zip,hsz,List.size_toArray,Nat.min_self]
 have hbig:vs.length<=sizeLine:=Nat.le_trans (Nat.le_of_lt h64) (by decide);unfold ksk_end;simp only[Bool.false_eq_true,if_false];by_cases h2:vs.toArray.size<2
 . rw[if_pos h2,if_pos h2];refine wpAny_bind (wpAny_pure ?_);rw[StateT.run_pure];refine wpAny_bind (wpAny_pure ?_);refine zD (st:=SortSt.mk' general' (keys.zip vs.toArray) #[] 7 none) J ha hk hka (by omega) (by show(keys.zip vs.toArray).size<=_;omega) rfl fun s' c J'=>h s' _ c J' ?_;refine AI hi (Array.Perm.refl _) fun i j hij hj=>?_;have hj':j<(keys.zip vs.toArray).size:=hj;rw[List.size_toArray]at h2;have:i=j:=by omega
   rw[this];exact Int.le_refl _
 . rw[if_neg h2,if_neg h2];rw[List.size_toArray]at h2;rw[ksk_kind hi (by omega)];refine wpAny_bind (wpAny_pure ?_)
   refine wpAny_bind (wpAny_mono (wpS_sortRuns (a₀:=keys.zip vs.toArray) (st:=SortSt.mk' oneType' (keys.zip vs.toArray) #[] 7 none)
    (Q:=fun _ st'=>(arrOf st').Perm (keys.zip vs.toArray)/\failedOf st'=none/\SortedTo (arrOf st') (keys.zip vs.toArray).size)
    (ksk_intKeys hi) ⟨Array.Perm.refl _,rfl,rfl,rfl⟩ (by omega) (by omega) fun st' b1 b2 b3=>⟨b1,b2,b3⟩) ?_ fun _ _ z=>z)
   rintro⟨⟨⟩,st'⟩ s' ⟨rfl,hp,hf,hs⟩;have hz2:=hp.size_eq;refine zD (st:=st') J ha hk hka (by omega) (by rw[hz2];omega) hf fun s' c J'=>h s' _ c J' (AI hi hp (by rw[hz2];exact hs))
theorem E6{f:Value}{kz:List Int}{vs:List Value}(J:mn X pins σ R [(a,seqObj "list" #[] e1),(kS,seqObj "list" #[] 0)] s)(ha:Own X pins a)(hk:Own X pins kS)(hka:kS≠a)(hl:kz.length=vs.length)(h64:vs.length<64)
 (turn:∀(i:Nat) (v:Value) (k:Int),vs[i]?=some v->kz[i]?=some k->∀(own:List (Addr×Obj)) (s:Shared),mn X pins σ R own s->wpAny (model X.prog X.w) A (call f [v]) (fun u s'=>(∃t,u= .int k t)/\mn X pins σ R own s') (fun _ _=>False) s)
 (h:∀s' out c,mn X pins σ R [(a,seqObj "list" out c)] s'->By kz vs out.toList->P (.done (.ret .none)) s'):
 wpAny (model X.prog X.w) A (ksk_rest a f false vs.toArray e1 (.ref kS)) P E s:=by
 have hbig:vs.length<=sizeLine:=Nat.le_trans (Nat.le_of_lt h64) (by decide);unfold ksk_rest;refine wpAny_bind (wpAny_rule ?_)
 first
  |rw[List.forIn_toArray]
  |(rw[<-Array.forIn_toList];simp only[List.toList_toArray])
  |rw[<-Array.forIn_toList]
 refine wpAny_bind (ksk_fold (fun i s'=>∃kA e,mn X pins σ R [(a,seqObj "list" #[] e1),(kS,seqObj "list" kA e)] s'/\IntsAre kA.toList (kz.take i)) vs 0 s ⟨#[],0,J,by simpa using IntsAre.nil⟩ ?st ?en)
 case st=>
  rintro j x s' hx ⟨kA,e,J',hk'⟩;simp only[Nat.zero_add]at hk'⊢;have hj:j<vs.length:=(List.getElem?_eq_some_iff.mp hx).1;have hkj:kz[j]?=some (kz[j]'(by omega)):=List.getElem?_eq_getElem _
  have hz:kA.size<=vs.length:=by
   have:=hk'.length;rw[Array.length_toList,List.length_take]at this;omega
  refine wpAny_bind (wpAny_attempt (wpAny_mono (turn j x _ hx hkj _ s' J') (fun v s2 he=>?_) fun _ _ z=>z.elim));obtain⟨⟨t,rfl⟩,J2⟩:=he;obtain⟨H,I,r⟩:=yO J2;have k1:=(fw I).1;have s1:=Heap.SameBut.update s2.heap kS (Obj.mapSeq (·.push (.int (kz[j]'(by omega)) t)));have I1:=nc (t':=s2.toks) I s1 (get?_update_seq k1 (·.push (.int (kz[j]'(by omega)) t))) (fun v z=>by cases z) hk.ge (zK hk hka.symm).ne;refine wpAny_bind (listUpdate_at k1 rfl ?_ (by omega) (Nat.le_trans (Nat.le_of_eq (Array.size_push ..)) (by omega)));refine wpAny_pure ⟨rfl,_,_,C_ I1 r,?_⟩;have ek:kz.take (j+1)=kz.take j++[kz[j]'(by omega)]:=by rw[List.take_add_one,hkj];simp
  rw[ek,Array.toList_push];exact ksk_snoc hk'
 case en=>
  rintro s' ⟨kA,e,J',hk'⟩;rw[show kz.take (0+vs.length)=kz from List.take_of_length_le (by omega)]at hk';obtain⟨H,I,r⟩:=yO J';refine wpAny_bind (listItems_at (fw I).1 rfl ?_);exact Iv J' ha hk hka hk' hl h64 h
theorem Cu{f:Addr}{l:Addr}{kz:List Int}{vs:List Value}{H:Hp}{Q:Value->Shared->Prop}(I:Inv X pins σ H s)(r:R H)(hli:s.heap.IsList l vs.toArray)(hl:kz.length=vs.length)(h64:vs.length<64)
 (turn:∀(i:Nat) (v:Value) (k:Int),vs[i]?=some v->kz[i]?=some k->∀(own:List (Addr×Obj)) (s:Shared),mn X pins σ R own s->wpAny (model X.prog X.w) A.in1.in1 (call (.ref f) [v]) (fun u s'=>(∃t,u= .int k t)/\mn X pins σ R own s') (fun _ _=>False) s)
 (h:∀D s' out c,Own X pins D->mn X pins σ R [(D,seqObj "list" out c)] s'->By kz vs out.toList->Q (.ref D) s'):
 wpAny (model X.prog X.w) A (call (.builtin "sorted") [.ref l] [(Str.ofString "key",.ref f)]) Q E s:=by
 have hbig:vs.length<=sizeLine:=Nat.le_trans (Nat.le_of_lt h64) (by decide);refine call_function_entry_kw kind_sorted plain_sorted entry_sorted (ksk_s1 _ _) ?_;unfold Builtin.«sorted»;refine wpAny_bind (m:=checkCount "sorted" 1 1 _) (wpAny_pure ?_);refine wpAny_bind (collect_list hli ?_ hbig);have I1:=kP (o:=seqObj "list" #[] 0) (t':=s.toks) I (fun v z=>by cases z);have s1:=Heap.SameBut.update (s.heap.push (seqObj "list" #[] 0)) s.heap.objs.size (Obj.mapSeq (· ++vs.toArray));have I2:=nc (t':=s.toks) I1 s1 (get?_update_seq (fw I1).1 (· ++vs.toArray)) (fun v z=>by cases z) (sE I).ge (sE I).ne;have I3:Inv X pins σ H {s with heap:=(s.heap.push (seqObj "list" #[] 0)).update s.heap.objs.size (Obj.mapSeq (· ++vs.toArray)),toks:=s.toks}:=I2.gL;refine wpAny_bind (wpAny_newList ?_ hbig);generalize hs3:({s with heap:=(s.heap.push (seqObj "list" #[] 0)).update s.heap.objs.size (Obj.mapSeq (· ++vs.toArray))}:Shared)=s3;have I3':Inv X pins σ H s3:=by rw[<-hs3];exact I3
 have oD:=sE I3';have I4:=kP (o:=seqObj "list" vs.toArray 0) (t':=s3.toks) I3' (fun v z=>by cases z);have hD:=(fw I4).1;refine wpAny_bind (wpAny_holding (wpAny_call_entry_kw slot_list_sort ⟨_,hD,rfl⟩ entry_list_sort ?body (ksk_l1 _ _)))
 case body=>
  show wpAny (model X.prog X.w) A.in1.in1 (Builtin.«list.sort» ⟨[.ref s3.heap.objs.size],[(Str.ofString "key",.ref f)]⟩) _ _ _;rw[ksk_t1];unfold ksk_tree;refine wpAny_bind (listItems_at hD rfl ?_);have s5:=Heap.SameBut.update (s3.heap.push (seqObj "list" vs.toArray 0)) s3.heap.objs.size (Obj.mapSeq fun _=>(#[]:Array Value));have I5:=nc (t':=s3.toks) I4 s5 (get?_update_seq hD fun _=> #[]) (fun v z=>by cases z) oD.ge oD.ne;have hD5:=(fw I5).1;refine wpAny_bind (listUpdate_at hD rfl ?_ (by rw[List.size_toArray];exact hbig) (Nat.zero_le _));refine wpAny_bind (seqEpoch_at hD5 rfl ?_);refine wpAny_bind (wpAny_newTuple ?_ (by show vs.length<=_;exact hbig));have I6:=(kP (o:=seqObj "tuple" vs.toArray 0) (t':=s3.toks) I5 (fun v z=>by cases z)).gL;refine wpAny_bind (wpAny_newList ?_ (Nat.zero_le _));have ok:=sE I6;have I7:=kP (o:=seqObj "list" #[] 0) (t':=s3.toks) I6 (fun v z=>by cases z);refine wpAny_holding ?_
  have okp:Own X pins _:=⟨ok.ge,fun q hq=>ok.ne q (by
   rcases List.mem_append.mp hq with z|z
   . exact List.mem_append_left _ z
   . exact List.mem_append_right _ (List.mem_append_left _ z))⟩
  refine E6 (C_ I7 r) oD okp (fun z=>ok.ne (s3.heap.objs.size,_) (List.mem_append_right _ (List.mem_append_right _ (List.mem_singleton.mpr rfl))) z.symm) hl h64 turn fun s' out c J' so=>⟨_,rfl,?_⟩
  exact wpAny_pure ⟨_,rfl,h _ s' out c oD J' so⟩
end
structure mB(X:Cx)(scope:Scope)(Nc:List Str)(fr:List (Option Nat))(p:Str):Prop where
 sc:bz X scope Nc fr
 Dg:∀x∈scope.names,x.2≠ .cell
 co:scope.isCoroutine=false
 gen:scope.isGenerator=false
 p0:Nc[0]?=some p
 f0:fr[0]?=some none
 loc:scope.names.lookup p=some .local
abbrev Ca(X:Cx)(scope:Scope)(qual:Str)(f c:Addr)(s:Shared):Env:=PySem.W.envX qual scope s.heap.objs.size f (.ref c) (c7 X.env.cells scope.names [])
def De(X:Cx)(scope:Scope)(Nc:List Str)(qual:Str)(f c:Addr)(s:Shared)(H:Hp):Cx:=
 {X with A:=X.A.in1.in1.deeper (Ca X scope qual f c s),N:=Nc,s₀:=s,H₀:=H,env:=Ca X scope qual f c s,outer:=X.stack,stack:=Ca X scope qual f c s::X.stack,ex:=[],fn:=fun _=>false,calm:=true,pn:=[],xe:=fun _ _=>False}
section
variable {X:Cx}{scope:Scope}{Nc:List Str}{fr:List (Option Nat)}{p qual:Str}{f c:Addr}{pins:List (Addr×Obj)}{σ:L2.St}{H:Hp}{s:Shared}
theorem MD(S:mB X scope Nc fr p)(I:Inv X pins σ H s)(hc:X.calm=true):(De X scope Nc qual f c s H).Ok where
 mod:=I.ok.mod
 kind:=S.sc.kind
 glob:=rfl
 blt:=rfl
 above:=Nat.le_refl _
 inj:=fun x y a h1 h2=>I.ok.inj x y a (cO _ [] (fun _ _ e=>by cases e) x a h1) (cO _ [] (fun _ _ e=>by cases e) y a h2)
 has:=fun x hx=>by
  have hx':scope.names.lookup x=some .cell\/scope.names.lookup x=some .free:=hx;rcases hx' with hx|hx
  . exact absurd rfl (S.Dg _ (PySem.mem_of_lookup hx))
  . exact iC scope.names [] (I.ok.has x (S.sc.free _ (PySem.mem_of_lookup hx) rfl)) (.inl (PySem.mem_of_lookup hx))
 yj:=fun x a hf _=>by cases hf
 hd:=fun _=>I.ok.hd hc
 frames:=Around.frames_deeper (by show X.A.frames=_;exact I.ok.frames)
 Be:= .inr ⟨rfl,rfl⟩
 Dj:=fun b hb=>by cases hb
 bs:=I.bs
 rG:=Nat.le_trans I.ok.rG I.sz
 tZ:=fun b o e hb=>by cases hb
 uk:=fun b hb=>by cases hb
 kc:=I.stack
 uX:=I.v8
 gt:=I.ok.gt
theorem HL{h':Heap}{t':Nat}{v:V}{u:Value}(S:mB X scope Nc fr p)(I:Inv X pins σ H s)(hc:X.calm=true)(r:RelV v u)(hn:h'.Ns s.heap.objs.size (fun x=>[(p,u)].reverse.lookup x))
 (k:∀b o,s.heap.get? b=some o->h'.get? b=some o):Inv (De X scope Nc qual f c s H) [] ((σC fr σ).set 0 (some v)) H {s with heap:=h',toks:=t'} where
 ok:=MD S I hc
 os:=rfl
 bare:=I.bare
 base:=Un.kept k
 loc:=⟨_,hn,fun i x w h1 h2 h3=>by
  by_cases hi:i=0
  . subst hi;have hp:=S.p0;have e:p=x:=Option.some.inj (hp.symm.trans h1);subst e
    have hl:0<(σC fr σ).length:=by
     have:=(List.getElem?_eq_some_iff.mp h2).1;rw[List.length_set]at this;exact this
    rw[List.getElem?_set_self hl]at h2;cases h2;exact⟨u,r,.inl ⟨S.loc,by simp⟩⟩
  . rw[List.getElem?_set_ne (Ne.symm hi)]at h2;obtain⟨j,q1,q2⟩:=Bb h2;obtain⟨n1,n2,n3⟩:=S.sc.map i j x h1 q1;obtain⟨m,hm,hl⟩:=I.loc;obtain⟨u',r',lk⟩:=hl j x w n1 q2 (n3.elim (fun z=> .inr (.inl z)) fun z=> .inr (.inr z));refine⟨u',r',?_⟩;rcases lk with⟨z,_⟩|⟨_,a,e,ic⟩
    . rcases n3 with y|y<;>(rw[y]at z;cases z)
    . obtain⟨a',e'⟩:=iC scope.names [] ⟨a,e⟩ (.inl (PySem.mem_of_lookup n2));have e2:=cO _ [] (fun _ _ e=>by cases e) x a' e';rw[e]at e2;cases e2;exact .inr ⟨.inr n2,a,e',ic.keeps k⟩⟩
 cell:=fun x a h=>by
  obtain⟨v,q⟩:=I.cell x a (cO _ [] (fun _ _ e=>by cases e) x a h);exact⟨v,q.keeps k⟩
 free:=I.aP.fresh (Nat.le_refl _)
 ir:=fun x a h=>I.ir x a (cO _ [] (fun _ _ e=>by cases e) x a h)
 pin:=fun q hq=>by cases hq
 aP:=I.aP.kept k
 len:=by rw[List.length_set];unfold σC;rw[List.length_map];exact S.sc.len
theorem EY{R:Hp->Prop}{params:Arguments}{body:Expr}{tb:TE}{own:List (Addr×Obj)}{k:Int}{v:V}{u pm ctv:Value}(S:mB X scope Nc fr p)(hc:X.calm=true)(hr:X.A.depth<recursionLimit)
 (hb:∀(s:Shared) (H:Hp),PE (De X scope Nc qual f c s H) body tb)
 (hbind:∀(cl:List (Str×Addr)) (pm cd ct v:Value),bindArgs (PySem.W.kla_fn "<lambda>" qual params body scope cl pm cd ct) ⟨[v],[]⟩=pure [(p,v)])
 (r:RelV v u) (hf:(f,PySem.W.kla_obj "<lambda>" qual params body scope (c7 X.env.cells scope.names []) pm c ctv)∈pins)
 (hcr:∀(H:Hp) (s:Shared),Inv X (pins++own) σ H s->R H->s.heap.CodeRec (.ref c) qual)
 (hq:∀H,R H->tb ((σC fr σ).set 0 (some v)) H fun x H'=>x= .int k/\R H') (J:mn X pins σ R own s):
 wpAny (model X.prog X.w) X.A.in1.in1 (call (.ref f) [u]) (fun u' s'=>(∃t,u'= .int k t)/\mn X pins σ R own s') (fun _ _=>False) s:=by
 obtain⟨H,I,rH⟩:=J;have ho:=(I.pin _ (List.mem_append_right _ (List.mem_append_left _ hf))).1;refine wpAny_call (PySem.W.kla_callFunE (fd:=PySem.W.kla_fn "<lambda>" qual params body scope (c7 X.env.cells scope.names []) pm (.ref c) ctv) (by show X.A.depth<_;exact hr) ho rfl S.co S.gen rfl (hcr H s I rH) ?_);rw[hbind]
 refine wpAny_pure (wpAny_newFunctionEnv S.Dg (fun y hy=>by
  have e:y=(p,u):=by simpa using hy
  rw[e];exact S.loc) (fun h₁ hns hsb=>?_) S.sc.kind)
 have hk:∀b o,s.heap.get? b=some o->h₁.get? b=some o:=fun b o e=>hsb.extBut b o (Nat.ne_of_lt (Heap.lt_size e)) (Heap.get?_push_of_some _ e);refine⟨I.nolimit.keeps hk,?_⟩;show codeAny _ X.A.in1.in1 (.expr body (Ca X scope qual f c s)) _ _;refine PySem.W.kla_codeExpr (wpAny_mono (hb s H [] _ _ H _ (HL S I hc r hns hk) (hq H rH)) (fun w s' he=>?_) fun e s' z=>False.elim z);obtain⟨x,H',I',rx,rfl,rH'⟩:=he;exact⟨rx,H',I.CG (s':=s') (ch:=[]) I'.os I'.base I'.aP I'.bare (fun b z=>absurd z (by simp)),rH'⟩
theorem set_same{α:Type}:∀ {l:List α} {n:Nat} {x:α},l[n]?=some x->l.set n x=l
 | [],n,x,h=>by simp at h
 |a::l,0,x,h=>by simp at h;subst h;rfl
 |a::l,n+1,x,h=>by
  rw[List.set_cons_succ,set_same (n:=n) (by simpa using h)]
theorem F6{params:Arguments}{body:Expr}{lpos:Pos}{c0 T:Addr}{α:List (Option Addr)}{G F:Hp}{st:af}{n0:Nat}{b:Bool}{E:Value->Shared->Prop}{Q:Value->Shared->Prop}(S:mB X scope Nc fr p)(hcode:X.env.code= .ref c0)(hC:PySem.W.codeHdIn X.K c0 T=true)
 (hdef:defaultsOf params X.env=([],[])) (hql:X.env.qual++"<lambda>"=qual) (I:Inv X pins σ H s) (Sp:bW G F H) (SR:aR α st G) (hn0:st[n0]?=some (.tab T lpos qual b))
 (h:∀(f c:Addr) (ctv pm:Value) (G2 H2:Hp) (s2:Shared),Inv X (pins++[(f,PySem.W.kla_obj "<lambda>" qual params body scope (c7 X.env.cells scope.names []) pm c ctv)]) σ H2 s2->Step α G α G2->bW G2 F H2->aR α (st.set n0 (.tab T lpos qual true)) G2->
   (some c∉α/\∃o vs t,G2 c=some (.eQ o (.own c))/\o.data= .fields vs/\vs[1]?=some (.str qual t))->Q (.ref f) s2):
 wpAny (model X.prog X.w) X.A (eval (.Lambda params body scope lpos) X.env) Q E s:=by
 refine PySem.W.kla_eval hdef ?_;rw[hql];rcases SR.at' n0 _ hn0 with⟨z,_⟩|⟨a,ha,rfl,ps,gP,tr,cs⟩
 . cases z
 have hP:=I.aP a _ (Sp.get gP);have hP:s.heap.get? a=some (PySem.W.tabObj ps):=hP;have hg:s.heap.Ns mainGlobals X.mg:=I.mod.glob.keeps I.bk;obtain⟨bm,ob,b1,b2,b3,b4,b5,b6⟩:=I.mod.bmain;have b3':=I.bk _ _ b3
 have hgP:mainGlobals≠a:=fun q=>by
  obtain⟨o,es,ep,e,hd,_⟩:=hg;rw[q,hP]at e;cases e;cases hd
 have n1:bm≠mainGlobals:=fun q=>by
  obtain⟨o,es,ep,e,hd,_⟩:=hg;rw[q,e]at b3';cases b3';rw[hd]at b6;cases b6
 have n2:bm≠a:=fun q=>by rw[q,hP]at b3';cases b3';cases b4
 have hB:s.heap.BuiltinsAt X.mg a:=⟨bm,ob,b1,b2,n1,n2,b3',b4,b5,b6⟩
 have hcl:closureFor scope X.env=pure (c7 X.env.cells scope.names []):=mh fun x hx hk=>I.ok.has x.1 (S.sc.free x hx hk);have C:PySem.W.CodeHd s.heap c0 a:=PySem.W.codeHd_of_K I.gI hC;rcases cs with⟨rfl,hnf⟩|⟨rfl,c,o,vs,t,q1,q2,q3,q4,q5⟩
 . refine PySem.W.kla_makeFunction hcl I.ok.glob hg hcode C hP tr hnf hgP hB fun c' ctv h' tk hx hge hlt hrec htb=>?_;obtain⟨c2,oc,vs,t,e2,hoc,hd,hv⟩:=hrec;cases e2;have hHc:H c'=none:=I.aP.fresh hge;have hGc:G c'=none:=(Sp.none hHc).1;have hHa:H a=some (.jJ ps):=Sp.get gP;have hac:a≠c':=dm hHa hHc
   let ps':=ps++ #[rawInt lpos.line,rawInt lpos.col,.ref c']
   have nb:∀ {b:Addr},H b=none->b≠a:=fun e z=>by rw[z,hHa]at e;cases e
   have I1:Inv X pins σ (upd (upd H c' (.eQ oc (.own c'))) a (.jJ ps')) {s with heap:=h',gens:=s.gens,drawn:=s.drawn,toks:=tk}:=by
    have old:∀ {b:Addr} {u:HO},H b=some u->b≠a->upd (upd H c' (.eQ oc (.own c'))) a (.jJ ps') b=some u:=fun e n=>by rw[az n,az (dm e hHc)];exact e
    refine I.step (ch:=[]) (fun _ z=>nomatch z) (fun b o _ _ _ e n=>hx b o (nb n) e) (fun b o _ _ _ e n=>⟨o.slots,hx b o (nb n) e⟩) (fun b o _ e n=>?_) (fun b o _ e=>?_) (fun b xs e=>?_) (fun b o u e=>?_) (fun b qs e=>?_) (fun m hm=>?_) (fun b u e=>?_) I.bare
    . rw[az (nb n),az (Nat.ne_of_lt (Nat.lt_of_lt_of_le (Heap.lt_size e) hge))];exact n
    . by_cases hb:b=a
      . exact⟨_,by rw[hb];exact htb⟩
      . exact⟨o,hx b o hb e⟩
    . exact old e fun z=>by rw[z,hHa]at e;cases e
    . exact old e fun z=>by rw[z,hHa]at e;cases e
    . by_cases hb:b=a
      . subst hb;rw[hHa]at e;cases e;exact⟨_,aY⟩
      . exact⟨#[],by rw[old e hb];simp⟩
    . obtain⟨o,es,ep,ho,r⟩:=hm;exact⟨o,es,ep,hx _ o (nb I.free) ho,r⟩
    . by_cases hb:b=a
      . subst hb;rw[aY]at e;cases e;exact htb
      . rw[az hb]at e;by_cases hbc:b=c'
        . subst hbc;rw[aY]at e;cases e;exact⟨hoc,_,hoc⟩
        . rw[az hbc]at e;refine(I.aP b u e).oQ (fun d w hd q=>hx d w ?_ q) (fun d q=>old q fun z=>by rw[z,hHa]at q;cases q) fun d xs q=>old q fun z=>by rw[z,hHa]at q;cases q
          rcases hd with rfl|hd
          . exact hb
          . intro z;rw[z,hHa]at hd;cases hd
   have I2:=kP (o:=PySem.W.kla_obj "<lambda>" qual params body scope (c7 X.env.cells scope.names []) ((X.mg "__name__").getD .none) c' ctv) (t':=tk) I1 (fun v z=>by cases z);have gP':upd G c' (.eQ oc (.own c')) a=some (.jJ ps):=by rw[az hac];exact gP
   refine h _ c' ctv _ (upd (upd G c' (.eQ oc (.own c'))) a (.jJ ps')) _ _ I2 ((Step.laid hGc).trans (Step.write (List.mem_of_getElem? ha))) ((Sp.laid hHc).write gP') ((SR.laid hGc).write ha ⟨rfl,ps',aY,?_,.inr ⟨rfl,c',oc,vs,t,?_,SR.j9 hGc,?_,hd,hv⟩⟩) ⟨SR.j9 hGc,oc,vs,t,?_,hd,hv⟩
   . show TriplesOk (ps++ #[rawInt lpos.line,rawInt lpos.col,.ref c']).toList;rw[Array.toList_append];exact TriplesOk_snoc _ _ _ _ tr
   . show codeAmong lpos (ps++ #[rawInt lpos.line,rawInt lpos.col,.ref c']).toList=_;rw[Array.toList_append];exact codeAmong_snoc _ tr hnf
   . rw[az hac.symm,aY]
   . rw[az hac.symm,aY]
 . refine PySem.W.kla_makeFunctionHit hcl I.ok.glob hg hcode C hP tr q1 hB fun ctv h' tk hk hsz=>?_;have I1:=I.kept (t':=tk) hk;have I2:=kP (o:=PySem.W.kla_obj "<lambda>" qual params body scope (c7 X.env.cells scope.names []) ((X.mg "__name__").getD .none) c ctv) (t':=tk) I1 (fun v z=>by cases z);refine h _ c ctv _ G H _ I2 Step.refl Sp (by rw[set_same hn0];exact SR) ⟨q2,o,vs,t,q3,q4,q5⟩
end
def slt(p q:Int×Int):Prop:=p.1<=q.1
def zB(n0:Nat)(T:Addr)(lpos:Pos)(qual:Str)(fr:List (Option Nat))(tb te:DE):DE:=fun σ st K=>te σ st fun d st1=>∃(ns ks:List Int) (b:Bool),d= .lst (ns.map .int)/\ns.length<64/\ns.Pairwise (· < ·)/\ks.length=ns.length/\
 st1[n0]?=some (.tab T lpos qual b)/\(∀(i:Nat) (n k:Int),ns[i]?=some n->ks[i]?=some k->tb ((gz fr σ).set 0 (some (.int n))) (st1.set n0 (.tab T lpos qual true)) fun v st2=>v= .int k/\st2=st1.set n0 (.tab T lpos qual true))/\
 ∀os:List (Int×Int),os.Perm (ks.zip ns)->os.Pairwise slt->K (.lst (os.map fun p=> .int p.2)) (st1.set n0 (.tab T lpos qual true))
theorem yw{α:List (Option Addr)}{H:Hp}:∀ {ns:List Int} {vs:List V},aL α H (ns.map D.int) vs->vs=ns.map V.int
 | [],vs,h=>by unfold aL at h;exact h
 |n::ns,vs,h=>by
  unfold aL at h;obtain⟨v,r,rfl,h1,h2⟩:=h;unfold Rep at h1;rw[h1,yw h2];rfl
theorem yv{α:List (Option Addr)}{H:Hp}:∀(ns:List Int),aL α H (ns.map D.int) (ns.map V.int)
 | []=>by unfold aL;rfl
 |n::ns=>by unfold aL;exact⟨_,_,rfl,by unfold Rep;rfl,yv ns⟩
theorem zY:∀ {ns:List Int} {us:List Value},Vals (ns.map V.int) us->IntsAre us ns
 | [],_,.nil=> .nil
 |n::ns,_,.cons ⟨t,rfl⟩ h=> .cons n t (zY h)
section
variable {X:Cx}{scope:Scope}{Nc:List Str}{fr:List (Option Nat)}{p x qual:Str}{params:Arguments}{e body:Expr}{te tb:DE}{lpos kpos pos ppos:Pos}{c0 T:Addr}{n0:Nat}
theorem HR(S:mB X scope Nc fr p)(hc:X.calm=true)(hr:cP 2 X.A)(hcode:X.env.code= .ref c0)(hC:PySem.W.codeHdIn X.K c0 T=true)(hdef:defaultsOf params X.env=([],[]))(hql:X.env.qual++"<lambda>"=qual)
 (hbind:∀(cl:List (Str×Addr)) (pm cd ct v:Value),bindArgs (PySem.W.kla_fn "<lambda>" qual params body scope cl pm cd ct) ⟨[v],[]⟩=pure [(p,v)])
 (hb:∀(f c:Addr) (s:Shared) (H:Hp),PE (De X scope Nc qual f c s H) body (LE tb)) (ha:PA X [e] (LA (ae te ak)))
 (hg:Gl X "sorted") (hm:X.mg "sorted"=none) (hv:bootBuiltins "sorted"=some (.builtin "sorted"))
 (he:backTo pos (starEach [e] X.env)=(false,eval e X.env)::backTo pos (starEach [] X.env):=by rfl) (hpl:(backTo pos (starEach [e] X.env)).any (·.1)=false:=by rfl):
 PE X (.Call (.Name "sorted" ppos) [e] [⟨some "key",.Lambda params body scope lpos,kpos⟩] pos) (LE (zB n0 T lpos qual fr tb te)):=by
 intro pins s σ H Q I h;obtain⟨α,σd,st,K,G,F,Sp,RS,SR,t,k⟩:=h;refine wpAny_Call_Name_kw (j8 I hg hm hv ?_);refine callWith_kw ?_ he hpl
 let K1:DK:=fun d st1=>∃(ns ks:List Int) (b:Bool),d= .lst (ns.map .int)/\ns.length<64/\ns.Pairwise (· < ·)/\ks.length=ns.length/\
  st1[n0]?=some (.tab T lpos qual b)/\(∀(i:Nat) (n k:Int),ns[i]?=some n->ks[i]?=some k->tb ((gz fr σd).set 0 (some (.int n))) (st1.set n0 (.tab T lpos qual true)) fun v st2=>v= .int k/\st2=st1.set n0 (.tab T lpos qual true))/\
  ∀os:List (Int×Int),os.Perm (ks.zip ns)->os.Pairwise slt->K (.lst (os.map fun p=> .int p.2)) (st1.set n0 (.tab T lpos qual true))
 refine bO (ha pos pins s σ H (fun vs H1=>∃d v st1 α1 G1,vs=[v]/\K1 d st1/\Step α G α1 G1/\bW G1 F H1/\aR α1 st1 G1/\Rep α1 G1 d v) I
  ⟨α,σd,st,fun ds st1=>match ds with| [d]=>K1 d st1|_=>False,G,F,Sp,RS,SR,t,fun ds st1 q α1 G1 H1 vs s1 P1 S1 r1=>?_⟩) fun us s1 ⟨vs,H1,I1,rv,d,v,st1,α1,G1,hvs,kd,s1',P1,S1,r1⟩=>?_
 . match ds,q,r1 with
   | [d],q,r1=>
     unfold aL at r1;obtain⟨v,r,rfl,h1,h2⟩:=r1;unfold aL at h2;subst h2;exact⟨d,v,st1,α1,G1,rfl,q,s1,P1,S1,h1⟩
 subst hvs;obtain⟨ns,ks,b,rfl,h64,hup,hlen,hn0,hkey,hK⟩:=kd;show wpAny _ _ (evalAll ((do let v <-eval (.Lambda params body scope lpos) X.env;standAt pos;pure v)::[])) _ _ s1;refine wpAny_evalAll_cons (wpAny_bind (F6 S hcode hC hdef hql I1 P1 S1 hn0 fun f c ctv pm G2 H2 s2 I2 st2 P2 S2 ⟨hc1,o,vs,tq,hc2,hc3,hc4⟩=>wpAny_bind (wpAny_standAt (wpAny_pure (wpAny_evalAll_nil ?_)))));have r2:=r1.step st2;unfold Rep at r2;obtain⟨l,xs,rfl,hl1,hl2,hl3⟩:=r2;have exs:=yw hl3;subst exs;cases rv with
 |cons ru rn=>
  cases rn;cases ru
  have hrd:Rd H2 l (.lst (ns.map V.int)):=by
   rcases hl2 with z|⟨w,z⟩
   . exact .inl (P2.get z)
   . exact .inr ⟨w,P2.get z⟩
  obtain⟨_,its,nn,vv,hobj⟩:=hrd.ok I2.aP;have hints:=zY vv;have hlen2:=hints.length;have key:∀(H':Hp),(∃α' G',Step α1 G2 α' G'/\bW G' F H'/\aR α' (st1.set n0 (.tab T lpos qual true)) G')->H' c=some (.eQ o (.own c)):=fun H' ⟨α',G',q1,q2,q3⟩=>q2.get (q1.ext c _ hc1 hc2);show wpAny _ _ (call (.builtin "sorted") [.ref l] [(Str.ofString "key",.ref f)]) _ _ _
  refine Cu (X:=X) (pins:=pins++[(f,PySem.W.kla_obj "<lambda>" qual params body scope (c7 X.env.cells scope.names []) pm c ctv)]) (R:=fun H'=>∃α' G',Step α1 G2 α' G'/\bW G' F H'/\aR α' (st1.set n0 (.tab T lpos qual true)) G') (kz:=ks) (vs:=its)
   I2 ⟨α1,G2,Step.refl,P2,S2⟩ ⟨_,hobj,rfl,nn,rfl⟩ (by omega) (by omega) (fun i u kk hu hk own s' J=>?_) fun D s' out cc oD J so=>?_
  . have hi:i<ns.length:=by
     have:=(List.getElem?_eq_some_iff.mp hu).1;omega
    obtain⟨tt,ht⟩:=hints.get i ns[i] (List.getElem?_eq_getElem hi);have ht:some u=some (Value.int ns[i] tt):=by rw[<-hu];exact ht
    cases ht;refine EY (v:= .int ns[i]) (u:= .int ns[i] tt) S hc (by have:=hr.dp;omega) (hb f c) hbind ⟨tt,rfl⟩ (List.mem_append_right _ (List.mem_singleton.mpr rfl)) (fun H' s'' J' r'=>?_) (fun H' r'=>?_) J
    . have q:=J'.aP c _ (key H' r');exact⟨c,o,vs,tq,rfl,q.1,hc3,hc4⟩
    . obtain⟨α',G',q1,q2,q3⟩:=r';refine⟨α',(gz fr σd).set 0 (some (.int ns[i])),_,_,G',F,q2,?_,q3,hkey i ns[i] kk (List.getElem?_eq_getElem hi) hk,fun d' st' hd α'' G'' H'' v' s'' P'' S'' r''=>?_⟩
      . exact((RS.step ((s1'.trans st2).trans q1)).comp).set 0 (by unfold Rep;rfl)
      . obtain⟨rfl,rfl⟩:=hd;unfold Rep at r'';exact⟨r'',α'',G'',q1.trans s'',P'',S''⟩
  . obtain⟨H',I',α',G',q1,q2,q3⟩:=J;obtain⟨ps,hp,ho,hs⟩:=so
    have hps:∀q∈ps,∃t,q.2= .int (numOf q.2) t:=fun q hq=>by
     have h1:=hp.mem_iff.mp hq;have h2:q.2∈its:=(List.of_mem_zip (show(q.1,q.2)∈ks.zip its from h1)).2;obtain⟨n,t,e⟩:=hints.all _ h2;exact⟨t,by rw[e];rfl⟩
    have hos:(ps.map fun q=>(q.1,numOf q.2)).Perm (ks.zip ns):=by
     have h1:=hp.map fun q:Int×Value=>(q.1,numOf q.2)
     have e:(ks.zip its).map (fun q:Int×Value=>(q.1,numOf q.2))=ks.zip ns:=by
      rw[<-hints.nums,List.zip_map_right];exact List.map_congr_left fun⟨a,b⟩ _=>rfl
     rw[e]at h1;exact h1
    have hpw:(ps.map fun q=>(q.1,numOf q.2)).Pairwise slt:=by rw[List.pairwise_map];exact hs
    have kk:=hK _ hos hpw;rw[List.map_map]at kk;have hD0:=fw I'
    have vout:Vals ((ps.map fun q=>numOf q.2).map V.int) out.toList:=by
     rw[ho];clear hos hpw kk hs hp ho;induction ps with
     |nil=>exact .nil
     |cons q r ih=>
      obtain⟨t,e⟩:=hps q (List.mem_cons_self ..);exact .cons ⟨t,e⟩ (ih fun z hz=>hps z (List.mem_cons_of_mem _ hz))
    have hlo:(ps.map fun q=>numOf q.2).length<=sizeLine:=by
     rw[List.length_map,hp.length_eq,List.length_zip];exact Nat.le_trans (Nat.min_le_left _ _) (Nat.le_trans (show ks.length<=64 by omega) (by decide))
    have I3:=Dk (u:= .lst ((ps.map fun q=>numOf q.2).map V.int)) I' oD.ge oD.ne ⟨by rw[List.length_map];exact hlo,out.toList,cc,vout,hD0.1⟩;have hG:=(q2.none hD0.2.1).1;refine⟨.ref D,_,I3.gL,rfl,k _ _ kk α' _ _ _ ((s1'.trans st2).trans (q1.trans (Step.laid hG))) (q2.laid hD0.2.1) (q3.laid hG) ?_⟩;unfold Rep;refine⟨D,_,rfl,q3.j9 hG,.inl aY,?_⟩;have e:List.map ((fun p:Int×Int=>L3.D.int p.snd)∘fun q:Int×Value=>(q.fst,numOf q.snd)) ps=(ps.map fun q=>numOf q.2).map L3.D.int:=by rw[List.map_map];rfl
    rw[e];exact yv _
end
end L3
namespace L3
open PySem L2
open PySem.Spec hiding items?
open PyProof.Rows hiding St
def F8(sc:Scope)(N gl:List Str):Bool:=
 N.all (fun x=>(sc.names.lookup x==some .local||sc.names.lookup x==some .cell)&&x != "__debug__"&&x != "__classdict__")&&gl.all (fun x=>sc.names.lookup x==some .globalImplicit&&x != "__debug__")
structure VS(sc:Scope)(N gl:List Str):Prop where
 ok:F8 sc N gl=true
theorem VS.at_{sc:Scope}{N gl:List Str}(V:VS sc N gl){i:Nat}{x:Str}(h:N[i]?=some x):Loc sc x/\(x==("__debug__":Str))=false/\(x==("__classdict__":Str))=false:=by
 have o:=V.ok;unfold F8 at o;have:=List.all_eq_true.mp (Bool.and_eq_true_iff.mp o).1 x (List.mem_of_getElem? h);simp only[Bool.and_eq_true,Bool.or_eq_true,beq_iff_eq,bne_iff_ne,ne_eq]at this;exact⟨this.1.1,beq_false_of_ne this.1.2,beq_false_of_ne this.2⟩
theorem VS.OJ{sc:Scope}{N gl:List Str}(V:VS sc N gl){i:Nat}{x:Str}(h:gl[i]?=some x):sc.names.lookup x=some .globalImplicit/\(x==("__debug__":Str))=false:=by
 have o:=V.ok;unfold F8 at o;have:=List.all_eq_true.mp (Bool.and_eq_true_iff.mp o).2 x (List.mem_of_getElem? h);simp only[Bool.and_eq_true,beq_iff_eq,bne_iff_ne,ne_eq]at this;exact⟨this.1,beq_false_of_ne this.2⟩
section
variable {X:Cx}{sc:Scope}{N gl:List Str}{x:Str}{pos:Pos}
theorem VS.nm(V:VS X.env.scope X.N gl)(i:Nat)(h:X.N[i]?=some x:=by rfl):JE X (.Name x pos) (ab i):=
 let q:=V.at_ h
 EV q.2.1 q.2.2 (q.1.elim .inl fun z=> .inr (.inl z)) h
theorem VS.l(V:VS sc N gl)(i:Nat)(h:N[i]?=some x:=by rfl):Loc sc x:=(V.at_ h).1
theorem VS.g(V:VS sc N gl)(i:Nat)(h:gl[i]?=some x:=by rfl):sc.names.lookup x=some .globalImplicit:=(V.OJ h).1
theorem VS.d(V:VS sc N gl)(i:Nat)(h:gl[i]?=some x:=by rfl):(x==("__debug__":Str))=false:=(V.OJ h).2
theorem cA{n:Nat}(hN:X.N[n]?=some x:=by rfl)(hd:((x==("__debug__":Str))||(x==("__classdict__":Str)))=false:=by decide+kernel)
 (hv:z_ X.env.scope x:=by first|exact Or.inl rfl|exact Or.inr (Or.inl rfl)|exact Or.inr (Or.inr rfl)):JE X (.Name x pos) (ab n):=
 EV (Bool.or_eq_false_iff.mp hd).1 (Bool.or_eq_false_iff.mp hd).2 hv hN
@[irreducible] def lP:cR:=tM (fun _ j=>j≠0) fun i j=> .int (i.fdiv j)
theorem sI{k:Nat}(hr:cP k X.A)(hs:X.stack=X.env::X.outer)(hgen:X.env.scope.isGenerator=false)(hco:X.env.scope.isCoroutine=false):bM X (binaryOp .FloorDiv) (LR lP):=by
 unfold lP;refine kh (g':=fun i j=> .int (i.fdiv j)) (fun _ _ _ _=>by unfold Rep;rfl) ?_;intro pins s σ H x y v u Q I rx ry h;obtain⟨i,j,rfl,rfl,hc,q⟩:=h;obtain⟨t,rfl⟩:=rx;obtain⟨t',rfl⟩:=ry;refine floordiv_int hc ⟨.int (i.fdiv j),H,I.tok _,⟨_,rfl⟩,q⟩ (.inr (PySem.PylongRoom.of I.nolimit ?_ ?_))
 . have:=hr.dp;show X.A.depth+100<_;omega
 . exact PySem.SeerAt.of (env:=X.env) (l:=X.outer) (I.mod.seer.keeps I.bk) I.ok.gt (by rw[I.ok.frames,hs]) hgen hco I.ok.blt I.ok.glob
theorem zh{st:af}{K:DK}{i j:Int}(h0:j≠0)(k:K (.int (i.fdiv j)) st):lP (.int i) (.int j) st K:=by unfold lP;exact⟨h0,k⟩
theorem mB.look{scope:Scope}{Nc:List Str}{fr:List (Option Nat)}{p:Str}(S:bz X scope Nc fr)(h:(scope.names.all (fun x=>x.2 != .cell)&&(!scope.isCoroutine&& !scope.isGenerator)&&(scope.names.lookup p==some .local))=true:=by decide+kernel)
 (p0:Nc[0]?=some p:=by rfl) (f0:fr[0]?=some none:=by rfl):mB X scope Nc fr p:=by
 simp only[Bool.and_eq_true,Bool.not_eq_true',beq_iff_eq]at h;exact⟨S,fun x hx=>by simpa using List.all_eq_true.mp h.1.1 x hx,h.1.2.1,h.1.2.2,p0,f0,h.2⟩
theorem HY{scope:Scope}{Nc:List Str}{fr:List (Option Nat)}{p qual:Str}{params:Arguments}{e body:Expr}{te tb:DE}{lpos kpos pos ppos:Pos}{c0 T:Addr}{n0 k:Nat}(S:mB X scope Nc fr p)(hc:X.calm=true)(hr:cP k X.A)(hcode:X.env.code= .ref c0)(hC:PySem.W.codeHdIn X.K c0 T=true)
 (hb:∀(f c:Addr) (s:Shared) (H:Hp),JE (De X scope Nc qual f c s H) body tb) (he:JE X e te) (hg:X.env.kindOf "sorted"=some .globalImplicit) (hm:X.mg "sorted"=none)
 (hdef:defaultsOf params X.env=([],[]):=by rfl) (hql:X.env.qual++"<lambda>"=qual:=by rfl)
 (hbind:∀(cl:List (Str×Addr)) (pm cd ct v:Value),bindArgs (PySem.W.kla_fn "<lambda>" qual params body scope cl pm cd ct) ⟨[v],[]⟩=pure [(p,v)]:=by(intros;rfl)) (hk:2<=k:=by decide)
 (he1:starEach [e] X.env=(false,eval e X.env)::starEach [] X.env:=by rfl):
 JE X (.Call (.Name "sorted" ppos) [e] [⟨some "key",.Lambda params body scope lpos,kpos⟩] pos) (zB n0 T lpos qual fr tb te):=by
 unfold JE at he hb⊢;refine HR S hc (hr.mono hk) hcode hC hdef hql hbind hb (sj he vA he1) hg hm rfl ?_ ?_
 . rw[he1];rfl
 . rw[he1];rfl
end
structure Ml(K:PySem.W.Frag)(x qual:Str)(st:Stmt)(f:Addr)(fd:FuncData)(c:Addr):Prop where
 ex:∃(oc:Value) (od:Option Addr) (kV doc pm:Value) (an:Option Addr) (ct:Value) (osl:Array (Option Value)),
  fd=PySem.W.fnOf x qual (iY st) (fI st) (ag st) .none kV doc pm an (.ref c) ct/\K.lookup f=some ⟨oc,od,.func fd,osl⟩/\PySem.W.codeIn K (.ref c) qual=true
theorem KS{P:Program}{w:World}{K:PySem.W.Frag}{mg:Str->Option Value}{base:Heap}{x qual:Str}{st:Stmt}{f c:Addr}{fd:FuncData}{N ps:List Str}{k:Nat}{sp:b_}{t:DS}(F:Ml K x qual st f fd c)(S:aO N ps (ag st))
 (hbody:∀(A:Around) (outer:List Env) (s:Shared) (H:Hp) (E:XK),cP k (A.deeper (envOfC qual (ag st) s.heap.objs.size f (.ref c)))->JB (qt cj P w K mg base N qual (ag st) f (.ref c) A outer s H E).uH (fI st) t)
 (hsp:∀ds st K,sp ds st K->ds.length=ps.length/\t {nx:=fun _ st'=>K .aH st',rt:=K} (aT N ds) st):bf P w K mg base cj (k+1) f fd ps (cp sp):=by
 obtain⟨oc,od,kV,doc,pm,an,ct,osl,rfl,lk,hcd⟩:=F.ex;unfold JB at hbody;refine GP lk hcd S (fun vs H Q E h=>?_) fun A outer s H vs Q E hr h=>?_
 . obtain⟨α,ds,st,K,G,F,P,R,S,q,k⟩:=h;rw[<-R.length];exact(hsp ds st K q).1
 . obtain⟨α,ds,st,K,G,F',P,R,SR,q,k⟩:=h;refine⟨_,(hbody A outer s H E hr).uH,α,aT N ds,st,_,G,F',P,dQ.start R,SR,(hsp ds st K q).2,?_,k,?_,?_⟩
   . intro σd' st' kk α' G' H' σ' s' P' R' S';exact k .aH st' kk α' G' H' .aH s' P' S' (by unfold Rep;rfl)
   . intro σd' st' kk;exact kk.elim
   . intro σd' st' kk;exact kk.elim
def C2(tl:List (Addr×Pos×Str)):b_:=fun ds st K=>∃ns:List Int,ds=[.lst (ns.map .int)]/\ns.length<=63/\st=tl.map (fun q=> .tab q.1 q.2.1 q.2.2 false)/\∀st',K (.bl true) st'
def Dd(K:PySem.W.Frag)(ts:List (Addr×Addr)):Sp:=fun vs H Q _=>∃(a:Addr) (ns:List Int),vs=[.ref a]/\Entry K ts a ns H/\ns.length<=63/\∀H',Q (.bl true) H'
theorem Ej{K:PySem.W.Frag}{ts:List (Addr×Addr)}{tl:List (Addr×Pos×Str)}(nl:Dm K=true)(hts:ts.map (·.2)=tl.map (·.1))(nd:(tl.map (·.1)).Nodup){vs:List V}{H:Hp}{Q:VK}{E:XK}(h:Dd K ts vs H Q E):cp (C2 tl) vs H Q E:=by
 obtain⟨a,ns,rfl,hE,hl,q⟩:=h
 have tabs:∀q∈tl,H q.1=some (.jJ #[])/\q.1≠a:=fun q hq=>by
  have h1:q.1∈ts.map (·.2):=by rw[hts];exact List.mem_map_of_mem hq
  obtain⟨t,ht,e⟩:=List.mem_map.mp h1;rw[<-e];exact hE.tab t ht
 have at_:∀(i:Nat) (x:Addr),(tl.map fun q=>some q.1)[i]?=some (some x)->∃q,tl[i]?=some q/\q.1=x:=fun i x e=>by
  rw[List.getElem?_map]at e;cases z:tl[i]? with
  |none=>rw[z]at e;cases e
  |some w=>rw[z]at e;simp at e;exact⟨w,rfl,e⟩
 have nota:some a∉tl.map fun q=>some q.1:=fun z=>by
  obtain⟨w,hw,e⟩:=List.mem_map.mp z;exact(tabs w hw).2 (Option.some.inj e)
 rcases hE.lst with hS|⟨o,its,n,e,hc,_⟩
 . refine⟨tl.map fun q=>some q.1,[.lst (ns.map .int)],tl.map (fun q=> .tab q.1 q.2.1 q.2.2 false),fun d _=>d= .bl true,H,fun _=>none,⟨fun b=>by cases H b<;>rfl,fun _ _ _=>rfl⟩,?_,⟨by simp,fun i j x e1 e2=>?_,fun n c e=>?_⟩,⟨ns,rfl,hl,rfl,fun _=>rfl⟩,?_⟩
   . unfold aL;refine⟨.ref a,[],rfl,?_,by unfold aL;rfl⟩;unfold Rep;exact⟨a,ns.map V.int,rfl,nota,hS,xg ns⟩
   . obtain⟨p,hp,e3⟩:=at_ i x e1;obtain⟨r,hr,e4⟩:=at_ j x e2;have k1:(tl.map (·.1))[i]?=some x:=by rw[List.getElem?_map,hp,<-e3];rfl
     have k2:(tl.map (·.1))[j]?=some x:=by rw[List.getElem?_map,hr,<-e4];rfl
     have hi:=(List.getElem?_eq_some_iff.mp k1).1;exact(List.getElem?_inj hi nd).mp (k1.trans k2.symm)
   . rw[List.getElem?_map]at e;cases z:tl[n]? with
     |none=>rw[z]at e;cases e
     |some w=>
      rw[z]at e;have e':Cell.tab w.1 w.2.1 w.2.2 false=c:=Option.some.inj e;subst e';refine .inr ⟨w.1,by rw[List.getElem?_map,z];rfl,rfl,#[],(tabs w (List.mem_of_getElem? z)).1,trivial,.inl ⟨rfl,rfl⟩⟩
   . rintro d st' rfl α' G' H' v _ _ _ r;unfold Rep at r;subst r;exact q H'
 . exact absurd hc (xH nl e)
section
variable {K:PySem.W.Frag}{x qual p1 p2 p3 p4 p5:Str}{st:Stmt}{f:Addr}{fd:FuncData}
abbrev sS(x qual:Str)(st:Stmt)(kV doc pm:Value)(an:Option Addr)(cdv ct:Value):FuncData:=PySem.W.fnOf x qual (iY st) (fI st) (ag st) .none kV doc pm an cdv ct
theorem f9{α:Type}{n:Nat}{us:List α}(h:us.length=n+1):∃a r,us=a::r/\r.length=n:=by
 cases us with
 |nil=>cases h
 |cons a r=>exact⟨a,r,rfl,Nat.succ.inj h⟩
theorem sH{α:Type}{us:List α}(h:us.length=0):us=[]:=List.length_eq_zero_iff.mp h
theorem Qn(F:nG K x qual st f fd)(h:∀kV doc pm an cdv ct a,bindArgs (sS x qual st kV doc pm an cdv ct) ⟨[a],[]⟩=pure [(p1,a)]):Binds K fd [p1] []:=
 F.binds fun kV doc pm an cdv ct us hl=>by
  obtain⟨a,r1,rfl,h1⟩:=f9 hl;cases sH h1;exact h kV doc pm an cdv ct a
theorem Oj(F:nG K x qual st f fd)(h:∀kV doc pm an cdv ct a b,bindArgs (sS x qual st kV doc pm an cdv ct) ⟨[a,b],[]⟩=pure [(p1,a),(p2,b)]):Binds K fd [p1,p2] []:=
 F.binds fun kV doc pm an cdv ct us hl=>by
  obtain⟨a,r1,rfl,h1⟩:=f9 hl;obtain⟨b,r2,rfl,h2⟩:=f9 h1;cases sH h2;exact h kV doc pm an cdv ct a b
theorem OE(F:nG K x qual st f fd)(h:∀kV doc pm an cdv ct a b c,bindArgs (sS x qual st kV doc pm an cdv ct) ⟨[a,b,c],[]⟩=pure [(p1,a),(p2,b),(p3,c)]):Binds K fd [p1,p2,p3] []:=
 F.binds fun kV doc pm an cdv ct us hl=>by
  obtain⟨a,r1,rfl,h1⟩:=f9 hl;obtain⟨b,r2,rfl,h2⟩:=f9 h1;obtain⟨c,r3,rfl,h3⟩:=f9 h2;cases sH h3;exact h kV doc pm an cdv ct a b c
theorem Qi(F:nG K x qual st f fd)(h:∀kV doc pm an cdv ct a b c d,bindArgs (sS x qual st kV doc pm an cdv ct) ⟨[a,b,c,d],[]⟩=pure [(p1,a),(p2,b),(p3,c),(p4,d)]):Binds K fd [p1,p2,p3,p4] []:=
 F.binds fun kV doc pm an cdv ct us hl=>by
  obtain⟨a,r1,rfl,h1⟩:=f9 hl;obtain⟨b,r2,rfl,h2⟩:=f9 h1;obtain⟨c,r3,rfl,h3⟩:=f9 h2;obtain⟨d,r4,rfl,h4⟩:=f9 h3;cases sH h4;exact h kV doc pm an cdv ct a b c d
end
section
variable {X:Cx}
theorem Ip(n:Int):(n != 0)=decide (n≠0):=by
 by_cases h:n=0
 . subst h;rfl
 . rw[decide_eq_true h];simpa using h
def xU:eL:=fun ds st K=>match ds with| [.tup xs]=>(match lh xs with|some ns=>K (.bl (ns.any fun n=>decide (n≠0))) st|none=>False)|_=>False
theorem MI(hc:X.calm=true):bD X (.builtin "any") (fy xU):=fun pins s σ H xs us Q I rs ⟨α,ds,st,K,G,F',P,r,S,q,k⟩=>by
 unfold xU at q;split at q
 . rename_i ys;split at q
   . rename_i ns e;obtain⟨v,rfl,r1⟩:=gj r rfl;unfold Rep at r1;obtain⟨a,vs,rfl,na,h1,h2⟩:=r1;obtain⟨u,rfl,ru⟩:=vals1 rs;cases ru;have hv:=rk h2 e;subst hv;obtain⟨its,rv,p,hl⟩:=I.tuple (.of (P.get h1));have isT:s.heap.IsTuple a its.toArray:=p;obtain⟨o,eo,_⟩:=id isT;refine call_any_walk (wpAny_pyIter_tuple isT ?_);have hne:a≠s.heap.objs.size:=Nat.ne_of_lt (Heap.lt_size eo);have hn:its.length=ns.length:=by rw[<-rv.length,List.length_map]
     have hval:∀(i:Nat) (w:Value),its.toArray[i]?=some w->∃t,w=Value.int (ns.getD i 0) t:=fun i w hw=>l6 rv i w (by simpa using hw);refine⟨s.heap.objs.size,_,_,_,_,_,fun i=>decide (ns.getD i 0≠0),rfl,Walks.tuple (A:=X.A.in1) (I.ok.hd hc) _ a hne its.toArray,⟨⟨_,Heap.get?_push_size _ rfl,rfl,rfl⟩,ko.push (k:= .t) isT _⟩,?_,?_⟩
     . intro i w s' Q' E' hP hQ;obtain⟨t,rfl⟩:=hval i w hP;refine PyProof.Rows.truthy_int ?_;rw[Ip];exact hQ
     . intro h' tk hk
       have kp:∀b o,s.heap.get? b=some o->h'.get? b=some o:=fun b o q=>hk b o (by
        intro hb;have:b=s.heap.objs.size:=by simpa using hb
        exact absurd (Heap.lt_size q) (by rw[this];exact Nat.lt_irrefl _)) (Heap.get?_push_of_some _ q)
       have ea:(List.range its.toArray.size).any (fun i=>decide (ns.getD i 0≠0))=ns.any fun n=>decide (n≠0):=by
        rw[List.size_toArray,hn];exact range_any ns _ _ fun i x e=>by rw[List.getD_eq_getElem?_getD,e];rfl
       rw[ea];exact⟨.bl (ns.any fun n=>decide (n≠0)),H,I.kept (t':=tk) kp,rfl,k.here P q S (by unfold Rep;rfl)⟩
   . exact q.elim
 . exact q.elim
@[irreducible] def uF:eL:=xU
theorem Mi(hc:X.calm=true):bD X (.builtin "any") (fy uF):=by unfold uF;exact MI hc
end
theorem HM{st:af}{K:DK}{xs:List D}{ns:List Int}(h:lh xs=some ns)(k:K (.bl (ns.any fun n=>decide (n≠0))) st):uF [.tup xs] st K:=by unfold uF xU;simp only[h];exact k
theorem pL{A B:Type}{F:A->B->Prop}:∀ {xs zs:List A} {ys us:List B},Paired F xs ys->Paired F zs us->Paired F (xs++zs) (ys++us)
 |_,_,_,_,.nil,h=>h
 |_,_,_,_,.cons r t,h=> .cons r (pL t h)
section
variable {X:Cx}
def KC:V->List V->Hp->VK->Prop:=fun x vs H Q=>∃(l b:Addr) (xs ys:List V),x= .ref l/\vs=[.ref b]/\H l=some (.lst xs)/\Rd H b (.lst ys)/\xs.length+ys.length<=sizeLine/\Q .aH (upd H l (.lst (xs++ys)))
theorem JY:OH X "list.extend" KC:=by
 intro pins s σ H x vs v us Q I rx rv h;obtain⟨l,b,xs,ys,rfl,rfl,hH,hb,hz,q⟩:=h;cases rx;obtain⟨u,rfl,ru⟩:=vals1 rv;cases ru;obtain⟨z,its,n,r,hl,e⟩:=I.J5 hH;obtain⟨z2,its2,n2,r2,hl2,e2⟩:=Inv.uq I hb;have hsz:its.toArray.size+its2.toArray.size<=sizeLine:=by rw[List.size_toArray,List.size_toArray,<-hl,<-hl2];exact hz
 have M:=AutoSeq1.list_extend_list_list_0 l its.toArray n b its2.toArray n2 (extend_door hsz) (Nat.le_trans (Nat.le_add_right _ _) hsz) (Nat.le_succ_of_le hsz);refine call_meets F.slot_list_extend ⟨_,e,rfl⟩ F.entry_list_extend (F.args_list_extend_2 _ _) M ⟨e,e2,?_⟩;refine⟨.aH,_,I.KZ (its':=its++its2) hH e (by rw[List.append_toArray]) (pL r r2) ?_,rfl,q⟩;rw[List.length_append];exact hz
def nP:DM:=fun n ds st K=>match ds with
 | [.lst ys]=>(match st[n]? with|some (.lst xs)=>xs.length+ys.length<=sizeLine/\K .aH (st.set n (.lst (xs++ys)))|_=>False)
 |_=>False
theorem Eh:LiftM nP KC:=by
 intro α G F H st K Q n a ds ws P S ea rs q k;unfold nP at q;split at q
 . rename_i ys;split at q
   . rename_i xs e;obtain⟨h3,q⟩:=q;obtain⟨v,rfl,r1⟩:=gj rs rfl;unfold Rep at r1;obtain⟨b,us,rfl,nb,hb,r2⟩:=r1;obtain⟨a',ea',vs,g1,g2⟩:=S.gn e;rw[ea]at ea';cases ea';have hl:=g2.length;have hl2:=r2.length;have hm:some a∈α:=List.mem_of_getElem? ea;refine⟨a,b,vs,us,rfl,rfl,P.get g1,fQ P hb,by omega,?_⟩;refine k .aH _ q α (upd G a (.lst (vs++us))) _ .aH (Step.write hm) (P.write g1) ?_ (by unfold Rep;rfl);exact S.write ea ⟨vs++us,aY,(a7.mpr (pL (a7.mp g2) (a7.mp r2))).step (Step.write hm)⟩
   . exact q.elim
 . exact q.elim
theorem N5{o e:Expr}{to te:DE}{apos cpos:Pos}(ho:JE X o to)(he:JE X e te)(hbase:attributeBase o "extend" X.env (eval o X.env)=eval o X.env:=by rfl)(hline:(apos.endLine==cpos.line)=true:=by rfl)(hs:notStar e=true:=by rfl):JE X (.Call (.Attribute o "extend" apos) [e] [] cpos) (qk nP to (ae te ak)):=by
 unfold JE at*;refine LJ Eh PySem.F.slot_list_extend PySem.F.type_list_extend JY ho (sj he vA (cu hs)) hbase ?_ hline (cu hs) rfl;rw[cu hs];rfl
end
theorem Ls{σ:bV}{st:af}{K:DK}{n:Nat}{xs:List D}{to:DE}{ta:DA}(ho:∀K',K' (.ref n) st->to σ st K')(e:st[n]?=some (.lst xs))(ha:ta σ st fun ds st2=>(∃ys,st2[n]?=some (.lst ys))/\nP n ds st2 K):qk nP to ta σ st K:=by
 unfold qk;refine ho _ ?_;simp only[e];exact ha
theorem PD{st2:af}{K:DK}{n:Nat}{xs ys:List D}(e2:st2[n]?=some (.lst xs))(h:xs.length+ys.length<=sizeLine)(k:K .aH (st2.set n (.lst (xs++ys)))):(∃ys,st2[n]?=some (.lst ys))/\nP n [.lst ys] st2 K:=by
 refine⟨⟨xs,e2⟩,?_⟩;unfold nP;simp only[e2];exact⟨h,k⟩
section
variable {X:Cx}
def uH(X:Cx):Cx:={X with xe:=fun _ _=>False}
end
variable {st:af}{K:D->af->Prop}{i j:Int}
section
variable {X:Cx}{pos:Pos}
end
end L3
namespace L3
open PySem L2
structure ClsAt(K:PySem.W.Frag)(mg:Str->Option Value)(x:Str)(C:Addr):Prop where
 cl:m9 K C
 mg:mg x=some (.ref C)
 Qm:PySem.W.makesIn K C=true
 kp:PySem.W.keepIn K (.ref C)=true
structure MethAt(K:PySem.W.Frag)(C:Addr)(m qual:Str)(st:Stmt)(ps:List Str)(f:Addr)(fd:FuncData):Prop where
 fn:nG K m qual st f fd
 me:Meth K C m f
 bd:Binds K fd ps []
end L3
namespace Hd
open PySem PySem.W L2 L3
open PySem.Spec hiding items?
open PyProof.Rows hiding St
section
variable {K:Frag}{mg:Str->Option Value}{h:Heap}{x q:Str}{st:Stmt}{f c C:Addr}{pm:Value}{p1 p2 p3 p4 p5 p6:Str}
abbrev Ed(K:Frag)(x:Str)(st:Stmt)(f:Addr)(pm:Value)(c:Addr):Prop:=(nsIn K mainGlobals x,K.lookup f,codeIn K (.ref c) x,keepIn K (.ref f))=(some (some (.ref f)),some (fq st x x pm c),true,true)
abbrev Em(K:Frag)(C:Addr)(x q:Str)(st:Stmt)(f:Addr)(pm:Value)(c:Addr):Prop:=(findIn K (.ref C) x,isFn K (.ref f),K.lookup f,codeIn K (.ref c) q,keepIn K (.ref f))=(some (some (.ref f)),true,some (fq st x q pm c),true,true)
theorem Ed.fn(e:Ed K x st f pm c):nG K x x st f (fd st x x pm c)/\nsIn K mainGlobals x=some (some (.ref f)):=by
 obtain⟨e1,e2,e3,e4⟩:_/\_/\_/\_:=by simpa only[Prod.mk.injEq]using e
 exact⟨Df (st:=st) e2 e3 e4,e1⟩
theorem Em.fn(e:Em K C x q st f pm c):nG K x q st f (fd st x q pm c)/\Meth K C x f:=by
 obtain⟨e1,e2,e3,e4,e5⟩:_/\_/\_/\_/\_:=by simpa only[Prod.mk.injEq]using e
 exact⟨Df (st:=st) e3 e4 e5,e1,e2,e5⟩
theorem ni(X:K.In h)(G:h.Ns mainGlobals mg)(e:Ed K x st f pm c)(b:∀kV doc pm an cdv ct a,bindArgs (sS x x st kV doc pm an cdv ct) ⟨[a],[]⟩=pure [(p1,a)]):bC K mg x x st [p1] f (fd st x x pm c):=⟨e.fn.1,mg_of X G e.fn.2,Qn e.fn.1 b⟩
theorem ik(X:K.In h)(G:h.Ns mainGlobals mg)(e:Ed K x st f pm c)(b:∀kV doc pm an cdv ct a1 a2,bindArgs (sS x x st kV doc pm an cdv ct) ⟨[a1,a2],[]⟩=pure [(p1,a1),(p2,a2)]):bC K mg x x st [p1,p2] f (fd st x x pm c):=⟨e.fn.1,mg_of X G e.fn.2,Oj e.fn.1 b⟩
theorem Bq(X:K.In h)(G:h.Ns mainGlobals mg)(e:Ed K x st f pm c)(b:∀kV doc pm an cdv ct a1 a2 a3,bindArgs (sS x x st kV doc pm an cdv ct) ⟨[a1,a2,a3],[]⟩=pure [(p1,a1),(p2,a2),(p3,a3)]):bC K mg x x st [p1,p2,p3] f (fd st x x pm c):=⟨e.fn.1,mg_of X G e.fn.2,OE e.fn.1 b⟩
theorem Oo(e:Em K C x q st f pm c)(b:∀kV doc pm an cdv ct a1 a2,bindArgs (sS x q st kV doc pm an cdv ct) ⟨[a1,a2],[]⟩=pure [(p1,a1),(p2,a2)]):MethAt K C x q st [p1,p2] f (fd st x q pm c):=⟨e.fn.1,e.fn.2,Oj e.fn.1 b⟩
theorem GU(e:Em K C x q st f pm c)(b:∀kV doc pm an cdv ct a1 a2 a3,bindArgs (sS x q st kV doc pm an cdv ct) ⟨[a1,a2,a3],[]⟩=pure [(p1,a1),(p2,a2),(p3,a3)]):MethAt K C x q st [p1,p2,p3] f (fd st x q pm c):=⟨e.fn.1,e.fn.2,OE e.fn.1 b⟩
theorem Qg(e:Em K C x q st f pm c)(b:∀kV doc pm an cdv ct a1 a2 a3 a4,bindArgs (sS x q st kV doc pm an cdv ct) ⟨[a1,a2,a3,a4],[]⟩=pure [(p1,a1),(p2,a2),(p3,a3),(p4,a4)]):MethAt K C x q st [p1,p2,p3,p4] f (fd st x q pm c):=⟨e.fn.1,e.fn.2,Qi e.fn.1 b⟩
theorem fc(e:(K.lookup f,codeIn K (.ref c) q)=(some (fq st x q pm c),true)):Ml K x q st f (fd st x q pm c) c:=by
 obtain⟨e1,e2⟩:_/\_:=by simpa only[Prod.mk.injEq]using e
 exact⟨_,_,_,_,_,_,_,_,rfl,e1,e2⟩
theorem na{a:Str}(e:findIn K (.ref C) a=some none):fT K C a:=e
end
end Hd
namespace L3
open PySem L2
open PySem.Spec hiding items?
open PyProof.Rows hiding St
section
variable {X:Cx}{pos:Pos}
end
end L3
namespace L3
open PySem L2
open PySem.Spec hiding items?
end L3
namespace Mx
def S:Nat->(Nat->Int)->Int
 |0,_=>0
 |n+1,f=>S n f+f n
theorem av{n:Nat}{f g:Nat->Int}(h:∀i,i<n->f i=g i):S n f=S n g:=by
 induction n with
 |zero=>rfl
 |succ n ih=>unfold S;rw[ih fun i hi=>h i (by omega),h n (by omega)]
theorem fb{n:Nat}{f:Nat->Int}(h:∀i,i<n->f i=0):S n f=0:=by
 induction n with
 |zero=>rfl
 |succ n ih=>unfold S;rw[ih fun i hi=>h i (by omega),h n (by omega)];rfl
theorem gK(n:Nat)(f g:Nat->Int):S n (fun i=>f i+g i)=S n f+S n g:=by
 induction n with
 |zero=>rfl
 |succ n ih=>unfold S;rw[ih];dsimp only;omega
theorem cZ(n:Nat)(c:Int)(f:Nat->Int):S n (fun i=>c*f i)=c*S n f:=by
 induction n with
 |zero=>unfold S;rw[Int.mul_zero]
 |succ n ih=>unfold S;rw[ih,Int.mul_add]
theorem i8(n:Nat)(c:Int)(f:Nat->Int):S n (fun i=>f i*c)=S n f*c:=by
 induction n with
 |zero=>unfold S;rw[Int.zero_mul]
 |succ n ih=>unfold S;rw[ih,Int.add_mul]
theorem sJ(n:Nat)(f:Nat->Int):S n (fun i=> -f i)= -S n f:=by
 induction n with
 |zero=>rfl
 |succ n ih=>unfold S;rw[ih];dsimp only;omega
theorem gW(m n:Nat)(f:Nat->Nat->Int):S m (fun i=>S n fun j=>f i j)=S n fun j=>S m fun i=>f i j:=by
 induction m with
 |zero=>exact(fb (n:=n) (fun i _=>rfl)).symm
 |succ m ih=>
  have:S n (fun j=>S (m+1) fun i=>f i j)=S n fun j=>(S m fun i=>f i j)+f m j:=av fun j _=>rfl;rw[this,gK,<-ih];rfl
theorem eZ{n:Nat}{k:Nat}(hk:k<n){f:Nat->Int}(h:∀i,i<n->i≠k->f i=0):S n f=f k:=by
 induction n with
 |zero=>omega
 |succ n ih=>
  unfold S;by_cases e:k=n
  . subst e;rw[fb fun i hi=>h i (by omega) (by omega),Int.zero_add]
  . rw[ih (by omega) fun i hi hn=>h i (by omega) hn,h n (by omega) (by omega),Int.add_zero]
theorem CQ(n:Nat)(f:Nat->Int):S (n+1) f=f 0+S n fun i=>f (i+1):=by
 induction n with
 |zero=>unfold S S;omega
 |succ n ih=>
  have:S (n+1+1) f=S (n+1) f+f (n+1):=rfl;rw[this,ih];have:S (n+1) (fun i=>f (i+1))=S n (fun i=>f (i+1))+f (n+1):=rfl;rw[this];omega
def dl(i j:Nat):Int:=if i=j then 1 else 0
theorem bT(i:Nat):dl i i=1:=if_pos rfl
theorem cy{i j:Nat}(h:i≠j):dl i j=0:=if_neg h
theorem nJ{n k:Nat}(hk:k<n)(f:Nat->Int):S n (fun i=>dl k i*f i)=f k:=by
 rw[eZ hk (fun i _ h=>by rw[cy (Ne.symm h),Int.zero_mul]),bT,Int.one_mul]
theorem o3{n k:Nat}(hk:k<n)(f:Nat->Int):S n (fun i=>f i*dl i k)=f k:=by
 rw[eZ hk (fun i _ h=>by rw[cy h,Int.mul_zero]),bT,Int.mul_one]
abbrev Row:=List Int
abbrev Rows:=List (List Int)
def g(A:Rows)(i j:Nat):Int:=(A.getD i []).getD j 0
structure ck(m n:Nat)(A:Rows):Prop where
 len:A.length=m
 j5:∀r∈A,r.length=n
theorem bE{α:Type}{l:List α}{i:Nat}{d:α}(h:i<l.length):l.getD i d=l[i]:=by
 rw[List.getD_eq_getElem?_getD,List.getElem?_eq_getElem h];rfl
theorem kD{α:Type}{l:List α}{i:Nat}{d:α}(h:l.length<=i):l.getD i d=d:=by
 rw[List.getD_eq_getElem?_getD,List.getElem?_eq_none h];rfl
theorem pq{a b:Row}{n:Nat}(ha:a.length=n)(hb:b.length=n)(h:∀j,j<n->a.getD j 0=b.getD j 0):a=b:=by
 refine List.ext_getElem (by omega) fun i h1 h2=>?_;have:=h i (by omega);rwa [bE h1,bE h2]at this
theorem ck.row{m n:Nat}{A:Rows}(h:ck m n A){i:Nat}(hi:i<m):(A.getD i []).length=n:=by
 have hl:=h.len;rw[bE (by omega)];exact h.j5 _ (List.getElem_mem _)
theorem ck.ext{m n:Nat}{A B:Rows}(ha:ck m n A)(hb:ck m n B)(h:∀i j,i<m->j<n->g A i j=g B i j):A=B:=by
 have h1:=ha.len;have h2:=hb.len;refine List.ext_getElem (by omega) fun i hi hj=>?_;have e1:=ha.row (i:=i) (by omega);have e2:=hb.row (i:=i) (by omega);have:=pq e1 e2 fun j hj=>h i j (by omega) hj;rwa [bE hi,bE hj]at this
def fV(r:Row)(t:Int)(s:Row):Row:=List.zipWith (fun a b=>a+t*b) r s
theorem kJ{r s:Row}{t:Int}(h:r.length=s.length):(fV r t s).length=r.length:=by unfold fV;simp[h]
theorem sA{r s:Row}{t:Int}(h:r.length=s.length)(j:Nat):(fV r t s).getD j 0=r.getD j 0+t*s.getD j 0:=by
 unfold fV;by_cases hj:j<r.length
 . rw[bE (by simp;omega),bE hj,bE (by omega)];simp
 . rw[kD (by simp;omega),kD (by omega),kD (by omega)];simp
def eN:Row->Rows->Row->Row
 |w::ws,r::rs,acc=>eN ws rs (fV acc w r)
 |_,_,acc=>acc
theorem xr{n:Nat}:∀ {ws:Row} {rs:Rows} {acc:Row},acc.length=n->(∀r∈rs,r.length=n)->(eN ws rs acc).length=n
 | [],_,acc,h,_=>by unfold eN;exact h
 |_::_,[],acc,h,_=>by unfold eN;exact h
 |w::ws,r::rs,acc,h,hr=>by
  unfold eN;refine xr ?_ fun r hr'=>hr r (List.mem_cons_of_mem _ hr');rw[kJ (by rw[h,hr r List.mem_cons_self]),h]
theorem yP{n:Nat}:∀ {ws:Row} {rs:Rows} {acc:Row} (j:Nat),acc.length=n->(∀r∈rs,r.length=n)->ws.length=rs.length->(eN ws rs acc).getD j 0=acc.getD j 0+S rs.length fun k=>ws.getD k 0*g rs k j
 | [],[],acc,j,h,_,_=>by unfold eN;show _=_+(0:Int);rw[Int.add_zero]
 | [],_::_,acc,j,h,_,hl=>by cases hl
 |_::_,[],acc,j,h,_,hl=>by cases hl
 |w::ws,r::rs,acc,j,h,hr,hl=>by
  have e1:acc.length=r.length:=by rw[h,hr r List.mem_cons_self]
  unfold eN;rw[yP j (by rw[kJ e1,h]) (fun r hr'=>hr r (List.mem_cons_of_mem _ hr')) (by simpa using hl),sA e1,List.length_cons,CQ]
  have:(fun k=>(w::ws).getD (k+1) 0*g (r::rs) (k+1) j)=fun k=>ws.getD k 0*g rs k j:=by
   funext k;unfold g;simp
  rw[this];unfold g;simp;omega
def mulM(A B:Rows)(n:Nat):Rows:=A.map fun w=>eN w B (List.replicate n 0)
theorem c8(n j:Nat):(List.replicate n (0:Int)).getD j 0=0:=by
 by_cases h:j<n
 . rw[bE (by simpa using h)];simp
 . rw[kD (by simp;omega)]
theorem HE{m p n:Nat}{A B:Rows}(ha:ck m p A)(hb:ck p n B):ck m n (mulM A B n):=by
 refine⟨by unfold mulM;rw[List.length_map];exact ha.len,fun r hr=>?_⟩;unfold mulM at hr;obtain⟨w,_,rfl⟩:=List.mem_map.mp hr;exact xr (by simp) hb.j5
theorem map_getD{α:Type}{f:Row->List α}{A:Rows}{i:Nat}(h:i<A.length):(A.map f).getD i []=f (A.getD i []):=by
 rw[bE (by simpa using h),bE h];simp
theorem H_{m p n:Nat}{A B:Rows}(ha:ck m p A)(hb:ck p n B){i:Nat}(hi:i<m)(j:Nat):g (mulM A B n) i j=S p fun k=>g A i k*g B k j:=by
 have hl:=ha.len;show((mulM A B n).getD i []).getD j 0=_;unfold mulM;rw[map_getD (by omega),yP (n:=n) j (by simp) hb.j5 (by rw[ha.row hi,hb.len]),c8,Int.zero_add,hb.len];rfl
def jK(n i:Nat):Row:=(List.range n).map fun k=>dl k i
def units(n:Nat):Rows:=(List.range n).map fun i=>jK n i
theorem range_getD{α:Type}{f:Nat->α}{n i:Nat}{d:α}(h:i<n):((List.range n).map f).getD i d=f i:=by
 rw[bE (by simpa using h)];simp
theorem pV(n:Nat):ck n n (units n):=⟨by simp[units],fun r hr=>by unfold units at hr;obtain⟨i,_,rfl⟩:=List.mem_map.mp hr;simp[jK]⟩
theorem jw{n i j:Nat}(hi:i<n)(hj:j<n):g (units n) i j=dl i j:=by
 unfold g units jK;rw[range_getD hi,range_getD hj];unfold dl;by_cases h:i=j
 . subst h;rfl
 . rw[if_neg (Ne.symm h),if_neg h]
def pY(A:Rows)(j:Nat):Row:=A.map fun r=>r.getD j 0
def nr(A:Rows)(n:Nat):Rows:=(List.range n).map fun j=>pY A j
theorem KD{m n:Nat}{A:Rows}(ha:ck m n A):ck n m (nr A n):=⟨by simp[nr],fun r hr=>by
 unfold nr at hr;obtain⟨j,_,rfl⟩:=List.mem_map.mp hr;unfold pY;rw[List.length_map,ha.len]⟩
theorem HV{A:Rows}{i:Nat}(j:Nat)(h:i<A.length):(pY A j).getD i 0=g A i j:=by
 unfold pY g;rw[bE (by simpa using h),bE h];simp
theorem o9{m n:Nat}{A:Rows}(ha:ck m n A){i j:Nat}(hi:i<m)(hj:j<n):g (nr A n) j i=g A i j:=by
 show((nr A n).getD j []).getD i 0=_;unfold nr;rw[range_getD hj,HV j (by rw[ha.len];exact hi)]
def Lo:Row->Row->Int
 |a::as,b::bs=>a*b+Lo as bs
 |_,_=>0
theorem vJ(i j:Nat):dl i j=dl j i:=by
 unfold dl;by_cases h:i=j
 . rw[if_pos h,if_pos h.symm]
 . rw[if_neg h,if_neg (Ne.symm h)]
def sw(i j k:Nat):Nat:=if k=i then j else if k=j then i else k
theorem Pk{n i j:Nat}(hi:i<n)(hj:j<n)(hij:i≠j)(f:Nat->Int):S n (fun k=>f (sw i j k))=S n f:=by
 have:S n (fun k=>f (sw i j k))=S n fun k=>f k+(f j-f i)*dl k i+(f i-f j)*dl k j:=av fun k _=>by
  unfold sw;by_cases h1:k=i
  . subst h1;rw[if_pos rfl,bT,cy hij];omega
  . rw[if_neg h1,cy h1];by_cases h2:k=j
    . subst h2;rw[if_pos rfl,bT];omega
    . rw[if_neg h2,cy h2];omega
 rw[this,gK,gK,o3 (f:=fun _=>f j-f i) hi,o3 (f:=fun _=>f i-f j) hj];omega
abbrev Fn:=Nat->Nat->Int
def sk(j c:Nat):Nat:=if c<j then c else c+1
def sg(j:Nat):Int:=if j%2=0 then 1 else-1
theorem wB(j:Nat):sg (j+1)= -sg j:=by unfold sg;split<;>split<;>omega
theorem vS:sg 0=1:=rfl
theorem jj{j c n:Nat}(h:c<n):sk j c<n+1:=by unfold sk;split<;>omega
theorem M1{j k c:Nat}(h:k<j):sk j (sk k c)=sk k (sk (j-1) c):=by unfold sk;grind
def D:Nat->Fn->Int
 |0,_=>1
 |n+1,M=>S (n+1) fun j=>sg j*M 0 j*D n fun r c=>M (r+1) (sk j c)
theorem zI(M:Fn):D 0 M=1:=rfl
theorem c_(n:Nat)(M:Fn):D (n+1) M=S (n+1) fun j=>sg j*M 0 j*D n fun r c=>M (r+1) (sk j c):=rfl
theorem cC:∀ {n:Nat} {M M':Fn},(∀r c,r<n->c<n->M r c=M' r c)->D n M=D n M'
 |0,_,_,_=>rfl
 |n+1,M,M',h=>by
  rw[c_,c_];refine av fun j hj=>?_;have e:D n (fun r c=>M (r+1) (sk j c))=D n (fun r c=>M' (r+1) (sk j c)):=cC fun r c hr hc=>h (r+1) (sk j c) (by omega) (jj hc);rw[h 0 j (by omega) hj,e]
theorem G_:∀ {n:Nat} {M P Q:Fn} {a b:Int} {i:Nat},i<n->(∀c,c<n->M i c=a*P i c+b*Q i c)->(∀r c,r<n->c<n->r≠i->M r c=P r c/\M r c=Q r c)->D n M=a*D n P+b*D n Q
 |0,_,_,_,_,_,_,h,_,_=>by omega
 |n+1,M,P,Q,a,b,0,_,h0,h=>by
  rw[c_,c_,c_,<-cZ,<-cZ,<-gK];refine av fun j hj=>?_;have e1:D n (fun r c=>M (r+1) (sk j c))=D n (fun r c=>P (r+1) (sk j c)):=cC fun r c hr hc=>(h (r+1) (sk j c) (by omega) (jj hc) (by omega)).1;have e2:D n (fun r c=>M (r+1) (sk j c))=D n (fun r c=>Q (r+1) (sk j c)):=cC fun r c hr hc=>(h (r+1) (sk j c) (by omega) (jj hc) (by omega)).2;rw[h0 j hj,<-e1,<-e2];grind
 |n+1,M,P,Q,a,b,i+1,hi,h0,h=>by
  rw[c_,c_,c_,<-cZ,<-cZ,<-gK];refine av fun j hj=>?_;have e:=G_ (n:=n) (M:=fun r c=>M (r+1) (sk j c)) (P:=fun r c=>P (r+1) (sk j c)) (Q:=fun r c=>Q (r+1) (sk j c)) (a:=a) (b:=b) (i:=i) (by omega) (fun c hc=>h0 (sk j c) (jj hc)) fun r c hr hc hne=>h (r+1) (sk j c) (by omega) (jj hc) (by omega);have p:=h 0 j (by omega) hj (by omega);rw[e,<-p.1,<-p.2];grind
theorem Ph{n:Nat}{M:Fn}(h:∀c,c<n+2->M 0 c=M 1 c):D (n+2) M=0:=by
 let T:Nat->Nat->Int:=fun j k=>sg j*M 0 j*(sg k*M 1 (sk j k)*D n fun r c=>M (r+2) (sk j (sk k c)))
 have e1:∀j,j<n+2->sg j*M 0 j*D (n+1) (fun r c=>M (r+1) (sk j c))=S (n+1) fun k=>T j k:=fun j hj=>by
  rw[c_,<-cZ]
 rw[c_,av e1]
 have e2:∀j,j<n+2->S (n+1) (fun k=>T j k)=S (n+1) (fun k=>if k<j then T j k else 0)+S (n+1) (fun k=>if k<j then 0 else T j k):=fun j _=>by
  rw[<-gK];refine av fun k _=>?_;split<;>omega
 rw[av e2,gK]
 have e3:∀j k,j<n+2->k<n+1->¬k<j->T j k= -T (k+1) j:=fun j k hj hk hjk=>by
  have s1:sk (k+1) j=j:=by unfold sk;rw[if_pos (by omega)]
  have s2:sk j k=k+1:=by unfold sk;rw[if_neg hjk]
  have s3:(fun r c=>M (r+2) (sk (k+1) (sk j c)))=fun r c=>M (r+2) (sk j (sk k c)):=by
   funext r c;rw[M1 (show j<k+1 by omega)];rfl
  show sg j*M 0 j*(sg k*M 1 (sk j k)*D n fun r c=>M (r+2) (sk j (sk k c)))= -(sg (k+1)*M 0 (k+1)*(sg j*M 1 (sk (k+1) j)*D n fun r c=>M (r+2) (sk (k+1) (sk j c))));rw[s1,s2,s3,wB,<-h j hj,<-h (k+1) (by omega)];grind
 have e4:S (n+2) (fun j=>S (n+1) fun k=>if k<j then 0 else T j k)= -S (n+2) (fun j=>S (n+1) fun k=>if k<j then T j k else 0):=by
  rw[gW,CQ (n+1) (fun j=>S (n+1) fun k=>if k<j then T j k else 0)];have z:S (n+1) (fun k=>if k<0 then T 0 k else 0)=0:=fb fun k _=>if_neg (by omega);rw[z,Int.zero_add,<-sJ];refine av fun k hk=>?_;have:S (n+2) (fun j=>if k<j then 0 else T j k)=S (n+1) (fun j=>if k<j then 0 else T j k)+(if k<n+1 then 0 else T (n+1) k):=rfl;rw[this,if_pos hk,Int.add_zero,<-sJ];refine av fun j hj=>?_;by_cases hkj:k<j
  . rw[if_pos hkj,if_neg (by omega)];rfl
  . rw[if_neg hkj,if_pos (by omega)];exact e3 j k (by omega) hk hkj
 rw[e4];omega
theorem Hb:∀ {n:Nat} {M:Fn} {i:Nat},i+1<n->(∀c,c<n->M i c=M (i+1) c)->D n M=0
 |0,_,_,h,_=>by omega
 |1,_,_,h,_=>by omega
 |n+2,M,0,_,h=>Ph h
 |n+2,M,i+1,hi,h=>by
  rw[c_];refine fb fun j hj=>?_;rw[Hb (n:=n+1) (M:=fun r c=>M (r+1) (sk j c)) (i:=i) (by omega) fun c hc=>h (sk j c) (jj hc),Int.mul_zero]
structure Alt(n:Nat)(φ:Fn->Int):Prop where
 cg:∀M M':Fn,(∀r c,r<n->c<n->M r c=M' r c)->φ M=φ M'
 l7:∀(i:Nat) (M P Q:Fn) (a b:Int),i<n->(∀c,c<n->M i c=a*P i c+b*Q i c)->(∀r c,r<n->c<n->r≠i->M r c=P r c/\M r c=Q r c)->φ M=a*φ P+b*φ Q
 alt:∀(i j:Nat) (M:Fn),i<n->j<n->i≠j->(∀c,c<n->M i c=M j c)->φ M=0
def upd(M:Fn)(i:Nat)(x:Nat->Int):Fn:=fun r c=>if r=i then x c else M r c
theorem cm(M:Fn)(i:Nat)(x:Nat->Int)(c:Nat):upd M i x i c=x c:=if_pos rfl
theorem az{M:Fn}{i r:Nat}{x:Nat->Int}(h:r≠i)(c:Nat):upd M i x r c=M r c:=if_neg h
theorem OG{n i j:Nat}{φ:Fn->Int}(cg:∀M M':Fn,(∀r c,r<n->c<n->M r c=M' r c)->φ M=φ M')
 (l7:∀(i:Nat) (M P Q:Fn) (a b:Int),i<n->(∀c,c<n->M i c=a*P i c+b*Q i c)->(∀r c,r<n->c<n->r≠i->M r c=P r c/\M r c=Q r c)->φ M=a*φ P+b*φ Q)
 (hi:i<n) (hj:j<n) (hij:i≠j) (alt:∀N:Fn,(∀c,c<n->N i c=N j c)->φ N=0) (M:Fn):φ (fun r=>M (sw i j r))= -φ M:=by
 have l1:φ (upd (upd M i fun c=>M i c+M j c) j fun c=>M i c+M j c)=1*φ (upd (upd M i (M i)) j fun c=>M i c+M j c)+1*φ (upd (upd M i (M j)) j fun c=>M i c+M j c):=
  l7 i _ _ _ 1 1 hi (fun c _=>by rw[az hij,az hij,az hij,cm,cm,cm];omega) fun r c _ _ hr=>by
   unfold upd;grind
 have l2:∀x:Nat->Int,φ (upd (upd M i x) j fun c=>M i c+M j c)=1*φ (upd (upd M i x) j (M i))+1*φ (upd (upd M i x) j (M j)):=fun x=>
  l7 j _ _ _ 1 1 hj (fun c _=>by rw[cm,cm,cm];omega) fun r c _ _ hr=>by
   rw[az hr,az hr,az hr];exact⟨rfl,rfl⟩
 have z0:φ (upd (upd M i fun c=>M i c+M j c) j fun c=>M i c+M j c)=0:=alt _ fun c _=>by rw[az hij,cm,cm]
 have z1:φ (upd (upd M i (M i)) j (M i))=0:=alt _ fun c _=>by rw[az hij,cm,cm]
 have z2:φ (upd (upd M i (M j)) j (M j))=0:=alt _ fun c _=>by rw[az hij,cm,cm]
 have s1:φ (upd (upd M i (M i)) j (M j))=φ M:=cg _ _ fun r c _ _=>by
  unfold upd;split
  . rename_i e;rw[e]
  . split
    . rename_i e;rw[e]
    . rfl
 have s2:φ (upd (upd M i (M j)) j (M i))=φ (fun r=>M (sw i j r)):=cg _ _ fun r c _ _=>by
  unfold upd sw;by_cases h1:r=j
  . rw[if_pos h1];by_cases h2:r=i
    . omega
    . rw[if_neg h2,if_pos h1]
  . rw[if_neg h1];by_cases h2:r=i
    . rw[if_pos h2,if_pos h2]
    . rw[if_neg h2,if_neg h2,if_neg h1]
 have a1:=l2 (M i);have a2:=l2 (M j);rw[z1,s1]at a1;rw[z2,s2]at a2;rw[z0,a1,a2]at l1;omega
theorem Alt.swap{n i j:Nat}{φ:Fn->Int}(A:Alt n φ)(hi:i<n)(hj:j<n)(hij:i≠j)(M:Fn):φ (fun r=>M (sw i j r))= -φ M:=
 OG A.cg A.l7 hi hj hij (fun N h=>A.alt i j N hi hj hij h) M
theorem uO{n:Nat}{φ:Fn->Int}(cg:∀M M':Fn,(∀r c,r<n->c<n->M r c=M' r c)->φ M=φ M')
 (l7:∀(i:Nat) (M P Q:Fn) (a b:Int),i<n->(∀c,c<n->M i c=a*P i c+b*Q i c)->(∀r c,r<n->c<n->r≠i->M r c=P r c/\M r c=Q r c)->φ M=a*φ P+b*φ Q)
 (adj:∀(i:Nat) (M:Fn),i+1<n->(∀c,c<n->M i c=M (i+1) c)->φ M=0):Alt n φ:=by
 have far:∀(d i:Nat) (M:Fn),i+d+1<n->(∀c,c<n->M i c=M (i+d+1) c)->φ M=0:=by
  intro d;induction d with
  |zero=>exact fun i M h1 h2=>adj i M h1 h2
  |succ d ih=>
   intro i M h1 h2;have hs:=OG cg l7 (i:=i+d+1) (j:=i+d+1+1) (by omega) (by omega) (by omega) (fun N h=>adj (i+d+1) N (by omega) h) M
   have:φ (fun r=>M (sw (i+d+1) (i+d+1+1) r))=0:=ih i _ (by omega) fun c hc=>by
    have e1:sw (i+d+1) (i+d+1+1) i=i:=by unfold sw;rw[if_neg (by omega),if_neg (by omega)]
    have e2:sw (i+d+1) (i+d+1+1) (i+d+1)=i+d+1+1:=by unfold sw;rw[if_pos rfl]
    rw[e1,e2];exact h2 c hc
   omega
 refine⟨cg,l7,fun i j M hi hj hij h=>?_⟩;by_cases hlt:i<j
 . obtain⟨d,rfl⟩:∃d,j=i+d+1:=⟨j-i-1,by omega⟩
   exact far d i M hj h
 . obtain⟨d,rfl⟩:∃d,i=j+d+1:=⟨i-j-1,by omega⟩
   exact far d j M hi fun c hc=>(h c hc).symm
theorem iW(n:Nat):Alt n (D n):=uO (fun _ _ h=>cC h) (fun _ _ _ _ _ _ hi h0 h=>G_ hi h0 h) fun _ _ h1 h2=>Hb h1 h2
theorem Alt.EZ{n i:Nat}{φ:Fn->Int}(A:Alt n φ)(hi:i<n){M:Fn}(h:∀c,c<n->M i c=0):φ M=0:=by
 have:=A.l7 i M M M 0 0 hi (fun c hc=>by rw[h c hc];rfl) fun _ _ _ _ _=>⟨rfl,rfl⟩
 omega
theorem Alt.yr{n i:Nat}{φ:Fn->Int}(A:Alt n φ)(hi:i<n)(M:Fn)(t:Int)(x:Nat->Int):φ (upd M i fun c=>t*x c)=t*φ (upd M i x):=by
 have:=A.l7 i (upd M i fun c=>t*x c) (upd M i x) (upd M i x) t 0 hi (fun c hc=>by rw[cm,cm];omega) fun r c _ _ hr=>by rw[az hr,az hr];exact⟨rfl,rfl⟩
 omega
theorem Alt.D6{n i:Nat}{φ:Fn->Int}(A:Alt n φ)(hi:i<n)(M:Fn)(x y:Nat->Int):φ (upd M i fun c=>x c+y c)=φ (upd M i x)+φ (upd M i y):=by
 have:=A.l7 i (upd M i fun c=>x c+y c) (upd M i x) (upd M i y) 1 1 hi (fun c hc=>by rw[cm,cm,cm];omega) fun r c _ _ hr=>by rw[az hr,az hr,az hr];exact⟨rfl,rfl⟩
 omega
theorem Alt.lY{n i:Nat}{φ:Fn->Int}(A:Alt n φ)(hi:i<n)(M:Fn)(a:Nat->Int)(x:Nat->Nat->Int):∀m,φ (upd M i fun c=>S m fun j=>a j*x j c)=S m fun j=>a j*φ (upd M i (x j))
 |0=>A.EZ hi fun c _=>by rw[cm];rfl
 |m+1=>by
  have:(fun c=>S (m+1) fun j=>a j*x j c)=fun c=>(S m fun j=>a j*x j c)+a m*x m c:=rfl;rw[this,A.D6 hi,A.lY hi M a x m,A.yr hi];rfl
def un(j c:Nat):Nat:=if c<j then c else c-1
def grow(j:Nat)(B:Fn):Fn:=fun r c=>if r=0 then dl j c else if c=j then 0 else B (r-1) (un j c)
theorem uC{n j c:Nat}(hj:j<n+1)(hc:c<n+1)(h:c≠j):un j c<n:=by unfold un;split<;>omega
theorem Cy{j c:Nat}(h:c≠j):sk j (un j c)=c:=by unfold sk un;grind
theorem Alt.grow{n j:Nat}{φ:Fn->Int}(A:Alt (n+1) φ)(hj:j<n+1):Alt n fun B=>φ (Mx.grow j B) where
 cg:=fun M M' h=>A.cg _ _ fun r c hr hc=>by
  have:=h (r-1) (un j c);have:=uC (c:=c) hj hc;unfold Mx.grow;grind
 l7:=fun i M P Q a b hi h0 h=>A.l7 (i+1) _ _ _ a b (by omega) (fun c hc=>by
  have:=h0 (un j c);have:=uC (c:=c) hj hc;have e:i+1-1=i:=by omega
  unfold Mx.grow;rw[e];grind) fun r c hr hc hne=>by
  have:=h (r-1) (un j c);have:=uC (c:=c) hj hc;unfold Mx.grow;grind
 alt:=fun i k M hi hk hik h=>A.alt (i+1) (k+1) _ (by omega) (by omega) (by omega) fun c hc=>by
  have:=h (un j c);have:=uC (c:=c) hj hc;have e:i+1-1=i:=by omega
  have e2:k+1-1=k:=by omega
  unfold Mx.grow;rw[e,e2];grind
theorem Alt.units{n:Nat}{φ:Fn->Int}(A:Alt (n+1) φ):∀j,j<n+1->φ (Mx.grow j dl)=sg j*φ dl
 |0,_=>by
  rw[vS,Int.one_mul];refine A.cg _ _ fun r c hr hc=>?_;unfold Mx.grow un dl;grind
 |j+1,hj=>by
  have ih:=A.units j (by omega);have s:=A.swap (i:=0) (j:=j+1) (by omega) hj (by omega) (Mx.grow j dl);rw[wB,Int.neg_mul,<-ih,<-s];refine A.cg _ _ fun r c hr hc=>?_;unfold Mx.grow un dl sw;grind
theorem Alt.OR{n i k:Nat}{φ:Fn->Int}(A:Alt n φ)(hi:i<n)(hk:k<n)(hik:i≠k)(M:Fn)(x:Nat->Int)(t:Int):φ (upd M i fun c=>x c+t*M k c)=φ (upd M i x):=by
 rw[A.D6 hi,A.yr hi M t (M k),A.alt i k (upd M i (M k)) hi hk hik fun c _=>by rw[cm,az (Ne.symm hik)],Int.mul_zero,Int.add_zero]
def zr(j m:Nat)(M:Fn):Fn:=fun r c=>if r=0 then dl j c else if r<=m/\c=j then 0 else M r c
theorem Alt.zr{n j:Nat}{φ:Fn->Int}(A:Alt (n+1) φ)(M:Fn):∀m,m<=n->φ (Mx.zr j m M)=φ (upd M 0 (dl j))
 |0,_=>A.cg _ _ fun r c hr hc=>by unfold Mx.zr upd;grind
 |m+1,hm=>by
  rw[<-A.zr M m (by omega)];have e:=A.OR (i:=m+1) (k:=0) (by omega) (by omega) (by omega) (Mx.zr j m M) (M (m+1)) (-M (m+1) j)
  have e1:φ (Mx.zr j (m+1) M)=φ (upd (Mx.zr j m M) (m+1) fun c=>M (m+1) c+ -M (m+1) j*Mx.zr j m M 0 c):=A.cg _ _ fun r c hr hc=>by
   unfold upd Mx.zr dl;by_cases h0:r=m+1
   . subst h0;by_cases h1:c=j
     . subst h1;simp;omega
     . have:¬j=c:=fun z=>h1 z.symm;simp[h1,this]
   . rw[if_neg h0];grind
  have e2:φ (upd (Mx.zr j m M) (m+1) (M (m+1)))=φ (Mx.zr j m M):=A.cg _ _ fun r c hr hc=>by
   unfold upd Mx.zr;grind
  rw[e1,e,e2]
theorem Bw:∀ {n:Nat} {φ:Fn->Int},Alt n φ->∀M,φ M=φ dl*D n M
 |0,φ,A,M=>by rw[zI,Int.mul_one];exact A.cg _ _ fun r c hr=>by omega
 |n+1,φ,A,M=>by
  have h1:φ M=S (n+1) fun j=>M 0 j*φ (upd M 0 (dl j)):=by
   rw[<-A.lY (by omega) M (M 0) dl (n+1)];refine A.cg _ _ fun r c hr hc=>?_;by_cases h0:r=0
   . subst h0;rw[cm,o3 hc]
   . rw[az h0]
  have h2:∀j,j<n+1->φ (upd M 0 (dl j))=φ (Mx.grow j fun r c=>M (r+1) (sk j c)):=fun j hj=>by
   rw[<-A.zr M n (Nat.le_refl _)];refine A.cg _ _ fun r c hr hc=>?_;unfold Mx.grow Mx.zr;by_cases h0:r=0
   . rw[if_pos h0,if_pos h0]
   . rw[if_neg h0,if_neg h0];by_cases h3:c=j
     . rw[if_pos ⟨by omega,h3⟩,if_pos h3]
     . rw[if_neg (by omega),if_neg h3];dsimp only;rw[Cy h3,show r-1+1=r by omega]
  rw[h1,c_,<-cZ];refine av fun j hj=>?_;have h3:=Bw (A.grow hj) fun r c=>M (r+1) (sk j c);have h4:=A.units j hj;have h5:φ (Mx.grow j fun r c=>M (r+1) (sk j c))=φ (Mx.grow j dl)*D n fun r c=>M (r+1) (sk j c):=h3;rw[h2 j hj,h5,h4];grind
theorem wq:∀n,D n dl=1
 |0=>rfl
 |n+1=>by
  rw[c_,eZ (k:=0) (by omega) fun j hj h0=>by rw[cy (Ne.symm h0),Int.mul_zero,Int.zero_mul]]
  have:D n (fun r c=>dl (r+1) (sk 0 c))=D n dl:=cC fun r c _ _=>by
   unfold dl sk;grind
  rw[this,wq n,bT];rfl
theorem sG(n:Nat)(A B:Fn):D n (fun r c=>S n fun k=>A r k*B k c)=D n A*D n B:=by
 have al:Alt n fun A=>D n (fun r c=>S n fun k=>A r k*B k c):=by
  refine⟨fun M M' h=>cC fun r c hr hc=>av fun k hk=>by rw[h r k hr hk],fun i M P Q a b hi h0 h=>(iW n).l7 i _ _ _ a b hi (fun c hc=>?_) fun r c hr hc hne=>⟨av fun k hk=>by rw[(h r k hr hk hne).1],av fun k hk=>by rw[(h r k hr hk hne).2]⟩,fun i j M hi hj hij h=>(iW n).alt i j _ hi hj hij fun c hc=>av fun k hk=>by rw[h k hk]⟩;show(S n fun k=>M i k*B k c)=a*(S n fun k=>P i k*B k c)+b*S n fun k=>Q i k*B k c;rw[<-cZ,<-cZ,<-gK];refine av fun k hk=>?_;rw[h0 k hk];grind
 have h:=Bw al A;have e:D n (fun r c=>S n fun k=>dl r k*B k c)=D n B:=cC fun r c hr hc=>nJ hr fun k=>B k c;rw[h,e,Int.mul_comm]
theorem Dr:∀ {n:Nat} {M P Q:Fn} {a b:Int} {i:Nat},i<n->(∀r,r<n->M r i=a*P r i+b*Q r i)->(∀r c,r<n->c<n->c≠i->M r c=P r c/\M r c=Q r c)->D n M=a*D n P+b*D n Q
 |0,_,_,_,_,_,_,h,_,_=>by omega
 |n+1,M,P,Q,a,b,i,hi,h0,h=>by
  rw[c_,c_,c_,<-cZ,<-cZ,<-gK];refine av fun j hj=>?_;by_cases hij:j=i
  . subst hij;have hs:∀c,sk j c≠j:=fun c=>by unfold sk;split<;>omega
    have e1:D n (fun r c=>M (r+1) (sk j c))=D n (fun r c=>P (r+1) (sk j c)):=cC fun r c hr hc=>(h (r+1) (sk j c) (by omega) (jj hc) (hs c)).1;have e2:D n (fun r c=>M (r+1) (sk j c))=D n (fun r c=>Q (r+1) (sk j c)):=cC fun r c hr hc=>(h (r+1) (sk j c) (by omega) (jj hc) (hs c)).2;rw[h0 0 (by omega),<-e1,<-e2];grind
  . have p:=h 0 j (by omega) hj hij;have hu:sk j (un j i)=i:=Cy (Ne.symm hij);have hs:∀c,c≠un j i->sk j c≠i:=fun c hc=>by unfold sk;unfold un at hc;grind
    have hlt:un j i<n:=uC hj hi (Ne.symm hij)
    have e:=Dr (n:=n) (M:=fun r c=>M (r+1) (sk j c)) (P:=fun r c=>P (r+1) (sk j c)) (Q:=fun r c=>Q (r+1) (sk j c)) (a:=a) (b:=b) (i:=un j i) hlt (fun r hr=>by
     rw[hu];exact h0 (r+1) (by omega)) fun r c hr hc hne=>h (r+1) (sk j c) (by omega) (jj hc) (hs c hne)
    rw[e,<-p.1,<-p.2];grind
theorem Ey:∀ {n:Nat} {M:Fn} {i:Nat},i+1<n->(∀r,r<n->M r i=M r (i+1))->D n M=0
 |0,_,_,h,_=>by omega
 |n+1,M,i,hi,h=>by
  rw[c_]
  have key:∀j,j<n+1->j≠i->j≠i+1->D n (fun r c=>M (r+1) (sk j c))=0:=fun j hj h1 h2=>by
   refine Ey (i:=un j i) (by unfold un;split<;>omega) fun r hr=>?_;have e1:sk j (un j i)=i:=Cy (Ne.symm h1);have e2:sk j (un j i+1)=i+1:=by unfold sk un;grind
   rw[e1,e2];exact h (r+1) (by omega)
  have e:D n (fun r c=>M (r+1) (sk i c))=D n (fun r c=>M (r+1) (sk (i+1) c)):=cC fun r c hr hc=>by
   by_cases hc2:c=i
   . subst hc2;have a1:sk c c=c+1:=by unfold sk;rw[if_neg (by omega)]
     have a2:sk (c+1) c=c:=by unfold sk;rw[if_pos (by omega)]
     rw[a1,a2];exact(h (r+1) (by omega)).symm
   . have a1:sk i c=sk (i+1) c:=by unfold sk;grind
     rw[a1]
  have two:∀(m:Nat) (f:Nat->Int),i+1<m->(∀j,j<m->j≠i->j≠i+1->f j=0)->S m f=f i+f (i+1):=fun m=>by
   induction m with
   |zero=>intro f h;omega
   |succ m ih=>
    intro f hm hf;show S m f+f m=_;by_cases hmi:m=i+1
    . subst hmi;rw[eZ (k:=i) (by omega) fun j hj hne=>hf j (by omega) hne (by omega)]
    . rw[ih f (by omega) fun j hj h1 h2=>hf j (by omega) h1 h2,hf m (by omega) (by omega) hmi,Int.add_zero]
  rw[two (n+1) _ hi fun j hj h1 h2=>by rw[key j hj h1 h2,Int.mul_zero],e,wB,h 0 (by omega)];grind
def tr(M:Fn):Fn:=fun r c=>M c r
theorem v_(n:Nat)(M:Fn):D n (tr M)=D n M:=by
 have al:Alt n fun A=>D n (tr A):=uO (fun M M' h=>cC fun r c hr hc=>h c r hc hr)
  (fun i M P Q a b hi h0 h=>Dr hi (fun r hr=>h0 r hr) fun r c hr hc hne=>h c r hc hr hne)
  fun i M hi h=>Ey hi fun r hr=>h r hr
 have h:=Bw al M;have e:D n (tr dl)=D n dl:=cC fun r c _ _=>vJ c r;have h2:D n (tr M)=D n (tr dl)*D n M:=h;rw[h2,e,wq,Int.one_mul]
def Pr:Nat->(Nat->Int)->Int
 |0,_=>1
 |n+1,f=>Pr n f*f n
theorem AF:∀(n:Nat) (f:Nat->Int),Pr (n+1) f=f 0*Pr n fun i=>f (i+1)
 |0,f=>by show 1*f 0=f 0*1;omega
 |n+1,f=>by
  have:Pr (n+1+1) f=Pr (n+1) f*f (n+1):=rfl;rw[this,AF n f];have:Pr (n+1) (fun i=>f (i+1))=Pr n (fun i=>f (i+1))*f (n+1):=rfl;rw[this,Int.mul_assoc]
theorem CM:∀ {n:Nat} {M:Fn},(∀r c,r<n->c<n->r<c->M r c=0)->D n M=Pr n fun i=>M i i
 |0,_,_=>rfl
 |n+1,M,h=>by
  rw[c_,eZ (k:=0) (by omega) fun j hj h0=>by rw[h 0 j (by omega) hj (by omega),Int.mul_zero,Int.zero_mul],AF,vS,Int.one_mul];have s:∀c,sk 0 c=c+1:=fun c=>by unfold sk;rw[if_neg (by omega)]
  have e:D n (fun r c=>M (r+1) (sk 0 c))=Pr n fun i=>M (i+1) (i+1):=by
   rw[CM fun r c hr hc hrc=>by rw[s];exact h (r+1) (c+1) (by omega) (by omega) (by omega)];simp only[s]
  rw[e]
theorem B8{n:Nat}{M:Fn}(h:∀r c,r<n->c<n->c<r->M r c=0):D n M=Pr n fun i=>M i i:=by
 rw[<-v_ n M,CM (M:=tr M) fun r c hr hc hrc=>h c r hc hr hrc];rfl
theorem yy:∀ {n:Nat} {M:Fn},(∀c,c<n+1->M n c=dl n c)->D (n+1) M=D n M
 |0,M,h=>by
  rw[c_];show 0+sg 0*M 0 0*D 0 _=1;rw[h 0 (by omega),bT,vS,zI];omega
 |n+1,M,h=>by
  have e1:∀j,j<n+1->D (n+1) (fun r c=>M (r+1) (sk j c))=D n (fun r c=>M (r+1) (sk j c)):=fun j hj=>yy fun c hc=>by
   rw[h (sk j c) (jj hc)];unfold dl sk;grind
  have e2:D (n+1) (fun r c=>M (r+1) (sk (n+1) c))=0:=(iW (n+1)).EZ (i:=n) (by omega) fun c hc=>by
   have s:sk (n+1) c=c:=by unfold sk;rw[if_pos (by omega)]
   rw[s,h c (by omega),cy (by omega)]
  have e3:D (n+1+1) M=(S (n+1) fun j=>sg j*M 0 j*D (n+1) fun r c=>M (r+1) (sk j c))+sg (n+1)*M 0 (n+1)*D (n+1) (fun r c=>M (r+1) (sk (n+1) c)):=c_ (n+1) M;rw[e3,e2,Int.mul_zero,Int.add_zero,c_];exact av fun j hj=>by rw[e1 j hj]
def gx(R:Fn)(p:Nat)(x:Nat->Int)(j:Nat):Int:=D (p+1) fun r c=>if r<p then R r (if c<p then c else j)else x (if c<p then c else j)
theorem MF{R:Fn}{p j:Nat}{x:Nat->Int}(h:j<p):gx R p x j=0:=by
 unfold gx;rw[<-v_];refine(iW (p+1)).alt j p _ (by omega) (by omega) (by omega) fun c hc=>?_;unfold tr;dsimp only;rw[if_pos h,if_neg (Nat.lt_irrefl p)]
def bt(R:Fn)(p:Nat)(x:Nat->Int)(k:Nat):Int:=D (p+1) (upd (fun c r=>if r<p then R r c else x c) p (dl k))
theorem Nq(R:Fn)(p:Nat)(x:Nat->Int)(j:Nat):gx R p x j=D p R*x j+S p fun k=>bt R p x k*R k j:=by
 have e1:gx R p x j=D (p+1) (upd (fun c r=>if r<p then R r c else x c) p fun r=>S (p+1) fun k=>(if k<p then R k j else x j)*dl k r):=by
  unfold gx;rw[<-v_];refine cC fun c r hc hr=>?_;unfold tr upd;by_cases h:c=p
  . subst h;rw[if_pos rfl];dsimp only;rw[o3 hr,if_neg (Nat.lt_irrefl _)]
  . rw[if_neg h];dsimp only;rw[if_pos (show c<p by omega)]
 rw[e1,(iW (p+1)).lY (by omega)]
 have e2:D (p+1) (upd (fun c r=>if r<p then R r c else x c) p (dl p))=D p R:=by
  rw[yy fun c _=>cm _ _ _ _];rw[<-v_];refine cC fun r c hr hc=>?_;unfold tr;rw[az (by omega),if_pos (by omega)]
 have e3:(S (p+1) fun k=>(if k<p then R k j else x j)*D (p+1) (upd (fun c r=>if r<p then R r c else x c) p (dl k)))=(S p fun k=>(if k<p then R k j else x j)*D (p+1) (upd (fun c r=>if r<p then R r c else x c) p (dl k)))+(if p<p then R p j else x j)*D (p+1) (upd (fun c r=>if r<p then R r c else x c) p (dl p)):=rfl;rw[e3,e2,if_neg (Nat.lt_irrefl p),Int.add_comm,Int.mul_comm];congr 1;refine av fun k hk=>?_;rw[if_pos hk,Int.mul_comm];rfl
def cl(p j1 j2 c:Nat):Nat:=if c<p then c else if c=p then j1 else j2
theorem BV{n:Nat}{f:Nat->Int}{m:Nat}(h:∀i,i<n->(f i).natAbs<=m):(S n f).natAbs<=n*m:=by
 induction n with
 |zero=>simp[S]
 |succ n ih=>
  have h1:=ih fun i hi=>h i (by omega);have h2:=h n (by omega);show(S n f+f n).natAbs<=_;rw[Nat.succ_mul];omega
def lam(G:Fn)(i j:Nat):Int:=gx G j (G i) j
def Pc(A:Rows):Fn:=fun i j=>Lo (A.getD i []) (A.getD j [])
def Nt(G:Fn)(i:Nat):Row:=(List.range (i+1)).map fun j=>lam G i j
def LV(G:Fn)(n:Nat):Rows:=(List.range n).map (Nt G)
def RA(A:Rows)(N:Nat):Fn:=fun i j=>if j<N then Pc A i j else(A.getD i []).getD (j-N) 0
def ev(A:Rows)(N i k c:Nat):Int:=gx (RA A N) k (RA A N i) (N+c)
theorem BB(n:Nat)(a b:Int)(f g:Nat->Int):S n (fun c=>a*f c-b*g c)=a*S n f-b*S n g:=by
 induction n with
 |zero=>show(0:Int)=a*0-b*0;omega
 |succ n ih=>
  show S n (fun c=>a*f c-b*g c)+(a*f n-b*g n)=a*(S n f+f n)-b*(S n g+g n);rw[ih,Int.mul_add,Int.mul_add];omega
section
variable {A:Rows}{N w:Nat}
end
def Qb(M:Fn)(k j:Nat)(q:Int):Fn:=fun a b=>if a=k then M a b-q*M j b else M a b
def PZ(M:Fn)(k j:Nat)(q:Int):Fn:=fun a b=>if b=k then M a b-q*M a j else M a b
def tk(G:Fn)(k j:Nat)(q:Int):Fn:=PZ (Qb G k j q) k j q
section
variable {G:Fn}{t:Nat}(sym:∀i j,G i j=G j i)
include sym
end
section
variable {A:Rows}{N w:Nat}
theorem cD(hA:ck N w A){i:Nat}(hi:i<N):(A.getD i []).length=w:=hA.j5 _ (by have:=hA.len;rw[bE (by omega)];exact List.getElem_mem _)
end
def bN(A:Rows)(k:Nat)(q:Int)(j:Nat):Rows:=A.set k (fV (A.getD k []) (-q) (A.getD j []))
def bI(A:Rows)(k o:Nat):Rows:=(A.set k (A.getD o [])).set o (A.getD k [])
theorem kE{A:Rows}{k i:Nat}{r:Row}(hk:k<A.length):(A.set k r).getD i []=if i=k then r else A.getD i []:=by
 rw[List.getD_eq_getElem?_getD,List.getElem?_set];by_cases h:k=i
 . rw[if_pos h,if_pos (by omega),if_pos h.symm];rfl
 . rw[if_neg h,if_neg (Ne.symm h),List.getD_eq_getElem?_getD]
theorem CY{A:Rows}{k j:Nat}{q:Int}:(bN A k q j).length=A.length:=by unfold bN;rw[List.length_set]
theorem tU{A:Rows}{N w k j:Nat}{q:Int}(hA:ck N w A)(hk:k<N)(hj:j<N):ck N w (bN A k q j):=by
 refine⟨CY.trans hA.len,fun r hr=>?_⟩;unfold bN at hr;rcases List.mem_or_eq_of_mem_set hr with h|rfl
 . exact hA.j5 r h
 . rw[kJ (by rw[cD hA hk,cD hA hj]),cD hA hk]
structure Tn(A0 A U C:Rows)(N w:Nat):Prop where
 isA:ck N w A
 fi:ck N N U
 gb:ck N N C
 ua:∀i c,i<N->c<w->g A i c=S N fun k=>g U i k*g A0 k c
 ub:∀i j,i<N->j<N->S N (fun k=>g U i k*g C j k)=dl i j
 bu:∀i j,i<N->j<N->S N (fun k=>g C k i*g U k j)=dl i j
theorem fe{A:Rows}{N w k j:Nat}{q:Int}(hA:ck N w A)(hk:k<N)(hj:j<N)(i c:Nat):g (bN A k q j) i c=if i=k then g A k c-q*g A j c else g A i c:=by
 unfold g bN;have hl:=hA.len;rw[kE (by omega)];by_cases h:i=k
 . rw[if_pos h,if_pos h,sA (by rw[cD hA hk,cD hA hj]),Int.neg_mul];omega
 . rw[if_neg h,if_neg h]
theorem u9(n:Nat)(a b:Int)(f h:Nat->Int):S n (fun c=>a*f c+b*h c)=a*S n f+b*S n h:=by
 rw[gK,cZ,cZ]
theorem Tn.take{A0 A U C:Rows}{N w k j:Nat}{q:Int}(T:Tn A0 A U C N w)(hk:k<N)(hj:j<N)(hkj:j≠k):Tn A0 (bN A k q j) (bN U k q j) (bN C j (-q) k) N w where
 isA:=tU T.isA hk hj
 fi:=tU T.fi hk hj
 gb:=tU T.gb hj hk
 ua:=fun i c hi hc=>by
  rw[fe T.isA hk hj];have e:S N (fun m=>g (bN U k q j) i m*g A0 m c)=S N fun m=>(if i=k then g U k m-q*g U j m else g U i m)*g A0 m c:=av fun m _=>by rw[fe T.fi hk hj]
  rw[e];by_cases h:i=k
  . simp only[if_pos h];rw[T.ua k c hk hc,T.ua j c hj hc];have e2:S N (fun m=>(g U k m-q*g U j m)*g A0 m c)=S N fun m=>1*(g U k m*g A0 m c)-q*(g U j m*g A0 m c):=av fun m _=>by grind
    rw[e2,BB];omega
  . simp only[if_neg h];exact T.ua i c hi hc
 ub:=fun i l hi hl=>by
  have e:S N (fun m=>g (bN U k q j) i m*g (bN C j (-q) k) l m)=S N fun m=>(if i=k then g U k m-q*g U j m else g U i m)*(if l=j then g C j m- -q*g C k m else g C l m):=av fun m _=>by rw[fe T.fi hk hj,fe T.gb hj hk]
  rw[e];have djk:dl j k=0:=cy hkj;by_cases h:i=k
  . by_cases h2:l=j
    . simp only[if_pos h,if_pos h2];have e2:S N (fun m=>(g U k m-q*g U j m)*(g C j m- -q*g C k m))=S N fun m=>1*(1*(g U k m*g C j m)+q*(g U k m*g C k m))-q*(1*(g U j m*g C j m)+q*(g U j m*g C k m)):=av fun m _=>by grind
      rw[e2,BB,u9,u9,T.ub k j hk hj,T.ub k k hk hk,T.ub j j hj hj,T.ub j k hj hk,h,h2,bT,bT,djk,vJ k j,djk];omega
    . simp only[if_pos h,if_neg h2];have e2:S N (fun m=>(g U k m-q*g U j m)*g C l m)=S N fun m=>1*(g U k m*g C l m)-q*(g U j m*g C l m):=av fun m _=>by grind
      rw[e2,BB,T.ub k l hk hl,T.ub j l hj hl,h,cy (Ne.symm h2)];omega
  . by_cases h2:l=j
    . simp only[if_neg h,if_pos h2];have e2:S N (fun m=>g U i m*(g C j m- -q*g C k m))=S N fun m=>1*(g U i m*g C j m)+q*(g U i m*g C k m):=av fun m _=>by grind
      rw[e2,u9,T.ub i j hi hj,T.ub i k hi hk,h2,cy h];omega
    . simp only[if_neg h,if_neg h2];exact T.ub i l hi hl
 bu:=fun i l hi hl=>by
  have e:S N (fun m=>g (bN C j (-q) k) m i*g (bN U k q j) m l)=S N fun m=>g C m i*g U m l+((q*(g C k i*g U j l))*dl m j+(-(q*(g C k i*g U j l)))*dl m k):=av fun m _=>by
   rw[fe T.fi hk hj,fe T.gb hj hk];by_cases h1:m=j
   . have h2:m≠k:=by omega
     rw[if_pos h1,if_neg h2,h1,bT,cy hkj];grind
   . rw[if_neg h1,cy h1];by_cases h2:m=k
     . rw[if_pos h2,h2,bT];grind
     . rw[if_neg h2,cy h2];grind
  rw[e,gK,u9,T.bu i l hi hl]
  have e1:S N (fun c=>dl c j)=1:=by
   rw[eZ hj fun i _ h=>cy h,bT]
  have e2:S N (fun c=>dl c k)=1:=by
   rw[eZ hk fun i _ h=>cy h,bT]
  rw[e1,e2];omega
theorem zZ{A:Rows}{k o i:Nat}(hk:k<A.length)(ho:o<A.length):(bI A k o).getD i []=A.getD (sw k o i) []:=by
 unfold bI;rw[kE (by rw[List.length_set];exact ho),kE hk];unfold sw;by_cases h1:i=k
 . rw[if_pos h1,if_pos h1];by_cases h2:i=o
   . rw[if_pos h2,<-h1,<-h2]
   . rw[if_neg h2]
 . rw[if_neg h1,if_neg h1];by_cases h2:i=o
   . rw[if_pos h2,if_pos h2]
   . rw[if_neg h2,if_neg h2]
theorem ug{A:Rows}{N w k o:Nat}(hA:ck N w A)(hk:k<N)(ho:o<N):ck N w (bI A k o):=by
 refine⟨by unfold bI;rw[List.length_set,List.length_set];exact hA.len,fun r hr=>?_⟩;unfold bI at hr;rcases List.mem_or_eq_of_mem_set hr with h|rfl
 . rcases List.mem_or_eq_of_mem_set h with h|rfl
   . exact hA.j5 r h
   . exact cD hA ho
 . exact cD hA hk
theorem jL{A:Rows}{N w k o:Nat}(hA:ck N w A)(hk:k<N)(ho:o<N)(i c:Nat):g (bI A k o) i c=g A (sw k o i) c:=by
 unfold g;rw[zZ (by have:=hA.len;omega) (by have:=hA.len;omega)]
theorem q_{k o N i:Nat}(hk:k<N)(ho:o<N)(hi:i<N):sw k o i<N:=by unfold sw;split<;>(try split)<;>assumption
theorem EH(k o x:Nat):sw k o (sw k o x)=x:=by
 unfold sw;by_cases h1:x=k
 . subst h1;rw[if_pos rfl];by_cases h2:o=x
   . rw[if_pos h2];exact h2
   . rw[if_neg h2,if_pos rfl]
 . rw[if_neg h1];by_cases h2:x=o
   . subst h2;rw[if_pos rfl,if_pos rfl]
   . rw[if_neg h2,if_neg h1,if_neg h2]
theorem NR{k o a b:Nat}:dl (sw k o a) (sw k o b)=dl a b:=by
 by_cases h:a=b
 . rw[h,bT,bT]
 . rw[cy h,cy fun z=>h (by rw[<-EH k o a,<-EH k o b,z])]
theorem JN(k x:Nat):sw k k x=x:=by
 unfold sw;by_cases h:x=k
 . rw[if_pos h,h]
 . rw[if_neg h,if_neg h]
theorem Nw{n i j:Nat}(hi:i<n)(hj:j<n)(f:Nat->Int):S n (fun k=>f (sw i j k))=S n f:=by
 by_cases h:i=j
 . subst h;exact av fun k _=>by rw[JN]
 . exact Pk hi hj h f
theorem Tn.Hi{A0 A U C:Rows}{N w k o:Nat}(T:Tn A0 A U C N w)(hk:k<N)(ho:o<N):Tn A0 (bI A k o) (bI U k o) (bI C k o) N w where
 isA:=ug T.isA hk ho
 fi:=ug T.fi hk ho
 gb:=ug T.gb hk ho
 ua:=fun i c hi hc=>by
  rw[jL T.isA hk ho,T.ua _ c (q_ hk ho hi) hc];exact av fun m _=>by rw[jL T.fi hk ho]
 ub:=fun i j hi hj=>by
  rw[<-NR (k:=k) (o:=o),<-T.ub _ _ (q_ hk ho hi) (q_ hk ho hj)];exact av fun m _=>by rw[jL T.fi hk ho,jL T.gb hk ho]
 bu:=fun i j hi hj=>by
  rw[<-T.bu i j hi hj,<-Nw hk ho fun m=>g C m i*g U m j];exact av fun m _=>by rw[jL T.fi hk ho,jL T.gb hk ho]
def gq(A:Rows)(k:Nat):Rows:=A.set k ((A.getD k []).map fun x=> -x)
theorem ze{A:Rows}{N w k:Nat}(hA:ck N w A)(hk:k<N):ck N w (gq A k):=by
 refine⟨by unfold gq;rw[List.length_set];exact hA.len,fun r hr=>?_⟩;unfold gq at hr;rcases List.mem_or_eq_of_mem_set hr with h|rfl
 . exact hA.j5 r h
 . rw[List.length_map];exact cD hA hk
theorem F5(r:Row)(c:Nat):(r.map fun x=> -x).getD c 0= -r.getD c 0:=by
 rw[List.getD_eq_getElem?_getD,List.getD_eq_getElem?_getD,List.getElem?_map];cases r[c]?<;>rfl
theorem jR{A:Rows}{N w k:Nat}(hA:ck N w A)(hk:k<N)(i c:Nat):g (gq A k) i c=if i=k then-g A k c else g A i c:=by
 unfold g gq;rw[kE (by have:=hA.len;omega)];by_cases h:i=k
 . rw[if_pos h,if_pos h,F5]
 . rw[if_neg h,if_neg h]
theorem Tn.neg{A0 A U C:Rows}{N w k:Nat}(T:Tn A0 A U C N w)(hk:k<N):Tn A0 (gq A k) (gq U k) (gq C k) N w where
 isA:=ze T.isA hk
 fi:=ze T.fi hk
 gb:=ze T.gb hk
 ua:=fun i c hi hc=>by
  rw[jR T.isA hk];by_cases h:i=k
  . rw[if_pos h,T.ua k c hk hc,<-sJ];exact av fun m _=>by rw[jR T.fi hk,if_pos h,Int.neg_mul]
  . rw[if_neg h,T.ua i c hi hc];exact av fun m _=>by rw[jR T.fi hk,if_neg h]
 ub:=fun i j hi hj=>by
  have e:S N (fun m=>g (gq U k) i m*g (gq C k) j m)=S N fun m=>(if i=k then-1 else 1)*(if j=k then-1 else 1)*(g U i m*g C j m):=av fun m _=>by
   rw[jR T.fi hk,jR T.gb hk];by_cases h1:i=k<;>by_cases h2:j=k<;>simp only[h1,h2,if_true,if_false]<;>grind
  rw[e,cZ,T.ub i j hi hj];by_cases h1:i=k
  . by_cases h2:j=k
    . simp[h1,h2]
    . rw[cy (by omega)];simp
  . by_cases h2:j=k
    . rw[cy (by omega)];simp
    . simp[h1,h2]
 bu:=fun i j hi hj=>by
  rw[<-T.bu i j hi hj]
  exact av fun m _=>by
   rw[jR T.fi hk,jR T.gb hk];by_cases h:m=k
   . subst h;rw[if_pos rfl,if_pos rfl];grind
   . rw[if_neg h,if_neg h]
structure mi(A:Rows)(N top p:Nat)(L:List Nat):Prop where
 mem:∀k,k∈L↔top<=k/\k<N/\g A k p≠0
 ord:L.Pairwise fun i j=>(g A i p).natAbs<=(g A j p).natAbs
 nd:L.Nodup
structure B3 where
 A:Rows
 U:Rows
 C:Rows
def qn(x y:Int):Int:=(2*x+y).fdiv (2*y)
def kj(b:B3)(p k j:Nat):B3:=⟨bN b.A k (qn (g b.A k p) (g b.A j p)) j,bN b.U k (qn (g b.A k p) (g b.A j p)) j,bN b.C j (-(qn (g b.A k p) (g b.A j p))) k⟩
def GC(N top p:Nat)(b c:B3):Prop:=∃(L:List Nat) (k j:Nat),mi b.A N top p (L++[j,k])/\c=kj b p k j
inductive jb(N top p:Nat):B3->B3->Prop
 |refl (b:B3):jb N top p b b
 |head {b c d:B3} (h:GC N top p b c) (t:jb N top p c d):jb N top p b d
theorem jb.tail{N top p:Nat}{b c d:B3}(h:jb N top p b c)(t:GC N top p c d):jb N top p b d:=by
 induction h with
 |refl b=>exact .head t (.refl _)
 |head x _ ih=>exact .head x (ih t)
def gc(X:Rows)(N top m:Nat):Prop:=∀i c,top<=i->i<N->(g X i c).natAbs<=m
def PR(f:Nat->Nat):Nat->Nat
 |0=>1
 |n+1=>PR f n*f n
theorem D2{f:Nat->Nat}(h:∀i,1<=f i):∀n,1<=PR f n
 |0=>Nat.le_refl _
 |n+1=>Nat.mul_le_mul (D2 h n) (h n)
theorem yY{f f':Nat->Nat}:∀ {n:Nat},(∀i,i<n->f i=f' i)->PR f n=PR f' n
 |0,_=>rfl
 |n+1,h=>by
  show PR f n*f n=PR f' n*f' n;rw[yY fun i hi=>h i (Nat.lt_succ_of_lt hi),h n (Nat.lt_succ_self n)]
theorem ET{f f':Nat->Nat}{k:Nat}:∀ {n:Nat},k<n->(∀i,i≠k->f i=f' i)->PR f n*f' k=PR f' n*f k
 |0,hk,_=>absurd hk (Nat.not_lt_zero _)
 |n+1,hk,h=>by
  show PR f n*f n*f' k=PR f' n*f' n*f k;by_cases e:k=n
  . subst e;rw[yY (n:=k) fun i hi=>h i (Nat.ne_of_lt hi),Nat.mul_assoc,Nat.mul_comm (f k),Nat.mul_assoc]
  . have:=ET (n:=n) (by omega) h;rw[h n (Ne.symm e),Nat.mul_right_comm,this,Nat.mul_right_comm]
theorem Gq{f:Nat->Nat}{m top:Nat}(hm:1<=m):∀ {n:Nat},(∀i,i<n->i<top->f i<=1)->(∀i,i<n->f i<=m)->PR f n<=m^(n-top)
 |0,_,_=>by simp[PR]
 |n+1,h1,h2=>by
  have ih:=Gq hm (n:=n) (fun i hi=>h1 i (Nat.lt_succ_of_lt hi)) fun i hi=>h2 i (Nat.lt_succ_of_lt hi);show PR f n*f n<=_;by_cases ht:n<top
  . have z:n+1-top=n-top:=by omega
    rw[z];exact Nat.le_trans (Nat.mul_le_mul ih (h1 n (Nat.lt_succ_self n) ht)) (by rw[Nat.mul_one];exact Nat.le_refl _)
  . have z:n+1-top=(n-top)+1:=by omega
    rw[z,Nat.pow_succ];exact Nat.mul_le_mul ih (h2 n (Nat.lt_succ_self n))
def wt(A:Rows)(top p i:Nat):Nat:=if top<=i/\g A i p≠0 then 2*(g A i p).natAbs else 1
theorem Dc(A:Rows)(top p i:Nat):1<=wt A top p i:=by
 unfold wt;split<;>omega
theorem AO{x y:Int}(hy:y≠0):2*(x-qn x y*y).natAbs<=y.natAbs:=by
 unfold qn;have h1:=Int.mul_fdiv_add_fmod (2*x+y) (2*y);have h2:(2*x+y).fmod (2*y)=2*x+y-2*y*(2*x+y).fdiv (2*y):=by omega
 generalize(2*x+y).fdiv (2*y)=q at*;have e:2*(x-q*y)=(2*x+y).fmod (2*y)-y:=by rw[h2];grind
 rcases Int.lt_or_gt_of_ne hy with h|h
 . have a0:=Int.neg_fmod_neg (2*x+y) (2*y);have a1:=Int.fmod_nonneg_of_pos (-(2*x+y)) (show 0< -(2*y) by omega);have a2:=Int.fmod_lt_of_pos (-(2*x+y)) (show 0< -(2*y) by omega);omega
 . have a1:=Int.fmod_nonneg_of_pos (2*x+y) (show 0<2*y by omega);have a2:=Int.fmod_lt_of_pos (2*x+y) (show 0<2*y by omega);omega
theorem Jc{x y:Int}(hy:y≠0)(hxy:y.natAbs<=x.natAbs):(1+(qn x y).natAbs)*(if x-qn x y*y≠0 then 2*(x-qn x y*y).natAbs else 1)<=2*x.natAbs:=by
 have h2:=AO (x:=x) hy;generalize qn x y=q at*;generalize hr:x-q*y=r at*;have hx:x=q*y+r:=by omega
 have hq:(q*y).natAbs=q.natAbs*y.natAbs:=Int.natAbs_mul ..;by_cases h0:r=0
 . rw[if_neg (fun z=>z h0),Nat.mul_one];subst h0;have hxa:x.natAbs=q.natAbs*y.natAbs:=by rw[<-hq,hx];simp
   have hy1:1<=y.natAbs:=by omega
   have hq1:1<=q.natAbs:=by
    rcases Nat.eq_zero_or_pos q.natAbs with z|z
    . rw[z,Nat.zero_mul]at hxa;omega
    . exact z
   have:q.natAbs<=q.natAbs*y.natAbs:=Nat.le_mul_of_pos_right _ hy1;omega
 . rw[if_pos h0];have hr1:1<=r.natAbs:=by omega
   have key:(1+q.natAbs)*r.natAbs<=x.natAbs:=by
    rcases Nat.lt_or_ge q.natAbs 2 with hlt|hge
    . rcases Nat.lt_or_ge q.natAbs 1 with h|h
      . have zq:q=0:=Int.natAbs_eq_zero.mp (Nat.le_zero.mp (Nat.le_of_lt_succ h));subst zq;simp at hx;subst hx;simp
      . have z:q.natAbs=1:=Nat.le_antisymm (Nat.le_of_lt_succ hlt) h;rw[z];exact Nat.le_trans h2 hxy
    . have h3:(q*y).natAbs<=x.natAbs+r.natAbs:=by omega
      rw[hq]at h3;have h4:q.natAbs*(2*r.natAbs)<=q.natAbs*y.natAbs:=Nat.mul_le_mul_left _ h2;have h5:2*r.natAbs<=q.natAbs*r.natAbs:=Nat.mul_le_mul_right _ hge;have h6:q.natAbs*(2*r.natAbs)=q.natAbs*r.natAbs+q.natAbs*r.natAbs:=by rw[Nat.mul_left_comm];omega
      rw[Nat.add_mul,Nat.one_mul];omega
   have:(1+q.natAbs)*(2*r.natAbs)=2*((1+q.natAbs)*r.natAbs):=by rw[Nat.mul_left_comm]
   omega
structure tw(A0:Rows)(N w top p m:Nat)(b0 b:B3)(gr:Nat):Prop where
 tn:Tn A0 b.A b.U b.C N w
 up:∀i,i<top->b.A.getD i []=b0.A.getD i []/\b.U.getD i []=b0.U.getD i []/\b.C.getD i []=b0.C.getD i []
 lA:gc b.A N top (m*gr)
 lU:gc b.U N top (m*gr)
 lC:gc b.C N top (m*gr)
 zs:∀i c,top<=i->i<N->c<p->g b.A i c=0
 Oh:gr*PR (wt b.A top p) N<=PR (wt b0.A top p) N
 pos:1<=gr
 MX:b=b0\/∃j,top<=j/\j<N/\g b.A j p≠0
theorem ud{X:Rows}{N w top k j m gr:Nat}{q:Int}(hX:ck N w X)(hk:k<N)(hj:j<N)(hkt:top<=k)(hjt:top<=j)(h:gc X N top (m*gr)):gc (bN X k q j) N top (m*(gr*(1+q.natAbs))):=fun i c hi hN=>by
 rw[fe hX hk hj];have e:m*(gr*(1+q.natAbs))=m*gr+q.natAbs*(m*gr):=by rw[<-Nat.mul_assoc,Nat.mul_add,Nat.mul_one,Nat.mul_comm (m*gr) q.natAbs]
 rw[e];by_cases hik:i=k
 . rw[if_pos hik];have h1:=h k c hkt hk;have h2:=h j c hjt hj;have h3:(q*g X j c).natAbs<=q.natAbs*(m*gr):=by rw[Int.natAbs_mul];exact Nat.mul_le_mul_left _ h2
   exact Nat.le_trans (Int.natAbs_sub_le _ _) (Nat.add_le_add h1 h3)
 . rw[if_neg hik];exact Nat.le_trans (h i c hi hN) (Nat.le_add_right _ _)
theorem jM{X:Rows}{k j i:Nat}{q:Int}(hk:k<X.length)(h:i≠k):(bN X k q j).getD i []=X.getD i []:=by
 unfold bN;rw[kE hk,if_neg h]
theorem half_lt{r y x:Nat}(h:2*r<=y)(h2:y<=x)(h3:0<x):r<x:=by omega
theorem tw.step{A0:Rows}{N w top p m gr:Nat}{b0 b:B3}{L:List Nat}{k j:Nat}(G:tw A0 N w top p m b0 b gr)(hp:p<w)(hL:mi b.A N top p (L++[j,k])):
 tw A0 N w top p m b0 (kj b p k j) (gr*(1+(qn (g b.A k p) (g b.A j p)).natAbs))/\(g (kj b p k j).A k p).natAbs<(g b.A k p).natAbs/\(∀i,i≠k->g (kj b p k j).A i p=g b.A i p)/\top<=k/\k<N/\top<=j/\j<N/\j≠k/\g b.A j p≠0:=by
 obtain⟨hk1,hk2,hk3⟩:=(hL.mem k).mp (by simp);obtain⟨hj1,hj2,hj3⟩:=(hL.mem j).mp (by simp);have hord:=hL.ord;rw[List.pairwise_append]at hord;have hle:=(List.pairwise_cons.mp hord.2.1).1 k (by simp);have hnd:=hL.nd;rw[List.nodup_append]at hnd;have hjk:j≠k:=fun z=>(List.nodup_cons.mp hnd.2.1).1 (by rw[z];exact List.mem_singleton.mpr rfl)
 have gk:g (kj b p k j).A k p=g b.A k p-qn (g b.A k p) (g b.A j p)*g b.A j p:=by
  show g (bN b.A k _ j) k p=_;rw[fe G.tn.isA hk2 hj2,if_pos rfl]
 have gi:∀i,i≠k->g (kj b p k j).A i p=g b.A i p:=fun i hi=>by
  show g (bN b.A k _ j) i p=_;rw[fe G.tn.isA hk2 hj2,if_neg hi]
 have hrest:=AO (x:=g b.A k p) hj3;have hgrow:=Jc (x:=g b.A k p) hj3 hle;refine⟨⟨G.tn.take hk2 hj2 hjk,fun i hi=>?_,ud G.tn.isA hk2 hj2 hk1 hj1 G.lA,ud G.tn.fi hk2 hj2 hk1 hj1 G.lU,?_,fun i c hi hN hc=>?_,?_,?_,.inr ⟨j,hj1,hj2,by rw[gi j hjk];exact hj3⟩⟩,?_,gi,hk1,hk2,hj1,hj2,hjk,hj3⟩
 . obtain⟨a1,a2,a3⟩:=G.up i hi;refine⟨(jM (by rw[G.tn.isA.len];exact hk2) (by omega)).trans a1,(jM (by rw[G.tn.fi.len];exact hk2) (by omega)).trans a2,(jM (by rw[G.tn.gb.len];exact hj2) (by omega)).trans a3⟩
 . have:=ud (q:= -(qn (g b.A k p) (g b.A j p))) G.tn.gb hj2 hk2 hj1 hk1 G.lC;rw[Int.natAbs_neg]at this;exact this
 . show g (bN b.A k _ j) i c=0;rw[fe G.tn.isA hk2 hj2];by_cases h:i=k
   . rw[if_pos h,G.zs k c hk1 hk2 hc,G.zs j c hj1 hj2 hc,Int.mul_zero];rfl
   . rw[if_neg h];exact G.zs i c hi hN hc
 . have e:=ET (f:=wt (kj b p k j).A top p) (f':=wt b.A top p) (k:=k) hk2 fun i hi=>by unfold wt;rw[gi i hi]
   have w1:wt b.A top p k=2*(g b.A k p).natAbs:=by unfold wt;rw[if_pos ⟨hk1,hk3⟩]
   have w2:(1+(qn (g b.A k p) (g b.A j p)).natAbs)*wt (kj b p k j).A top p k<=wt b.A top p k:=by
    rw[w1];unfold wt;rw[gk];by_cases h0:g b.A k p-qn (g b.A k p) (g b.A j p)*g b.A j p=0
    . rw[if_neg (fun z=>z.2 h0)];rw[if_neg (fun z=>z h0)]at hgrow;exact hgrow
    . rw[if_pos ⟨hk1,h0⟩];rw[if_pos h0]at hgrow;exact hgrow
   have hw:0<wt b.A top p k:=Dc _ _ _ _;refine Nat.le_of_mul_le_mul_right (c:=wt b.A top p k) ?_ hw
   have s1:gr*(1+(qn (g b.A k p) (g b.A j p)).natAbs)*PR (wt (kj b p k j).A top p) N*wt b.A top p k=gr*PR (wt b.A top p) N*((1+(qn (g b.A k p) (g b.A j p)).natAbs)*wt (kj b p k j).A top p k):=by
    rw[Nat.mul_assoc _ (PR _ N),e];simp only[Nat.mul_assoc,Nat.mul_left_comm]
   rw[s1];exact Nat.mul_le_mul G.Oh w2
 . exact Nat.mul_pos G.pos (by omega)
 . rw[gk];exact half_lt hrest hle (Int.natAbs_pos.mpr hk3)
theorem tw.low{A0:Rows}{N w top p e gr:Nat}{b0 b:B3}(G:tw A0 N w top p (2^e) b0 b gr)(h0:gc b0.A N top (2^e)):2^e*gr<=2^((N-top+1)*(e+1)):=by
 have h1:gr<=PR (wt b0.A top p) N:=Nat.le_trans (Nat.le_mul_of_pos_right _ (D2 (Dc _ _ _) N)) G.Oh
 have h2:PR (wt b0.A top p) N<=(2^(e+1))^(N-top):=Gq Nat.one_le_two_pow (fun i _ ht=>by unfold wt;rw[if_neg (by omega)];exact Nat.le_refl _) fun i hi=>by
  unfold wt;split
  . rename_i h;have:=h0 i p h.1 hi;rw[Nat.pow_succ];omega
  . exact Nat.one_le_two_pow
 refine Nat.le_trans (Nat.mul_le_mul_left _ (Nat.le_trans h1 h2)) ?_;rw[<-Nat.pow_mul,<-Nat.pow_add];refine Nat.pow_le_pow_right (by decide) ?_;have e1:(N-top+1)*(e+1)=(e+1)*(N-top)+(e+1):=by rw[Nat.add_mul,Nat.one_mul,Nat.mul_comm]
 rw[e1];omega
structure j7(A0:Rows)(N w:Nat)(b:B3)(top p:Nat)(ld:Nat->Nat)(e u:Nat):Prop where
 tn:Tn A0 b.A b.U b.C N w
 le:top<=N
 lo:gc b.A N top (2^e)/\gc b.U N top (2^e)/\gc b.C N top (2^e)
 hi:∀i c,i<top->(g b.A i c).natAbs<=2^u/\(g b.U i c).natAbs<=2^u/\(g b.C i c).natAbs<=2^u
 zs:∀i c,top<=i->i<N->c<p->g b.A i c=0
 lead:∀i,i<top->ld i<p/\0<g b.A i (ld i)/\∀c,c<ld i->g b.A i c=0
 mono:∀i j,i<j->j<top->ld i<ld j
 red:∀i j,i<j->j<top->0<=g b.A i (ld j)/\g b.A i (ld j)<g b.A j (ld j)
def setB(b:B3)(p top r:Nat):B3:=
 if g (bI b.A top r) top p<0 then⟨gq (bI b.A top r) top,gq (bI b.U top r) top,gq (bI b.C top r) top⟩else⟨bI b.A top r,bI b.U top r,bI b.C top r⟩
theorem ux{X:Rows}{N w top r m:Nat}(hX:ck N w X)(ht:top<N)(hr:r<N)(hrt:top<=r)(h:gc X N top m):gc (bI X top r) N top m:=fun i c hi hN=>by
 rw[jL hX ht hr];refine h _ c ?_ (q_ ht hr hN);unfold sw;split
 . exact hrt
 . split
   . exact Nat.le_refl _
   . exact hi
theorem zd{X:Rows}{N w top m:Nat}(hX:ck N w X)(ht:top<N)(h:gc X N top m):gc (gq X top) N top m:=fun i c hi hN=>by
 rw[jR hX ht];split
 . rw[Int.natAbs_neg];exact h top c (Nat.le_refl _) ht
 . exact h i c hi hN
theorem tN{X:Rows}{N w top r i:Nat}(hX:ck N w X)(ht:top<N)(hr:r<N)(hrt:top<=r)(hi:i<top):(bI X top r).getD i []=X.getD i []:=by
 rw[zZ (by have:=hX.len;omega) (by have:=hX.len;omega)];unfold sw;rw[if_neg (by omega),if_neg (by omega)]
theorem yl{X:Rows}{N w top i:Nat}(hX:ck N w X)(ht:top<N)(hi:i<top):(gq X top).getD i []=X.getD i []:=by
 unfold gq;rw[kE (by have:=hX.len;omega),if_neg (by omega)]
structure vI(A0:Rows)(N w top p m:Nat)(b0 b:B3):Prop where
 tn:Tn A0 b.A b.U b.C N w
 up:∀i,i<top->b.A.getD i []=b0.A.getD i []/\b.U.getD i []=b0.U.getD i []/\b.C.getD i []=b0.C.getD i []
 lo:gc b.A N top m/\gc b.U N top m/\gc b.C N top m
 zs:∀i c,top<=i->i<N->c<p->g b.A i c=0
 tp:0<g b.A top p
 z1:∀i,top<i->i<N->g b.A i p=0
theorem tw.set{A0:Rows}{N w top p m gr r:Nat}{b0 b:B3}(G:tw A0 N w top p m b0 b gr)(hL:mi b.A N top p [r]):vI A0 N w top p (m*gr) b0 (setB b p top r)/\top<=r/\r<N:=by
 obtain⟨hr1,hr2,hr3⟩:=(hL.mem r).mp (by simp);have ht:top<N:=by omega
 have z:∀i,top<=i->i<N->i≠r->g b.A i p=0:=fun i h1 h2 h3=>Classical.byContradiction fun y=>h3 (by simpa using(hL.mem i).mpr ⟨h1,h2,y⟩);have swg:∀i c,g (bI b.A top r) i c=g b.A (sw top r i) c:=fun i c=>jL G.tn.isA ht hr2 i c;have gt:g (bI b.A top r) top p=g b.A r p:=by rw[swg];unfold sw;rw[if_pos rfl]
 have T1:=G.tn.Hi ht hr2
 have z1:∀i,top<i->i<N->g (bI b.A top r) i p=0:=fun i h1 h2=>by
  rw[swg];unfold sw;rw[if_neg (by omega)];by_cases h:i=r
  . rw[if_pos h];exact z top (Nat.le_refl _) ht (by omega)
  . rw[if_neg h];exact z i (by omega) h2 h
 have zs:∀i c,top<=i->i<N->c<p->g (bI b.A top r) i c=0:=fun i c h1 h2 h3=>by
  rw[swg];refine G.zs _ c ?_ (q_ ht hr2 h2) h3;unfold sw;split
  . exact hr1
  . split
    . exact Nat.le_refl _
    . exact h1
 have up:∀i,i<top->(bI b.A top r).getD i []=b0.A.getD i []/\(bI b.U top r).getD i []=b0.U.getD i []/\(bI b.C top r).getD i []=b0.C.getD i []:=fun i hi=>by
  obtain⟨a1,a2,a3⟩:=G.up i hi;exact⟨(tN G.tn.isA ht hr2 hr1 hi).trans a1,(tN G.tn.fi ht hr2 hr1 hi).trans a2,(tN G.tn.gb ht hr2 hr1 hi).trans a3⟩
 have lo:=And.intro (ux G.tn.isA ht hr2 hr1 G.lA) (And.intro (ux G.tn.fi ht hr2 hr1 G.lU) (ux G.tn.gb ht hr2 hr1 G.lC));refine⟨?_,hr1,hr2⟩;unfold setB;by_cases hs:g (bI b.A top r) top p<0
 . rw[if_pos hs];refine⟨T1.neg ht,fun i hi=>?_,⟨zd T1.isA ht lo.1,zd T1.fi ht lo.2.1,zd T1.gb ht lo.2.2⟩,fun i c h1 h2 h3=>?_,?_,fun i h1 h2=>?_⟩
   . obtain⟨a1,a2,a3⟩:=up i hi;exact⟨(yl T1.isA ht hi).trans a1,(yl T1.fi ht hi).trans a2,(yl T1.gb ht hi).trans a3⟩
   . show g (gq (bI b.A top r) top) i c=0;rw[jR T1.isA ht];split
     . rw[zs top c (Nat.le_refl _) ht h3];rfl
     . exact zs i c h1 h2 h3
   . show 0<g (gq (bI b.A top r) top) top p;rw[jR T1.isA ht,if_pos rfl];omega
   . show g (gq (bI b.A top r) top) i p=0;rw[jR T1.isA ht,if_neg (by omega)];exact z1 i h1 h2
 . rw[if_neg hs];exact⟨T1,up,lo,zs,by show 0<g (bI b.A top r) top p;rw[gt]at hs⊢;omega,z1⟩
def md(p top:Nat):Nat->B3->B3
 |0,b=>b
 |k+1,b=>
  let c:=md p top k b
  ⟨bN c.A k ((g c.A k p).fdiv (g c.A top p)) top,bN c.U k ((g c.A k p).fdiv (g c.A top p)) top,bN c.C top (-((g c.A k p).fdiv (g c.A top p))) k⟩
theorem nI(a:Int){b:Int}(hb:0<b):(a.fdiv b).natAbs<=a.natAbs:=by
 rw[Int.fdiv_eq_ediv_of_nonneg _ (Int.le_of_lt hb)];exact Int.natAbs_ediv_le_natAbs a b
theorem Tn.start{A:Rows}{N w:Nat}(hA:ck N w A):Tn A A (units N) (units N) N w where
 isA:=hA
 fi:=pV N
 gb:=pV N
 ua:=fun i c hi hc=>by
  rw[<-nJ hi fun k=>g A k c];exact av fun m hm=>by rw[jw hi hm]
 ub:=fun i j hi hj=>by
  rw[vJ i j,<-nJ hi fun k=>dl j k]
  . exact av fun m hm=>by rw[jw hi hm,jw hj hm]
 bu:=fun i j hi hj=>by
  rw[<-o3 hi fun k=>dl k j];exact av fun m hm=>by rw[jw hm hi,jw hm hj,Int.mul_comm]
theorem j7.start{A:Rows}{N w e:Nat}(hA:ck N w A)(h:gc A N 0 (2^e)):j7 A N w ⟨A,units N,units N⟩ 0 0 (fun _=>0) e 0:=by
 have hu:gc (units N) N 0 (2^e):=fun i c _ hi=>by
  by_cases hc:c<N
  . rw[jw hi hc];unfold dl;split
    . exact Nat.one_le_two_pow
    . exact Nat.zero_le _
  . unfold g;rw[kD (l:=(units N).getD i []) (by rw[cD (pV N) hi];omega)];exact Nat.zero_le _
 exact⟨Tn.start hA,Nat.zero_le _,⟨h,hu,hu⟩,fun _ _ h=>absurd h (Nat.not_lt_zero _),fun _ _ _ _ h=>absurd h (Nat.not_lt_zero _),fun _ h=>absurd h (Nat.not_lt_zero _),fun _ _ _ h=>absurd h (Nat.not_lt_zero _),fun _ _ _ h=>absurd h (Nat.not_lt_zero _)⟩
def SU(f:Nat->Nat):Nat->Nat
 |0=>0
 |n+1=>SU f n+f n
theorem Ho{f f':Nat->Nat}:∀ {n:Nat},(∀i,i<n->f' i<=f i)->SU f' n<=SU f n
 |0,_=>Nat.le_refl _
 |n+1,h=>Nat.add_le_add (Ho fun i hi=>h i (Nat.lt_succ_of_lt hi)) (h n (Nat.lt_succ_self n))
theorem Hw{f f':Nat->Nat}{k:Nat}(hlt:f' k<f k):∀ {n:Nat},k<n->(∀i,i<n->f' i<=f i)->SU f' n<SU f n
 |0,hk,_=>absurd hk (Nat.not_lt_zero _)
 |n+1,hk,h=>by
  by_cases e:k=n
  . subst e;exact Nat.add_lt_add_of_le_of_lt (Ho fun i hi=>h i (Nat.lt_succ_of_lt hi)) hlt
  . exact Nat.add_lt_add_of_lt_of_le (Hw hlt (by omega) fun i hi=>h i (Nat.lt_succ_of_lt hi)) (h n (Nat.lt_succ_self n))
def mu(A:Rows)(N p:Nat):Nat:=SU (fun i=>(g A i p).natAbs) N
inductive La(N p:Nat):Nat->B3->Nat->B3->Prop
 |none {top:Nat} {b:B3} (h:mi b.A N top p []):La N p top b top b
 |one {top r:Nat} {b c:B3} (h:jb N top p b c) (l:mi c.A N top p [r]):La N p top b (top+1) (md p top top (setB c p top r))
inductive vG(A:Rows)(N:Nat):Nat->Nat->B3->Prop
 |start:vG A N 0 0 ⟨A,units N,units N⟩
 |next {p t t':Nat} {b b':B3} (h:vG A N p t b) (c:La N p t b t' b'):vG A N (p+1) t' b'
def Ez(N e0:Nat):Nat->Nat
 |0=>e0
 |t+1=>(N-t+1)*(Ez N e0 t+1)
def bH(X:Rows)(n w:Nat)(v:Nat->Int):Prop:=∃z:Nat->Int,∀c,c<w->v c=S n fun k=>z k*g X k c
theorem bH.row{X:Rows}{n w k:Nat}(hk:k<n):bH X n w (g X k):=⟨fun i=>dl k i,fun c _=>(nJ hk fun i=>g X i c).symm⟩
theorem bH.sub{X:Rows}{n w:Nat}{u v:Nat->Int}(hu:bH X n w u)(hv:bH X n w v):bH X n w fun c=>u c-v c:=by
 obtain⟨y,hy⟩:=hu;obtain⟨z,hz⟩:=hv;refine⟨fun k=>y k-z k,fun c hc=>?_⟩;show u c-v c=S n fun k=>(y k-z k)*g X k c;rw[hy c hc,hz c hc,Int.sub_eq_add_neg,<-sJ,<-gK];exact av fun k _=>by rw[Int.sub_mul,Int.sub_eq_add_neg]
theorem bH.trans{X Y:Rows}{m n w:Nat}{v:Nat->Int}(h:∀k,k<m->bH Y n w (g X k))(hv:bH X m w v):bH Y n w v:=by
 obtain⟨z,hz⟩:=hv
 have h':∀k,∃y:Nat->Int,k<m->∀c,c<w->g X k c=S n fun i=>y i*g Y i c:=fun k=>by
  by_cases hk:k<m
  . obtain⟨y,hy⟩:=h k hk;exact⟨y,fun _=>hy⟩
  . exact⟨fun _=>0,fun h=>absurd h hk⟩
 refine⟨fun i=>S m fun k=>z k*Classical.choose (h' k) i,fun c hc=>?_⟩;rw[hz c hc]
 have e1:S m (fun k=>z k*g X k c)=S m fun k=>S n fun i=>z k*Classical.choose (h' k) i*g Y i c:=av fun k hk=>by
  rw[Classical.choose_spec (h' k) hk c hc,<-cZ];exact av fun i _=>(Int.mul_assoc _ _ _).symm
 rw[e1,gW];exact av fun i _=>i8 _ _ _
structure bb(X:Rows)(n w:Nat)(ld:Nat->Nat):Prop where
 lead:∀i,i<n->ld i<w/\0<g X i (ld i)/\∀c,c<ld i->g X i c=0
 mono:∀i j,i<j->j<n->ld i<ld j
theorem bb.inj{X:Rows}{n w:Nat}{ld:Nat->Nat}(s:bb X n w ld){i j:Nat}(hi:i<n)(hj:j<n)(h:ld i=ld j):i=j:=by
 rcases Nat.lt_trichotomy i j with q|q|q
 . exact absurd h (Nat.ne_of_lt (s.mono i j q hj))
 . exact q
 . exact absurd h.symm (Nat.ne_of_lt (s.mono j i q hi))
theorem bb.lt{X:Rows}{n w:Nat}{ld:Nat->Nat}(s:bb X n w ld){i j:Nat}(hi:i<n)(hj:j<n)(h:ld i<ld j):i<j:=by
 rcases Nat.lt_trichotomy i j with q|q|q
 . exact q
 . rw[q]at h;exact absurd h (Nat.lt_irrefl _)
 . exact absurd (Nat.lt_trans h (s.mono j i q hi)) (Nat.lt_irrefl _)
theorem bb.gone{X:Rows}{n w q:Nat}{ld:Nat->Nat}{v z:Nat->Int}(s:bb X n w ld)(hz:∀c,c<w->v c=S n fun k=>z k*g X k c)(h0:∀c,c<q->v c=0)(k:Nat):k<n->ld k<q->z k=0:=by
 induction k using Nat.strongRecOn with
 |ind k ih=>
  intro hk hq;obtain⟨h1,h2,h3⟩:=s.lead k hk;have e:=hz (ld k) h1;rw[h0 _ hq,eZ hk fun i hi ne=>?_]at e
  . exact(Int.mul_eq_zero.mp e.symm).resolve_right (Int.ne_of_gt h2)
  . rcases Nat.lt_or_gt_of_ne ne with l|l
    . rw[ih i l hi (Nat.lt_trans (s.mono i k l hk) hq),Int.zero_mul]
    . rw[(s.lead i hi).2.2 _ (s.mono k i l hi),Int.mul_zero]
theorem bb.at{X:Rows}{n w q:Nat}{ld:Nat->Nat}{v:Nat->Int}(s:bb X n w ld)(hv:bH X n w v)(hq:q<w)(h0:∀c,c<q->v c=0):(∃i,i<n/\ld i=q/\g X i q∣v q)\/v q=0:=by
 obtain⟨z,hz⟩:=hv
 have go:∀k,k<n->ld k≠q->z k*g X k q=0:=fun k hk ne=>by
  rcases Nat.lt_or_gt_of_ne ne with l|l
  . rw[s.gone hz h0 k hk l,Int.zero_mul]
  . rw[(s.lead k hk).2.2 _ l,Int.mul_zero]
 by_cases h:∃i,i<n/\ld i=q
 . obtain⟨i,hi,e⟩:=h;refine .inl ⟨i,hi,e,z i,?_⟩;rw[hz q hq,eZ hi fun k hk ne=>go k hk fun z=>ne (s.inj hk hi (z.trans e.symm)),Int.mul_comm]
 . refine .inr ?_;rw[hz q hq];exact fb fun k hk=>go k hk fun e=>h ⟨k,hk,e⟩
theorem bb.sees{X Y:Rows}{n m w:Nat}{ld ld':Nat->Nat}(sX:bb X n w ld)(sY:bb Y m w ld')(h:∀k,k<n->bH Y m w (g X k))(i:Nat)(hi:i<n):∃j,j<m/\ld' j=ld i/\g Y j (ld i)∣g X i (ld i):=by
 obtain⟨h1,h2,h3⟩:=sX.lead i hi;rcases sY.at (h i hi) h1 h3 with q|q
 . exact q
 . rw[q]at h2;exact absurd h2 (by decide)
theorem bb.same{X Y:Rows}{n m w:Nat}{ld ld':Nat->Nat}(sX:bb X n w ld)(sY:bb Y m w ld')(h1:∀k,k<n->bH Y m w (g X k))(h2:∀k,k<m->bH X n w (g Y k))(i:Nat):i<n->i<m/\ld' i=ld i/\g Y i (ld i)=g X i (ld i):=by
 induction i using Nat.strongRecOn with
 |ind i ih=>
  intro hi;obtain⟨j,hj,ej,dj⟩:=sX.sees sY h1 i hi
  have e:j=i:=by
   rcases Nat.lt_trichotomy j i with l|l|l
   . have:=(ih j l (Nat.lt_trans l hi)).2.1;exact absurd (this.symm.trans ej) (Nat.ne_of_lt (sX.mono j i l hi))
   . exact l
   . obtain⟨k,hk,ek,_⟩:=sY.sees sX h2 i (Nat.lt_trans l hj);have lk:k<i:=sX.lt hk hi (by rw[ek,<-ej];exact sY.mono i j l hj);have:=(ih k lk hk).2.1;exact absurd (this.trans ek) (Nat.ne_of_lt (sY.mono k i lk (Nat.lt_trans l hj)))
  subst e;refine⟨hj,ej,?_⟩;obtain⟨k,hk,ek,dk⟩:=sY.sees sX h2 j hj;have:=sX.inj hk hi (ek.trans ej);subst this;rw[ej]at dk;exact Int.dvd_antisymm (by rw[<-ej];exact Int.le_of_lt (sY.lead k hj).2.1) (Int.le_of_lt (sX.lead k hi).2.1) dj dk
def jo(X:Rows)(n:Nat)(ld:Nat->Nat):Prop:=∀i j,i<j->j<n->0<=g X i (ld j)/\g X i (ld j)<g X j (ld j)
theorem bb.only{X Y:Rows}{n m w:Nat}{ld ld':Nat->Nat}(sX:bb X n w ld)(sY:bb Y m w ld')(h1:∀k,k<n->bH Y m w (g X k))(h2:∀k,k<m->bH X n w (g Y k))(rX:jo X n ld)(rY:jo Y m ld'){i:Nat}(hi:i<n)(c:Nat):c<w->g X i c=g Y i c:=by
 induction c using Nat.strongRecOn with
 |ind c ih=>
  intro hc;obtain⟨im,il,ig⟩:=sX.same sY h1 h2 i hi;have hv:bH X n w fun c=>g X i c-g Y i c:=(bH.row hi).sub (h2 i im);rcases sX.at hv hc fun d hd=>by rw[ih d hd (Nat.lt_trans hd hc),Int.sub_self]with⟨j,hj,rfl,d⟩|q
  . obtain⟨jm,jl,jg⟩:=sX.same sY h1 h2 j hj;rcases Nat.lt_trichotomy i j with l|l|l
    . have a:=rX i j l hj;have b:=rY i j l jm;rw[jl,jg]at b;exact Int.eq_of_sub_eq_zero (Int.eq_zero_of_dvd_of_natAbs_lt_natAbs d (by omega))
    . subst l;exact ig.symm
    . rw[(sX.lead i hi).2.2 _ (sX.mono j i l hi),(sY.lead i im).2.2 _ (by rw[il];exact sX.mono j i l hi)]
  . exact Int.eq_of_sub_eq_zero q
theorem x6{n:Nat}{f:Nat->Int}:∀ {N:Nat},n<=N->(∀i,n<=i->i<N->f i=0)->S N f=S n f
 |0,h,_=>by rw[Nat.le_zero.mp h]
 |N+1,h,z=>by
  by_cases e:n=N+1
  . rw[e]
  . have hn:n<=N:=by omega
    show S N f+f N=_;rw[z N hn (Nat.lt_succ_self N),Int.add_zero];exact x6 hn fun i h1 h2=>z i h1 (Nat.lt_succ_of_lt h2)
theorem j7.Oa{A:Rows}{N w top e u:Nat}{c:B3}{ld:Nat->Nat}(s:j7 A N w c top w ld e u):bb c.A top w ld/\jo c.A top ld:=⟨⟨s.lead,s.mono⟩,s.red⟩
theorem j7.in{A:Rows}{N w top e u:Nat}{c:B3}{ld:Nat->Nat}(s:j7 A N w c top w ld e u)(k:Nat)(hk:k<top):bH A N w (g c.A k):=
 ⟨g c.U k,fun q hq=>s.tn.ua k q (Nat.lt_of_lt_of_le hk s.le) hq⟩
theorem j7.out{A:Rows}{N w top e u:Nat}{c:B3}{ld:Nat->Nat}(s:j7 A N w c top w ld e u)(k:Nat)(hk:k<N):bH c.A top w (g A k):=by
 refine⟨fun i=>g c.C i k,fun q hq=>?_⟩
 have e1:S N (fun i=>g c.C i k*g c.A i q)=g A k q:=by
  have:S N (fun i=>g c.C i k*g c.A i q)=S N fun i=>S N fun j=>g c.C i k*g c.U i j*g A j q:=av fun i hi=>by
   rw[s.tn.ua i q hi hq,<-cZ];exact av fun j _=>(Int.mul_assoc _ _ _).symm
  rw[this,gW]
  have e2:S N (fun j=>S N fun i=>g c.C i k*g c.U i j*g A j q)=S N fun j=>dl k j*g A j q:=av fun j hj=>by
   rw[i8,s.tn.bu k j hk hj]
  rw[e2,nJ hk fun j=>g A j q]
 rw[<-e1];exact x6 s.le fun i h1 h2=>by rw[s.zs i q h1 h2 hq,Int.mul_zero]
theorem kT{X:Rows}{n i q:Nat}(h:i<n):g (X.take n) i q=g X i q:=by
 unfold g;rw[List.getD_eq_getElem?_getD (l:=X.take n),List.getD_eq_getElem?_getD (l:=X),List.getElem?_take_of_lt h]
theorem bH.O6{X:Rows}{n w:Nat}{u v:Nat->Int}(x:Int)(hu:bH X n w u)(hv:bH X n w v):bH X n w fun c=>u c+x*v c:=by
 obtain⟨y,hy⟩:=hu;obtain⟨z,hz⟩:=hv;refine⟨fun k=>y k+x*z k,fun c hc=>?_⟩;show u c+x*v c=S n fun k=>(y k+x*z k)*g X k c;rw[hy c hc,hz c hc,<-cZ,<-gK];exact av fun k _=>by rw[Int.add_mul,Int.mul_assoc]
theorem bH.eq{X:Rows}{n w:Nat}{u v:Nat->Int}(hu:bH X n w u)(h:∀c,c<w->v c=u c):bH X n w v:=by
 obtain⟨y,hy⟩:=hu;exact⟨y,fun c hc=>(h c hc).trans (hy c hc)⟩
structure d_(X:Rows)(n:Nat)(Y:Rows)(m w:Nat):Prop where
 to:∀k,k<n->bH Y m w (g X k)
 of:∀k,k<m->bH X n w (g Y k)
theorem d_.refl(X:Rows)(n w:Nat):d_ X n X n w:=⟨fun _ h=>bH.row h,fun _ h=>bH.row h⟩
theorem d_.symm{X Y:Rows}{n m w:Nat}(h:d_ X n Y m w):d_ Y m X n w:=⟨h.of,h.to⟩
theorem d_.trans{X Y Z:Rows}{n m l w:Nat}(h:d_ X n Y m w)(h':d_ Y m Z l w):d_ X n Z l w:=
 ⟨fun k hk=>bH.trans h'.to (h.to k hk),fun k hk=>bH.trans h.of (h'.of k hk)⟩
theorem bH.zero{X:Rows}{n w:Nat}{v:Nat->Int}(h:∀c,c<w->v c=0):bH X n w v:=
 ⟨fun _=>0,fun c hc=>by rw[h c hc,fb fun k _=>Int.zero_mul _]⟩
theorem pk{X:Rows}{r:Row}{k:Nat}(hk:k<=X.length)(i:Nat):(X.take k++r::X.drop k).getD i []=if i<k then X.getD i []else if i=k then r else X.getD (i-1) []:=by
 have lt:(X.take k).length=k:=by rw[List.length_take];omega
 rw[List.getD_eq_getElem?_getD,List.getD_eq_getElem?_getD,List.getD_eq_getElem?_getD];by_cases h:i<k
 . rw[if_pos h,List.getElem?_append_left (by rw[lt];exact h),List.getElem?_take_of_lt h]
 . rw[if_neg h,List.getElem?_append_right (by rw[lt];omega),lt];by_cases h2:i=k
   . rw[if_pos h2,h2,Nat.sub_self];rfl
   . rw[if_neg h2];have:i-k=(i-1-k)+1:=by omega
     rw[this,List.getElem?_cons_succ,List.getElem?_drop];congr 2;omega
structure tE(F:Rows)(w:Nat)(ld:Nat->Nat)(row:Nat->Int)(i:Nat)(o:Int)(L:Nat->Int):Prop where
 pos:0<o
 sum:bH F i w fun c=>o*row c-L c
 off:∀k,k<i->L (ld k)=0
 least:∀(m:Int) (v:Nat->Int),bH F i w v->(∀k,k<i->m*row (ld k)=v (ld k))->o∣m
theorem bb.N1{F:Rows}{n w:Nat}{ld:Nat->Nat}{v:Nat->Int}(s:bb F n w ld)(hv:bH F n w v)(h:∀k,k<n->0<=v (ld k)/\v (ld k)<g F k (ld k))(c:Nat):c<w->v c=0:=by
 induction c using Nat.strongRecOn with
 |ind c ih=>
  intro hc;rcases s.at hv hc fun d hd=>ih d hd (Nat.lt_trans hd hc)with⟨k,hk,rfl,d⟩|q
  . have:=h k hk;exact Int.eq_zero_of_dvd_of_natAbs_lt_natAbs d (by omega)
  . exact q
structure vi(F:Rows)(n w:Nat)(ld:Nat->Nat)(row:Nat->Int)(i:Nat)(L:Nat->Int):Prop where
 sum:bH F n w fun c=>row c-L c
 red:∀k,k<i->0<=L (ld k)/\L (ld k)<g F k (ld k)
theorem vi.start{F:Rows}{n w:Nat}{ld:Nat->Nat}{row:Nat->Int}:vi F n w ld row 0 row:=⟨bH.zero fun c _=>Int.sub_self _,fun _ h=>absurd h (Nat.not_lt_zero _)⟩
theorem vi.step{F:Rows}{n w i:Nat}{ld:Nat->Nat}{row L:Nat->Int}(s:bb F n w ld)(hi:i<n)(f:vi F n w ld row i L):vi F n w ld row (i+1) fun c=>L c-(L (ld i)).fdiv (g F i (ld i))*g F i c:=by
 obtain⟨l1,l2,l3⟩:=s.lead i hi;refine⟨(f.sum.O6 ((L (ld i)).fdiv (g F i (ld i))) (bH.row hi)).eq fun c _=>by omega,fun k hk=>?_⟩;show 0<=L (ld k)-_*g F i (ld k)/\L (ld k)-_*g F i (ld k)<_;rcases Nat.lt_or_ge k i with h|h
 . rw[l3 _ (s.mono k i h hi),Int.mul_zero,Int.sub_zero];exact f.red k h
 . have:k=i:=Nat.le_antisymm (Nat.le_of_lt_succ hk) h;subst this;have e:=Int.fmod_add_mul_fdiv (L (ld k)) (g F k (ld k));have a:=Int.fmod_nonneg_of_pos (L (ld k)) l2;have b:=Int.fmod_lt_of_pos (L (ld k)) l2;rw[Int.mul_comm]at e;omega
theorem vi.zero{F:Rows}{n w:Nat}{ld:Nat->Nat}{row L:Nat->Int}(s:bb F n w ld)(f:vi F n w ld row n L):(∀c,c<w->L c=0)↔bH F n w row:=by
 constructor
 . exact fun h=>f.sum.eq fun c hc=>by rw[h c hc,Int.sub_zero]
 . exact fun h=>s.N1 ((h.sub f.sum).eq fun c _=>by omega) f.red
theorem DY{K m:Nat}:∀ {n:Nat} {M:Fn},n<=K->(∀r c,r<n->c<n->(M r c).natAbs<=m)->(D n M).natAbs<=(K*m)^n
 |0,_,_,_=>by simp[D]
 |n+1,M,hn,h=>by
  rw[c_]
  have key:∀j,j<n+1->(sg j*M 0 j*D n fun r c=>M (r+1) (sk j c)).natAbs<=m*(K*m)^n:=fun j hj=>by
   have a:=DY (K:=K) (m:=m) (n:=n) (M:=fun r c=>M (r+1) (sk j c)) (by omega) fun r c hr hc=>h (r+1) (sk j c) (by omega) (jj hc);have b:=h 0 j (by omega) hj;have s:(sg j).natAbs=1:=by unfold sg;split<;>rfl
   rw[Int.natAbs_mul,Int.natAbs_mul,s,Nat.one_mul];exact Nat.mul_le_mul b a
  refine Nat.le_trans (BV key) ?_;rw[Nat.pow_succ,Nat.mul_comm ((K*m)^n),Nat.mul_assoc];exact Nat.mul_le_mul_right _ hn
theorem pick{t N:Nat}{U B:Fn}(h:∀k l,k<t->l<t->S N (fun i=>U k i*B i l)=dl k l):∃I:Nat->Nat,(∀k,k<t->I k<N)/\D t (fun k l=>B (I k) l)≠0:=by
 apply Classical.byContradiction;intro no
 have go:∀s,s<=t->∀I:Nat->Nat,(∀k,k<t->s<=k->I k<N)->D t (fun k l=>if k<s then dl k l else B (I k) l)=0:=by
  intro s;induction s with
  |zero=>
   intro _ I hI;exact Classical.byContradiction fun z=>no ⟨I,fun k hk=>hI k hk (Nat.zero_le _),z⟩
  |succ s ih=>
   intro hs I hI
   have e:D t (fun k l=>if k<s+1 then dl k l else B (I k) l)=D t (upd (fun k l=>if k<s then dl k l else B (I k) l) s fun l=>S N fun j=>U s j*B j l):=cC fun k l hk hl=>by
    unfold upd;by_cases h1:k=s
    . subst h1;rw[if_pos rfl,if_pos (Nat.lt_succ_self _)];exact(h k l hk hl).symm
    . rw[if_neg h1];show _=if k<s then dl k l else B (I k) l
      by_cases h2:k<s
      . rw[if_pos (by omega),if_pos h2]
      . rw[if_neg (by omega),if_neg h2]
   rw[e,(iW t).lY (by omega)];refine fb fun j hj=>?_
   have e2:=ih (by omega) (fun k=>if k=s then j else I k) fun k hk hsk=>by
    by_cases h1:k=s
    . rw[if_pos h1];exact hj
    . rw[if_neg h1];exact hI k hk (by omega)
   have e3:D t (upd (fun k l=>if k<s then dl k l else B (I k) l) s (B j))=D t (fun k l=>if k<s then dl k l else B (if k=s then j else I k) l):=cC fun k l hk hl=>by
    unfold upd;by_cases h1:k=s
    . subst h1;rw[if_pos rfl,if_neg (Nat.lt_irrefl _),if_pos rfl]
    . rw[if_neg h1,if_neg h1]
   rw[e3,e2,Int.mul_zero]
 have z:=go t (Nat.le_refl _) (fun _=>0) fun k h1 h2=>absurd h1 (Nat.not_lt.mpr h2);rw[cC (M':=dl) fun r c hr hc=>if_pos hr,wq]at z;exact absurd z (by decide)
theorem qG:∀ {n:Nat} {f:Nat->Int},(∀i,i<n->0<f i)->0<Pr n f
 |0,_,_=>show(0:Int)<1 by decide
 |n+1,f,h=>Int.mul_pos (qG fun i hi=>h i (Nat.lt_succ_of_lt hi)) (h n (Nat.lt_succ_self n))
theorem j7.back{A0:Rows}{N w top e u:Nat}{c:B3}{ld:Nat->Nat}(H:j7 A0 N w c top w ld e u){i q:Nat}(hi:i<N)(hq:q<w):g A0 i q=S top fun k=>g c.C k i*g c.A k q:=by
 have T:=H.tn
 have e1:S N (fun k=>g c.C k i*g c.A k q)=g A0 i q:=by
  have:S N (fun k=>g c.C k i*g c.A k q)=S N fun k=>S N fun m=>g c.C k i*g c.U k m*g A0 m q:=av fun k hk=>by
   rw[T.ua k q hk hq,<-cZ];exact av fun m _=>(Int.mul_assoc _ _ _).symm
  rw[this,gW];have:(S N fun m=>S N fun k=>g c.C k i*g c.U k m*g A0 m q)=S N fun m=>dl i m*g A0 m q:=av fun m hm=>by rw[i8,T.bu i m hi hm]
  rw[this,nJ hi]
 have cut:∀n,top<=n->n<=N->S n (fun k=>g c.C k i*g c.A k q)=S top fun k=>g c.C k i*g c.A k q:=fun n=>by
  induction n with
  |zero=>intro h _;rw[Nat.le_zero.mp h]
  |succ n ih=>
   intro h h2;by_cases e:top=n+1
   . rw[e]
   . show S n _+g c.C n i*g c.A n q=_;rw[ih (by omega) (by omega),H.zs n q (by omega) (by omega) hq,Int.mul_zero,Int.add_zero]
 rw[<-e1,cut N H.le (Nat.le_refl _)]
def aZ(F:Rows)(i:Nat):Nat:=(F.getD i []).findIdx (fun x=>x != 0)
theorem u5:∀ {r:Row} {l:Nat},(∀c,c<l->r.getD c 0=0)->r.getD l 0≠0->r.findIdx (fun x=>x != 0)=l
 | [],l,_,h=>(h rfl).elim
 |x::r,0,_,h=>by
  have h':(x != 0)=true:=bne_iff_ne.mpr h;rw[List.findIdx_cons,h'];rfl
 |x::r,l+1,hz,h=>by
  have x0:(x != 0)=false:=bne_eq_false_iff_eq.mpr (hz 0 (Nat.zero_lt_succ _));rw[List.findIdx_cons,x0,u5 (r:=r) (l:=l) (fun c hc=>hz (c+1) (Nat.succ_lt_succ hc)) h];rfl
theorem bb.aZ{F:Rows}{n w:Nat}{ld:Nat->Nat}(s:bb F n w ld){i:Nat}(hi:i<n):Mx.aZ F i=ld i:=by
 obtain⟨_,h2,h3⟩:=s.lead i hi;exact u5 h3 (Int.ne_of_gt h2)
theorem bb.Lr{F:Rows}{n w:Nat}{ld:Nat->Nat}(s:bb F n w ld):bb F n w (Mx.aZ F):=
 ⟨fun i hi=>by rw[s.aZ hi];exact s.lead i hi,fun i j h hj=>by rw[s.aZ hj,s.aZ (Nat.lt_trans h hj)];exact s.mono i j h hj⟩
def rP(F:Rows)(L:Row)(i:Nat):Int:=(L.getD (aZ F i) 0).fdiv (g F i (aZ F i))
def c6(F:Rows)(r:Row):Nat->Row
 |0=>r
 |i+1=>fV (c6 F r i) (-(rP F (c6 F r i) i)) (F.getD i [])
def xt(F:Rows)(r:Row)(n:Nat):Row:=(List.range n).map fun i=>rP F (c6 F r i) i
section
variable {F:Rows}{r:Row}{m w:Nat}(isF:ck m w F)(lr:r.length=w)
include isF lr
theorem iN:∀ {i:Nat},i<=m->(c6 F r i).length=w
 |0,_=>lr
 |i+1,h=>by
  unfold c6;rw[kJ (by rw[iN (by omega),isF.row (by omega)])];exact iN (by omega)
theorem uD{i:Nat}(hi:i<m)(c:Nat):(c6 F r (i+1)).getD c 0=(c6 F r i).getD c 0-rP F (c6 F r i) i*g F i c:=by
 conv=>lhs;unfold c6
 rw[sA (by rw[iN isF lr (by omega),isF.row hi]),Int.neg_mul];rfl
theorem AS(s:bb F m w (aZ F)):∀ {i:Nat},i<=m->vi F m w (aZ F) (fun c=>r.getD c 0) i (fun c=>(c6 F r i).getD c 0)
 |0,_=>vi.start
 |i+1,h=>by
  have:=(AS s (i:=i) (by omega)).step s h
  have e:(fun c=>(c6 F r (i+1)).getD c 0)=fun c=>(c6 F r i).getD c 0-((c6 F r i).getD (aZ F i) 0).fdiv (g F i (aZ F i))*g F i c:=by
   funext c;rw[uD isF lr h];rfl
  rw[e];exact this
theorem wu{f e:Nat}(s:bb F m w (aZ F))(hF:∀k c,k<m->c<w->(g F k c).natAbs<=2^f)(hr:∀c,c<w->(r.getD c 0).natAbs<=2^e):∀ {i:Nat},i<=m->∀c,c<w->((c6 F r i).getD c 0).natAbs<=2^(e+i*(f+1))
 |0,_,c,hc=>by rw[Nat.zero_mul];exact hr c hc
 |i+1,h,c,hc=>by
  have ih:=wu s hF hr (i:=i) (by omega);obtain⟨l1,l2,_⟩:=s.lead i h;have q:=Nat.le_trans (nI ((c6 F r i).getD (aZ F i) 0) l2) (ih _ l1);rw[uD isF lr h]
  have p:(rP F (c6 F r i) i*g F i c).natAbs<=2^(e+i*(f+1))*2^f:=by
   rw[Int.natAbs_mul];exact Nat.mul_le_mul q (hF i c h hc)
  have b:=ih c hc
  have e1:2^(e+(i+1)*(f+1))=2^(e+i*(f+1))*2^f*2:=by
   rw[show e+(i+1)*(f+1)=e+i*(f+1)+f+1 by rw[Nat.succ_mul];omega,Nat.pow_succ,Nat.pow_add]
  have e2:2^(e+i*(f+1))<=2^(e+i*(f+1))*2^f:=Nat.le_mul_of_pos_right _ (Nat.pow_pos (by decide));rw[e1];omega
end
structure gN(A0:Rows)(N w:Nat)(b:B3)(top p:Nat)(ld:Nat->Nat)(e u v:Nat):Prop where
 tn:Tn A0 b.A b.U b.C N w
 le:top<=N
 lo:gc b.A N top (2^e)/\gc b.U N top (2^e)/\gc b.C N top (2^e)
 hi:∀i c,i<top->(g b.A i c).natAbs<=2^u/\(g b.U i c).natAbs<=2^u/\(g b.C i c).natAbs<=2^v
 zs:∀i c,top<=i->i<N->c<p->g b.A i c=0
 lead:∀i,i<top->ld i<p/\0<g b.A i (ld i)/\∀c,c<ld i->g b.A i c=0
 mono:∀i j,i<j->j<top->ld i<ld j
 red:∀i j,i<j->j<top->0<=g b.A i (ld j)/\g b.A i (ld j)<g b.A j (ld j)
theorem gN.P7{A0:Rows}{N w top p e u v:Nat}{b:B3}{ld:Nat->Nat}(S:gN A0 N w b top p ld e u v):tw A0 N w top p (2^e) b b 1:=
 ⟨S.tn,fun _ _=>⟨rfl,rfl,rfl⟩,by rw[Nat.mul_one];exact S.lo.1,by rw[Nat.mul_one];exact S.lo.2.1,by rw[Nat.mul_one];exact S.lo.2.2,S.zs,by rw[Nat.one_mul];exact Nat.le_refl _,Nat.le_refl _,.inl rfl⟩
theorem gN.skip{A0:Rows}{N w top p e u v:Nat}{b:B3}{ld:Nat->Nat}(S:gN A0 N w b top p ld e u v)(h:mi b.A N top p []):gN A0 N w b top (p+1) ld e u v:=
 ⟨S.tn,S.le,S.lo,S.hi,fun i c h1 h2 h3=>by
  by_cases hc:c=p
  . subst hc;exact Classical.byContradiction fun z=>absurd ((h.mem i).mpr ⟨h1,h2,z⟩) (by simp)
  . exact S.zs i c h1 h2 (by omega),fun i hi=>⟨Nat.lt_succ_of_lt (S.lead i hi).1,(S.lead i hi).2⟩,S.mono,S.red⟩
structure mD(A0:Rows)(N w top p e u v:Nat)(b:B3)(k:Nat)(c:B3):Prop where
 tn:Tn A0 c.A c.U c.C N w
 rA:∀i,k<=i->c.A.getD i []=b.A.getD i []/\c.U.getD i []=b.U.getD i []
 rC:∀i,i≠top->c.C.getD i []=b.C.getD i []
 ah:∀i q,i<k->q<p->g c.A i q=g b.A i q
 rd:∀i,i<k->0<=g c.A i p/\g c.A i p<g c.A top p
 sz:∀i q,i<k->(g c.A i q).natAbs<=2^(u+e+1)/\(g c.U i q).natAbs<=2^(u+e+1)
 sC:∀q,(g c.C top q).natAbs<=2^e+k*2^(u+v)
theorem mD.step{A0:Rows}{N w top p e u v k:Nat}{b c:B3}(I:mD A0 N w top p e u v b k c)(hk:k<top)(ht:top<N)(hp:p<w)(htp:0<g b.A top p)(hz:∀q,q<p->g b.A top q=0)
 (hlo:∀q,(g b.A top q).natAbs<=2^e/\(g b.U top q).natAbs<=2^e) (hhi:∀i q,i<top->(g b.A i q).natAbs<=2^u/\(g b.U i q).natAbs<=2^u/\(g b.C i q).natAbs<=2^v):
 mD A0 N w top p e u v b (k+1) ⟨bN c.A k ((g c.A k p).fdiv (g c.A top p)) top,bN c.U k ((g c.A k p).fdiv (g c.A top p)) top,bN c.C top (-((g c.A k p).fdiv (g c.A top p))) k⟩:=by
 have hkN:k<N:=by omega
 have gA:∀i q,k<=i->g c.A i q=g b.A i q:=fun i q hi=>by unfold g;rw[(I.rA i hi).1]
 have gU:∀i q,k<=i->g c.U i q=g b.U i q:=fun i q hi=>by unfold g;rw[(I.rA i hi).2]
 have gC:∀i q,i≠top->g c.C i q=g b.C i q:=fun i q hi=>by unfold g;rw[I.rC i hi]
 have qe:((g c.A k p).fdiv (g c.A top p)).natAbs<=2^u:=by
  rw[gA k p (Nat.le_refl _),gA top p (by omega)];exact Nat.le_trans (nI _ htp) (hhi k p hk).1
 have hq:∀x:Int,x.natAbs<=2^e->((g c.A k p).fdiv (g c.A top p)*x).natAbs<=2^(u+e):=fun x hx=>by
  rw[Int.natAbs_mul,Nat.pow_add];exact Nat.mul_le_mul qe hx
 have le1:2^u<=2^(u+e):=Nat.pow_le_pow_right (by decide) (by omega);refine⟨I.tn.take hkN ht (by omega),fun i hi=>?_,fun i hi=>?_,fun i q hi hqp=>?_,fun i hi=>?_,fun i q hi=>?_,fun q=>?_⟩
 . exact⟨(jM (by rw[I.tn.isA.len];exact hkN) (by omega)).trans (I.rA i (by omega)).1,(jM (by rw[I.tn.fi.len];exact hkN) (by omega)).trans (I.rA i (by omega)).2⟩
 . exact(jM (by rw[I.tn.gb.len];exact ht) hi).trans (I.rC i hi)
 . show g (bN c.A k _ top) i q=_;rw[fe I.tn.isA hkN ht];split
   . rename_i h;rw[gA top q (by omega),hz q hqp,Int.mul_zero,gA k q (Nat.le_refl _),h];omega
   . exact I.ah i q (by omega) hqp
 . show 0<=g (bN c.A k _ top) i p/\g (bN c.A k _ top) i p<g (bN c.A k _ top) top p;rw[fe I.tn.isA hkN ht,fe I.tn.isA hkN ht,if_neg (show¬top=k by omega)];split
   . have h1:=Int.mul_fdiv_add_fmod (g c.A k p) (g c.A top p);have htp':0<g c.A top p:=by rw[gA top p (by omega)];exact htp
     have h2:=Int.fmod_nonneg_of_pos (g c.A k p) htp';have h3:=Int.fmod_lt_of_pos (g c.A k p) htp';rw[Int.mul_comm]at h1;omega
   . exact I.rd i (by omega)
 . show(g (bN c.A k _ top) i q).natAbs<=_/\(g (bN c.U k _ top) i q).natAbs<=_;rw[fe I.tn.isA hkN ht,fe I.tn.fi hkN ht];split
   . have a1:=hq (g c.A top q) (by rw[gA top q (by omega)];exact(hlo q).1);have a2:=hq (g c.U top q) (by rw[gU top q (by omega)];exact(hlo q).2);rw[gA k q (Nat.le_refl _),gU k q (Nat.le_refl _)];have b1:=(hhi k q hk).1;have b2:=(hhi k q hk).2.1;rw[Nat.pow_succ];omega
   . exact I.sz i q (by omega)
 . show(g (bN c.C top _ k) top q).natAbs<=_;rw[fe I.tn.gb ht hkN,if_pos rfl,gC k q (by omega),Int.neg_mul];have a1:=I.sC q
   have a2:((g c.A k p).fdiv (g c.A top p)*g b.C k q).natAbs<=2^(u+v):=by
    rw[Int.natAbs_mul,Nat.pow_add];exact Nat.mul_le_mul qe (hhi k q hk).2.2
   rw[Nat.add_mul,Nat.one_mul];omega
theorem mD.start{A0:Rows}{N w top p e u v:Nat}{b:B3}(T:Tn A0 b.A b.U b.C N w)(h:∀q,(g b.C top q).natAbs<=2^e):mD A0 N w top p e u v b 0 b:=
 ⟨T,fun _ _=>⟨rfl,rfl⟩,fun _ _=>rfl,fun _ _ h=>absurd h (Nat.not_lt_zero _),fun _ h=>absurd h (Nat.not_lt_zero _),fun _ _ h=>absurd h (Nat.not_lt_zero _),fun q=>by rw[Nat.zero_mul];exact h q⟩
theorem vI.vt{A0:Rows}{N w top p e u v e' u' v':Nat}{b0 b c:B3}{ld:Nat->Nat}(S:gN A0 N w b0 top p ld e u v)(s:vI A0 N w top p (2^e') b0 b)(ht:top<N)(I:mD A0 N w top p e' u v b top c)(hN:N<=8)
 (h1:u+e'+1<=u') (h2:u+v+4<=v') (h9:e'+1<=v'):gN A0 N w c (top+1) (p+1) (fun i=>if i=top then p else ld i) e' u' v':=by
 have hup:∀i q,i<top->g b.A i q=g b0.A i q:=fun i q hi=>by unfold g;rw[(s.up i hi).1]
 have hA:∀i q,top<=i->g c.A i q=g b.A i q:=fun i q hi=>by unfold g;rw[(I.rA i hi).1]
 have hU:∀i q,top<=i->g c.U i q=g b.U i q:=fun i q hi=>by unfold g;rw[(I.rA i hi).2]
 have hC:∀i q,i≠top->g c.C i q=g b.C i q:=fun i q hi=>by unfold g;rw[I.rC i hi]
 have le:∀ {a x:Nat},a<=2^x->x<=u'->a<=2^u':=fun h hx=>Nat.le_trans h (Nat.pow_le_pow_right (by decide) hx);refine⟨I.tn,ht,⟨fun i q hi hN=>?_,fun i q hi hN=>?_,fun i q hi hN=>?_⟩,fun i q hi=>?_,fun i q hi hN hq=>?_,fun i hi=>?_,fun i j hij hj=>?_,fun i j hij hj=>?_⟩
 . rw[hA i q (by omega)];exact s.lo.1 i q (by omega) hN
 . rw[hU i q (by omega)];exact s.lo.2.1 i q (by omega) hN
 . rw[hC i q (by omega)];exact s.lo.2.2 i q (by omega) hN
 . by_cases h:i=top
   . subst h;refine⟨?_,?_,?_⟩
     . rw[hA i q (Nat.le_refl _)];exact le (s.lo.1 i q (Nat.le_refl _) ht) (by omega)
     . rw[hU i q (Nat.le_refl _)];exact le (s.lo.2.1 i q (Nat.le_refl _) ht) (by omega)
     . have h3:=I.sC q;have h4:i*2^(u+v)<=2^(u+v+3):=by rw[Nat.pow_add _ _ 3,Nat.mul_comm];exact Nat.mul_le_mul_left _ (by omega)
       have h5:2^(u+v+3)*2<=2^v':=by rw[<-Nat.pow_succ];exact Nat.pow_le_pow_right (by decide) h2
       have h6:2^e'*2<=2^v':=by rw[<-Nat.pow_succ];exact Nat.pow_le_pow_right (by decide) h9
       omega
   . have hi':i<top:=by omega
     refine⟨le (I.sz i q hi').1 h1,le (I.sz i q hi').2 h1,?_⟩;rw[hC i q h];have:g b.C i q=g b0.C i q:=by unfold g;rw[(s.up i hi').2.2]
     rw[this];exact Nat.le_trans (S.hi i q hi').2.2 (Nat.pow_le_pow_right (by decide) (by omega))
 . rw[hA i q (by omega)];by_cases h:q=p
   . rw[h];exact s.z1 i (by omega) hN
   . exact s.zs i q (by omega) hN (by omega)
 . by_cases h:i=top
   . subst h;rw[if_pos rfl];refine⟨Nat.lt_succ_self p,?_,fun q hq=>?_⟩
     . rw[hA i p (Nat.le_refl _)];exact s.tp
     . rw[hA i q (Nat.le_refl _)];exact s.zs i q (Nat.le_refl _) ht hq
   . have hi':i<top:=by omega
     rw[if_neg h];obtain⟨a1,a2,a3⟩:=S.lead i hi';refine⟨Nat.lt_succ_of_lt a1,?_,fun q hq=>?_⟩
     . rw[I.ah i _ hi' a1,hup i _ hi'];exact a2
     . rw[I.ah i _ hi' (Nat.lt_trans hq a1),hup i _ hi'];exact a3 q hq
 . by_cases h:j=top
   . rw[if_pos h,if_neg (by omega)];exact(S.lead i (by omega)).1
   . rw[if_neg h,if_neg (by omega)];exact S.mono i j hij (by omega)
 . by_cases h:j=top
   . subst h;rw[if_pos rfl];exact I.rd i hij
   . have hj':j<top:=by omega
     rw[if_neg h];have:=S.red i j hij hj';have hl:=(S.lead j hj').1;rw[I.ah i _ (by omega) hl,I.ah j _ hj' hl,hup i _ (by omega),hup j _ hj'];exact this
theorem gN.start{A:Rows}{N w e:Nat}(hA:ck N w A)(h:gc A N 0 (2^e)):gN A N w ⟨A,units N,units N⟩ 0 0 (fun _=>0) e 0 0:=by
 have S:=j7.start hA h;exact⟨S.tn,S.le,S.lo,S.hi,S.zs,S.lead,S.mono,S.red⟩
theorem gN.Ks{A0:Rows}{N w top p e u v:Nat}{b:B3}{ld:Nat->Nat}(S:gN A0 N w b top p ld e u v):j7 A0 N w b top p ld e (u+v):=
 ⟨S.tn,S.le,S.lo,fun i c hi=>⟨Nat.le_trans (S.hi i c hi).1 (Nat.pow_le_pow_right (by decide) (by omega)),Nat.le_trans (S.hi i c hi).2.1 (Nat.pow_le_pow_right (by decide) (by omega)),Nat.le_trans (S.hi i c hi).2.2 (Nat.pow_le_pow_right (by decide) (by omega))⟩,S.zs,S.lead,S.mono,S.red⟩
theorem gN.GG{A0:Rows}{N w top p e u v:Nat}{b:B3}{ld:Nat->Nat}(S:gN A0 N w b top p ld e u v):top<=p:=by
 have go:∀i,i<top->i<=ld i:=fun i=>by
  induction i with
  |zero=>intro _;exact Nat.zero_le _
  |succ i ih=>
   intro h;have:=ih (by omega);have:=S.mono i (i+1) (by omega) h;omega
 rcases Nat.eq_zero_or_pos top with z|z
 . omega
 . have h1:=go (top-1) (by omega);have h2:=(S.lead (top-1) (by omega)).1;omega
def Uz(N e0:Nat):Nat->Nat
 |0=>0
 |t+1=>Uz N e0 t+Ez N e0 (t+1)+1
def Cz(N e0:Nat):Nat->Nat
 |0=>0
 |t+1=>Uz N e0 t+Cz N e0 t+Ez N e0 (t+1)+4
def Rm(N w e0:Nat):Prop:=∀t,t<N->t<w->Ez N e0 (t+1)<60000000/\Uz N e0 t+Ez N e0 (t+1)<=120000000/\Uz N e0 t+Cz N e0 t<=120000000
theorem wg(a:Nat)(f:Nat->Int):∀b,S (a+b) f=S a f+S b fun i=>f (a+i)
 |0=>(Int.add_zero _).symm
 |b+1=>by
  show S (a+b) f+f (a+b)=S a f+(S b (fun i=>f (a+i))+f (a+b));rw[wg a f b,Int.add_assoc]
theorem vD{X:Rows}{m i q:Nat}:g (X.drop m) i q=g X (m+i) q:=by
 have e:(X.drop m).getD i []=X.getD (m+i) []:=by rw[List.getD_eq_getElem?_getD,List.getElem?_drop,List.getD_eq_getElem?_getD]
 unfold g;rw[e]
theorem j7.kernel{A:Rows}{N w top e u:Nat}{c:B3}{ld:Nat->Nat}(H:j7 A N w c top w ld e u){x:Nat->Int}:(∀q,q<w->(S N fun n=>x n*g A n q)=0)↔bH (c.U.drop top) (N-top) N x:=by
 have le:=H.le;constructor
 . intro h
   let y:Nat->Int:=fun i=>S N fun k=>x k*g c.C i k
   have e1:∀j,j<N->x j=S N fun i=>y i*g c.U i j:=fun j hj=>by
    have:(S N fun i=>y i*g c.U i j)=S N fun i=>S N fun k=>x k*(g c.C i k*g c.U i j):=av fun i _=>by
     show(S N fun k=>x k*g c.C i k)*g c.U i j=_;rw[<-i8];exact av fun k _=>Int.mul_assoc _ _ _
    rw[this,gW];have e2:(S N fun k=>S N fun i=>x k*(g c.C i k*g c.U i j))=S N fun k=>x k*dl k j:=av fun k hk=>by rw[cZ,H.tn.bu k j hk hj]
    rw[e2];exact(o3 hj x).symm
   have z:∀i,i<top->y i=0:=fun i hi=>by
    refine H.Oa.1.gone (v:=fun _=>0) (z:=y) (q:=w) (fun q hq=>?_) (fun _ _=>rfl) i hi (H.lead i hi).1
    have e3:(S N fun n=>x n*g A n q)=S N fun i=>y i*g c.A i q:=by
     have a1:(S N fun n=>x n*g A n q)=S N fun n=>S N fun i=>y i*(g c.U i n*g A n q):=av fun n hn=>by
      rw[e1 n hn,<-i8];exact av fun i _=>Int.mul_assoc _ _ _
     rw[a1,gW];exact av fun i hi=>by rw[cZ,H.tn.ua i q hi hq]
    rw[h q hq]at e3;rw[e3];exact x6 le fun i h1 h2=>by rw[H.zs i q h1 h2 hq,Int.mul_zero]
   refine⟨fun i=>y (top+i),fun j hj=>?_⟩;have e4:=wg top (fun i=>y i*g c.U i j) (N-top);rw[Nat.add_sub_cancel' le]at e4;rw[e1 j hj,e4,fb fun i hi=>by rw[z i hi,Int.zero_mul],Int.zero_add];exact av fun i _=>by rw[vD]
 . rintro⟨z,hz⟩ q hq
   have e1:(S N fun n=>x n*g A n q)=S N fun n=>S (N-top) fun i=>z i*(g c.U (top+i) n*g A n q):=av fun n hn=>by
    rw[hz n hn,<-i8];exact av fun i _=>by rw[vD,Int.mul_assoc]
   rw[e1,gW];refine fb fun i hi=>?_;have hi2:top+i<N:=by omega
   rw[cZ,<-H.tn.ua (top+i) q hi2 hq,H.zs (top+i) q (by omega) hi2 hq,Int.mul_zero]
theorem xn{F:Rows}{r:Row}{m w:Nat}(hF:ck m w F)(hr:r.length=w)(h:∀i,i<m->0<=r.getD (aZ F i) 0/\r.getD (aZ F i) 0<g F i (aZ F i)):∀i,i<=m->c6 F r i=r
 |0,_=>rfl
 |i+1,hi=>by
  have ih:=xn hF hr h i (by omega)
  have q0:rP F (c6 F r i) i=0:=by
   rw[ih];obtain⟨h1,h2⟩:=h i hi;show(r.getD (aZ F i) 0).fdiv (g F i (aZ F i))=0;rw[Int.fdiv_eq_ediv_of_nonneg _ (by omega)];exact Int.ediv_eq_zero_of_lt h1 h2
  refine pq (iN hF hr hi) hr fun c _=>?_;rw[uD hF hr hi,q0,Int.zero_mul,Int.sub_zero,ih]
theorem bb.first{X:Rows}{n w:Nat}{ld:Nat->Nat}{v z:Nat->Int}(s:bb X n w ld)(hz:∀c,c<w->v c=S n fun k=>z k*g X k c){j:Nat}(hj:j<=n)(h0:∀l,l<j->v (ld l)=0)(l:Nat):l<j->z l=0:=by
 induction l using Nat.strongRecOn with
 |_ l ih=>
  intro hl;obtain⟨h1,h2,_⟩:=s.lead l (by omega);have e:=hz _ h1
  rw[h0 l hl,eZ (k:=l) (by omega) fun k hk hne=>by
   rcases Nat.lt_or_gt_of_ne hne with q|q
   . rw[ih k q (by omega),Int.zero_mul]
   . rw[(s.lead k hk).2.2 _ (s.mono l k q hk),Int.mul_zero]]at e
  rcases Int.mul_eq_zero.mp e.symm with q|q
  . exact q
  . omega
theorem bb.Qf{X:Rows}{n w:Nat}{ld:Nat->Nat}{v z:Nat->Int}(s:bb X n w ld)(hz:∀c,c<w->v c=S n fun k=>z k*g X k c){j:Nat}(hj:j<n)(h0:∀l,l<j->v (ld l)=0):v (ld j)=z j*g X j (ld j):=by
 obtain⟨h1,h2,_⟩:=s.lead j hj;rw[hz _ h1]
 exact eZ hj fun k hk hne=>by
  rcases Nat.lt_or_gt_of_ne hne with q|q
  . rw[s.first hz (Nat.le_of_lt hj) h0 k q,Int.zero_mul]
  . rw[(s.lead k hk).2.2 _ (s.mono j k q hk),Int.mul_zero]
theorem bb.nil{X:Rows}{n w:Nat}{ld:Nat->Nat}{v:Nat->Int}(s:bb X n w ld)(hv:bH X n w v)(h0:∀l,l<n->v (ld l)=0)(c:Nat)(hc:c<w):v c=0:=by
 obtain⟨z,hz⟩:=hv;rw[hz c hc];exact fb fun k hk=>by rw[s.first hz (Nat.le_refl n) h0 k hk,Int.zero_mul]
theorem bH.l7{X:Rows}{n w:Nat}{u v:Nat->Int}(a:Int)(hu:bH X n w u)(hv:bH X n w v):bH X n w fun c=>u c+a*v c:=by
 obtain⟨y,hy⟩:=hu;obtain⟨z,hz⟩:=hv;refine⟨fun k=>y k+a*z k,fun c hc=>?_⟩;show u c+a*v c=S n fun k=>(y k+a*z k)*g X k c;rw[hy c hc,hz c hc,<-cZ,<-gK];exact av fun k _=>by rw[Int.add_mul,Int.mul_assoc]
theorem bH.comb{X:Rows}{n w:Nat}{a:Nat->Int}{v:Nat->Nat->Int}:∀ {m:Nat},(∀l,l<m->bH X n w (v l))->bH X n w fun c=>S m fun l=>a l*v l c
 |0,_=>⟨fun _=>0,fun c _=>(fb fun k _=>Int.zero_mul _).symm⟩
 |m+1,h=>bH.l7 (a m) (bH.comb (m:=m) fun l hl=>h l (by omega)) (h m (Nat.lt_succ_self m))
theorem Om{X:Rows}{n w M:Nat}{ld:Nat->Nat}{d:Int}{v:Nat->Nat->Int}(s:bb X n w ld)(r:jo X n ld)(hd:d≠0)(hv:∀l,l<n->bH X n w (v l))(hl:∀l j,l<n->j<n->v l (ld j)=d*dl l j)(hb:∀l c,l<n->c<w->(v l c).natAbs<=M):∀i c,i<n->c<w->(g X i c).natAbs<=n*M:=fun i c hi hc=>by
 have le:∀j,j<n->(g X j (ld j)).natAbs<=d.natAbs:=fun j hj=>by
  obtain⟨z,hz⟩:=hv j hj;have e:=s.Qf hz hj fun l h=>by rw[hl j l hj (by omega),cy (by omega),Int.mul_zero]
  rw[hl j j hj hj,bT,Int.mul_one]at e;rw[e,Int.natAbs_mul];refine Nat.le_mul_of_pos_left _ (Int.natAbs_pos.mpr fun q=>hd ?_);rw[e,q,Int.zero_mul]
 have bd:∀l,l<n->(g X i (ld l)).natAbs<=d.natAbs:=fun l h=>by
  have h1:=le l h;rcases Nat.lt_trichotomy i l with q|q|q
  . have:=r i l q h;omega
  . rw[q];exact h1
  . rw[(s.lead i hi).2.2 _ (s.mono l i q hi)];exact Nat.zero_le _
 have e:d*g X i c=S n fun l=>g X i (ld l)*v l c:=by
  have y:bH X n w fun c=>(0*g X i c+d*g X i c)-S n fun l=>g X i (ld l)*v l c:=bH.sub (bH.l7 d (bH.eq (u:=fun c=>S 0 fun _=>0) (bH.comb (m:=0) (a:=fun _=>0) (v:=fun _ _=>0) fun l h=>absurd h (Nat.not_lt_zero _)) fun c _=>Int.zero_mul _) (bH.row hi)) (bH.comb hv)
  have:=s.nil y (fun l h=>by
   obtain⟨h1,_⟩:=s.lead l h
   have e:(S n fun k=>g X i (ld k)*v k (ld l))=d*g X i (ld l):=by
    rw[eZ h fun k hk hne=>by rw[hl k l hk h,cy hne,Int.mul_zero,Int.mul_zero],hl l l h h,bT,Int.mul_one,Int.mul_comm]
   show(0*g X i (ld l)+d*g X i (ld l))-(S n fun k=>g X i (ld k)*v k (ld l))=0;rw[e];omega) c hc
  simp only[Int.zero_mul,Int.zero_add]at this;omega
 have b2:(d*g X i c).natAbs<=n*(d.natAbs*M):=by
  rw[e];exact BV fun l h=>by rw[Int.natAbs_mul];exact Nat.mul_le_mul (bd l h) (hb l c h hc)
 rw[Int.natAbs_mul,Nat.mul_left_comm]at b2;exact Nat.le_of_mul_le_mul_left b2 (Int.natAbs_pos.mpr hd)
theorem xV{t l j:Nat}{M:Fn}(hl:l<t)(hj:j<t):D t (upd M l (M j))=D t M*dl l j:=by
 by_cases h:l=j
 . subst h;rw[bT,Int.mul_one]
   exact cC fun r c _ _=>by
    by_cases q:r=l
    . subst q;exact cm ..
    . exact az q c
 . rw[cy h,Int.mul_zero];exact(iW t).alt l j _ hl hj h fun c _=>by rw[cm,az (Ne.symm h)]
theorem zC{t l:Nat}{M:Fn}{x y:Nat->Int}(h:∀c,c<t->x c=y c):D t (upd M l x)=D t (upd M l y):=cC fun r c _ hc=>by
 unfold upd;split
 . exact h c hc
 . rfl
theorem Mn{A B:Fn}{G:Rows}{t w b:Nat}{ld:Nat->Nat}(s:bb G t w ld)(r:jo G t ld)(t8:t<=9)(hA:∀i c,i<t->c<w->(A i c).natAbs<=b)(hAB:∀i c,i<t->c<w->A i c=S t fun k=>B i k*g G k c)(hB:D t B≠0):∀k c,k<t->c<w->(g G k c).natAbs<=t*(9*b)^t:=by
 have hd:D t (fun r i=>A i (ld r))≠0:=by
  have e1:D t (fun r i=>A i (ld r))=D t (fun i r=>A i (ld r)):=v_ t fun i r=>A i (ld r)
  have e2:D t (fun i r=>A i (ld r))=D t B*D t fun k r=>g G k (ld r):=by
   rw[<-sG];exact cC fun i r hi hr=>hAB i _ hi (s.lead r hr).1
  rw[e1,e2,B8 fun r c hr hc h=>(s.lead r hr).2.2 _ (s.mono c r h hr)];exact Int.mul_ne_zero hB (Int.ne_of_gt (qG fun i hi=>(s.lead i hi).2.1))
 refine Om (v:=fun l c=>D t (upd (fun r i=>A i (ld r)) l fun i=>A i c)) s r hd (fun l hl=>?_) (fun l j hl hj=>xV (M:=fun r i=>A i (ld r)) hl hj) fun l c hl hc=>DY (K:=9) t8 fun r i hr hi=>?_
 . refine⟨fun k=>D t (upd (fun r i=>A i (ld r)) l fun i=>B i k),fun c hc=>?_⟩;have e:=(iW t).lY hl (fun r i=>A i (ld r)) (fun k=>g G k c) (fun k i=>B i k) t;show D t (upd (fun r i=>A i (ld r)) l fun i=>A i c)=_;rw[zC fun i hi=>(hAB i c hi hc).trans (av fun k _=>Int.mul_comm _ _),e];exact av fun k _=>Int.mul_comm _ _
 . unfold upd;split
   . exact hA i c hi hc
   . exact hA i _ hi (s.lead r hr).1
theorem Ew{b:Nat}(b1:1<=b):∀ {n m:Nat} {M:Fn},n<=8->(∀r c,r<n->c<n->(M r c).natAbs<=if r<m then b else 1)->(D n M).natAbs<=8^n*b^m
 |0,m,_,_,_=>by
  rw[zI,Nat.pow_zero,Nat.one_mul];exact Nat.pow_pos b1
 |n+1,m,M,hn,h=>by
  rw[c_]
  have key:∀j,j<n+1->(sg j*M 0 j*D n fun r c=>M (r+1) (sk j c)).natAbs<=8^n*b^m:=fun j hj=>by
   have a:=Ew b1 (n:=n) (m:=m-1) (M:=fun r c=>M (r+1) (sk j c)) (by omega) fun r c hr hc=>by
    have:=h (r+1) (sk j c) (by omega) (jj hc);by_cases q:r+1<m
    . rw[if_pos q]at this;rw[if_pos (by omega)];exact this
    . rw[if_neg q]at this;rw[if_neg (by omega)];exact this
   have c:=h 0 j (by omega) hj;have s:(sg j).natAbs=1:=by unfold sg;split<;>rfl
   rw[Int.natAbs_mul,Int.natAbs_mul,s,Nat.one_mul];cases m with
   |zero=>
    rw[if_neg (by omega)]at c;exact Nat.le_trans (Nat.mul_le_mul c a) (by rw[Nat.one_mul];exact Nat.le_refl _)
   |succ m=>
    rw[if_pos (by omega)]at c;refine Nat.le_trans (Nat.mul_le_mul c a) ?_;rw[Nat.add_sub_cancel,Nat.pow_succ b m,Nat.mul_left_comm,Nat.mul_comm b];exact Nat.le_refl _
  refine Nat.le_trans (BV key) ?_;rw[Nat.pow_succ,Nat.mul_comm (8^n) 8,Nat.mul_assoc];exact Nat.mul_le_mul_right _ hn
theorem GQ{m:Nat}{M:Fn}:∀ {k:Nat},(∀r c,m<=r->r<m+k->c<m+k->M r c=dl r c)->D (m+k) M=D m M
 |0,_=>rfl
 |k+1,h=>by
  rw[<-Nat.add_assoc,yy fun c hc=>h (m+k) c (by omega) (by omega) (by omega)];exact GQ fun r c h1 h2 h3=>h r c h1 (by omega) (by omega)
def Wm(A:Fn)(m:Nat)(ld:Nat->Nat):Fn:=fun r c=>if r<m then A r c else dl (ld (r-m)) c
theorem Nl{A B R:Fn}{F K:Rows}{m k w:Nat}{ld:Nat->Nat}(s:bb K k w ld)(num:m+k=w)(hAB:∀i c,i<m->c<w->A i c=S m fun k=>B i k*g F k c)(hB:D m B≠0)(lH:∀i q,i<k->q<m->(S w fun c=>g F q c*g K i c)=0)(h0:∀q l,q<l->l<m->(S w fun c=>g F q c*R l c)=0)(h1:∀l,l<m->(S w fun c=>g F l c*R l c)≠0):D w (Wm A m ld)≠0:=by
 have e1:D w (Wm A m ld)=D w (fun r s=>if r<m then(if s<m then B r s else 0)else dl r s)*D w (Wm (g F) m ld):=by
  rw[<-sG];refine cC fun r c hr hc=>?_;unfold Wm;by_cases h:r<m
  . rw[if_pos h,hAB r c h hc,<-num,wg m _ k,fb (n:=k) fun i hi=>by rw[if_pos h,if_neg (by omega),Int.zero_mul],Int.add_zero];exact av fun i hi=>by rw[if_pos h,if_pos hi,if_pos hi]
  . rw[if_neg h,eZ hr fun i _ hne=>by rw[if_neg h,cy (Ne.symm hne),Int.zero_mul],if_neg h,bT,Int.one_mul,if_neg h]
 have e2:D w (fun r s=>if r<m then(if s<m then B r s else 0)else dl r s)=D m B:=by
  rw[<-num,GQ fun r c h1 h2 h3=>if_neg (by omega)];exact cC fun r c hr hc=>by rw[if_pos hr,if_pos hc]
 have e3:D w (Wm (g F) m ld)*D w (fun c l=>if l<m then R l c else g K (l-m) c)≠0:=by
  have lr:∀r l,r<w->¬r<m->(S w fun c=>Wm (g F) m ld r c*if l<m then R l c else g K (l-m) c)=if l<m then R l (ld (r-m))else g K (l-m) (ld (r-m)):=fun r l hr h=>by
   have h2:=(s.lead (r-m) (by omega)).1;unfold Wm;rw[eZ h2 fun c _ hne=>by rw[if_neg h,cy (Ne.symm hne),Int.zero_mul],if_neg h,bT,Int.one_mul]
  have lu:∀r l,r<m->(S w fun c=>Wm (g F) m ld r c*if l<m then R l c else g K (l-m) c)=S w fun c=>g F r c*if l<m then R l c else g K (l-m) c:=fun r l h=>av fun c _=>by unfold Wm;rw[if_pos h]
  rw[<-sG,CM fun r l hr hl hrl=>?_]
  . refine(?_:Pr w _≠0)
    have pn:∀ {n:Nat} {f:Nat->Int},(∀i,i<n->f i≠0)->Pr n f≠0:=fun{n}=>by
     induction n with
     |zero=>exact fun _=>(by decide:(1:Int)≠0)
     |succ n ih=>exact fun{f} h=>Int.mul_ne_zero (ih fun i hi=>h i (by omega)) (h n (Nat.lt_succ_self n))
    refine pn fun r hr=>?_;by_cases h:r<m
    . rw[lu r r h];have:(S w fun c=>g F r c*if r<m then R r c else g K (r-m) c)=S w fun c=>g F r c*R r c:=av fun c _=>by rw[if_pos h]
      rw[this];exact h1 r h
    . rw[lr r r hr h,if_neg h];exact Int.ne_of_gt (s.lead (r-m) (by omega)).2.1
  . by_cases h:r<m
    . rw[lu r l h];by_cases q:l<m
      . refine Eq.trans (av fun c _=>by rw[if_pos q]) (h0 r l hrl q)
      . refine Eq.trans (av fun c _=>by rw[if_neg q]) (lH (l-m) r (by omega) h)
    . rw[lr r l hr h,if_neg (by omega)];exact(s.lead (l-m) (by omega)).2.2 _ (s.mono _ _ (by omega) (by omega))
 rw[e1,e2];exact Int.mul_ne_zero hB fun z=>e3 (by rw[z,Int.zero_mul])
theorem OZ{A B:Fn}{F K:Rows}{m k w b:Nat}{ld:Nat->Nat}(s:bb K k w ld)(r:jo K k ld)(num:m+k=w)(w8:w<=8)(b1:1<=b)(hA:∀i c,i<m->c<w->(A i c).natAbs<=b)(hAB:∀i c,i<m->c<w->A i c=S m fun k=>B i k*g F k c)(hB:D m B≠0)(lH:∀x:Nat->Int,(∀i,i<m->(S w fun c=>x c*g F i c)=0)->bH K k w x)(hW:D w (Wm A m ld)≠0):∀i c,i<k->c<w->(g K i c).natAbs<=k*(8^w*b^m):=by
 have eW:∀j,j<k->∀q,Wm A m ld (m+j) q=dl (ld j) q:=fun j hj q=>by unfold Wm;rw[if_neg (by omega),Nat.add_sub_cancel_left]
 refine Om (v:=fun j c=>D w (upd (Wm A m ld) (m+j) (dl c))) s r hW (fun j hj=>lH _ fun i hi=>?_) (fun l j hl hj=>?_) fun j c hj hc=>Ew b1 w8 fun r q hr hq=>?_
 . have hs:m+j<w:=by omega
   have e1:=(iW w).lY hs (Wm A m ld) (fun c=>g F i c) (fun c=>dl c) w
   have e2:(S w fun c=>D w (upd (Wm A m ld) (m+j) (dl c))*g F i c)=D w (upd (Wm A m ld) (m+j) (g F i)):=by
    refine((av fun c _=>Int.mul_comm _ _).trans e1.symm).trans (zC fun q hq=>?_);rw[eZ hq fun c _ hne=>by rw[cy hne,Int.mul_zero],bT,Int.mul_one]
   show(S w fun c=>D w (upd (Wm A m ld) (m+j) (dl c))*g F i c)=0;rw[e2]
   let y:Nat->Int:=fun r=>D m (upd (tr B) i (dl r))
   have ey:∀t,t<m->(S m fun r=>y r*B r t)=D m B*dl i t:=fun t ht=>by
    have e3:=(iW m).lY hi (tr B) (fun r=>B r t) (fun r=>dl r) m;rw[av fun r _=>Int.mul_comm (y r) _];refine e3.symm.trans ((zC fun q hq=>?_).trans ((xV (M:=tr B) hi ht).trans (by rw[v_])));rw[eZ hq fun c _ hne=>by rw[cy hne,Int.mul_zero],bT,Int.mul_one];rfl
   have sp:∀c,c<w->D m B*g F i c=S m fun r=>y r*Wm A m ld r c:=fun c hc=>by
    have e4:(S m fun r=>y r*Wm A m ld r c)=S m fun r=>S m fun t=>y r*B r t*g F t c:=av fun r hr=>by
     unfold Wm;rw[if_pos hr,hAB r c hr hc,<-cZ];exact av fun t _=>(Int.mul_assoc _ _ _).symm
    rw[e4,gW,av (g:=fun t=>D m B*dl i t*g F t c) fun t ht=>by rw[i8,ey t ht],eZ hi fun t _ hne=>by rw[cy (Ne.symm hne),Int.mul_zero,Int.zero_mul],bT,Int.mul_one]
   have e5:=(iW w).yr hs (Wm A m ld) (D m B) (g F i);have e6:=(iW w).lY hs (Wm A m ld) y (Wm A m ld) m;rw[zC sp,e6,fb fun r hr=>by rw[xV hs (by omega),cy (by omega),Int.mul_zero,Int.mul_zero]]at e5;rcases Int.mul_eq_zero.mp e5.symm with z|z
   . exact absurd z hB
   . exact z
 . show D w (upd (Wm A m ld) (m+l) (dl (ld j)))=_;rw[zC fun q _=>(eW j hj q).symm,xV (by omega) (by omega)];congr 1;unfold dl;by_cases h:l=j
   . rw[if_pos h,if_pos (by omega)]
   . rw[if_neg h,if_neg (by omega)]
 . have d1:∀x y,(dl x y).natAbs<=1:=fun x y=>by unfold dl;split<;>decide
   by_cases h:r=m+j
   . subst h;rw[cm,if_neg (by omega)];exact d1 _ _
   . rw[az h];unfold Wm;by_cases h2:r<m
     . rw[if_pos h2,if_pos h2];exact hA r q h2 hq
     . rw[if_neg h2,if_neg h2];exact d1 _ _
theorem d_.picked{A F:Rows}{N m w:Nat}{ld:Nat->Nat}(st:bb F m w ld)(same:d_ A N F m w):∃(I:Nat->Nat) (B:Fn),(∀k,k<m->I k<N)/\(∀i c,i<m->c<w->g A (I i) c=S m fun k=>B i k*g F k c)/\D m B≠0:=by
 have hB:∀i,∃z:Nat->Int,i<N->∀c,c<w->g A i c=S m fun k=>z k*g F k c:=fun i=>by
  by_cases h:i<N
  . obtain⟨z,hz⟩:=same.to i h;exact⟨z,fun _=>hz⟩
  . exact⟨fun _=>0,fun z=>absurd z h⟩
 have hU:∀k,∃z:Nat->Int,k<m->∀c,c<w->g F k c=S N fun i=>z i*g A i c:=fun k=>by
  by_cases h:k<m
  . obtain⟨z,hz⟩:=same.of k h;exact⟨z,fun _=>hz⟩
  . exact⟨fun _=>0,fun z=>absurd z h⟩
 let B:Fn:=fun i=>Classical.choose (hB i)
 let U:Fn:=fun k=>Classical.choose (hU k)
 have eB:∀i,i<N->∀c,c<w->g A i c=S m fun k=>B i k*g F k c:=fun i=>Classical.choose_spec (hB i);have eU:∀k,k<m->∀c,c<w->g F k c=S N fun i=>U k i*g A i c:=fun k=>Classical.choose_spec (hU k)
 obtain⟨I,h1,h2⟩:=pick (t:=m) (N:=N) (U:=U) (B:=B) fun k l hk hl=>by
  have e1:∀c,c<w->S m (fun l=>(S N fun i=>U k i*B i l)*g F l c)=g F k c:=fun c hc=>by
   rw[eU k hk c hc]
   have:(S N fun i=>U k i*g A i c)=S N fun i=>S m fun l=>U k i*B i l*g F l c:=av fun i hi=>by
    rw[eB i hi c hc,<-cZ];exact av fun l _=>(Int.mul_assoc _ _ _).symm
   rw[this,gW];exact av fun l _=>(i8 _ _ _).symm
  have e2:∀c,c<w->(0:Int)=S m fun l=>((S N fun i=>U k i*B i l)-dl k l)*g F l c:=fun c hc=>by
   have h1:(S m fun l=>((S N fun i=>U k i*B i l)-dl k l)*g F l c)=S m (fun l=>(S N fun i=>U k i*B i l)*g F l c)-S m fun l=>dl k l*g F l c:=by
    rw[Int.sub_eq_add_neg,<-sJ,<-gK];exact av fun l _=>by rw[Int.sub_mul,Int.sub_eq_add_neg]
   rw[h1,e1 c hc,nJ hk,Int.sub_self]
  have e3:(S N fun i=>U k i*B i l)-dl k l=0:=st.gone (v:=fun _=>0) (z:=fun l=>(S N fun i=>U k i*B i l)-dl k l) (q:=w) e2 (fun _ _=>rfl) l hl (st.lead l hl).1;omega
 exact⟨I,fun i=>B (I i),h1,fun i c hi hc=>eB _ (h1 i hi) c hc,h2⟩
structure Ke(F:Rows)(m w:Nat)(K:Rows)(k:Nat):Prop where
 is:ck k w K
 st:bb K k w (aZ K)
 red:jo K k (aZ K)
 lH:∀x:Nat->Int,(∀i,i<m->(S w fun c=>x c*g F i c)=0)↔bH K k w x
 num:m+k=w
 OA:∃R:Fn,(∀q l,q<l->l<m->(S w fun c=>g F q c*R l c)=0)/\∀l,l<m->(S w fun c=>g F l c*R l c)≠0
theorem Ke.row{F K:Rows}{m w k i q:Nat}(h:Ke F m w K k)(hi:i<k)(hq:q<m):(S w fun c=>g K i c*g F q c)=0:=(h.lH _).mpr (bH.row hi) q hq
theorem Ke.abs{A F K:Rows}{N m w k b:Nat}(h:Ke F m w K k)(sF:bb F m w (aZ F))(same:d_ A N F m w)(w8:w<=8)(b1:1<=b)(hA:∀i c,i<N->c<w->(g A i c).natAbs<=b):∀i c,i<k->c<w->(g K i c).natAbs<=k*(8^w*b^m):=by
 obtain⟨I,B,h1,h2,h3⟩:=same.picked sF;obtain⟨R,r1,r2⟩:=h.OA;exact OZ (A:=fun i=>g A (I i)) h.st h.red h.num w8 b1 (fun i c hi hc=>hA _ c (h1 i hi) hc) h2 h3 (fun x=>(h.lH x).mp) (Nl h.st h.num h2 h3 (fun i q hi hq=>(av fun c _=>Int.mul_comm _ _).trans (h.row hi hq)) r1 r2)
theorem d_.abs{A F:Rows}{N m w b:Nat}(m8:m<=8)(sF:bb F m w (aZ F))(rF:jo F m (aZ F))(same:d_ A N F m w)(hA:∀i c,i<N->c<w->(g A i c).natAbs<=b):∀i c,i<m->c<w->(g F i c).natAbs<=m*(9*b)^m:=by
 obtain⟨I,B,h1,h2,h3⟩:=same.picked sF;exact Mn (A:=fun i=>g A (I i)) sF rF (by omega) (fun i c hi hc=>hA _ c (h1 i hi) hc) h2 h3
theorem Ke.back{F K G:Rows}{m w k m':Nat}(h:Ke F m w K k)(h':Ke K k w G m'):m'=m/\∀i,i<m->bH G m' w (g F i):=
 ⟨by have:=h.num;have:=h'.num;omega,fun i hi=>(h'.lH _).mp fun q hq=>(av fun c _=>Int.mul_comm _ _).trans (h.row hq hi)⟩
theorem Ke.OQ{A F K G:Rows}{N m w k b:Nat}(h:Ke F m w K k)(h':Ke K k w G m)(m8:m<=8)(sF:bb F m w (aZ F))(same:d_ A N F m w)(hA:∀i c,i<N->c<w->(g A i c).natAbs<=b):∀i c,i<m->c<w->(g G i c).natAbs<=m*(9*b)^m:=by
 obtain⟨I,B,h1,h2,h3⟩:=same.picked sF
 have hC:∀i,∃z:Nat->Int,i<m->∀c,c<w->g F i c=S m fun k=>z k*g G k c:=fun i=>by
  by_cases q:i<m
  . obtain⟨z,hz⟩:=(h.back h').2 i q;exact⟨z,fun _=>hz⟩
  . exact⟨fun _=>0,fun z=>absurd z q⟩
 let C:Fn:=fun i=>Classical.choose (hC i)
 have eC:∀i,i<m->∀c,c<w->g F i c=S m fun k=>C i k*g G k c:=fun i=>Classical.choose_spec (hC i)
 have nC:D m C≠0:=fun z=>by
  have e:D m (fun i r=>g F i (aZ F r))=D m C*D m fun k r=>g G k (aZ F r):=by
   rw[<-sG];exact cC fun i r hi hr=>eC i hi _ (sF.lead r hr).1
  rw[B8 fun r c hr hc h=>(sF.lead r hr).2.2 _ (sF.mono c r h hr),z,Int.zero_mul]at e;exact absurd e (Int.ne_of_gt (qG fun i hi=>(sF.lead i hi).2.1))
 refine Mn (A:=fun i=>g A (I i)) (B:=fun i k=>S m fun l=>B i l*C l k) h'.st h'.red (by omega) (fun i c hi hc=>hA _ c (h1 i hi) hc) (fun i c hi hc=>?_) (by rw[sG];exact Int.mul_ne_zero h3 nC)
 have e1:(S m fun l=>B i l*g F l c)=S m fun l=>S m fun k=>B i l*C l k*g G k c:=av fun l hl=>by
  rw[eC l hl c hc,<-cZ];exact av fun k _=>(Int.mul_assoc _ _ _).symm
 rw[h2 i c hi hc,e1,gW];exact av fun k _=>i8 _ _ _
theorem Ke.again{F K G K':Rows}{m w k k':Nat}(h:Ke F m w K k)(h':Ke K k w G m)(h2:Ke G m w K' k'):K'=K:=by
 have e:k'=k:=by have:=h.num;have:=h2.num;omega
 subst e
 have a:∀i,i<k'->bH K k' w (g K' i):=fun i hi=>(h.lH _).mp fun q hq=>by
  obtain⟨z,hz⟩:=(h.back h').2 q hq
  have e1:(S w fun c=>g K' i c*g F q c)=S w fun c=>S m fun l=>z l*(g K' i c*g G l c):=av fun c hc=>by
   rw[hz c hc,<-cZ];exact av fun l _=>Int.mul_left_comm _ _ _
  rw[e1,gW];exact fb fun l hl=>by rw[cZ,h2.row hi hl,Int.mul_zero]
 have b:∀i,i<k'->bH K' k' w (g K i):=fun i hi=>(h2.lH _).mp fun q hq=>(av fun c _=>Int.mul_comm _ _).trans (h'.row hq hi);exact h2.is.ext h.is fun i c hi hc=>h2.st.only h.st a b h2.red h.red hi c hc
theorem Ke.one{F K K':Rows}{m w k k':Nat}(h:Ke F m w K k)(h':Ke F m w K' k'):K=K':=by
 have e:k'=k:=by have:=h.num;have:=h'.num;omega
 subst e;exact h.is.ext h'.is fun i c hi hc=>h.st.only h'.st (fun i hi=>(h'.lH _).mp ((h.lH _).mpr (bH.row hi))) (fun i hi=>(h.lH _).mp ((h'.lH _).mpr (bH.row hi))) h.red h'.red hi c hc
theorem Lh{F:Rows}{m w top e u:Nat}{c:B3}{ld:Nat->Nat}(hF:ck m w F)(sF:bb F m w (aZ F))(H:j7 (nr F w) w m c top m ld e u):top=m:=by
 have t1:∀i,i<top->i<=ld i:=fun i=>by
  induction i with
  |zero=>exact fun _=>Nat.zero_le _
  |succ i ih=>
   intro h;have:=ih (by omega);have:=H.mono i (i+1) (by omega) h;omega
 have t2:top<=m:=Nat.le_of_not_lt fun h=>by
  have a:=t1 (top-1) (by omega);have b:=(H.lead (top-1) (by omega)).1;omega
 refine Nat.le_antisymm t2 (Nat.le_of_not_lt fun h=>?_)
 have e:D m (fun i r=>g F i (aZ F r))=D m (fun i k=>g c.A k i)*D m fun k r=>if k<top then g c.C k (aZ F r)else 0:=by
  rw[<-sG];refine cC fun i r hi hr=>?_;have hr2:=(sF.lead r hr).1;rw[<-o9 hF hi hr2,H.back hr2 hi,x6 t2 fun k h1 _=>by rw[if_neg (by omega),Int.mul_zero]];exact av fun k hk=>by rw[if_pos hk,Int.mul_comm]
 rw[(iW m).EZ (M:=fun k r=>if k<top then g c.C k (aZ F r)else 0) h fun r _=>if_neg (Nat.lt_irrefl _),Int.mul_zero,B8 fun r c hr hc h=>(sF.lead r hr).2.2 _ (sF.mono c r h hr)]at e;exact absurd e (Int.ne_of_gt (qG fun i hi=>(sF.lead i hi).2.1))
theorem Je{A0:Rows}{m w w' top e u e' u' t':Nat}{c c2:B3}{ld ld':Nat->Nat}(H:j7 A0 w w' c m w' ld e u)(H2:j7 (c.U.drop m) (w-m) w c2 top t' ld' e' u')(ht:t'=w):top=w-m:=by
 subst ht;refine Nat.le_antisymm H2.le (Nat.le_of_not_lt fun h=>?_)
 have z:∀l,l<t'-m->g c2.U top l=0:=fun l hl=>by
  have e1:(S t' fun q=>g c2.A top q*g c.C (m+l) q)=g c2.U top l:=by
   have:(S t' fun q=>g c2.A top q*g c.C (m+l) q)=S t' fun q=>S (t'-m) fun n=>g c2.U top n*(g c.U (m+n) q*g c.C (m+l) q):=av fun q hq=>by
    rw[H2.tn.ua top q h hq,<-i8];exact av fun n _=>by rw[vD,Int.mul_assoc]
   rw[this,gW];refine(av fun n hn=>by rw[cZ,H.tn.ub (m+n) (m+l) (by omega) (by omega)]).trans ?_;rw[eZ hl fun n _ hne=>by rw[cy (by omega),Int.mul_zero],bT,Int.mul_one]
  rw[<-e1];exact fb fun q hq=>by rw[H2.zs top q (Nat.le_refl _) h hq,Int.zero_mul]
 have e2:=H2.tn.ub top top h h;rw[fb fun l hl=>by rw[z l hl,Int.zero_mul],bT]at e2;exact absurd e2 (by decide)
theorem MY{F K:Rows}{m w k e u:Nat}{c:B3}{ld:Nat->Nat}(hF:ck m w F)(H:j7 (nr F w) w m c m m ld e u)(hK:ck k w K)(sK:bb K k w (aZ K))(rK:jo K k (aZ K))(same:d_ (c.U.drop m) (w-m) K k w)(hk:k=w-m):Ke F m w K k:=by
 have le:=H.le
 have t1:∀i,i<m->i<=ld i:=fun i=>by
  induction i with
  |zero=>exact fun _=>Nat.zero_le _
  |succ i ih=>
   intro h;have:=ih (by omega);have:=H.mono i (i+1) (by omega) h;omega
 have t2:∀j i,i+j+1=m->ld i<=i:=fun j=>by
  induction j with
  |zero=>
   intro i h;have:=(H.lead i (by omega)).1;omega
  |succ j ih=>
   intro i h;have:=ih (i+1) (by omega);have:=H.mono i (i+1) (by omega) (by omega);omega
 have tt:∀i,i<m->ld i=i:=fun i hi=>Nat.le_antisymm (t2 (m-1-i) i (by omega)) (t1 i hi)
 have ea:∀q l,q<m->l<m->(S w fun n=>g F q n*g c.U l n)=g c.A l q:=fun q l hq hl=>by
  rw[H.tn.ua l q (by omega) hq];exact av fun n hn=>by rw[o9 hF hq hn,Int.mul_comm]
 refine⟨hK,sK,rK,fun x=>?_,by omega,g c.U,fun q l hql hl=>?_,fun l hl=>?_⟩
 . have h1:(∀i,i<m->(S w fun c=>x c*g F i c)=0)↔∀q,q<m->(S w fun n=>x n*g (nr F w) n q)=0:=
    ⟨fun h q hq=>(av fun n hn=>by rw[o9 hF hq hn]).trans (h q hq),fun h q hq=>(av fun n hn=>by rw[o9 hF hq hn]).trans (h q hq)⟩
   rw[h1,H.kernel];exact⟨fun h=>bH.trans same.to h,fun h=>bH.trans same.of h⟩
 . rw[ea q l (by omega) hl];exact(H.lead l hl).2.2 q (by rw[tt l hl];exact hql)
 . rw[ea l l hl hl];have:=(H.lead l hl).2.1;rw[tt l hl]at this;omega
theorem Ke.units{F:Rows}{w:Nat}:Ke F 0 w (units w) w:=by
 have gu:∀i c,i<w->c<w->g (Mx.units w) i c=dl i c:=fun i c hi hc=>jw hi hc;have s:bb (Mx.units w) w w fun i=>i:=⟨fun i hi=>⟨hi,by rw[gu i i hi hi,bT];decide,fun c hc=>by rw[gu i c hi (by omega),cy (by omega)]⟩,fun i j h _=>h⟩
 refine⟨pV w,s.Lr,fun i j hij hj=>?_,fun x=>⟨fun _=>⟨x,fun c hc=>?_⟩,fun _ i h=>absurd h (Nat.not_lt_zero _)⟩,Nat.zero_add w,fun _ _=>0,fun q l _ h=>absurd h (Nat.not_lt_zero _),fun l h=>absurd h (Nat.not_lt_zero _)⟩
 . rw[s.aZ hj,gu i j (by omega) hj,gu j j hj hj,bT,cy (by omega)];decide
 . rw[eZ hc fun i hi hne=>by rw[gu i c hi hc,cy hne,Int.mul_zero],gu c c hc hc,bT,Int.mul_one]
theorem IL{m:Nat}{f:Nat->Nat}(h1:∀i,i<m->f i<m)(h2:∀i j,i<j->j<m->f i<f j):∀i,i<m->f i=i:=by
 have t1:∀i,i<m->i<=f i:=fun i=>by
  induction i with
  |zero=>exact fun _=>Nat.zero_le _
  |succ i ih=>
   intro h;have:=ih (by omega);have:=h2 i (i+1) (by omega) h;omega
 have t2:∀j i,i+j+1=m->f i<=i:=fun j=>by
  induction j with
  |zero=>
   intro i h;have:=h1 i (by omega);omega
  |succ j ih=>
   intro i h;have:=ih (i+1) (by omega);have:=h2 i (i+1) (by omega) (by omega);omega
 exact fun i hi=>Nat.le_antisymm (t2 (m-1-i) i (by omega)) (t1 i hi)
theorem Ke.MO{F K G:Rows}{m w k:Nat}(sF:bb F m w (aZ F))(h:Ke F m w K k)(h':Ke K k w G m):∀i,i<m->aZ G i=aZ F i:=by
 have see:∀i,∃j,i<m->j<m/\aZ G j=aZ F i:=fun i=>by
  by_cases hi:i<m
  . obtain⟨j,h1,h2,_⟩:=sF.sees h'.st (h.back h').2 i hi;exact⟨j,fun _=>⟨h1,h2⟩⟩
  . exact⟨0,fun z=>absurd z hi⟩
 let f:Nat->Nat:=fun i=>Classical.choose (see i)
 have ef:∀i,i<m->f i<m/\aZ G (f i)=aZ F i:=fun i=>Classical.choose_spec (see i);have id:=IL (fun i hi=>(ef i hi).1) fun i j hij hj=>h'.st.lt (ef i (by omega)).1 (ef j hj).1 (by rw[(ef i (by omega)).2,(ef j hj).2];exact sF.mono i j hij hj);intro i hi;have:=(ef i hi).2;rwa [id i hi]at this
theorem Ke.OS{F K G:Rows}{m w k:Nat}(sF:bb F m w (aZ F))(h:Ke F m w K k)(h':Ke K k w G m)(x:Nat->Int):bH G m w x↔bH F m w fun c=>Pr m (fun i=>g F i (aZ F i))*x c:=by
 have pos:0<Pr m fun i=>g F i (aZ F i):=qG fun i hi=>(sF.lead i hi).2.1;constructor
 . intro hx;have eE:D m (fun i r=>g F i (aZ F r))=Pr m fun i=>g F i (aZ F i):=B8 fun r c hr hc h=>(sF.lead r hr).2.2 _ (sF.mono c r h hr);refine⟨fun i=> -bt (fun i r=>g F i (aZ F r)) m (fun r=>x (aZ F r)) i,fun c hc=>?_⟩;have y:bH G m w fun c=>(0*x c+Pr m (fun i=>g F i (aZ F i))*x c)-S m fun l=> -bt (fun i r=>g F i (aZ F r)) m (fun r=>x (aZ F r)) l*g F l c:=bH.sub (bH.l7 _ (bH.eq (u:=fun c=>S 0 fun _=>0) (bH.comb (m:=0) (a:=fun _=>0) (v:=fun _ _=>0) fun l h=>absurd h (Nat.not_lt_zero _)) fun c _=>Int.zero_mul _) hx) (bH.comb (h.back h').2)
   have:=h'.st.nil y (fun l hl=>by
    have e0:=Nq (fun i r=>g F i (aZ F r)) m (fun r=>x (aZ F r)) l;rw[MF hl,eE]at e0;show(0*x (aZ G l)+Pr m (fun i=>g F i (aZ F i))*x (aZ G l))-(S m fun k=> -bt (fun i r=>g F i (aZ F r)) m (fun r=>x (aZ F r)) k*g F k (aZ G l))=0;rw[h.MO sF h' l hl,av (g:=fun k=> -(bt (fun i r=>g F i (aZ F r)) m (fun r=>x (aZ F r)) k*g F k (aZ F l))) fun k _=>Int.neg_mul _ _,sJ,Int.zero_mul];omega) c hc
   simp only[Int.zero_mul,Int.zero_add]at this;exact Int.sub_eq_zero.mp this
 . intro hx;refine(h'.lH x).mp fun q hq=>?_;have e:=(h'.lH _).mpr (bH.trans (h.back h').2 hx) q hq
   have e2:(S w fun c=>Pr m (fun i=>g F i (aZ F i))*x c*g K q c)=Pr m (fun i=>g F i (aZ F i))*S w fun c=>x c*g K q c:=by
    rw[<-cZ];exact av fun c _=>Int.mul_assoc _ _ _
   have e3:Pr m (fun i=>g F i (aZ F i))*(S w fun c=>x c*g K q c)=0:=by rw[<-e2];exact e
   rcases Int.mul_eq_zero.mp e3 with z|z
   . omega
   . exact z
theorem bb.times{F X:Rows}{m w:Nat}{a:Int}{ld:Nat->Nat}(ha:0<a)(e:∀i c,i<m->c<w->g X i c=a*g F i c)(s:bb F m w ld):bb X m w ld:=
 ⟨fun i hi=>by
  obtain⟨h1,h2,h3⟩:=s.lead i hi;exact⟨h1,by rw[e i _ hi h1];exact Int.mul_pos ha h2,fun c hc=>by rw[e i c hi (by omega),h3 c hc,Int.mul_zero]⟩,s.mono⟩
theorem jo.times{F X:Rows}{m w:Nat}{a:Int}{ld:Nat->Nat}(ha:0<a)(e:∀i c,i<m->c<w->g X i c=a*g F i c)(s:bb F m w ld)(r:jo F m ld):jo X m ld:=fun i j hij hj=>by
 obtain⟨h1,h2⟩:=r i j hij hj;rw[e i _ (by omega) (s.lead j hj).1,e j _ hj (s.lead j hj).1];exact⟨Int.mul_nonneg (Int.le_of_lt ha) h1,Int.mul_lt_mul_of_pos_left h2 ha⟩
theorem Ke.times{F X K:Rows}{m w k:Nat}{a:Int}(ha:0<a)(e:∀i c,i<m->c<w->g X i c=a*g F i c)(h:Ke X m w K k):Ke F m w K k:=by
 have ex:∀(y:Nat->Int) i,i<m->(S w fun c=>y c*g X i c)=a*S w fun c=>y c*g F i c:=fun y i hi=>by
  rw[<-cZ];exact av fun c hc=>by rw[e i c hi hc,Int.mul_left_comm]
 have z:∀t:Int,a*t=0↔t=0:=fun t=>⟨fun q=>by
  rcases Int.mul_eq_zero.mp q with p|p
  . omega
  . exact p,fun q=>by rw[q,Int.mul_zero]⟩
 obtain⟨R,r1,r2⟩:=h.OA
 have er:∀q l,q<m->(S w fun c=>g X q c*R l c)=a*S w fun c=>g F q c*R l c:=fun q l hq=>by
  rw[av fun c _=>Int.mul_comm _ _,ex _ q hq];exact congrArg _ (av fun c _=>Int.mul_comm _ _)
 exact⟨h.is,h.st,h.red,fun x=>⟨fun q=>(h.lH x).mp fun i hi=>by rw[ex x i hi,q i hi,Int.mul_zero],fun q i hi=>(z _).mp (by rw[<-ex x i hi];exact(h.lH x).mpr q i hi)⟩,h.num,R,fun q l hql hl=>(z _).mp (by rw[<-er q l (by omega)];exact r1 q l hql hl),fun l hl q=>r2 l hl (by rw[er l l hl,q,Int.mul_zero])⟩
end Mx
namespace Prog
open PySem L2 L3
open PySem.Spec hiding items?
open PyProof.Rows hiding St
theorem gB{i j:Int}(h1: -(2^64)<i)(h2:i<2^64):IntMulOk i j:= .of_left (intBits_le_64 h1 h2)
def isInt:D->Bool
 | .int _=>true
 |_=>false
abbrev aD(r:List Int):List D:=r.map D.int
abbrev bQ(r:List Int):D:= .tup (aD r)
abbrev bg(r:List Int):D:= .lst (aD r)
abbrev cB(A:List (List Int)):D:= .tup (A.map bQ)
abbrev NT(A:List (List Int)):D:= .lst (A.map bg)
def cf(st:af):List D->List (List Int)->Prop
 | [],[]=>True
 |d::ds,r::rs=>items? st d=some (aD r)/\cf st ds rs
 |_,_=>False
structure fO(st:af)(d:D)(A:List (List Int)):Prop where
 ex:∃ds,items? st d=some ds/\cf st ds A
theorem cf.len{st:af}:∀ {ds:List D} {A:List (List Int)},cf st ds A->ds.length=A.length
 | [],[],_=>rfl
 |_::_,_::_,h=>by simp[cf.len h.2]
theorem cf.tup{st:af}:∀ {A:List (List Int)},cf st (A.map bQ) A
 | []=>trivial
 |_::_=>⟨rfl,cf.tup⟩
theorem cf.lst{st:af}:∀ {A:List (List Int)},cf st (A.map bg) A
 | []=>trivial
 |_::_=>⟨rfl,cf.lst⟩
theorem cf.get{st:af}:∀ {ds:List D} {A:List (List Int)} {i:Nat} {d:D},cf st ds A->ds[i]?=some d->∃r,A[i]?=some r/\items? st d=some (aD r)
 |_::_,r::_,0,_,h,e=>by simp at e;subst e;exact⟨r,rfl,h.1⟩
 |_::_,_::_,i+1,d,h,e=>by
  obtain⟨r,e1,e2⟩:=cf.get (i:=i) (d:=d) h.2 (by simpa using e);exact⟨r,by simpa using e1,e2⟩
theorem gE{st:af}{A:List (List Int)}:fO st (cB A) A:=⟨_,rfl,cf.tup⟩
structure Ext(st st':af):Prop where
 len:st.length<=st'.length
 same:∀m,m<st.length->st'[m]?=st[m]?
theorem Ext.refl{st:af}:Ext st st:=⟨Nat.le_refl _,fun _ _=>rfl⟩
theorem Ext.trans{st st1 st2:af}(a:Ext st st1)(b:Ext st1 st2):Ext st st2:=⟨Nat.le_trans a.len b.len,fun m h=>(b.same m (Nat.lt_of_lt_of_le h a.len)).trans (a.same m h)⟩
theorem Ext.push{st:af}{c:List Cell}:Ext st (st++c):=⟨by simp,fun m h=>List.getElem?_append_left h⟩
theorem Ext.set{st:af}{n:Nat}{c:Cell}{st0:af}(a:Ext st0 st)(h:st0.length<=n):Ext st0 (st.set n c):=⟨by rw[List.length_set];exact a.len,fun m hm=>by rw[List.getElem?_set_ne (by omega)];exact a.same m hm⟩
theorem Ext.items{st st':af}{d:D}{xs:List D}(x:Ext st st')(e:items? st d=some xs):items? st' d=some xs:=by
 cases d with
 |ref n=>
  unfold items? at e⊢;simp only at e⊢;cases q:st[n]? with
  |none=>rw[q]at e;cases e
  |some c=>
   have hn:=(List.getElem?_eq_some_iff.mp q).1;rw[x.same n hn];exact e
 |_=>exact e
theorem fL{r:List Int}{k:Nat}(h:k<r.length):dG (aD r) (k:Int)=some (.int (r.getD k 0)):=by
 refine g_ ?_;rw[List.getElem?_map,List.getElem?_eq_getElem h,Mx.bE h];rfl
theorem getD_mem{r:List Int}{k:Nat}(h:k<r.length):r.getD k 0∈r:=by rw[Mx.bE h];exact List.getElem_mem _
theorem ints_app{r:List Int}{x:Int}:aD r++[D.int x]=aD (r++[x]):=by simp[aD]
theorem Gj{A:List (List Int)}{r:List Int}:A.map bQ++[bQ r]=(A++[r]).map bQ:=by simp
theorem Fx{r s:List Int}{d:D}(h:d∈jY (aD r) (aD s)):∃a b,a∈r/\b∈s/\d= .tup [.int a,.int b]:=by
 obtain⟨n,hn,e⟩:=List.mem_iff_getElem.mp h;have e':(jY (aD r) (aD s))[n]?=some d:=by rw[List.getElem?_eq_getElem hn,e]
 obtain⟨x,y,ex,ey,rfl⟩:=tV e';rw[List.getElem?_map]at ex ey;cases q1:r[n]? with
 |none=>rw[q1]at ex;cases ex
 |some a=>
  cases q2:s[n]? with
  |none=>rw[q2]at ey;cases ey
  |some b=>
   rw[q1]at ex;rw[q2]at ey;cases ex;cases ey;exact⟨a,b,List.mem_of_getElem? q1,List.mem_of_getElem? q2,rfl⟩
theorem Fj(n:Nat):(List.replicate n [D.int 0]).flatten=aD (List.replicate n 0):=by
 induction n with
 |zero=>rfl
 |succ n ih=>rw[List.replicate_succ,List.flatten_cons,ih];rfl
theorem wL:∀r:List Int,(aD r).map (fun x=>match x with| .int i=>i|_=>0)=r
 | []=>rfl
 |a::r=>by rw[aD,List.map_cons,List.map_cons,wL r]
theorem FQ{d:D}{ds:List D}:dG (d::ds) 0=some d:=g_ (j:=0) rfl
def intsOf(st:af)(d:D):List Int:=match items? st d with
 |some xs=>xs.map fun x=>match x with| .int i=>i|_=>0
 |none=>[]
theorem wV{st:af}{d:D}{r:List Int}(h:items? st d=some (aD r)):intsOf st d=r:=by
 unfold intsOf;rw[h];exact wL r
theorem EC{x y:D}{xs ys:List D}:jY (x::xs) (y::ys)= .tup [x,y]::jY xs ys:=rfl
theorem JK{n:Nat}{r:List Int}:(aD r).all (pl n)=true:=by
 refine List.all_eq_true.mpr fun d hd=>?_;obtain⟨i,_,rfl⟩:=List.mem_map.mp hd;cases n<;>rfl
def aC:Addr:=186
abbrev e9(b:Bool):Cell:=Cell.tab 166 ⟨85,32,85,66⟩ "Bench.live_rows.<locals>.<lambda>" b
abbrev LV:List (Addr×Pos×Str):=[(166,⟨85,32,85,66⟩,"Bench.live_rows.<locals>.<lambda>")]
def ue:b_:=fun _ _ _=>False
def pR:List Str:=["one","other","great","small","rest"]
def E5:DS:=(aF (a9 2 (bo nA (ae (ab 0) ak)))
 (aF (a9 3 (bo nA (ae (ab 1) ak)))
 (aF (pG (a8 (ao lX (ab 3) (dC (.int 0)))) (aF (a9 4 (ao h_ (ab 2) (ab 3)))
 (aF (a9 2 (ab 3))
 (a9 3 (ab 4)))))
 (bc (ab 2)))))
theorem Ff{a:Int}{m:Nat}(h:a.natAbs<2^m):Builtin.Int.intBits a<=m:=by
 unfold Builtin.Int.intBits;by_cases h0:a.natAbs=0
 . have:a=0:=by omega
   subst this;simp
 . have:=(Nat.log2_lt h0).mpr h;split<;>omega
theorem g5{a b:Int}{m n:Nat}(ha:a.natAbs<=2^m)(hb:b.natAbs<=2^n)(h:m+n<=130000000):IntMulOk a b:=by
 have q:∀ {x:Int} {k:Nat},x.natAbs<=2^k->Builtin.Int.intBits x<=k+1:=fun{x k} h=>Ff (Nat.lt_of_le_of_lt h (Nat.pow_lt_pow_right (by decide) (Nat.lt_succ_self k)));have h1:=q ha;have h2:=q hb;have e:(2:Nat)^27=134217728:=by decide
 have z:Builtin.Int.intTooBig (Builtin.Int.intBits a+Builtin.Int.intBits b)=false:=by
  unfold Builtin.Int.intTooBig bitsLine;exact decide_eq_false (by omega)
 unfold IntMulOk;rw[z];simp
theorem D_:∀ds st K,ue ds st K->ds.length=2/\E5 {nx:=fun _ st'=>K .aH st',rt:=K} (aT pR ds) st:=fun _ _ _ h=>h.elim
def m7:b_:=fun _ _ _=>False
def u7:List Str:=["top","bottom","shrink"]
def Kz:DS:=(aF (a9 2 (aE ue (ae (ab 0) (ae (ab 1) ak))))
 (aF (dN (a8 (ao nS (ab 1) (dC (.int 0)))) (a9 2 (kn gv (ab 2))) cJ)
 (bc (ie (ae (ao lP (ab 0) (ab 2)) (ae (ao lP (ab 1) (ab 2)) ak))))))
theorem Jp:∀ds st K,m7 ds st K->ds.length=2/\Kz {nx:=fun _ st'=>K .aH st',rt:=K} (aT u7 ds) st:=fun _ _ _ h=>h.elim
def yQ:b_:=fun _ _ _=>False
def vf:List Str:=["one","other"]
def Kn:DS:=(bc (aE m7 (ae (ao dc (ao cM (ao aK (ab 0) (dC (.int 0))) (ao aK (ab 1) (dC (.int 1)))) (ao cM (ao aK (ab 1) (dC (.int 0))) (ao aK (ab 0) (dC (.int 1))))) (ae (ao cM (ao aK (ab 0) (dC (.int 1))) (ao aK (ab 1) (dC (.int 1)))) ak))))
theorem Jh:∀ds st K,yQ ds st K->ds.length=2/\Kn {nx:=fun _ st'=>K .aH st',rt:=K} (aT vf ds) st:=fun _ _ _ h=>h.elim
def v7:b_:=fun _ _ _=>False
def sL:List Str:=["one","other"]
def IK:DS:=(bc (aE m7 (ae (ao mf (ao cM (ao aK (ab 0) (dC (.int 0))) (ao aK (ab 1) (dC (.int 1)))) (ao cM (ao aK (ab 1) (dC (.int 0))) (ao aK (ab 0) (dC (.int 1))))) (ae (ao cM (ao aK (ab 0) (dC (.int 1))) (ao aK (ab 1) (dC (.int 1)))) ak))))
theorem Ge:∀ds st K,v7 ds st K->ds.length=2/\IK {nx:=fun _ st'=>K .aH st',rt:=K} (aT sL ds) st:=fun _ _ _ h=>h.elim
def vY:b_:=fun _ _ _=>False
def rZ:List Str:=["one","other"]
def IB:DS:=(bc (aE m7 (ae (ao cM (ao aK (ab 0) (dC (.int 0))) (ao aK (ab 1) (dC (.int 0)))) (ae (ao cM (ao aK (ab 0) (dC (.int 1))) (ao aK (ab 1) (dC (.int 1)))) ak))))
theorem Gk:∀ds st K,vY ds st K->ds.length=2/\IB {nx:=fun _ st'=>K .aH st',rt:=K} (aT rZ ds) st:=fun _ _ _ h=>h.elim
def zT:b_:=fun _ _ _=>False
def vh:List Str:=["one","other"]
def Mg:DS:=(bc (aE m7 (ae (ao cM (ao aK (ab 0) (dC (.int 0))) (ao aK (ab 1) (dC (.int 1)))) (ae (ao cM (ao aK (ab 0) (dC (.int 1))) (ao aK (ab 1) (dC (.int 0)))) ak))))
theorem Jw:∀ds st K,zT ds st K->ds.length=2/\Mg {nx:=fun _ st'=>K .aH st',rt:=K} (aT vh ds) st:=fun _ _ _ h=>h.elim
def kX:b_:=fun _ _ _=>False
def sD:List Str:=["n"]
def Ih:DS:=(bc (ie (ae (ab 0) (ae (dC (.int 1)) ak))))
theorem Gd:∀ds st K,kX ds st K->ds.length=1/\Ih {nx:=fun _ st'=>K .aH st',rt:=K} (aT sD ds) st:=fun _ _ _ h=>h.elim
def ot:b_:=fun ds st K=>∃(d:D) (A:List (List Int)),ds=[d]/\fO st d A/\A.length<=1000/\K (cB A) st
def oa:List Str:=["rows"]
def EM:DS:=(bc (bo dY (ae (dn (d6 (ab 0)) [none] (bp 0) cH (bo dY (ae (ab 0) ak))) ak)))
theorem jW{tg:fA}{te:DE}{ok:af->Prop}{σc:bV}{st:af}{K:List D->af->Prop}{ds:List D}{A:List (List Int)}(f:List Int->D)(aP:ok st)(hr:cf st ds A)(hx:∀d r,r∈A->items? st d=some (aD r)->∀K',K' (f r) st->∃σ2,tg d σc=some σ2/\te σ2 st K')(k:K (A.map f) st):du tg cH te ok σc ds [] st K:=by
 refine ft (fun rest acc st'=>∃(A1 A2:List (List Int)),st=st'/\A1++A2=A/\cf st rest A2/\acc=A1.map f) ?_ ?_ _ _ _ ⟨[],A,rfl,rfl,hr,rfl⟩
 . rintro acc st' ⟨A1,A2,rfl,he,h,rfl⟩;match A2,h with
   | [],_=>
     rw[List.append_nil]at he;subst he;exact⟨aP,k⟩
 . rintro d rest acc st' ⟨A1,A2,rfl,he,h,rfl⟩ next
   match A2,h with
   |r::A2,h=>
    obtain⟨σ2,e2,q⟩:=hx d r (by rw[<-he];simp) h.1 (fun y st2=>du tg cH te ok σc rest (A1.map f++[y]) st2 K) (next _ _ ⟨A1++[r],A2,rfl,by rw[<-he];simp,h.2,by simp⟩);exact⟨aP,σ2,e2,q⟩
theorem B_:∀ds st K,ot ds st K->ds.length=1/\EM {nx:=fun _ st'=>K .aH st',rt:=K} (aT oa ds) st:=by
 rintro ds st K ⟨d,A,rfl,⟨da,hd,ra⟩,hl,k⟩;refine⟨rfl,?_⟩;refine qO hd fun ok aP=>⟨cG (by rw[ra.len];exact hl),?_⟩
 refine jW bQ aP ra (fun e r hr he K' q=>⟨_,rfl,dX he q⟩) ?_;exact dX rfl k
def kq:b_:=fun ds st K=>∃x y t r s,ds=[x,.int t,y]/\items? st x=some (aD r)/\items? st y=some (aD s)/\r.length<=1000/\(∀b∈s,IntMulOk t b)/\K (bg (Mx.fV r t s)) st
def sd:List Str:=["row","times","other"]
def HI:DS:=(bc (dn (zV (ae (ab 0) (ae (ab 2) ak))) [none,none,some 1] (km 0 1) cH (ao dc (ab 0) (ao cM (ab 2) (ab 1)))))
theorem xi{t:Int}:∀(r s:List Int),(jY (aD r) (aD s)).map (fun d=>match d with| .tup [.int a,.int b]=> .int (a+t*b)|_=> .aH)=aD (Mx.fV r t s)
 | [],_=>rfl
 |_::_,[]=>rfl
 |a::r,b::s=>by
  have:=xi (t:=t) r s;unfold jY Mx.fV at this⊢;simp only[aD,List.map_cons,List.zip_cons_cons,List.zipWith_cons_cons]at this⊢;rw[this]
theorem FN:∀ds st K,kq ds st K->ds.length=3/\HI {nx:=fun _ st'=>K .aH st',rt:=K} (aT sd ds) st:=by
 rintro ds st K ⟨x,y,t,r,s,rfl,hx,hy,hl,hm,k⟩;refine⟨rfl,?_⟩;refine DX hx hy fun ok aP=>⟨cG (by rw[yi];simp;omega),?_⟩
 refine comp_map (g:=fun d=>match d with| .tup [.int a,.int b]=> .int (a+t*b)|_=> .aH) (aP st hx hy) _ (fun d hd K' q=>?_) ?_
 . obtain⟨a,b,ha,hb,rfl⟩:=Fx hd;exact⟨_,rfl,fR (hm b hb) (eR q)⟩
 . rw[xi];exact k
def qf:b_:=fun ds st K=>∃(x y:D) (n:Nat) (ws:List Int) (A:List (List Int)),ds=[x,y,.int n]/\items? st x=some (aD ws)/\fO st y A/\(∀r∈A,r.length=n)/\n<=1000/\(∀w∈ws,∀r∈A,∀b∈r,IntMulOk w b)/\K (bQ (Mx.eN ws A (List.replicate n 0))) st
def pH:List Str:=["weights","rows","wide","total","weight","row"]
def E8:DS:=(aF (a9 3 (ao cM (nu (ae (dC (.int 0)) ak)) (ab 2)))
 (aF (ib (zV (ae (ab 0) (ae (ab 1) ak))) (km 4 5) (a9 3 (aE kq (ae (ab 3) (ae (ab 4) (ae (ab 5) ak))))))
 (bc (bo dY (ae (ab 3) ak)))))
theorem EJ:∀ds st K,qf ds st K->ds.length=3/\E8 {nx:=fun _ st'=>K .aH st',rt:=K} (aT pH ds) st:=by
 rintro ds st K ⟨x,y,n,ws,A,rfl,hx,⟨dr,hy,hr⟩,hw,hn,hm,k⟩;refine⟨rfl,?_⟩;refine Qj (Nat.le_of_ble_eq_true rfl) (Jz ⟨by omega,by omega,cG (by simp;omega)⟩ ?_);rw[Int.toNat_natCast,Fj];refine DX hx hy fun ok aP=>?_
 refine hJ (fun rest σ st'=>∃(v4 v5:Option D) (ws':List Int) (ds':List D) (A':List (List Int)) (acc:List Int),st=st'/\rest=jY (aD ws') ds'/\cf st ds' A'/\σ=[some x,some y,some (.int n),some (bg acc),v4,v5]/\acc.length=n/\(∀r∈A',r∈A)/\(∀w∈ws',w∈ws)/\Mx.eN ws' A' acc=Mx.eN ws A (List.replicate n 0)) ?_ ?_ _ _ _
  ⟨none,none,ws,dr,A,List.replicate n 0,rfl,rfl,hr,rfl,by simp,fun _ h=>h,fun _ h=>h,rfl⟩
 . rintro σ st1 ⟨v4,v5,ws',ds',A',acc,rfl,he,hr',rfl,hl,_,_,hs⟩;refine⟨aP _ hx hy,dX rfl ?_⟩
   have:Mx.eN ws' A' acc=acc:=by
    match ws',ds',A',hr',he with
    | [],_,_,_,_=>unfold Mx.eN;rfl
    |_::_,[],[],_,_=>unfold Mx.eN;rfl
    |_::_,_::_,_::_,_,he=>cases he
   rw[this]at hs;rw[hs];exact k
 . rintro d rest σ st1 ⟨v4,v5,ws',ds',A',acc,rfl,he,hr',rfl,hl,ha,hw',hs⟩ next
   match ws',ds',A',hr',he with
   |w::ws',e::ds',r::A',hr',he=>
    simp only[aD,List.map_cons,EC,List.cons.injEq]at he;obtain⟨rfl,rfl⟩:=he;refine⟨aP _ hx hy,_,rfl,?_⟩;have hrl:=hw r (ha r List.mem_cons_self);refine⟨_,_,_,acc,r,rfl,rfl,hr'.1,by omega,fun b hb=>hm w (hw' w List.mem_cons_self) r (ha r List.mem_cons_self) b hb,?_⟩;refine next _ _ ⟨_,_,ws',ds',A',Mx.fV acc w r,rfl,rfl,hr'.2,rfl,by rw[Mx.kJ (by omega)];exact hl,fun q hq=>ha q (List.mem_cons_of_mem _ hq),fun q hq=>hw' q (List.mem_cons_of_mem _ hq),?_⟩
    rw[<-hs];rfl
   | [],_,_,_,he=>cases he
   |_::_,[],[],_,he=>cases he
def rN:b_:=fun ds st K=>∃(x y:D) (n:Nat) (A B:List (List Int)),ds=[x,y]/\fO st x A/\fO st y B/\B≠ []/\(∀r∈B,r.length=n)/\n<=1000/\A.length<=1000/\(∀w∈A,∀c∈w,∀r∈B,∀b∈r,IntMulOk c b)/\K (cB (Mx.mulM A B n)) st
def nO:List Str:=["one","other","wide"]
def EG:DS:=(aF (a9 2 (bo dH (ae (ao aK (ab 1) (dC (.int 0))) ak)))
 (bc (bo dY (ae (dn (d6 (ab 0)) [none,some 1,some 2] (bp 0) cH (aE qf (ae (ab 0) (ae (ab 1) (ae (ab 2) ak))))) ak))))
theorem yh{st:af}{n:Nat}{B:List (List Int)}{f:D->D}:∀ {ds:List D} {A:List (List Int)},cf st ds A->(∀d r,items? st d=some (aD r)->f d=bQ (Mx.eN r B (List.replicate n 0)))->ds.map f=(Mx.mulM A B n).map bQ
 | [],[],_,_=>rfl
 |d::ds,r::A,h,hf=>by
  rw[List.map_cons,hf d r h.1,yh h.2 hf];rfl
theorem Cp:∀ds st K,rN ds st K->ds.length=2/\EG {nx:=fun _ st'=>K .aH st',rt:=K} (aT nO ds) st:=by
 rintro ds st K ⟨x,y,n,A,B,rfl,⟨da,hx,ra⟩,hy,hB,hw,hn,hl,hm,k⟩;refine⟨rfl,?_⟩;obtain⟨db,ey,rb⟩:=hy.ex;match B,db,rb,hB,hw,hm,hy,k,ey with
 |r0::B,d0::db,rb,_,hw,hm,hy,k,ey=>
  have h0:r0.length=n:=hw r0 List.mem_cons_self;refine ay ey FQ (cS rb.1 ?_);rw[List.length_map,h0];refine qO hx fun ok aP=>⟨cG (by rw[ra.len];exact hl),?_⟩
  refine comp_map (g:=fun d=>bQ (Mx.eN (intsOf st d) (r0::B) (List.replicate n 0))) aP da (fun d hd K' q=>?_) ?_
  . obtain⟨i,hi,ed⟩:=List.mem_iff_getElem.mp hd;obtain⟨r,er,hr⟩:=ra.get (i:=i) (d:=d) (by rw[List.getElem?_eq_getElem hi,ed]);refine⟨_,rfl,d,y,n,r,r0::B,rfl,hr,hy,hw,hn,fun c hc=>hm r (List.mem_of_getElem? er) c hc,?_⟩;rw[wV hr]at q;exact q
  . refine dX rfl ?_;rw[yh ra (n:=n) (B:=r0::B) fun d r h=>by rw[wV h]];exact k
 |_::_,[],rb,_,_,_,_,_,_=>exact rb.elim
def tT:b_:=fun ds st K=>∃(d:D) (A:List (List Int)) (j:Nat),ds=[d,.int j]/\fO st d A/\(∀r∈A,j<r.length)/\A.length<=1000/\K (bQ (Mx.pY A j)) st
def p9:List Str:=["rows","place"]
def F0:DS:=(bc (bo dY (ae (dn (d6 (ab 0)) [none,some 1] (bp 0) cH (ao aK (ab 0) (ab 1))) ak)))
theorem CU{tg:fA}{te:DE}{ok:af->Prop}{σc:bV}{st:af}{K:List D->af->Prop}{ds:List D}{A:List (List Int)}(f:List Int->D)(aP:ok st)(hr:cf st ds A)(hx:∀d r,r∈A->items? st d=some (aD r)->∀K',K' (f r) st->∃σ2,tg d σc=some σ2/\te σ2 st K')(k:K (A.map f) st):du tg cH te ok σc ds [] st K:=by
 refine ft (fun rest acc st'=>∃(A1 A2:List (List Int)),st=st'/\A1++A2=A/\cf st rest A2/\acc=A1.map f) ?_ ?_ _ _ _ ⟨[],A,rfl,rfl,hr,rfl⟩
 . rintro acc st' ⟨A1,A2,rfl,he,h,rfl⟩;match A2,h with
   | [],_=>
     rw[List.append_nil]at he;subst he;exact⟨aP,k⟩
 . rintro d rest acc st' ⟨A1,A2,rfl,he,h,rfl⟩ next
   match A2,h with
   |r::A2,h=>
    obtain⟨σ2,e2,q⟩:=hx d r (by rw[<-he];simp) h.1 (fun y st2=>du tg cH te ok σc rest (A1.map f++[y]) st2 K) (next _ _ ⟨A1++[r],A2,rfl,by rw[<-he];simp,h.2,by simp⟩);exact⟨aP,σ2,e2,q⟩
theorem Es(A:List (List Int))(j:Nat):A.map (fun r=>D.int (r.getD j 0))=aD (Mx.pY A j):=by unfold Mx.pY aD;rw[List.map_map];rfl
theorem DU:∀ds st K,tT ds st K->ds.length=2/\F0 {nx:=fun _ st'=>K .aH st',rt:=K} (aT p9 ds) st:=by
 rintro ds st K ⟨d,A,j,rfl,⟨da,hd,ra⟩,hj,hl,k⟩;refine⟨rfl,?_⟩;refine qO hd fun ok aP=>⟨cG (by rw[ra.len];exact hl),?_⟩
 refine CU (fun r=> .int (r.getD j 0)) aP ra (fun e r hr he K' q=>⟨_,rfl,ay he (fL (hj r hr)) q⟩) ?_;rw[Es];exact dX rfl k
def jn:b_:=fun ds st K=>∃(d:D) (A:List (List Int)) (n:Nat),ds=[d,.int n]/\fO st d A/\(∀r∈A,r.length=n)/\A.length<=1000/\n<=1000/\K (cB (Mx.nr A n)) st
def jh:List Str:=["rows","wide"]
def xw:DS:=(bc (bo dY (ae (dn (d8 (ae (ab 1) ak)) [none,some 0] (bp 0) cH (aE tT (ae (ab 1) (ae (ab 0) ak)))) ak)))
theorem FZ(A:List (List Int))(n:Nat):(List.range n).map (fun j=>bQ (Mx.pY A j))=(Mx.nr A n).map bQ:=by unfold Mx.nr;rw[List.map_map];rfl
theorem vF:∀ds st K,jn ds st K->ds.length=2/\xw {nx:=fun _ st'=>K .aH st',rt:=K} (aT jh ds) st:=by
 rintro ds st K ⟨d,A,n,rfl,hd,hw,hl,hn,k⟩;refine⟨rfl,?_⟩;refine fk ⟨by omega,by omega⟩ ⟨cG (by rw[di];omega),?_⟩;rw[Int.toNat_natCast];refine jV (fun j=>bQ (Mx.pY A j)) n (fun i hi K' q=>⟨_,rfl,d,A,i,rfl,hd,fun r hr=>by rw[hw r hr];exact hi,hl,q⟩) ?_;rw[FZ];exact dX rfl k
def qj:b_:=fun ds st K=>∃(n i:Nat),ds=[.int n,.int i]/\n<=1000/\K (bQ (Mx.jK n i)) st
def mE:List Str:=["n","place"]
def BJ:DS:=(bc (bo dY (ae (dn (d8 (ae (ab 0) ak)) [none,some 1] (bp 0) cH (Dz (a8 (ao gH (ab 0) (ab 1))) (dC (.int 1)) (dC (.int 0)))) ak)))
theorem Ae:∀ds st K,qj ds st K->ds.length=2/\BJ {nx:=fun _ st'=>K .aH st',rt:=K} (aT mE ds) st:=by
 rintro ds st K ⟨n,i,rfl,hn,k⟩;refine⟨rfl,?_⟩;refine fk ⟨by omega,by omega⟩ ⟨cG (by rw[di];omega),?_⟩;rw[Int.toNat_natCast];refine jV (fun j=> .int (Mx.dl j i)) n (fun j hj K' q=>⟨_,rfl,?_⟩) ?_
 . refine eq2 (fun h=>fx ?_) fun h=>?_
   . have:j=i:=by omega
     subst this;rw[Mx.bT]at q;exact q
   . rw[Mx.cy (by omega)]at q;exact q
 . have:(List.range n).map (fun j=>D.int (Mx.dl j i))=aD (Mx.jK n i):=by unfold Mx.jK aD;rw[List.map_map];rfl
   rw[this];exact dX rfl k
def i9:b_:=fun ds st K=>∃(n:Nat),ds=[.int n]/\n<=1000/\K (cB (Mx.units n)) st
def k6:List Str:=["n"]
def Af:DS:=(bc (bo dY (ae (dn (d8 (ae (ab 0) ak)) [none,some 0] (bp 0) cH (aE qj (ae (ab 1) (ae (ab 0) ak)))) ak)))
theorem zg:∀ds st K,i9 ds st K->ds.length=1/\Af {nx:=fun _ st'=>K .aH st',rt:=K} (aT k6 ds) st:=by
 rintro ds st K ⟨n,rfl,hn,k⟩;refine⟨rfl,?_⟩;refine fk ⟨by omega,by omega⟩ ⟨cG (by rw[di];omega),?_⟩;rw[Int.toNat_natCast];refine jV (fun i=>bQ (Mx.jK n i)) n (fun i hi K' q=>⟨_,rfl,n,i,rfl,hn,q⟩) ?_;have:(List.range n).map (fun i=>bQ (Mx.jK n i))=(Mx.units n).map bQ:=by unfold Mx.units;rw[List.map_map];rfl
 rw[this];exact dX rfl k
def fF:List Int->Nat->Option Nat
 | [],_=>none
 |x::xs,i=>if x=0 then fF xs (i+1)else some i
def iz(r:List Int):Option Nat:=fF r 0
def mN(r:List Int):D:=match iz r with
 |some k=> .int (k:Int)
 |none=> .aH
def iw:b_:=fun ds st K=>∃(d:D) (r:List Int),ds=[d]/\items? st d=some (aD r)/\K (mN r) st
def og:List Str:=["row","place","number"]
def Dn:DS:=(aF (ib (xX (ae (ab 0) ak)) (km 1 2) (dN (a8 (ao lX (ab 2) (dC (.int 0)))) (bc (ab 1)) cJ))
 (bc (dC .aH)))
theorem B9:∀ds st K,iw ds st K->ds.length=1/\Dn {nx:=fun _ st'=>K .aH st',rt:=K} (aT og ds) st:=by
 rintro ds st K ⟨d,r,rfl,hd,k⟩;refine⟨rfl,?_⟩;refine A3 hd fun ok aP=>?_;refine hJ (fun rest σ st'=>st'=st/\∃(v1 v2:Option D) (s:List Int) (i:Nat),σ=[some d,v1,v2]/\rest=gm i (aD s)/\fF r 0=fF s i) ?_ ?_ _ _ _ ⟨rfl,none,none,r,0,rfl,rfl,rfl⟩
 . rintro σ st' ⟨rfl,v1,v2,s,i,rfl,hr,hl⟩;match s,hr with
   | [],_=>
     refine⟨aP _ hd,?_⟩;have:mN r= .aH:=by unfold mN iz;rw[hl];rfl
     rw[this]at k;exact k
 . rintro x rest σ st' ⟨rfl,v1,v2,s,i,rfl,hr,hl⟩ next
   match s,hr,hl with
   |y::s,hr,hl=>
    simp only[aD,List.map_cons,gm,List.cons.injEq]at hr;obtain⟨rfl,rfl⟩:=hr;refine⟨aP _ hd,_,rfl,?_⟩;refine ne2 (fun h=>fx ?_) fun h=>?_
    . have:mN r= .int (i:Int):=by unfold mN iz;rw[hl];unfold fF;rw[if_neg h]
      rw[this]at k;exact k
    . refine next _ _ ⟨rfl,_,_,s,i+1,rfl,rfl,?_⟩
      rw[hl];unfold fF;rw[if_pos h];cases s<;>rfl
   | [],hr,_=>cases hr
theorem y_:∀(r:List Int) (i l:Nat),(∀c,c<l->r.getD c 0=0)->r.getD l 0≠0->fF r i=some (i+l)
 | [],_,_,_,h=>(h rfl).elim
 |x::r,i,0,_,h=>by
  unfold fF;rw[if_neg (show¬x=0 from h)];rfl
 |x::r,i,l+1,hz,h=>by
  unfold fF;rw[if_pos (show x=0 from hz 0 (Nat.zero_lt_succ _)),y_ r (i+1) l (fun c hc=>hz (c+1) (Nat.succ_lt_succ hc)) h,Nat.add_right_comm];rfl
theorem uY:∀(r:List Int) (i:Nat),fF r i=none->∀c,r.getD c 0=0
 | [],_,_,_=>rfl
 |x::r,i,h,c=>by
  unfold fF at h;split at h
  . cases c with
    |zero=>assumption
    |succ c=>exact uY r (i+1) h c
  . cases h
theorem qC{r:List Int}{l:Nat}(h:∀c,c<l->r.getD c 0=0)(h':r.getD l 0≠0):iz r=some l:=by
 have:=y_ r 0 l h h';rw[Nat.zero_add]at this;exact this
def iy:b_:=fun ds st K=>∃(t d:Int),ds=[.int t,.int d]/\d≠0/\K (.int (Mx.qn t d)) st
def fU:List Str:=["top","bottom"]
def qP:DS:=(bc (ao lP (ao dc (ao cM (dC (.int 2)) (ab 0)) (ab 1)) (ao cM (dC (.int 2)) (ab 1))))
theorem qw:∀ds st K,iy ds st K->ds.length=2/\qP {nx:=fun _ st'=>K .aH st',rt:=K} (aT fU ds) st:=by
 rintro ds st K ⟨t,d,rfl,hd,k⟩;exact⟨rfl,fR (gB (by decide) (by decide)) (eR (fR (gB (by decide) (by decide)) (zh (by omega) k)))⟩
def ja:b_:=fun ds st K=>∃(n k o:Nat) (A:List (List Int)),ds=[.ref n,.int k,.int o]/\st[n]?=some (.lst (A.map bg))/\k<A.length/\o<A.length/\K (.ref st.length) (st++[.lst ((Mx.bI A k o).map bg)])
def lp:List Str:=["rows","k","other","order"]
def AA:DS:=(aF (a9 3 (bo oZ (ae (ab 0) ak)))
 (aF (d5 (ab 3) (ab 1) (ao aK (ab 0) (ab 2)))
 (aF (d5 (ab 3) (ab 2) (ao aK (ab 0) (ab 1)))
 (bc (ab 3)))))
theorem dA{A:List (List Int)}{j:Nat}(h:j<A.length):dG (A.map bg) (j:Int)=some (bg (A.getD j [])):=by
 refine g_ ?_;rw[List.getElem?_map,List.getElem?_eq_getElem h,Mx.bE h];rfl
theorem lO{m k:Nat}(h:k<m):mr m (k:Int)=some k:=by
 have:=Di (i:=(k:Int)) (m:=m) (by omega) (by omega);rw[Int.toNat_natCast]at this;exact this
theorem g0{A:List (List Int)}{k:Nat}{r:List Int}:(A.map bg).set k (bg r)=(A.set k r).map bg:=by rw[List.map_set]
theorem zJ:∀ds st K,ja ds st K->ds.length=3/\AA {nx:=fun _ st'=>K .aH st',rt:=K} (aT lp ds) st:=by
 rintro ds st K ⟨n,k,o,A,rfl,e,hk,ho,kk⟩;refine⟨rfl,?_⟩;have hn:n<st.length:=(List.getElem?_eq_some_iff.mp e).1;refine yR (aM e) ?_;have e1:(st++[Cell.lst (A.map bg)])[n]?=some (.lst (A.map bg)):=by rw[List.getElem?_append_left hn];exact e
 have e2:(st++[Cell.lst (A.map bg)])[st.length]?=some (.lst (A.map bg)):=by simp
 refine ay (aM e1) (dA ho) (i7 e2 (by rw[List.length_map];exact lO hk) ?_);rw[g0]
 have es:(st++[Cell.lst (A.map bg)]).set st.length (.lst ((A.set k (A.getD o [])).map bg))=st++[Cell.lst ((A.set k (A.getD o [])).map bg)]:=by
  rw[List.set_append_right _ _ (Nat.le_refl _),Nat.sub_self];rfl
 rw[es];have e3:(st++[Cell.lst ((A.set k (A.getD o [])).map bg)])[n]?=some (.lst (A.map bg)):=by rw[List.getElem?_append_left hn];exact e
 have e4:(st++[Cell.lst ((A.set k (A.getD o [])).map bg)])[st.length]?=some (.lst ((A.set k (A.getD o [])).map bg)):=by simp
 refine ay (aM e3) (dA hk) (i7 e4 (by rw[List.length_map,List.length_set];exact lO ho) ?_);rw[g0]
 have es2:(st++[Cell.lst ((A.set k (A.getD o [])).map bg)]).set st.length (.lst (((A.set k (A.getD o [])).set o (A.getD k [])).map bg))=st++[Cell.lst ((Mx.bI A k o).map bg)]:=by
  rw[List.set_append_right _ _ (Nat.le_refl _),Nat.sub_self];rfl
 rw[es2];exact kk
def lS:b_:=fun ds st K=>∃(d:D) (r:List Int),ds=[d]/\items? st d=some (aD r)/\r.length<=1000/\K (bg (r.map fun x=> -x)) st
def n_:List Str:=["row"]
def C9:DS:=(bc (dn (d6 (ab 0)) [none] (bp 0) cH (kn gv (ab 0))))
theorem CB:∀ds st K,lS ds st K->ds.length=1/\C9 {nx:=fun _ st'=>K .aH st',rt:=K} (aT n_ ds) st:=by
 rintro ds st K ⟨d,r,rfl,hd,hl,k⟩;refine⟨rfl,?_⟩;refine qO hd fun ok aP=>⟨cG (by unfold aD;rw[List.length_map];exact hl),?_⟩
 refine comp_map (g:=fun x=>match x with| .int a=> .int (-a)|_=> .aH) aP _ (fun x hx K' q=>?_) ?_
 . unfold aD at hx;obtain⟨a,_,rfl⟩:=List.mem_map.mp hx;exact⟨_,rfl,i5 q⟩
 . have e:(aD r).map (fun x=>match x with| .int a=> .int (-a)|_=> .aH)=aD (r.map fun x=> -x):=by unfold aD;rw[List.map_map,List.map_map];rfl
   rw[e];exact k
structure Bn(st:af)(b xb xu xc:Nat)(A U C:List (List Int)):Prop where
 eb:st[b]?=some (Cell.ins aC [("body",.ref xb),("turn",.ref xu),("back_columns",.ref xc)])
 e1:st[xb]?=some (Cell.lst (A.map bg))
 e2:st[xu]?=some (Cell.lst (U.map bg))
 e3:st[xc]?=some (Cell.lst (C.map bg))
 n1:xb≠xu
 n2:xb≠xc
 n3:xu≠xc
theorem ki{st:af}{b x:Nat}{C:Addr}{fs:List (Str×D)}{xs:List D}(h1:st[b]?=some (Cell.ins C fs))(h2:st[x]?=some (Cell.lst xs)):b≠x:=fun z=>by rw[z,h2]at h1;cases h1
def jq:b_:=fun ds st K=>∃(b N:Nat) (d:D) (A:List (List Int)),ds=[.ref b,d]/\st[b]?=some (.ins aC [])/\fO st d A/\A.length=N/\N<=8/\∀st',Bn st' b st.length (st.length+1) (st.length+2) A (Mx.units N) (Mx.units N)->st'.length=st.length+3->(∀m,m<st.length->m≠b->st'[m]?=st[m]?)->K .aH st'
def gQ:List Str:=["self","rows"]
def tQ:DS:=(aF (nZ aC "body" (ab 0) (rB (d6 (ab 1)) [none] (bp 0) cH (bo j_ (ae (ab 0) ak))))
 (aF (nZ aC "turn" (ab 0) (rB (d6 (aE i9 (ae (bo dH (ae (ab 1) ak)) ak))) [none] (bp 0) cH (bo j_ (ae (ab 0) ak))))
 (nZ aC "back_columns" (ab 0) (rB (d6 (aE i9 (ae (bo dH (ae (ab 1) ak)) ak))) [none] (bp 0) cH (bo j_ (ae (ab 0) ak))))))
theorem pK(f:Str)(v:D):∀fs:List (Str×D),(putD f v fs).length<=fs.length+1
 | []=>by simp[putD]
 |(g,x)::r=>by
  unfold putD;split
  . simp
  . have:=pK f v r;simp only[List.length_cons];omega
theorem yG{st:af}{A:List (List Int)}:cf st (A.map bQ) A:=cf.tup
theorem wM(n:Nat):(Mx.units n).length=n:=by unfold Mx.units;simp
theorem sM:∀ds st K,jq ds st K->ds.length=2/\tQ {nx:=fun _ st'=>K .aH st',rt:=K} (aT gQ ds) st:=by
 rintro ds st K ⟨b,N,d,A,rfl,eb,hA,hl,hN,k⟩;refine⟨rfl,?_⟩;have hb:b<st.length:=(List.getElem?_eq_some_iff.mp eb).1;obtain⟨da,hd,ra⟩:=hA.ex;have hdl:=ra.len;have lst:∀(e:D) (r:List Int),True:=fun _ _=>trivial;refine qO hd fun ok aP=>⟨cG (by omega),?_⟩
 refine jW bg aP ra (fun e r hr he K' q=>⟨_,rfl,kM he q⟩) ?_;have eb1:(st++[Cell.lst (A.map bg)])[b]?=some (.ins aC []):=by rw[List.getElem?_append_left hb];exact eb
 refine m5 eb1 (by decide) ?_;generalize hs1:(st++[Cell.lst (A.map bg)]).set b (.ins aC (putD "body" (.ref st.length) []))=st1;have l1:st1.length=st.length+1:=by rw[<-hs1];simp
 have f1:∀m,m<st.length->m≠b->st1[m]?=st[m]?:=fun m hm hmb=>by rw[<-hs1,List.getElem?_set_ne (Ne.symm hmb),List.getElem?_append_left hm]
 have b1:st1[b]?=some (.ins aC (putD "body" (.ref st.length) [])):=by rw[<-hs1,List.getElem?_set_self (by simp;omega)]
 have x1:st1[st.length]?=some (.lst (A.map bg)):=by rw[<-hs1,List.getElem?_set_ne (by omega)];simp
 clear hs1
 have itd:∃da',items? st1 d=some da'/\da'.length=N:=by
  cases d with
  |ref n=>
   by_cases hnb:n=b
   . subst hnb;unfold items? at hd;simp only[eb]at hd;cases hd
   . have hn:n<st.length:=by
      unfold items? at hd;simp only at hd;cases q:st[n]? with
      |none=>rw[q]at hd;cases hd
      |some c=>exact(List.getElem?_eq_some_iff.mp q).1
     refine⟨da,?_,by omega⟩;unfold items? at hd⊢;simp only at hd⊢;rw[f1 n hn hnb];exact hd
  |_=>exact⟨da,hd,by omega⟩
 obtain⟨da1,hd1,hdl1⟩:=itd;refine cS hd1 ?_;rw[hdl1];refine⟨N,rfl,by omega,?_⟩;refine fH ⟨cG (by rw[List.length_map,wM];omega),?_⟩;refine jW bg trivial yG (fun e r hr he K' q=>⟨_,rfl,kM he q⟩) ?_;have b2:(st1++[Cell.lst ((Mx.units N).map bg)])[b]?=some (.ins aC (putD "body" (.ref st.length) [])):=by rw[List.getElem?_append_left (by omega)];exact b1
 refine m5 b2 (by have:=pK "body" (.ref st.length) [];simp only[List.length_nil]at this;omega) ?_;generalize hs2:(st1++[Cell.lst ((Mx.units N).map bg)]).set b (.ins aC (putD "turn" (.ref st1.length) (putD "body" (.ref st.length) [])))=st2;have l2:st2.length=st.length+2:=by rw[<-hs2];simp;omega
 have f2:∀m,m<st1.length->m≠b->st2[m]?=st1[m]?:=fun m hm hmb=>by rw[<-hs2,List.getElem?_set_ne (Ne.symm hmb),List.getElem?_append_left hm]
 have b2':st2[b]?=some (.ins aC (putD "turn" (.ref st1.length) (putD "body" (.ref st.length) []))):=by rw[<-hs2,List.getElem?_set_self (by simp;omega)]
 have x2:st2[st1.length]?=some (.lst ((Mx.units N).map bg)):=by rw[<-hs2,List.getElem?_set_ne (by omega)];simp
 clear hs2
 have itd2:items? st2 d=some da1:=by
  cases d with
  |ref n=>
   by_cases hnb:n=b
   . subst hnb;unfold items? at hd1;simp only[b1]at hd1;cases hd1
   . have hn:n<st1.length:=by
      unfold items? at hd1;simp only at hd1;cases q:st1[n]? with
      |none=>rw[q]at hd1;cases hd1
      |some c=>exact(List.getElem?_eq_some_iff.mp q).1
     unfold items? at hd1⊢;simp only at hd1⊢;rw[f2 n hn hnb];exact hd1
  |_=>exact hd1
 refine cS itd2 ?_;rw[hdl1];refine⟨N,rfl,by omega,?_⟩;refine fH ⟨cG (by rw[List.length_map,wM];omega),?_⟩;refine jW bg trivial yG (fun e r hr he K' q=>⟨_,rfl,kM he q⟩) ?_;have b3:(st2++[Cell.lst ((Mx.units N).map bg)])[b]?=some (.ins aC (putD "turn" (.ref st1.length) (putD "body" (.ref st.length) []))):=by rw[List.getElem?_append_left (by omega)];exact b2'
 refine m5 b3 (by have h1:=pK "body" (.ref st.length) [];have h2:=pK "turn" (.ref st1.length) (putD "body" (.ref st.length) []);simp only[List.length_nil]at h1;omega) ?_;refine k _ ⟨?_,?_,?_,?_,by omega,by omega,by omega⟩ (by simp;omega) fun m hm hmb=>?_
 . rw[List.getElem?_set_self (by simp;omega),l1,l2];rfl
 . rw[List.getElem?_set_ne (by omega),List.getElem?_append_left (by omega),f2 _ (by omega) (by omega)];exact x1
 . rw[List.getElem?_set_ne (by omega),List.getElem?_append_left (by omega)];rw[l1]at x2;exact x2
 . rw[List.getElem?_set_ne (by omega)];rw[show st.length+2=st2.length by omega];simp
 . rw[List.getElem?_set_ne (Ne.symm hmb),List.getElem?_append_left (by omega),f2 m (by omega) hmb,f1 m hm hmb]
def jU:b_:=fun ds st K=>∃(b xb xu xc N w k j:Nat) (A U C:List (List Int)) (q:Int),ds=[.ref b,.int k,.int q,.int j]/\Bn st b xb xu xc A U C/\Mx.ck N w A/\Mx.ck N N U/\Mx.ck N N C/\k<N/\j<N/\N<=8/\w<=9/\(∀x∈A.getD j [],IntMulOk (-q) x)/\(∀x∈U.getD j [],IntMulOk (-q) x)/\(∀x∈C.getD k [],IntMulOk q x)/\
 ∀st',Bn st' b xb xu xc (Mx.bN A k q j) (Mx.bN U k q j) (Mx.bN C j (-q) k)->st'.length=st.length->(∀m,m≠xb->m≠xu->m≠xc->st'[m]?=st[m]?)->K .aH st'
def ka:List Str:=["self","k","times","other"]
def zP:DS:=(aF (d5 (dO aC "body" (ab 0)) (ab 1) (aE kq (ae (ao aK (dO aC "body" (ab 0)) (ab 1)) (ae (kn gv (ab 2)) (ae (ao aK (dO aC "body" (ab 0)) (ab 3)) ak)))))
 (aF (d5 (dO aC "turn" (ab 0)) (ab 1) (aE kq (ae (ao aK (dO aC "turn" (ab 0)) (ab 1)) (ae (kn gv (ab 2)) (ae (ao aK (dO aC "turn" (ab 0)) (ab 3)) ak)))))
 (d5 (dO aC "back_columns" (ab 0)) (ab 3) (aE kq (ae (ao aK (dO aC "back_columns" (ab 0)) (ab 3)) (ae (ab 2) (ae (ao aK (dO aC "back_columns" (ab 0)) (ab 1)) ak)))))))
theorem xG:∀ds st K,jU ds st K->ds.length=4/\zP {nx:=fun _ st'=>K .aH st',rt:=K} (aT ka ds) st:=by
 rintro ds st K ⟨b,xb,xu,xc,N,w,k,j,A,U,C,q,rfl,B,hA,hU,hC,hk,hj,hN,hw,mA,mU,mC,kk⟩;refine⟨rfl,?_⟩;have lA:=hA.len;have lU:=hU.len;have lC:=hC.len;have rA:=Mx.cD hA hk;have rU:=Mx.cD hU hk;have rC:=Mx.cD hC hj;have bx1:=ki B.eb B.e1;have bx2:=ki B.eb B.e2;have bx3:=ki B.eb B.e3;have n1:=B.n1;have n2:=B.n2;have n3:=B.n3;refine cz B.eb rfl (ay (aM B.e1) (dA (by omega)) (i5 (cz B.eb rfl (ay (aM B.e1) (dA (by omega)) ?_))));refine⟨_,_,-q,A.getD k [],A.getD j [],rfl,rfl,rfl,by omega,mA,?_⟩;refine cz B.eb rfl (i7 B.e1 (by rw[List.length_map,lA];exact lO hk) ?_);rw[g0];have g1:∀m,m≠xb->(st.set xb (.lst ((A.set k (Mx.fV (A.getD k []) (-q) (A.getD j []))).map bg)))[m]?=st[m]?:=fun m hm=>List.getElem?_set_ne (Ne.symm hm);have h1:(st.set xb (.lst ((A.set k (Mx.fV (A.getD k []) (-q) (A.getD j []))).map bg)))[xb]?=some (.lst ((Mx.bN A k q j).map bg)):=List.getElem?_set_self (List.getElem?_eq_some_iff.mp B.e1).1;have z1:(st.set xb (.lst ((A.set k (Mx.fV (A.getD k []) (-q) (A.getD j []))).map bg))).length=st.length:=List.length_set;generalize st.set xb (.lst ((A.set k (Mx.fV (A.getD k []) (-q) (A.getD j []))).map bg))=st1 at g1 h1 z1⊢;have eb1:=(g1 b bx1).trans B.eb;have e21:=(g1 xu (Ne.symm n1)).trans B.e2;have e31:=(g1 xc (Ne.symm n2)).trans B.e3;refine cz eb1 rfl (ay (aM e21) (dA (by omega)) (i5 (cz eb1 rfl (ay (aM e21) (dA (by omega)) ?_))));refine⟨_,_,-q,U.getD k [],U.getD j [],rfl,rfl,rfl,by omega,mU,?_⟩;refine cz eb1 rfl (i7 e21 (by rw[List.length_map,lU];exact lO hk) ?_);rw[g0];have g2:∀m,m≠xu->(st1.set xu (.lst ((U.set k (Mx.fV (U.getD k []) (-q) (U.getD j []))).map bg)))[m]?=st1[m]?:=fun m hm=>List.getElem?_set_ne (Ne.symm hm);have h2:(st1.set xu (.lst ((U.set k (Mx.fV (U.getD k []) (-q) (U.getD j []))).map bg)))[xu]?=some (.lst ((Mx.bN U k q j).map bg)):=List.getElem?_set_self (List.getElem?_eq_some_iff.mp e21).1;have z2:(st1.set xu (.lst ((U.set k (Mx.fV (U.getD k []) (-q) (U.getD j []))).map bg))).length=st1.length:=List.length_set;generalize st1.set xu (.lst ((U.set k (Mx.fV (U.getD k []) (-q) (U.getD j []))).map bg))=st2 at g2 h2 z2⊢;have eb2:=(g2 b bx2).trans eb1;have e32:=(g2 xc (Ne.symm n3)).trans e31;refine cz eb2 rfl (ay (aM e32) (dA (by omega)) (cz eb2 rfl (ay (aM e32) (dA (by omega)) ?_)));refine⟨_,_,q,C.getD j [],C.getD k [],rfl,rfl,rfl,by omega,mC,?_⟩;refine cz eb2 rfl (i7 e32 (by rw[List.length_map,lC];exact lO hj) ?_);rw[g0];have hc:C.set j (Mx.fV (C.getD j []) q (C.getD k []))=Mx.bN C j (-q) k:=by unfold Mx.bN;rw[Int.neg_neg]
 rw[hc];refine kk _ ⟨?_,?_,?_,?_,n1,n2,n3⟩ (by rw[List.length_set];omega) fun m m1 m2 m3=>?_
 . rw[List.getElem?_set_ne (Ne.symm bx3)];exact eb2
 . rw[List.getElem?_set_ne (Ne.symm n2),g2 _ n1];exact h1
 . rw[List.getElem?_set_ne (Ne.symm n3)];exact h2
 . exact List.getElem?_set_self (List.getElem?_eq_some_iff.mp e32).1
 . rw[List.getElem?_set_ne (Ne.symm m3),g2 m m2,g1 m m1]
def jx:b_:=fun ds st K=>∃(b xb xu xc N w k o:Nat) (A U C:List (List Int)),ds=[.ref b,.int k,.int o]/\Bn st b xb xu xc A U C/\Mx.ck N w A/\Mx.ck N N U/\Mx.ck N N C/\k<N/\o<N/\
 ∀st',Bn st' b st.length (st.length+1) (st.length+2) (Mx.bI A k o) (Mx.bI U k o) (Mx.bI C k o)->st'.length=st.length+3->(∀m,m<st.length->m≠b->st'[m]?=st[m]?)->K .aH st'
def gR:List Str:=["self","k","other"]
def uf:DS:=(aF (nZ aC "body" (ab 0) (aE ja (ae (dO aC "body" (ab 0)) (ae (ab 1) (ae (ab 2) ak)))))
 (aF (nZ aC "turn" (ab 0) (aE ja (ae (dO aC "turn" (ab 0)) (ae (ab 1) (ae (ab 2) ak)))))
 (nZ aC "back_columns" (ab 0) (aE ja (ae (dO aC "back_columns" (ab 0)) (ae (ab 1) (ae (ab 2) ak)))))))
theorem sO:∀ds st K,jx ds st K->ds.length=3/\uf {nx:=fun _ st'=>K .aH st',rt:=K} (aT gR ds) st:=by
 rintro ds st K ⟨b,xb,xu,xc,N,w,k,o,A,U,C,rfl,B,hA,hU,hC,hk,ho,kk⟩;refine⟨rfl,?_⟩;have lA:=hA.len;have lU:=hU.len;have lC:=hC.len;have bx1:=ki B.eb B.e1;have bx2:=ki B.eb B.e2;have bx3:=ki B.eb B.e3;have hb:b<st.length:=(List.getElem?_eq_some_iff.mp B.eb).1;have hu:xu<st.length:=(List.getElem?_eq_some_iff.mp B.e2).1;have hc:xc<st.length:=(List.getElem?_eq_some_iff.mp B.e3).1;refine cz B.eb rfl ?_;refine⟨xb,k,o,A,rfl,B.e1,by omega,by omega,?_⟩;have eb1:(st++[Cell.lst ((Mx.bI A k o).map bg)])[b]?=some (.ins aC [("body",.ref xb),("turn",.ref xu),("back_columns",.ref xc)]):=by rw[List.getElem?_append_left hb];exact B.eb
 refine m5 eb1 (by simp) ?_;have pb:putD "body" (.ref st.length) [("body",.ref xb),("turn",.ref xu),("back_columns",.ref xc)]=([("body",.ref st.length),("turn",.ref xu),("back_columns",.ref xc)]:List (Str×D)):=rfl;rw[pb];generalize hs1:(st++[Cell.lst ((Mx.bI A k o).map bg)]).set b (.ins aC [("body",.ref st.length),("turn",.ref xu),("back_columns",.ref xc)])=st1;have l1:st1.length=st.length+1:=by rw[<-hs1];simp
 have f1:∀m,m<st.length->m≠b->st1[m]?=st[m]?:=fun m hm hmb=>by rw[<-hs1,List.getElem?_set_ne (Ne.symm hmb),List.getElem?_append_left hm]
 have b1:st1[b]?=some (.ins aC [("body",.ref st.length),("turn",.ref xu),("back_columns",.ref xc)]):=by rw[<-hs1,List.getElem?_set_self (by simp;omega)]
 have x1:st1[st.length]?=some (.lst ((Mx.bI A k o).map bg)):=by rw[<-hs1,List.getElem?_set_ne (by omega)];simp
 clear hs1 eb1;refine cz b1 rfl ?_;refine⟨xu,k,o,U,rfl,(f1 xu hu (Ne.symm bx2)).trans B.e2,by omega,by omega,?_⟩;have eb1:(st1++[Cell.lst ((Mx.bI U k o).map bg)])[b]?=some (.ins aC [("body",.ref st.length),("turn",.ref xu),("back_columns",.ref xc)]):=by rw[List.getElem?_append_left (by omega)];exact b1
 refine m5 eb1 (by simp) ?_;have pb:putD "turn" (.ref st1.length) [("body",.ref st.length),("turn",.ref xu),("back_columns",.ref xc)]=([("body",.ref st.length),("turn",.ref st1.length),("back_columns",.ref xc)]:List (Str×D)):=rfl;rw[pb];generalize hs2:(st1++[Cell.lst ((Mx.bI U k o).map bg)]).set b (.ins aC [("body",.ref st.length),("turn",.ref st1.length),("back_columns",.ref xc)])=st2;have l2:st2.length=st.length+2:=by rw[<-hs2];simp;omega
 have f2:∀m,m<st1.length->m≠b->st2[m]?=st1[m]?:=fun m hm hmb=>by rw[<-hs2,List.getElem?_set_ne (Ne.symm hmb),List.getElem?_append_left hm]
 have b2:st2[b]?=some (.ins aC [("body",.ref st.length),("turn",.ref st1.length),("back_columns",.ref xc)]):=by rw[<-hs2,List.getElem?_set_self (by simp;omega)]
 have x2:st2[st1.length]?=some (.lst ((Mx.bI U k o).map bg)):=by rw[<-hs2,List.getElem?_set_ne (by omega)];simp
 clear hs2 eb1;refine cz b2 rfl ?_;refine⟨xc,k,o,C,rfl,((f2 xc (by omega) (Ne.symm bx3)).trans (f1 xc hc (Ne.symm bx3))).trans B.e3,by omega,by omega,?_⟩;have eb1:(st2++[Cell.lst ((Mx.bI C k o).map bg)])[b]?=some (.ins aC [("body",.ref st.length),("turn",.ref st1.length),("back_columns",.ref xc)]):=by rw[List.getElem?_append_left (by omega)];exact b2
 refine m5 eb1 (by simp) ?_;have pb:putD "back_columns" (.ref st2.length) [("body",.ref st.length),("turn",.ref st1.length),("back_columns",.ref xc)]=([("body",.ref st.length),("turn",.ref st1.length),("back_columns",.ref st2.length)]:List (Str×D)):=rfl;rw[pb];refine kk _ ⟨?_,?_,?_,?_,by omega,by omega,by omega⟩ (by simp;omega) fun m hm hmb=>?_
 . rw[List.getElem?_set_self (by simp;omega),l1,l2]
 . rw[List.getElem?_set_ne (by omega),List.getElem?_append_left (by omega),f2 _ (by omega) (by omega)];exact x1
 . rw[List.getElem?_set_ne (by omega),List.getElem?_append_left (by omega)];rw[l1]at x2;exact x2
 . rw[List.getElem?_set_ne (by omega)];rw[show st.length+2=st2.length by omega];simp
 . rw[List.getElem?_set_ne (Ne.symm hmb),List.getElem?_append_left (by omega),f2 m (by omega) hmb,f1 m hm hmb]
def h8:b_:=fun ds st K=>∃(b xb xu xc N w k:Nat) (A U C:List (List Int)),ds=[.ref b,.int k]/\Bn st b xb xu xc A U C/\Mx.ck N w A/\Mx.ck N N U/\Mx.ck N N C/\k<N/\N<=8/\w<=9/\
 ∀st',Bn st' b xb xu xc (Mx.gq A k) (Mx.gq U k) (Mx.gq C k)->st'.length=st.length->(∀m,m≠xb->m≠xu->m≠xc->st'[m]?=st[m]?)->K .aH st'
def fG:List Str:=["self","k"]
def qx:DS:=(aF (d5 (dO aC "body" (ab 0)) (ab 1) (aE lS (ae (ao aK (dO aC "body" (ab 0)) (ab 1)) ak)))
 (aF (d5 (dO aC "turn" (ab 0)) (ab 1) (aE lS (ae (ao aK (dO aC "turn" (ab 0)) (ab 1)) ak)))
 (d5 (dO aC "back_columns" (ab 0)) (ab 1) (aE lS (ae (ao aK (dO aC "back_columns" (ab 0)) (ab 1)) ak)))))
theorem qp:∀ds st K,h8 ds st K->ds.length=2/\qx {nx:=fun _ st'=>K .aH st',rt:=K} (aT fG ds) st:=by
 rintro ds st K ⟨b,xb,xu,xc,N,w,k,A,U,C,rfl,B,hA,hU,hC,hk,hN,hw,kk⟩;refine⟨rfl,?_⟩;have lA:=hA.len;have lU:=hU.len;have lC:=hC.len;have rA:=Mx.cD hA hk;have rU:=Mx.cD hU hk;have rC:=Mx.cD hC hk;have bx1:=ki B.eb B.e1;have bx2:=ki B.eb B.e2;have bx3:=ki B.eb B.e3;have n1:=B.n1;have n2:=B.n2;have n3:=B.n3;refine cz B.eb rfl (ay (aM B.e1) (dA (by omega)) ?_);refine⟨_,A.getD k [],rfl,rfl,by omega,?_⟩;refine cz B.eb rfl (i7 B.e1 (by rw[List.length_map,lA];exact lO hk) ?_);rw[g0];have g1:∀m,m≠xb->(st.set xb (.lst ((A.set k ((A.getD k []).map fun x=> -x)).map bg)))[m]?=st[m]?:=fun m hm=>List.getElem?_set_ne (Ne.symm hm);have h1:(st.set xb (.lst ((A.set k ((A.getD k []).map fun x=> -x)).map bg)))[xb]?=some (.lst ((Mx.gq A k).map bg)):=List.getElem?_set_self (List.getElem?_eq_some_iff.mp B.e1).1;have z1:(st.set xb (.lst ((A.set k ((A.getD k []).map fun x=> -x)).map bg))).length=st.length:=List.length_set;generalize st.set xb (.lst ((A.set k ((A.getD k []).map fun x=> -x)).map bg))=st1 at g1 h1 z1⊢;have eb1:=(g1 b bx1).trans B.eb;have e21:=(g1 xu (Ne.symm n1)).trans B.e2;have e31:=(g1 xc (Ne.symm n2)).trans B.e3;refine cz eb1 rfl (ay (aM e21) (dA (by omega)) ?_);refine⟨_,U.getD k [],rfl,rfl,by omega,?_⟩;refine cz eb1 rfl (i7 e21 (by rw[List.length_map,lU];exact lO hk) ?_);rw[g0];have g2:∀m,m≠xu->(st1.set xu (.lst ((U.set k ((U.getD k []).map fun x=> -x)).map bg)))[m]?=st1[m]?:=fun m hm=>List.getElem?_set_ne (Ne.symm hm);have h2:(st1.set xu (.lst ((U.set k ((U.getD k []).map fun x=> -x)).map bg)))[xu]?=some (.lst ((Mx.gq U k).map bg)):=List.getElem?_set_self (List.getElem?_eq_some_iff.mp e21).1;have z2:(st1.set xu (.lst ((U.set k ((U.getD k []).map fun x=> -x)).map bg))).length=st1.length:=List.length_set;generalize st1.set xu (.lst ((U.set k ((U.getD k []).map fun x=> -x)).map bg))=st2 at g2 h2 z2⊢;have eb2:=(g2 b bx2).trans eb1;have e32:=(g2 xc (Ne.symm n3)).trans e31;refine cz eb2 rfl (ay (aM e32) (dA (by omega)) ?_);refine⟨_,C.getD k [],rfl,rfl,by omega,?_⟩;refine cz eb2 rfl (i7 e32 (by rw[List.length_map,lC];exact lO hk) ?_);rw[g0];refine kk _ ⟨?_,?_,?_,?_,n1,n2,n3⟩ (by rw[List.length_set];omega) fun m m1 m2 m3=>?_
 . rw[List.getElem?_set_ne (Ne.symm bx3)];exact eb2
 . rw[List.getElem?_set_ne (Ne.symm n2),g2 _ n1];exact h1
 . rw[List.getElem?_set_ne (Ne.symm n3)];exact h2
 . exact List.getElem?_set_self (List.getElem?_eq_some_iff.mp e32).1
 . rw[List.getElem?_set_ne (Ne.symm m3),g2 m m2,g1 m m1]
def gg:b_:=fun ds st K=>∃(b xb xu xc N w top p:Nat) (A U C:List (List Int)) (f:Bool),ds=[.ref b,.int top,.int p]/\Bn st b xb xu xc A U C/\Mx.ck N w A/\top<=N/\N<=8/\p<w/\w<=9/\st[0]?=some (e9 f)/\
 ∀L,Mx.mi A N top p L->K (.lst (L.map fun(k:Nat)=> .int (k:Int))) (st.set 0 (e9 true))
def gh:List Str:=["self","top","place","live"]
def sR:DS:=(aF (a9 3 (dn (pv (ae (ab 1) (ae (bo dH (ae (dO aC "body" (ab 0)) ak)) ak))) [none,some 0,some 2] (bp 0) (a8 (ao lX (ao aK (ao aK (dO aC "body" (ab 1)) (ab 0)) (ab 2)) (dC (.int 0)))) (ab 0)))
 (bc (zB 0 166 ⟨85,32,85,66⟩ "Bench.live_rows.<locals>.<lambda>" [none,some 0,some 2] (bo nA (ae (ao aK (ao aK (dO aC "body" (ab 1)) (ab 0)) (ab 2)) ak)) (ab 3))))
theorem vk{a b:Prop}(h:b):if false=true then a else b:=h
theorem Jo{st:af}{b:Nat}{C:Addr}{fs:List (Str×D)}{f:Bool}(h1:st[b]?=some (Cell.ins C fs))(h2:st[0]?=some (e9 f)):b≠0:=fun z=>by rw[z,h2]at h1;cases h1
theorem sv{st:af}{b:Nat}{xs:List D}{f:Bool}(h1:st[b]?=some (Cell.lst xs))(h2:st[0]?=some (e9 f)):b≠0:=fun z=>by rw[z,h2]at h1;cases h1
theorem Bn.keep{st st':af}{b xb xu xc:Nat}{A U C:List (List Int)}(B:Bn st b xb xu xc A U C)(h:∀m,m=b\/m=xb\/m=xu\/m=xc->st'[m]?=st[m]?):Bn st' b xb xu xc A U C:=
 ⟨(h b (.inl rfl)).trans B.eb,(h xb (.inr (.inl rfl))).trans B.e1,(h xu (.inr (.inr (.inl rfl)))).trans B.e2,(h xc (.inr (.inr (.inr rfl)))).trans B.e3,B.n1,B.n2,B.n3⟩
theorem Bn.tab{st:af}{b xb xu xc:Nat}{A U C:List (List Int)}{f:Bool}(B:Bn st b xb xu xc A U C)(h:st[0]?=some (e9 f))(c:Cell):Bn (st.set 0 c) b xb xu xc A U C:=
 B.keep fun m hm=>List.getElem?_set_ne fun z=>by
  subst z;rcases hm with rfl|rfl|rfl|rfl
  . exact Jo B.eb h rfl
  . exact sv B.e1 h rfl
  . exact sv B.e2 h rfl
  . exact sv B.e3 h rfl
theorem ng{r:List Int}{k:Nat}(h:k<r.length):dG (aD r) (k:Int)=some (.int (r.getD k 0)):=by
 refine g_ ?_;unfold aD;rw[List.getElem?_map,List.getElem?_eq_getElem h,Mx.bE h];rfl
def fg(A:List (List Int))(N top p:Nat):List Nat:=(List.range (N-top)).filterMap fun i=>if Mx.g A (top+i) p≠0 then some (top+i)else none
theorem wZ{A:List (List Int)}{N top p k:Nat}:k∈fg A N top p↔top<=k/\k<N/\Mx.g A k p≠0:=by
 unfold fg;rw[List.mem_filterMap];constructor
 . rintro⟨i,hi,e⟩;rw[List.mem_range]at hi;split at e
   . rename_i h;cases e;exact⟨by omega,by omega,h⟩
   . cases e
 . rintro⟨h1,h2,h3⟩;refine⟨k-top,List.mem_range.mpr (by omega),?_⟩;rw[show top+(k-top)=k by omega,if_pos h3]
theorem pw_filterMap{f:Nat->Option Nat}(h:∀i j a b,i<j->f i=some a->f j=some b->a<b):∀ {l:List Nat},l.Pairwise (· < ·)->(l.filterMap f).Pairwise (· < ·)
 | [],_=>by simp
 |x::l,hl=>by
  obtain⟨h1,h2⟩:=List.pairwise_cons.mp hl;rw[List.filterMap_cons];split
  . exact pw_filterMap h h2
  . rename_i a e;refine List.pairwise_cons.mpr ⟨fun b hb=>?_,pw_filterMap h h2⟩;obtain⟨j,hj,ej⟩:=List.mem_filterMap.mp hb;exact h x j a b (h1 j hj) e ej
theorem pw_liveR{A:List (List Int)}{N top p:Nat}:(fg A N top p).Pairwise (· < ·):=by
 unfold fg;refine pw_filterMap (fun i j a b hij ha hb=>?_) List.pairwise_lt_range;split at ha
 . split at hb
   . cases ha;cases hb;omega
   . cases hb
 . cases ha
theorem xN{f:Nat->Option Nat}(l:List Nat):(l.filterMap f).length<=l.length:=List.length_filterMap_le ..
theorem JQ{A:List (List Int)}{N top p:Nat}{os:List (Int×Int)}(hp:os.Perm (((fg A N top p).map fun(k:Nat)=>(((Mx.g A k p).natAbs:Nat):Int)).zip ((fg A N top p).map fun(k:Nat)=>(k:Int))))(hs:os.Pairwise slt):
 Mx.mi A N top p (os.map fun q=>q.2.toNat)/\os.map (fun q=>D.int q.2)=(os.map fun q=>q.2.toNat).map fun(k:Nat)=>D.int (k:Int):=by
 have hz:((fg A N top p).map fun(k:Nat)=>(((Mx.g A k p).natAbs:Nat):Int)).zip ((fg A N top p).map fun(k:Nat)=>(k:Int))=(fg A N top p).map fun k=>((((Mx.g A k p).natAbs:Nat):Int),(k:Int)):=by
  exact List.zip_map' ..
 rw[hz]at hp
 have hm:∀q∈os,∃k,k∈fg A N top p/\q=((((Mx.g A k p).natAbs:Nat):Int),(k:Int)):=fun q hq=>by
  obtain⟨k,h1,h2⟩:=List.mem_map.mp (hp.mem_iff.mp hq);exact⟨k,h1,h2.symm⟩
 refine⟨⟨fun k=>?_,?_,?_⟩,?_⟩
 . rw[<-wZ];constructor
   . intro h;obtain⟨q,hq,e⟩:=List.mem_map.mp h;obtain⟨j,h1,rfl⟩:=hm q hq;simp only[Int.toNat_natCast]at e;rw[<-e];exact h1
   . intro h;exact List.mem_map.mpr ⟨((((Mx.g A k p).natAbs:Nat):Int),(k:Int)),hp.mem_iff.mpr (List.mem_map.mpr ⟨k,h,rfl⟩),by simp⟩
 . rw[List.pairwise_map];refine hs.imp_of_mem fun{x y} hx hy h=>?_;obtain⟨j,_,rfl⟩:=hm x hx;obtain⟨k,_,rfl⟩:=hm y hy;unfold slt at h;simp only[Int.toNat_natCast];omega
 . have e:((fg A N top p).map fun k=>((((Mx.g A k p).natAbs:Nat):Int),(k:Int))).map (fun q=>q.2.toNat)=fg A N top p:=by
    rw[List.map_map];exact(List.map_congr_left fun k _=>Int.toNat_natCast k).trans (List.map_id _)
   have hq:=hp.map fun q=>q.2.toNat;rw[e]at hq;exact hq.nodup_iff.mpr (pw_liveR.imp fun h=>Nat.ne_of_lt h)
 . rw[List.map_map];refine List.map_congr_left fun q hq=>?_;obtain⟨j,_,rfl⟩:=hm q hq;simp
theorem rQ:∀ds st K,gg ds st K->ds.length=3/\sR {nx:=fun _ st'=>K .aH st',rt:=K} (aT gh ds) st:=by
 rintro ds st K ⟨b,xb,xu,xc,N,w,top,p,A,U,C,f,rfl,B,hA,ht,hN,hp,hw,h0,k⟩;refine⟨rfl,?_⟩;have lA:=hA.len;have rowA:∀i,i<N->(A.getD i []).length=w:=fun i hi=>Mx.cD hA hi;refine cz B.eb rfl (cS (aM B.e1) ?_);rw[List.length_map,lA];refine AJ ⟨by omega,by omega,by omega,by omega⟩ ⟨cG (by unfold c9;simp;omega),?_⟩;have er:((N:Int)-(top:Int)).toNat=N-top:=by omega
 rw[er];refine ft (fun rest acc st'=>∃i:Nat,i<=N-top/\st'=st/\rest=(List.range (N-top-i)).map (fun j=>D.int ((top+i+j:Nat):Int))/\acc=((List.range i).filterMap fun i=>if Mx.g A (top+i) p≠0 then some (top+i)else none).map fun(k:Nat)=>D.int (k:Int)) ?_ ?_ _ _ _ ⟨0,Nat.zero_le _,rfl,by unfold c9;simp,by simp⟩
 . rintro acc st' ⟨i,hi,rfl,hr,rfl⟩
   have hi':i=N-top:=by
    rcases Nat.lt_or_ge i (N-top)with z|z
    . rw[show N-top-i=(N-top-i-1)+1 by omega,List.range_succ_eq_map]at hr;cases hr
    . omega
   subst hi';refine⟨trivial,?_⟩;have e1:((fg A N top p).map fun(k:Nat)=>D.int (k:Int))=((fg A N top p).map fun(k:Nat)=>(k:Int)).map D.int:=by rw[List.map_map];rfl
   refine⟨(fg A N top p).map fun(k:Nat)=>(k:Int),(fg A N top p).map fun(k:Nat)=>(((Mx.g A k p).natAbs:Nat):Int),f,congrArg D.lst e1,?_,?_,by rw[List.length_map,List.length_map],h0,fun i n q hn hq=>?_,fun os hp' hs=>?_⟩
   . rw[List.length_map];have:=xN (f:=fun i=>if Mx.g A (top+i) p≠0 then some (top+i)else none) (List.range (N-top));rw[List.length_range]at this;show(fg A N top p).length<64;unfold fg;omega
   . rw[List.pairwise_map];exact pw_liveR.imp fun h=>by omega
   . rw[List.getElem?_map]at hn hq;cases z:(fg A N top p)[i]? with
     |none=>rw[z]at hn;cases hn
     |some j=>
      rw[z]at hn hq;cases hn;cases hq;obtain⟨j1,j2,j3⟩:=wZ.mp (List.mem_of_getElem? z);have B1:=B.tab h0 (e9 true);refine cz B1.eb rfl (ay (aM B1.e1) (dA (by omega)) (ay rfl (ng (by rw[rowA j j2];exact hp)) (vw ⟨rfl,rfl⟩)))
   . obtain⟨h1,h2⟩:=JQ hp' hs;rw[h2];exact k _ h1
 . rintro d rest acc st' ⟨i,hi,rfl,hr,rfl⟩ next
   have hlt:i<N-top:=by
    rcases Nat.lt_or_ge i (N-top)with z|z
    . exact z
    . rw[show N-top-i=0 by omega]at hr;cases hr
   rw[show N-top-i=(N-top-i-1)+1 by omega,List.range_succ_eq_map,List.map_cons,List.map_map]at hr;obtain⟨rfl,rfl⟩:=List.cons.inj hr;refine⟨trivial,_,rfl,?_⟩;refine cz B.eb rfl (ay (aM B.e1) (dA (j:=top+i+0) (by omega)) (ay rfl (ng (by rw[rowA _ (by omega)];exact hp)) ?_));have e2:List.range (i+1)=List.range i++[i]:=List.range_succ
   have e3:((List.range (N-top-i-1)).map ((fun j=>D.int ((top+i+j:Nat):Int))∘Nat.succ))=(List.range (N-top-(i+1))).map fun j=>D.int ((top+(i+1)+j:Nat):Int):=by
    rw[show N-top-i-1=N-top-(i+1) by omega];refine List.map_congr_left fun j _=>?_;show D.int ((top+i+(j+1):Nat):Int)=_;rw[show top+i+(j+1)=top+(i+1)+j by omega]
   refine ne2 (fun h=>?_) fun h=>?_
   . refine(next _ _ ⟨i+1,by omega,rfl,e3,?_⟩);rw[e2,List.filterMap_append,List.map_append];have:Mx.g A (top+i) p≠0:=h;simp[this]
   . refine(next _ _ ⟨i+1,by omega,rfl,e3,?_⟩);rw[e2,List.filterMap_append,List.map_append];have:Mx.g A (top+i) p=0:=h;simp[this]
structure Bo(n0:Nat)(st st':af)(b xb xu xc:Nat):Prop where
 lo:1<=n0/\n0<=b/\n0<=xb/\n0<=xu/\n0<=xc
 fr:∀m,m<n0->m≠0->st'[m]?=st[m]?
 tb:∃f,st'[0]?=some (e9 f)
def kR:b_:=fun ds st K=>∃(n0 b xb xu xc N w top p e u v:Nat) (A0 A U C:List (List Int)) (ld:Nat->Nat),ds=[.ref b,.int top,.int p]/\Bn st b xb xu xc A U C/\Bo n0 st st b xb xu xc/\Mx.gN A0 N w ⟨A,U,C⟩ top p ld e u v/\N<=8/\w<=9/\p<w/\(N-top+1)*(e+1)<=60000000/\
 (∀st',Bn st' b xb xu xc A U C->Bo n0 st st' b xb xu xc->Mx.mi A N top p []->K (.bl false) st')/\
 ∀st' xb' xu' xc' (c:Mx.B3) (r:Nat),Bn st' b xb' xu' xc' (Mx.setB c p top r).A (Mx.setB c p top r).U (Mx.setB c p top r).C->Bo n0 st st' b xb' xu' xc'->Mx.jb N top p ⟨A,U,C⟩ c->Mx.mi c.A N top p [r]->top<N->
  Mx.vI A0 N w top p (2^((N-top+1)*(e+1))) ⟨A,U,C⟩ (Mx.setB c p top r)->K (.bl true) st'
def iQ:List Str:=["self","top","place","live","great","small"]
def vP:DS:=(aF (a9 3 (i6 aC "live_rows" gg (ab 0) (ae (ab 1) (ae (ab 2) ak))))
 (aF (pG (a8 (ao pD (bo dH (ae (ab 3) ak)) (dC (.int 1)))) (aF (a9 4 (ao aK (ab 3) (kn gv (dC (.int 1)))))
 (aF (a9 5 (ao aK (ab 3) (kn gv (dC (.int 2)))))
 (aF (lb (i6 aC "take" jU (ab 0) (ae (ab 4) (ae (aE iy (ae (ao aK (ao aK (dO aC "body" (ab 0)) (ab 4)) (ab 2)) (ae (ao aK (ao aK (dO aC "body" (ab 0)) (ab 5)) (ab 2)) ak))) (ae (ab 5) ak)))))
 (a9 3 (i6 aC "live_rows" gg (ab 0) (ae (ab 1) (ae (ab 2) ak))))))))
 (aF (dN (a8 (ao gH (bo dH (ae (ab 3) ak)) (dC (.int 0)))) (bc (dC (.bl false))) cJ)
 (aF (lb (i6 aC "exchange" jx (ab 0) (ae (ab 1) (ae (ao aK (ab 3) (dC (.int 0))) ak))))
 (aF (dN (a8 (ao nS (ao aK (ao aK (dO aC "body" (ab 0)) (ab 1)) (ab 2)) (dC (.int 0)))) (lb (i6 aC "change_sign" h8 (ab 0) (ae (ab 1) ak))) cJ)
 (bc (dC (.bl true))))))))
theorem Bo.Kw{n0:Nat}{st st':af}{b xb xu xc:Nat}(h:Bo n0 st st' b xb xu xc):Bo n0 st (st'.set 0 (e9 true)) b xb xu xc:=
 ⟨h.lo,fun m hm h0=>by rw[List.getElem?_set_ne (Ne.symm h0)];exact h.fr m hm h0,true,by
  obtain⟨f,e⟩:=h.tb;exact List.getElem?_set_self (List.getElem?_eq_some_iff.mp e).1⟩
theorem Bo.low{n0:Nat}{st st1 st2:af}{b xb xu xc:Nat}(h:Bo n0 st st1 b xb xu xc)(f:∀m,m≠xb->m≠xu->m≠xc->st2[m]?=st1[m]?):Bo n0 st st2 b xb xu xc:=by
 obtain⟨l1,l2,l3,l4,l5⟩:=h.lo;refine⟨h.lo,fun m hm h0=>?_,?_⟩
 . rw[f m (by omega) (by omega) (by omega)];exact h.fr m hm h0
 . obtain⟨z,e⟩:=h.tb;exact⟨z,by rw[f 0 (by omega) (by omega) (by omega)];exact e⟩
theorem vN{X:List (List Int)}{N w top m i:Nat}(hX:Mx.ck N w X)(h:Mx.gc X N top m)(hi:top<=i)(hN:i<N):∀x∈X.getD i [],x.natAbs<=m:=fun x hx=>by
 obtain⟨c,hc,rfl⟩:=List.mem_iff_getElem.mp hx;have:=h i c hi hN;unfold Mx.g at this;rwa [Mx.bE hc]at this
theorem zz{n j:Nat}(h:1<=j)(h2:j<=n):mr n (-(j:Int))=some (n-j):=by
 unfold mr;rw[if_neg (by omega),if_pos (by omega)];congr 1;omega
theorem Nb{L:List Nat}{j k:Nat}:dG ((L++[j,k]).map fun(k:Nat)=>D.int (k:Int)) (-1)=some (.int (k:Int)):=by
 unfold dG;have:=zz (n:=((L++[j,k]).map fun(k:Nat)=>D.int (k:Int)).length) (j:=1) (by decide) (by simp);rw[show(-((1:Nat):Int))= -1 from rfl]at this;rw[this];simp
theorem ML{L:List Nat}{j k:Nat}:dG ((L++[j,k]).map fun(k:Nat)=>D.int (k:Int)) (-2)=some (.int (j:Int)):=by
 unfold dG;have:=zz (n:=((L++[j,k]).map fun(k:Nat)=>D.int (k:Int)).length) (j:=2) (by decide) (by simp);rw[show(-((2:Nat):Int))= -2 from rfl]at this;rw[this];simp
theorem E7:∀ {L:List Nat},1<L.length->∃M j k,L=M++[j,k]:=fun{L} h=>by
 refine⟨L.take (L.length-2),L[L.length-2]'(by omega),L[L.length-1]'(by omega),?_⟩;have e1:L=L.take (L.length-2)++L.drop (L.length-2):=(List.take_append_drop _ _).symm
 have e2:L.drop (L.length-2)=[L[L.length-2]'(by omega),L[L.length-1]'(by omega)]:=by
  rw[List.drop_eq_getElem_cons (by omega),List.drop_eq_getElem_cons (by omega),List.drop_eq_nil_of_le (by omega)];congr 2;congr 1;omega
 rw[<-e2];exact e1
theorem uE:∀ds st K,kR ds st K->ds.length=3/\vP {nx:=fun _ st'=>K .aH st',rt:=K} (aT iQ ds) st:=by
 rintro ds st K ⟨n0,b,xb,xu,xc,N,w,top,p,e,u,v,A0,A,U,C,ld,rfl,B,O,S,hN,hw,hp,hz,kf,kt⟩;refine⟨rfl,?_⟩;have hle:=S.le;obtain⟨f,h0⟩:=O.tb;refine jE B.eb rfl ?_;refine⟨b,xb,xu,xc,N,w,top,p,A,U,C,f,rfl,B,S.tn.isA,hle,hN,hp,hw,h0,fun L hL=>?_⟩;have B1:=B.tab h0 (e9 true);have O1:=O.Kw;try dsimp only[ak]
 refine kI (fun σ st'=>∃(L:List Nat) (v4 v5:Option D) (c:Mx.B3) (gr:Nat),σ=[some (.ref b),some (.int top),some (.int p),some (.lst (L.map fun(k:Nat)=> .int (k:Int))),v4,v5]/\L.length<=1/\Bn st' b xb xu xc c.A c.U c.C/\Bo n0 st st' b xb xu xc/\Mx.jb N top p ⟨A,U,C⟩ c/\Mx.tw A0 N w top p (2^e) ⟨A,U,C⟩ c gr/\Mx.mi c.A N top p L) (fun nx hnx=>?_) ?_
 . refine⟨fun m σ st'=>∃(L:List Nat) (v4 v5:Option D) (c:Mx.B3) (gr:Nat),σ=[some (.ref b),some (.int top),some (.int p),some (.lst (L.map fun(k:Nat)=> .int (k:Int))),v4,v5]/\Bn st' b xb xu xc c.A c.U c.C/\Bo n0 st st' b xb xu xc/\Mx.jb N top p ⟨A,U,C⟩ c/\Mx.tw A0 N w top p (2^e) ⟨A,U,C⟩ c gr/\Mx.mi c.A N top p L/\m=Mx.mu c.A N p,⟨_,L,none,none,⟨A,U,C⟩,1,rfl,B1,O1,.refl _,S.P7,hL,rfl⟩,?_⟩;rintro m σ st1 ⟨L,v4,v5,c,gr,rfl,B,O,hR,hG,hL,rfl⟩;refine cS rfl ?_;rw[List.length_map];refine EE (fun h=>fx ?_) fun h=>vk (hnx _ _ ⟨L,v4,v5,c,gr,rfl,by omega,B,O,hR,hG,hL⟩);obtain⟨M,j,k,rfl⟩:=E7 (L:=L) (by omega);refine i5 (ay rfl Nb (i5 (ay rfl ML ?_)));obtain⟨G2,hlt,hoth,k1,k2,j1,j2,hjk,hj0⟩:=hG.step hp hL;have T:=hG.tn;have lA:=T.isA.len;have hlow:=G2.low S.lo.1;refine jE B.eb rfl (cz B.eb rfl (ay (aM B.e1) (dA (by omega)) (ay rfl (ng (by rw[Mx.cD T.isA k2];exact hp)) (cz B.eb rfl (ay (aM B.e1) (dA (by omega)) (ay rfl (ng (by rw[Mx.cD T.isA j2];exact hp)) ?_))))));refine⟨_,_,rfl,hj0,?_⟩
   have hq:(Mx.qn (Mx.g c.A k p) (Mx.g c.A j p)).natAbs<=2^((N-top+1)*(e+1)):=by
    refine Nat.le_trans ?_ hlow;have a1:=hG.pos;have a2:1<=2^e:=Nat.one_le_two_pow;have a3:1*(Mx.qn (Mx.g c.A k p) (Mx.g c.A j p)).natAbs<=gr*(1+(Mx.qn (Mx.g c.A k p) (Mx.g c.A j p)).natAbs):=Nat.mul_le_mul a1 (by omega);have a4:=Nat.mul_le_mul a2 a3;omega
   have hx:2^e*gr<=2^((N-top+1)*(e+1)):=hG.low S.lo.1
   have hm:∀ {x:Int},x.natAbs<=2^e*gr->IntMulOk (Mx.qn (Mx.g c.A k p) (Mx.g c.A j p)) x/\IntMulOk (-(Mx.qn (Mx.g c.A k p) (Mx.g c.A j p))) x:=fun{x} h=>
    ⟨g5 hq (Nat.le_trans h hx) (by omega),g5 (by rw[Int.natAbs_neg];exact hq) (Nat.le_trans h hx) (by omega)⟩
   refine⟨b,xb,xu,xc,N,w,k,j,c.A,c.U,c.C,_,rfl,B,T.isA,T.fi,T.gb,k2,j2,hN,hw,fun x hx=>(hm (vN T.isA hG.lA j1 j2 x hx)).2,fun x hx=>(hm (vN T.fi hG.lU j1 j2 x hx)).2,fun x hx=>(hm (vN T.gb hG.lC k1 k2 x hx)).1,fun st2 B2 l2 f2=>?_⟩;have O2:=O.low f2;obtain⟨f',h0'⟩:=O2.tb;refine jE B2.eb rfl ?_;refine⟨b,xb,xu,xc,N,w,top,p,_,_,_,f',rfl,B2,G2.tn.isA,hle,hN,hp,hw,h0',fun L2 hL2=>?_⟩;refine⟨_,?_,L2,_,_,Mx.kj c p k j,_,rfl,B2.tab h0' (e9 true),O2.Kw,hR.tail ⟨M,k,j,hL,rfl⟩,G2,hL2,rfl⟩;unfold Mx.mu;refine Mx.Hw (k:=k) hlt k2 fun i hi=>?_;by_cases h:i=k
   . rw[h];exact Nat.le_of_lt hlt
   . rw[hoth i h];exact Nat.le_refl _
 . rintro σ st1 ⟨L,v4,v5,c,gr,rfl,hl,B,O,hR,hG,hL⟩;refine cS rfl ?_;rw[List.length_map];match L,hl,hL with
   | [],_,hL=>
     refine eq2 (fun h=>fx ?_) fun h=>absurd rfl h
     have e0:c=⟨A,U,C⟩:=by
      rcases hG.MX with z|⟨j,h1,h2,h3⟩
      . exact z
      . exact absurd ((hL.mem j).mpr ⟨h1,h2,h3⟩) (by simp)
     subst e0;exact kf st1 B O hL
   | [r],_,hL=>
     refine eq2 (fun h=>absurd h (by simp)) fun h=>vk ?_;obtain⟨s1,hr1,hr2⟩:=hG.set hL;have ht:top<N:=by omega
     have T:=hG.tn
     have s2:Mx.vI A0 N w top p (2^((N-top+1)*(e+1))) ⟨A,U,C⟩ (Mx.setB c p top r):=by
      have hlow:=hG.low S.lo.1;exact⟨s1.tn,s1.up,⟨fun i q h1 h2=>Nat.le_trans (s1.lo.1 i q h1 h2) hlow,fun i q h1 h2=>Nat.le_trans (s1.lo.2.1 i q h1 h2) hlow,fun i q h1 h2=>Nat.le_trans (s1.lo.2.2 i q h1 h2) hlow⟩,s1.zs,s1.tp,s1.z1⟩
     refine jE B.eb rfl (ay rfl (show dG ([r].map fun(k:Nat)=>D.int (k:Int)) 0=some (.int (r:Int))from rfl) ?_);refine⟨b,xb,xu,xc,N,w,top,r,c.A,c.U,c.C,rfl,B,T.isA,T.fi,T.gb,ht,hr2,fun st2 B2 l2 f2=>?_⟩;obtain⟨l1,l2',l3,l4,l5⟩:=O.lo
     have hst:n0<=st1.length:=by
      have:=(List.getElem?_eq_some_iff.mp B.eb).1;omega
     have O2:Bo n0 st st2 b st1.length (st1.length+1) (st1.length+2):=by
      refine⟨⟨l1,l2',by omega,by omega,by omega⟩,fun m hm h0=>?_,?_⟩
      . rw[f2 m (by omega) (by omega)];exact O.fr m hm h0
      . obtain⟨z,e⟩:=O.tb;exact⟨z,by rw[f2 0 (by omega) (by omega)];exact e⟩
     have T1:=T.Hi ht hr2;refine cz B2.eb rfl (ay (aM B2.e1) (dA (by have:=T1.isA.len;omega)) (ay rfl (ng (by rw[Mx.cD T1.isA ht];exact hp)) ?_));refine Ly (fun h=>fx ?_) fun h=>vk ?_
     . have es:Mx.setB c p top r=⟨Mx.gq (Mx.bI c.A top r) top,Mx.gq (Mx.bI c.U top r) top,Mx.gq (Mx.bI c.C top r) top⟩:=if_pos h;refine jE B2.eb rfl ?_;refine⟨b,_,_,_,N,w,top,_,_,_,rfl,B2,T1.isA,T1.fi,T1.gb,ht,hN,hw,fun st3 B3 l3 f3=>?_⟩;exact kt st3 _ _ _ c r (by rw[es];exact B3) (O2.low f3) hR hL ht s2
     . have es:Mx.setB c p top r=⟨Mx.bI c.A top r,Mx.bI c.U top r,Mx.bI c.C top r⟩:=if_neg (fun z=>by unfold Mx.g at z;omega);exact kt st2 _ _ _ c r (by rw[es];exact B2) O2 hR hL ht s2
def ia:b_:=fun ds st K=>∃(b xb xu xc N w top p e u v:Nat) (A0 A U C:List (List Int)),ds=[.ref b,.int top,.int p]/\Bn st b xb xu xc A U C/\Mx.Tn A0 A U C N w/\N<=8/\w<=9/\p<w/\top<N/\0<Mx.g A top p/\(∀q,q<p->Mx.g A top q=0)/\
 (∀q,(Mx.g A top q).natAbs<=2^e/\(Mx.g U top q).natAbs<=2^e/\(Mx.g C top q).natAbs<=2^e)/\(∀i q,i<top->(Mx.g A i q).natAbs<=2^u/\(Mx.g U i q).natAbs<=2^u/\(Mx.g C i q).natAbs<=2^v)/\u+e<=125000000/\u+v<=125000000/\
 ∀st',Bn st' b xb xu xc (Mx.md p top top ⟨A,U,C⟩).A (Mx.md p top top ⟨A,U,C⟩).U (Mx.md p top top ⟨A,U,C⟩).C->(∀m,m≠xb->m≠xu->m≠xc->st'[m]?=st[m]?)->Mx.mD A0 N w top p e u v ⟨A,U,C⟩ top (Mx.md p top top ⟨A,U,C⟩)->K .aH st'
def fE:List Str:=["self","top","place","k"]
def qy:DS:=(ib (d8 (ae (ab 1) ak)) (bp 3) (lb (i6 aC "take" jU (ab 0) (ae (ab 3) (ae (ao lP (ao aK (ao aK (dO aC "body" (ab 0)) (ab 3)) (ab 2)) (ao aK (ao aK (dO aC "body" (ab 0)) (ab 1)) (ab 2))) (ae (ab 1) ak))))))
theorem BM{X:List (List Int)}{i:Nat}{x:Int}(hx:x∈X.getD i []):∃q,x=Mx.g X i q:=by
 obtain⟨c,hc,rfl⟩:=List.mem_iff_getElem.mp hx;exact⟨c,by unfold Mx.g;rw[Mx.bE hc]⟩
theorem qg:∀ds st K,ia ds st K->ds.length=3/\qy {nx:=fun _ st'=>K .aH st',rt:=K} (aT fE ds) st:=by
 rintro ds st K ⟨b,xb,xu,xc,N,w,top,p,e,u,v,A0,A,U,C,rfl,B,T,hN,hw,hp,ht,htp,hz,hlo,hhi,he,hu,kk⟩;refine⟨rfl,?_⟩;refine fk ⟨by omega,by omega⟩ ?_;rw[Int.toNat_natCast];refine lI top (fun k σ st'=>∃v3:Option D,σ=[some (.ref b),some (.int top),some (.int p),v3]/\Bn st' b xb xu xc (Mx.md p top k ⟨A,U,C⟩).A (Mx.md p top k ⟨A,U,C⟩).U (Mx.md p top k ⟨A,U,C⟩).C/\(∀m,m≠xb->m≠xu->m≠xc->st'[m]?=st[m]?)/\Mx.mD A0 N w top p e u v ⟨A,U,C⟩ k (Mx.md p top k ⟨A,U,C⟩)) ?_ ?_ ⟨none,rfl,B,fun _ _ _ _=>rfl,Mx.mD.start T fun q=>(hlo q).2.2⟩
 . rintro σ st' ⟨v3,rfl,B',f,I⟩;exact kk st' B' f I
 . rintro k σ st' rest hk ⟨v3,rfl,B',f,I⟩ next
   refine⟨_,rfl,?_⟩;have hs:=I.step hk ht hp htp hz (fun q=>⟨(hlo q).1,(hlo q).2.1⟩) hhi;generalize hc:Mx.md p top k ⟨A,U,C⟩=c at*;have lA:=I.tn.isA.len;have kN:k<N:=by omega
   have gA:∀i q,k<=i->Mx.g c.A i q=Mx.g A i q:=fun i q hi=>by unfold Mx.g;rw[(I.rA i hi).1]
   have gU:∀i q,k<=i->Mx.g c.U i q=Mx.g U i q:=fun i q hi=>by unfold Mx.g;rw[(I.rA i hi).2]
   have gC:∀i q,i≠top->Mx.g c.C i q=Mx.g C i q:=fun i q hi=>by unfold Mx.g;rw[I.rC i hi]
   have hq:((Mx.g c.A k p).fdiv (Mx.g c.A top p)).natAbs<=2^u:=by
    rw[gA k p (Nat.le_refl _),gA top p (by omega)];exact Nat.le_trans (Mx.nI _ htp) (hhi k p hk).1
   have htp':Mx.g c.A top p≠0:=by rw[gA top p (by omega)];omega
   refine jE B'.eb rfl (cz B'.eb rfl (ay (aM B'.e1) (dA (by omega)) (ay rfl (ng (by rw[Mx.cD I.tn.isA kN];exact hp)) (cz B'.eb rfl (ay (aM B'.e1) (dA (by omega)) (ay rfl (ng (by rw[Mx.cD I.tn.isA ht];exact hp)) (zh htp' ?_)))))));refine⟨b,xb,xu,xc,N,w,k,top,c.A,c.U,c.C,_,rfl,B',I.tn.isA,I.tn.fi,I.tn.gb,kN,ht,hN,hw,fun x hx=>?_,fun x hx=>?_,fun x hx=>?_,fun st2 B2 l2 f2=>?_⟩
   . obtain⟨q,rfl⟩:=BM hx;rw[gA top q (by omega)];exact g5 (by rw[Int.natAbs_neg];exact hq) (hlo q).1 (by omega)
   . obtain⟨q,rfl⟩:=BM hx;rw[gU top q (by omega)];exact g5 (by rw[Int.natAbs_neg];exact hq) (hlo q).2.1 (by omega)
   . obtain⟨q,rfl⟩:=BM hx;rw[gC k q (by omega)];exact g5 hq (hhi k q hk).2.2 (by omega)
   . have el:Mx.md p top (k+1) ⟨A,U,C⟩=⟨Mx.bN c.A k ((Mx.g c.A k p).fdiv (Mx.g c.A top p)) top,Mx.bN c.U k ((Mx.g c.A k p).fdiv (Mx.g c.A top p)) top,Mx.bN c.C top (-((Mx.g c.A k p).fdiv (Mx.g c.A top p))) k⟩:=by rw[<-hc];rfl
     refine next _ _ ⟨_,rfl,?_,fun m h1 h2 h3=>(f2 m h1 h2 h3).trans (f m h1 h2 h3),?_⟩
     . rw[el];exact B2
     . rw[el];exact hs
structure Bk(st st':af):Prop where
 le:st.length<=st'.length
 fr:∀m,m<st.length->m≠0->st'[m]?=st[m]?
 tb:∃f,st'[0]?=some (e9 f)
def jS:b_:=fun ds st K=>∃(d:D) (N w e0:Nat) (A:List (List Int)) (f:Bool),ds=[d]/\fO st d A/\Mx.ck N w A/\1<=N/\N<=8/\w<=9/\Mx.gc A N 0 (2^e0)/\e0<60000000/\Mx.Rm N w e0/\st[0]?=some (e9 f)/\
 ∀st' (top:Nat) (c:Mx.B3) (ld:Nat->Nat),Mx.vG A N w top c->Mx.gN A N w c top w ld (Mx.Ez N e0 top) (Mx.Uz N e0 top) (Mx.Cz N e0 top)->Bk st st'->K (.tup [cB (c.A.take top),cB c.U,cB (Mx.nr c.C N)]) st'
def mF:List Str:=["rows","bench","top","place","back"]
def Cn:DS:=(aF (a9 1 (BH aC jq (ae (ab 0) ak)))
 (aF (a9 2 (dC (.int 0)))
 (aF (ib (d8 (ae (bo dH (ae (ao aK (ab 0) (dC (.int 0))) ak)) ak)) (bp 3) (dN (a8 (i6 aC "gather" kR (ab 1) (ae (ab 2) (ae (ab 3) ak)))) (aF (lb (i6 aC "lower_above" ia (ab 1) (ae (ab 2) (ae (ab 3) ak))))
 (Bu 2 (zM (fun i j=>i+j)) (dC (.int 1)))) cJ))
 (aF (a9 4 (aE jn (ae (dO aC "back_columns" (ab 1)) (ae (bo dH (ae (ab 0) ak)) ak))))
 (bc (ie (ae (aE ot (ae (gY (dO aC "body" (ab 1)) fJ (je (ab 2))) ak)) (ae (aE ot (ae (dO aC "turn" (ab 1)) ak)) (ae (ab 4) ak)))))))))
theorem wW{st st':af}{f:Bool}(h0:st[0]?=some (e9 f))(fr:∀m,m<st.length->m≠0->st'[m]?=st[m]?){d:D}{xs:List D}(h:items? st d=some xs):items? st' d=some xs:=by
 cases d with
 |ref n=>
  have e:=qY h;have n0:n≠0:=sv e h0;rw[aM ((fr n (List.getElem?_eq_some_iff.mp e).1 n0).trans e)]
 |_=>exact h
theorem xa{st st':af}{f:Bool}(h0:st[0]?=some (e9 f))(fr:∀m,m<st.length->m≠0->st'[m]?=st[m]?):∀ {ds:List D} {A:List (List Int)},cf st ds A->cf st' ds A
 | [],[],_=>trivial
 |_::_,_::_,h=>⟨wW h0 fr h.1,xa h0 fr h.2⟩
theorem uJ{st st':af}{f:Bool}(h0:st[0]?=some (e9 f))(fr:∀m,m<st.length->m≠0->st'[m]?=st[m]?){d:D}{A:List (List Int)}(h:fO st d A):fO st' d A:=by
 obtain⟨ds,h1,h2⟩:=h.ex;exact⟨ds,wW h0 fr h1,xa h0 fr h2⟩
theorem vC{xs:List D}{j:Nat}:L3.cutD xs none (some (j:Int))=xs.take j:=by
 unfold L3.cutD;rw[HT.AM,HT.zG,List.drop_zero,Nat.sub_zero];by_cases h:j<=xs.length
 . rw[Nat.min_eq_left h]
 . rw[Nat.min_eq_right (by omega),List.take_length,List.take_of_length_le (by omega)]
theorem Av:∀ds st K,jS ds st K->ds.length=1/\Cn {nx:=fun _ st'=>K .aH st',rt:=K} (aT mF ds) st:=by
 rintro ds st K ⟨d,N,w,e0,A,f,rfl,hd,hA,hN1,hN,hw,hlo,he0,hsz,h0,kk⟩;refine⟨rfl,?_⟩;have lA:=hA.len;have h0l:0<st.length:=(List.getElem?_eq_some_iff.mp h0).1;have hd1:fO (st++[Cell.ins aC []]) d A:=uJ h0 (fun m hm _=>List.getElem?_append_left hm) hd;refine⟨st.length,N,d,A,rfl,by simp,hd1,lA,hN,fun st1 B1 l1 f1=>⟨rfl,?_⟩⟩;have hl1:(st++[Cell.ins aC []]).length=st.length+1:=by simp
 have fr1:∀m,m<st.length->st1[m]?=st[m]?:=fun m hm=>by rw[f1 m (by omega) (by omega),List.getElem?_append_left hm]
 have O1:Bo st.length st st1 st.length (st.length+1) (st.length+1+1) (st.length+1+2):=⟨⟨h0l,by omega,by omega,by omega,by omega⟩,fun m hm _=>fr1 m hm,f,(fr1 0 h0l).trans h0⟩
 rw[hl1]at B1;have hdk:∀ {st':af},(∀m,m<st.length->m≠0->st'[m]?=st[m]?)->fO st' d A:=fun h=>uJ h0 h hd;obtain⟨da,hda,hra⟩:=(hdk O1.fr).ex;have hdl:=hra.len
 have hrow0:∃d0,da[0]?=some d0/\items? st1 d0=some (aD (A.getD 0 [])):=by
  have hi:0<da.length:=by omega
  obtain⟨r,e1,e2⟩:=cf.get hra (List.getElem?_eq_getElem hi);refine⟨da[0],List.getElem?_eq_getElem hi,?_⟩;have:A.getD 0 []=r:=by rw[List.getD_eq_getElem?_getD,e1];rfl
  rw[this];exact e2
 obtain⟨d0,hd0,hi0⟩:=hrow0;have er:(aD (A.getD 0 [])).length=w:=by unfold aD;rw[List.length_map];exact Mx.cD hA (by omega)
 try dsimp only[ak]
 refine kI (A:=a9 2 _) (fun σ st'=>σ=[some d,some (.ref st.length),some (.int 0),none,none]/\st'=st1) (fun nx h=>h _ _ ⟨rfl,rfl⟩) ?_;rintro _ _ ⟨rfl,rfl⟩;refine kI (A:=ib _ _ _) (fun σ st'=>∃(top xb xu xc:Nat) (v3:Option D) (c:Mx.B3) (ld:Nat->Nat),σ=[some d,some (.ref st.length),some (.int top),v3,none]/\Bn st' st.length xb xu xc c.A c.U c.C/\Bo st.length st st' st.length xb xu xc/\Mx.vG A N w top c/\Mx.gN A N w c top w ld (Mx.Ez N e0 top) (Mx.Uz N e0 top) (Mx.Cz N e0 top)) (fun nx hnx=>?_) ?_
 . refine ay hda (show dG da 0=some d0 from g_ (j:=0) hd0) (cS hi0 ?_);rw[er];refine fk ⟨by omega,by omega⟩ ?_;rw[Int.toNat_natCast];refine lI w (fun p σ st'=>∃(top xb xu xc:Nat) (v3:Option D) (c:Mx.B3) (ld:Nat->Nat),σ=[some d,some (.ref st.length),some (.int top),v3,none]/\Bn st' st.length xb xu xc c.A c.U c.C/\Bo st.length st st' st.length xb xu xc/\Mx.vG A N p top c/\Mx.gN A N w c top p ld (Mx.Ez N e0 top) (Mx.Uz N e0 top) (Mx.Cz N e0 top)) ?_ ?_ ⟨0,_,_,_,none,⟨A,Mx.units N,Mx.units N⟩,fun _=>0,rfl,B1,O1,.start,Mx.gN.start hA hlo⟩
   . rintro σ st' ⟨top,xb,xu,xc,v3,c,ld,rfl,B,O,hC,S⟩;exact hnx _ _ ⟨top,xb,xu,xc,v3,c,ld,rfl,B,O,hC,S⟩
   . rintro p σ st' rest hp ⟨top,xb,xu,xc,v3,c,ld,rfl,B,O,hC,S⟩ next
     refine⟨_,rfl,?_⟩;have hle:=S.le
     have hz1:(N-top+1)*(Mx.Ez N e0 top+1)<=60000000:=by
      have GG:=S.GG;by_cases ht:top<N
      . exact Nat.le_of_lt (hsz top ht (by omega)).1
      . have e:N-top=0:=by omega
        rw[e]
        have:Mx.Ez N e0 top<60000000:=by
         cases top with
         |zero=>exact he0
         |succ t=>exact(hsz t (by omega) (by omega)).1
        omega
     refine jE B.eb rfl ?_;refine⟨st.length,st.length,xb,xu,xc,N,w,top,p,_,_,_,A,c.A,c.U,c.C,ld,rfl,B,⟨O.lo,fun _ _ _=>rfl,O.tb⟩,S,hN,hw,hp,hz1,fun st2 B2 O2 hL=>?_,fun st2 xb2 xu2 xc2 c2 r B2 O2 hR hL ht s1=>?_⟩
     . exact vk (next _ _ ⟨top,xb,xu,xc,_,c,ld,rfl,B2,⟨O2.lo,fun m h1 h2=>(O2.fr m h1 h2).trans (O.fr m h1 h2),O2.tb⟩,.next hC (.none hL),S.skip hL⟩)
     . refine fx ?_;have O2':Bo st.length st st2 st.length xb2 xu2 xc2:=⟨O2.lo,fun m h1 h2=>(O2.fr m h1 h2).trans (O.fr m h1 h2),O2.tb⟩
       have hup:∀i q,i<top->Mx.g (Mx.setB c2 p top r).A i q=Mx.g c.A i q/\Mx.g (Mx.setB c2 p top r).U i q=Mx.g c.U i q/\Mx.g (Mx.setB c2 p top r).C i q=Mx.g c.C i q:=fun i q hi=>by
        obtain⟨a1,a2,a3⟩:=s1.up i hi;unfold Mx.g;rw[a1,a2,a3];exact⟨rfl,rfl,rfl⟩
       refine jE B2.eb rfl ?_;refine⟨st.length,xb2,xu2,xc2,N,w,top,p,Mx.Ez N e0 (top+1),Mx.Uz N e0 top,Mx.Cz N e0 top,A,_,_,_,rfl,B2,s1.tn,hN,hw,hp,ht,s1.tp,fun q hq=>s1.zs top q (Nat.le_refl _) ht hq,fun q=>⟨s1.lo.1 top q (Nat.le_refl _) ht,s1.lo.2.1 top q (Nat.le_refl _) ht,s1.lo.2.2 top q (Nat.le_refl _) ht⟩,fun i q hi=>?_,Nat.le_trans (hsz top ht (Nat.lt_of_le_of_lt S.GG hp)).2.1 (by decide),Nat.le_trans (hsz top ht (Nat.lt_of_le_of_lt S.GG hp)).2.2 (by decide),fun st3 B3 f3 I=>?_⟩
       . obtain⟨a1,a2,a3⟩:=hup i q hi;rw[a1,a2,a3];exact S.hi i q hi
       . have hS:=Mx.vI.vt (e':=Mx.Ez N e0 (top+1)) (u':=Mx.Uz N e0 (top+1)) (v':=Mx.Cz N e0 (top+1)) S s1 ht I hN (Nat.le_refl _) (by show _<=Mx.Uz N e0 top+Mx.Cz N e0 top+Mx.Ez N e0 (top+1)+4;omega) (by show _<=Mx.Uz N e0 top+Mx.Cz N e0 top+Mx.Ez N e0 (top+1)+4;omega);exact next _ _ ⟨top+1,xb2,xu2,xc2,_,_,_,rfl,B3,O2'.low f3,.next hC (.one hR hL),hS⟩
 . rintro σ st2 ⟨top,xb,xu,xc,v3,c,ld,rfl,B,O,hC,S⟩;have T:=S.tn;have lN:=T.isA.len;refine cz B.eb rfl ?_;obtain⟨da2,hda2,hra2⟩:=(hdk O.fr).ex;refine cS hda2 ?_;rw[hra2.len,lA];refine⟨_,c.C,N,rfl,⟨_,aM B.e3,cf.lst⟩,T.gb.j5,by rw[T.gb.len];omega,by omega,?_⟩;refine cz B.eb rfl (Eo B.e1 ?_);rw[vC,<-List.map_take];refine⟨_,c.A.take top,rfl,⟨_,rfl,cf.lst⟩,by rw[List.length_take];omega,?_⟩;refine cz B.eb rfl ?_;refine⟨_,c.U,rfl,⟨_,aM B.e2,cf.lst⟩,by rw[T.fi.len];omega,?_⟩;refine⟨by show 3<=sizeLine;decide,?_⟩;refine kk st2 top c ld hC S ⟨?_,O.fr,O.tb⟩;have:=(List.getElem?_eq_some_iff.mp B.eb).1;omega
structure Wf(F:List (List Int))(m w:Nat):Prop where
 is:Mx.ck m w F
 st:Mx.bb F m w (Mx.aZ F)
 m8:m<=8
 w8:w<=8
 sm:∀k c,k<m->c<w->(Mx.g F k c).natAbs<=2^5000
theorem Wf.lead{F:List (List Int)}{m w i:Nat}(h:Wf F m w)(hi:i<m):Mx.aZ F i<w/\0<Mx.g F i (Mx.aZ F i)/\(F.getD i []).length=w/\mN (F.getD i [])= .int ((Mx.aZ F i:Nat):Int):=by
 obtain⟨l1,l2,l3⟩:=h.st.lead i hi;refine⟨l1,l2,h.is.row hi,?_⟩;unfold mN;rw[qC l3 (Int.ne_of_gt l2)]
theorem Wf.row{F:List (List Int)}{m w i:Nat}(h:Wf F m w)(hi:i<m):∀x∈F.getD i [],x.natAbs<=2^5000:=fun x hx=>by
 obtain⟨c,hc,rfl⟩:=List.mem_iff_getElem.mp hx;have hw:=h.is.row hi;have:=h.sm i c hi (by omega);unfold Mx.g at this;rwa [Mx.bE hc]at this
theorem z9{x:Int}(h:x.natAbs<=2^5000)(h0:x≠0):x.natAbs.log2<9000:=
 (Nat.log2_lt (by omega)).mpr (Nat.lt_of_le_of_lt h (Nat.pow_lt_pow_right (by decide) (by decide)))
theorem drop_cons{F:List (List Int)}{i:Nat}{d:D}{rest:List D}(hr:d::rest=(F.map bQ).drop i):i<F.length/\d=bQ (F.getD i [])/\rest=(F.map bQ).drop (i+1):=by
 have hi:i<F.length:=by
  rcases Nat.lt_or_ge i F.length with h|h
  . exact h
  . rw[List.drop_eq_nil_of_le (by rw[List.length_map];exact h)]at hr;cases hr
 rw[List.drop_eq_getElem_cons (by rw[List.length_map];exact hi),List.getElem_map]at hr;obtain⟨h1,h2⟩:=List.cons.inj hr;exact⟨hi,by rw[Mx.bE hi];exact h1,h2⟩
theorem drop_nil{F:List (List Int)}{i:Nat}(hr: []=(F.map bQ).drop i):F.length<=i:=by
 have:=congrArg List.length hr;rw[List.length_drop,List.length_map,List.length_nil]at this;omega
theorem MB{i:Nat}{σ:bV}{st:af}{K:DK}{d:D}(h:σ[i]?=some (some d))(k:K d st):ab i σ st K:=by
 unfold ab;simp only[h];exact k
def oj:b_:=fun ds st K=>∃(dr:D) (F:List (List Int)) (r:List Int) (m w e:Nat),ds=[cB F,dr]/\Wf F m w/\items? st dr=some (aD r)/\r.length=w/\(∀c,c<w->(r.getD c 0).natAbs<=2^e)/\e<=10000/\∀st',Ext st st'->K (.tup [bQ (Mx.xt F r m),bQ (Mx.c6 F r m)]) st'
def nW:List Str:=["form","row","weights","left","each","lead","weight"]
def Dy:DS:=(aF (a9 2 (wd ak))
 (aF (a9 3 (bo j_ (ae (ab 1) ak)))
 (aF (ib (d6 (ab 0)) (bp 4) (aF (a9 5 (aE iw (ae (ab 4) ak)))
 (aF (a9 6 (ao lg (ao aK (ab 3) (ab 5)) (ao aK (ab 4) (ab 5))))
 (aF (lb (o5 (ab 2) (ab 6)))
 (a9 3 (aE kq (ae (ab 3) (ae (kn gv (ab 6)) (ae (ab 4) ak)))))))))
 (bc (ie (ae (bo dY (ae (ab 2) ak)) (ae (bo dY (ae (ab 3) ak)) ak)))))))
theorem BS:∀ds st K,oj ds st K->ds.length=2/\Dy {nx:=fun _ st'=>K .aH st',rt:=K} (aT nW ds) st:=by
 rintro ds st K ⟨dr,F,r,m,w,e,rfl,hW,hr,lr,br,he,k⟩;refine⟨rfl,?_⟩;have lF:=hW.is.len;have m8:=hW.m8;have w8:=hW.w8;refine⟨Nat.le_of_ble_eq_true rfl,?_⟩;have X0:Ext st (st++[.lst []]):=Ext.push;have e0:(st++[Cell.lst []])[st.length]?=some (.lst (aD [])):=by simp
 refine kM (X0.items hr) (fH ?_);refine hJ (fun rest σ st'=>∃(i:Nat) (v4 v5 v6:Option D),i<=m/\rest=(F.map bQ).drop i/\σ=[some (cB F),some dr,some (.ref st.length),some (bg (Mx.c6 F r i)),v4,v5,v6]/\Ext st st'/\st'[st.length]?=some (.lst (aD (Mx.xt F r i)))) ?_ ?_ _ _ _ ⟨0,none,none,none,Nat.zero_le _,rfl,rfl,X0,e0⟩
 . rintro σ st' ⟨i,v4,v5,v6,hi,hrest,rfl,X,ew⟩;have e1:i=m:=Nat.le_antisymm hi (by rw[<-lF];exact drop_nil hrest);subst e1;exact⟨trivial,dX (aM ew) (dX rfl ⟨Nat.le_of_ble_eq_true rfl,k st' X⟩)⟩
 . rintro x rest σ st' ⟨i,v4,v5,v6,hi,hrest,rfl,X,ew⟩ next
   obtain⟨hiF,rfl,rfl⟩:=drop_cons hrest;have him:i<m:=by rw[<-lF];exact hiF
   obtain⟨l1,l2,wF,eld⟩:=hW.lead him;have lL:=Mx.iN hW.is lr (i:=i) (Nat.le_of_lt him);refine⟨trivial,_,rfl,_,F.getD i [],rfl,rfl,?_⟩;rw[eld];have at1:dG (aD (F.getD i [])) ((Mx.aZ F i:Nat):Int)=some (.int (Mx.g F i (Mx.aZ F i))):=fL (by omega);have at2:dG (aD (Mx.c6 F r i)) ((Mx.aZ F i:Nat):Int)=some (.int ((Mx.c6 F r i).getD (Mx.aZ F i) 0)):=fL (by omega);refine ay rfl at2 (ay rfl at1 (pE (by omega) (z9 (hW.sm i _ him l1) (by omega)) ?_));have bx:=Mx.wu hW.is lr hW.st hW.sm br (Nat.le_of_lt him) _ l1;have bq:(Mx.rP F (Mx.c6 F r i) i).natAbs<=2^(e+i*(5000+1)):=Nat.le_trans (Mx.nI _ l2) bx;show aF _ _ _ [_,_,_,_,_,_,some (.int (Mx.rP F (Mx.c6 F r i) i))] _;have lW:(Mx.xt F r i).length=i:=by unfold Mx.xt;simp
   refine Ku (by rfl) ew (MB rfl (Im ew (by rw[sizeLine_eq,List.length_map,lW];omega) ?_));have hlt:=(List.getElem?_eq_some_iff.mp ew).1;refine i5 ?_;refine⟨_,_,_,Mx.c6 F r i,F.getD i [],rfl,rfl,rfl,by omega,fun b hb=>g5 (by rw[Int.natAbs_neg];exact bq) (hW.row him b hb) (by omega),?_⟩;refine next _ _ ⟨i+1,_,_,_,him,rfl,rfl,X.set (Nat.le_refl _),?_⟩
   rw[List.getElem?_set_self hlt,ints_app];congr 3;unfold Mx.xt;rw[List.range_succ,List.map_append];rfl
def wy:b_:=fun ds st K=>∃(dr:D) (F:List (List Int)) (r:List Int) (m w e:Nat),ds=[cB F,dr]/\Wf F m w/\items? st dr=some (aD r)/\r.length=w/\(∀c,c<w->(r.getD c 0).natAbs<=2^e)/\e<=10000/\∀st',Ext st st'->K (bQ (Mx.c6 F r m)) st'
def sx:List Str:=["form","row"]
def Iz:DS:=(bc (ao aK (aE oj (ae (ab 0) (ae (ab 1) ak))) (dC (.int 1))))
theorem Fd:∀ds st K,wy ds st K->ds.length=2/\Iz {nx:=fun _ st'=>K .aH st',rt:=K} (aT sx ds) st:=by
 rintro ds st K ⟨dr,F,r,m,w,e,rfl,hW,hr,lr,br,he,k⟩;exact⟨rfl,dr,F,r,m,w,e,rfl,hW,hr,lr,br,he,fun st' X=>ay rfl rfl (k st' X)⟩
def oO:b_:=fun _ _ _=>False
def la:List Str:=["parts","row","total","one","number"]
def Ak:DS:=(aF (a9 2 (aE kX (ae (dC (.int 0)) ak)))
 (aF (ib (zV (ae (ab 0) (ae (ab 1) ak))) (km 3 4) (a9 2 (aE yQ (ae (ab 2) (ae (aE vY (ae (ab 3) (ae (aE kX (ae (ab 4) ak)) ak))) ak)))))
 (bc (ab 2))))
theorem yx:∀ds st K,oO ds st K->ds.length=2/\Ak {nx:=fun _ st'=>K .aH st',rt:=K} (aT la ds) st:=fun _ _ _ h=>h.elim
def oA:b_:=fun _ _ _=>False
def kZ:List Str:=["form","rest","place","row"]
def Ap:DS:=(aF (ib (d6 (ab 0)) (bp 3) (dN (a8 (ao gH (aE iw (ae (ab 3) ak)) (ab 2))) (bc (ao aK (ab 3) (ab 2))) cJ))
 (bc (ao cM (dC (.int 2)) (bo nA (ae (ao aK (ab 1) (ab 2)) ak)))))
theorem yV:∀ds st K,oA ds st K->ds.length=3/\Ap {nx:=fun _ st'=>K .aH st',rt:=K} (aT kZ ds) st:=fun _ _ _ h=>h.elim
def jT:b_:=fun _ _ _=>False
def iq:List Str:=["form","rest","place","parts","k","lead","owed"]
def u6:DS:=(aF (a9 2 (aE iw (ae (ab 1) ak)))
 (aF (a9 3 (ao BO (nu (ae (aE kX (ae (dC (.int 0)) ak)) ak)) (bo dH (ae (ab 1) ak))))
 (aF (d5 (ab 3) (ab 2) (aE m7 (ae (dC (.int 1)) (ae (aE oA (ae (ab 0) (ae (ab 1) (ae (ab 2) ak)))) ak))))
 (aF (ib (wa (ae (ao mf (bo dH (ae (ab 0) ak)) (dC (.int 1))) (ae (kn gv (dC (.int 1))) (ae (kn gv (dC (.int 1))) ak)))) (bp 4) (aF (a9 5 (aE iw (ae (ao aK (ab 0) (ab 4)) ak)))
 (dN (a8 (ao nS (ab 5) (ab 2))) (aF (a9 6 (aE v7 (ae (aE kX (ae (dC (.int 0)) ak)) (ae (aE oO (ae (ab 3) (ae (ao aK (ab 0) (ab 4)) ak))) ak))))
 (d5 (ab 3) (ab 5) (aE zT (ae (ab 6) (ae (aE kX (ae (ao aK (ao aK (ab 0) (ab 4)) (ab 5)) ak)) ak))))) cJ)))
 (bc (bo dY (ae (ab 3) ak)))))))
theorem uA:∀ds st K,jT ds st K->ds.length=2/\u6 {nx:=fun _ st'=>K .aH st',rt:=K} (aT iq ds) st:=fun _ _ _ h=>h.elim
theorem wX:∀(r:List Int) (i l:Nat),fF r i=some l->∃k,l=i+k/\k<r.length/\r.getD k 0≠0/\∀c,c<k->r.getD c 0=0
 | [],_,_,h=>by cases h
 |x::r,i,l,h=>by
  unfold fF at h;split at h
  . rename_i hx;obtain⟨k,e,hk,hr,hz⟩:=wX r (i+1) l h;refine⟨k+1,by omega,Nat.succ_lt_succ hk,hr,fun c hc=>?_⟩;cases c with
    |zero=>exact hx
    |succ c=>exact hz c (Nat.lt_of_succ_lt_succ hc)
  . cases h;exact⟨0,rfl,Nat.succ_pos _,by assumption,fun c hc=>absurd hc (Nat.not_lt_zero _)⟩
theorem Ay{r:List Int}{l:Nat}(h:iz r=some l):l<r.length/\r.getD l 0≠0/\∀c,c<l->r.getD c 0=0:=by
 obtain⟨k,e,h1,h2,h3⟩:=wX r 0 l h;rw[Nat.zero_add]at e;subst e;exact⟨h1,h2,h3⟩
theorem kT{A:List (List Int)}{t i c:Nat}(h:i<t):Mx.g (A.take t) i c=Mx.g A i c:=by
 have e:(A.take t).getD i []=A.getD i []:=by rw[List.getD_eq_getElem?_getD,List.getD_eq_getElem?_getD,List.getElem?_take,if_pos h]
 unfold Mx.g;rw[e]
theorem Bk.ext{st st1 st2:af}(B:Bk st st1)(X:Ext st1 st2):Bk st st2:=by
 have l1:=B.le;obtain⟨f,e⟩:=B.tb;have l0:=(List.getElem?_eq_some_iff.mp e).1;exact⟨by have:=X.len;omega,fun m hm h0=>by rw[X.same m (by omega),B.fr m hm h0],f,by rw[X.same 0 l0];exact e⟩
theorem IH{n:Nat}{r:List Int}:pl (n+1) (bQ r)=true:=by
 unfold pl;exact JK
structure Fo(A:List (List Int))(N w:Nat)(F:List (List Int))(m:Nat):Prop where
 is:Mx.ck m w F
 st:Mx.bb F m w (Mx.aZ F)
 red:Mx.jo F m (Mx.aZ F)
 same:Mx.d_ A N F m w
 m8:m<=8
theorem zl{A:List (List Int)}{N w top e u v:Nat}{c:Mx.B3}{ld:Nat->Nat}(H2:Mx.gN A N w c top w ld e u v)(n8:N<=8):Fo A N w (c.A.take top) top:=by
 have H:=H2.Ks
 have s:Mx.bb (c.A.take top) top w ld:=⟨fun i hi=>by
  obtain⟨h1,h2,h3⟩:=H.lead i hi;exact⟨h1,by rw[kT hi];exact h2,fun c hc=>by rw[kT hi];exact h3 c hc⟩,H.mono⟩
 have le:=H.le;refine⟨⟨by rw[List.length_take,H.tn.isA.len];omega,fun r hr=>H.tn.isA.j5 r (List.mem_of_mem_take hr)⟩,s.Lr,fun i j hij hj=>?_,⟨fun k hk=>?_,fun k hk=>?_⟩,by omega⟩
 . rw[s.aZ hj,kT (Nat.lt_trans hij hj),kT hj];exact H.red i j hij hj
 . obtain⟨z,hz⟩:=H.out k hk;exact⟨z,fun q hq=>(hz q hq).trans (Mx.av fun i hi=>by rw[kT hi])⟩
 . exact(H.in k hk).eq fun q _=>kT hk
theorem Fo.one{A B:List (List Int)}{N N' w m m':Nat}{F G:List (List Int)}(f:Fo A N w F m)(g:Fo B N' w G m')(h:Mx.d_ A N B N' w):F=G:=by
 have h1:=(f.same.symm.trans h).trans g.same
 have e:m=m':=Nat.le_antisymm
  (Nat.le_of_not_lt fun l=>Nat.lt_irrefl _ (f.st.same g.st h1.to h1.of m' l).1)
  (Nat.le_of_not_lt fun l=>Nat.lt_irrefl _ (g.st.same f.st h1.of h1.to m l).1)
 subst e;exact f.is.ext g.is fun i j hi hj=>f.st.only g.st h1.to h1.of f.red g.red hi j hj
theorem Gg{n:Nat}{A:List (List Int)}:pl (n+2) (cB A)=true:=by
 unfold pl;refine List.all_eq_true.mpr fun d hd=>?_;obtain⟨r,_,rfl⟩:=List.mem_map.mp hd;exact IH
theorem yJ{F:List (List Int)}{m w:Nat}{r:List Int}(hW:Wf F m w)(lr:r.length=w):(Mx.c6 F r m=List.replicate w 0↔Mx.bH F m w fun c=>r.getD c 0)/\(iz (Mx.c6 F r m)=none↔Mx.c6 F r m=List.replicate w 0):=by
 have lR:=Mx.iN hW.is lr (Nat.le_refl m);have fz:=(Mx.AS hW.is lr hW.st (Nat.le_refl m)).zero hW.st;have z:Mx.c6 F r m=List.replicate w 0↔∀c,c<w->(Mx.c6 F r m).getD c 0=0:=⟨fun h c _=>by rw[h];exact Mx.c8 _ _,fun h=>Mx.pq lR (by simp) fun j hj=>by rw[h j hj,Mx.c8]⟩
 refine⟨z.trans fz,⟨fun h=>z.mpr fun c _=>uY _ 0 h c,fun h=>?_⟩⟩;cases e:iz (Mx.c6 F r m)with
 |none=>rfl
 |some l=>
  obtain⟨h1,h2,_⟩:=Ay e;exact absurd (z.mp h l (by omega)) h2
def kF:b_:=fun ds st K=>∃(U:List (List Int)) (N m e1:Nat) (f:Bool),ds=[cB U,.int m]/\Mx.ck N N U/\m<=N/\N<=8/\Mx.gc (U.drop m) (N-m) 0 (2^e1)/\e1<60000000/\Mx.Rm (N-m) N e1/\st[0]?=some (e9 f)/\∀st' G k,Bk st st'->Fo (U.drop m) (N-m) N G k->(m=N->k=0)->(m<N->∃c ld e u,Mx.j7 (U.drop m) (N-m) N c k N ld e u)->K (cB G) st'
def iP:List Str:=["turn","many"]
def vW:DS:=(bc (Dz (a8 (ao nS (ab 1) (bo dH (ae (ab 0) ak)))) (ao aK (aE jS (ae (gY (ab 0) (je (ab 1)) fJ) ak)) (dC (.int 0))) (ie ak)))
theorem yL{xs:List D}{j:Nat}:L3.cutD xs (some (j:Int)) none=xs.drop j:=by
 unfold L3.cutD;rw[HT.AM,HT.zG];by_cases h:j<=xs.length
 . rw[Nat.min_eq_left h,List.take_of_length_le (by rw[List.length_drop];omega)]
 . rw[Nat.min_eq_right (by omega),List.drop_of_length_le (Nat.le_refl _),List.drop_of_length_le (by omega)];simp
theorem Bk.trans{a b c:af}(x:Bk a b)(y:Bk b c):Bk a c:=⟨Nat.le_trans x.le y.le,fun m hm h0=>(y.fr m (Nat.lt_of_lt_of_le hm x.le) h0).trans (x.fr m hm h0),y.tb⟩
theorem C3{A:List (List Int)}{w:Nat}:Fo A 0 w [] 0:=
 ⟨⟨rfl,fun r hr=>by cases hr⟩,⟨fun i hi=>absurd hi (Nat.not_lt_zero _),fun i j _ hj=>absurd hj (Nat.not_lt_zero _)⟩,fun i j _ hj=>absurd hj (Nat.not_lt_zero _),⟨fun k hk=>absurd hk (Nat.not_lt_zero _),fun k hk=>absurd hk (Nat.not_lt_zero _)⟩,Nat.zero_le _⟩
theorem uV:∀ds st K,kF ds st K->ds.length=2/\vW {nx:=fun _ st'=>K .aH st',rt:=K} (aT iP ds) st:=by
 rintro ds st K ⟨U,N,m,e1,f,rfl,iU,hm,n8,lo,he,hR,t0,k⟩;refine⟨rfl,?_⟩;refine cS rfl ?_;rw[List.length_map,iU.len];refine Ly (fun h=>fx ?_) fun h=>?_
 . refine qS ?_;rw[yL,<-List.map_drop];have iT:Mx.ck (N-m) N (U.drop m):=⟨by rw[List.length_drop,iU.len],fun r hr=>iU.j5 r (List.mem_of_mem_drop hr)⟩
   exact⟨_,N-m,N,e1,U.drop m,f,rfl,gE,iT,by omega,by omega,by omega,lo,he,hR,t0,fun st1 top c ld hC H B=>ay rfl rfl (k st1 _ top B (zl H (by omega)) (fun z=>absurd z (by omega)) fun _=>⟨c,ld,_,_,H.Ks⟩)⟩
 . have e:m=N:=by omega
   subst e;refine⟨Nat.zero_le _,k st [] 0 ⟨Nat.le_refl _,fun _ _ _=>rfl,f,t0⟩ ?_ (fun _=>rfl) fun z=>absurd z (Nat.lt_irrefl _)⟩;rw[Nat.sub_self];exact C3
structure Bs(F:List (List Int))(m w e0:Nat):Prop where
 is:Mx.ck m w F
 st:Mx.bb F m w (Mx.aZ F)
 m8:m<=8
 w8:w<=8
 bd:∀i c,i<m->c<w->(Mx.g F i c).natAbs<=2^e0
 e:e0<60000000
 r1:Mx.Rm w m e0
 e2:Mx.Ez w e0 m<60000000
 r2:Mx.Rm (w-m) w (Mx.Ez w e0 m)
 wt:m*(9*2^e0)^m<=2^5000
 wk:∀G k,Mx.Ke F m w G k->Wf G k w
def rD:b_:=fun ds st K=>∃(d:D) (F:List (List Int)) (m w e0:Nat) (f:Bool),ds=[d,bQ (List.replicate m 0)]/\fO st d F/\Bs F m w e0/\1<=m/\m<=w/\st[0]?=some (e9 f)/\∀st' a G k u v,Bk st st'->Mx.Ke F m w G k->K (.tup [.str "told",a,cB G,u,v]) st'
def ow:List Str:=["rows","due","wide","told","form","turn","fallen","steps","answer"]
def D8:DS:=(aF (a9 2 (bo dH (ae (ao aK (ab 0) (dC (.int 0))) ak)))
 (aF (a9 3 (aE jS (ae (aE jn (ae (ab 0) (ae (ab 2) ak))) ak)))
 (aF (a9 4 (ao aK (ab 3) (dC (.int 0))))
 (aF (a9 5 (ao aK (ab 3) (dC (.int 1))))
 (aF (a9 6 (aE oj (ae (ab 4) (ae (ab 1) ak))))
 (aF (dN (a8 (ao uQ (aE iw (ae (ao aK (ab 6) (dC (.int 1))) ak)) (dC .aH))) (bc (ie (ae (dC (.str "none")) (ae (aE jT (ae (ab 4) (ae (ao aK (ab 6) (dC (.int 1))) ak))) ak)))) cJ)
 (aF (a9 7 (aE kF (ae (ab 5) (ae (bo dH (ae (ab 4) ak)) ak))))
 (aF (a9 8 (aE wy (ae (ab 7) (ae (aE qf (ae (ao aK (ab 6) (dC (.int 0))) (ae (gY (ab 5) fJ (je (bo dH (ae (ab 4) ak)))) (ae (ab 2) ak)))) ak))))
 (bc (ie (ae (dC (.str "told")) (ae (ab 8) (ae (ab 7) (ae (ab 5) (ae (ao aK (ab 3) (dC (.int 2))) ak)))))))))))))))
theorem P0{b:Int}:IntMulOk 0 b:=gB (by decide) (by decide)
theorem wG:∀(ws:List Int) (A:List (List Int)) (acc:List Int),(∀x∈ws,x=0)->(∀r∈A,r.length=acc.length)->Mx.eN ws A acc=acc
 | [],_,_,_,_=>by unfold Mx.eN;rfl
 |_::_,[],_,_,_=>by unfold Mx.eN;rfl
 |x::ws,r::A,acc,h1,h2=>by
  have e:Mx.fV acc x r=acc:=by
   have hr:=h2 r List.mem_cons_self;refine Mx.pq (n:=acc.length) (Mx.kJ hr.symm) rfl fun j _=>?_;rw[Mx.sA hr.symm,h1 x List.mem_cons_self,Int.zero_mul,Int.add_zero]
  unfold Mx.eN;rw[e];exact wG ws A acc (fun y hy=>h1 y (List.mem_cons_of_mem _ hy)) fun q hq=>h2 q (List.mem_cons_of_mem _ hq)
theorem BL:∀ds st K,rD ds st K->ds.length=2/\D8 {nx:=fun _ st'=>K .aH st',rt:=K} (aT ow ds) st:=by
 rintro ds st K ⟨d,F,m,w,e0,f,rfl,hd,Z,m1,mw,h0,k⟩;refine⟨rfl,?_⟩;have m8:=Z.m8;have w8:=Z.w8;have lF:=Z.is.len;obtain⟨da,hda,hra⟩:=hd.ex;have hdl:=hra.len
 obtain⟨d0,hd0,hi0⟩:∃d0,da[0]?=some d0/\items? st d0=some (aD (F.getD 0 [])):=by
  have hi:0<da.length:=by omega
  obtain⟨r,e1,e2⟩:=cf.get hra (List.getElem?_eq_getElem hi);refine⟨da[0],List.getElem?_eq_getElem hi,?_⟩;have:F.getD 0 []=r:=by rw[List.getD_eq_getElem?_getD,e1];rfl
  rw[this];exact e2
 have er:(aD (F.getD 0 [])).length=w:=by unfold aD;rw[List.length_map];exact Mx.cD Z.is (by omega)
 refine ay hda (show dG da 0=some d0 from g_ (j:=0) hd0) (cS hi0 ?_);rw[er];refine⟨_,F,w,rfl,hd,Z.is.j5,by omega,by omega,?_⟩;have iT:=Mx.KD Z.is
 have lo:Mx.gc (Mx.nr F w) w 0 (2^e0):=fun i c _ hi=>by
  by_cases hc:c<m
  . rw[Mx.o9 Z.is hc hi];exact Z.bd c i hc hi
  . have lr:=iT.row hi;unfold Mx.g;rw[Mx.kD (by omega)];exact Nat.zero_le _
 refine⟨_,w,m,e0,Mx.nr F w,f,rfl,gE,iT,by omega,w8,by omega,lo,Z.e,Z.r1,h0,fun st1 top c ld hC H2 B=>?_⟩;have H:=H2.Ks;have et:=Mx.Lh Z.is Z.st H;subst et;have fo:=zl H2 w8;have hW:Wf (c.A.take top) top top:=⟨fo.is,fo.st,m8,m8,fun i q hi hq=>Nat.le_trans (Mx.d_.abs m8 fo.st fo.red fo.same (fun i q hi hq=>by rw[Mx.o9 Z.is hq hi];exact Z.bd q i hq hi) i q hi hq) Z.wt⟩
 have lT:=fo.is.len;generalize c.A.take top=T at hW lT;clear fo;have lz:(List.replicate top (0:Int)).length=top:=by simp
 have z0:∀j,(List.replicate top (0:Int)).getD j 0=0:=fun j=>Mx.c8 _ _
 have fl:=Mx.xn (F:=T) (r:=List.replicate top 0) hW.is lz fun i hi=>by
  rw[z0];exact⟨Int.le_refl _,(hW.lead hi).2.1⟩
 refine ay rfl rfl (ay rfl rfl ?_);refine⟨_,T,List.replicate top 0,top,top,0,rfl,hW,rfl,lz,fun q _=>by rw[z0];decide,by decide,fun st2 X=>?_⟩;have B2:=B.ext X;rw[fl top (Nat.le_refl _)];refine ay rfl rfl ⟨_,List.replicate top 0,rfl,rfl,?_⟩
 have el:iz (List.replicate top (0:Int))=none:=by
  have:=(yJ hW lz).2.mpr (fl top (Nat.le_refl _));rwa [fl top (Nat.le_refl _)]at this
 have eD:mN (List.replicate top (0:Int))= .aH:=by unfold mN;rw[el]
 rw[eD];refine L9 rfl ?_;obtain⟨f2,t2⟩:=B2.tb;refine cS rfl ?_;rw[List.length_map,lT];have iU:=H.tn.fi;refine⟨c.U,w,top,_,f2,rfl,iU,mw,w8,fun i q _ hi=>?_,Z.e2,Z.r2,t2,fun st3 G kk B3 foG k0 k1=>?_⟩
 . rw[Mx.vD];exact H2.lo.2.1 (top+i) q (by omega) (by omega)
 have ek:kk=w-top:=by
  rcases Nat.lt_or_ge top w with h|h
  . obtain⟨c2,ld2,e2,u2,S2⟩:=k1 h;exact Mx.Je H S2 rfl
  . have:=k0 (by omega);omega
 have ke:=Mx.MY Z.is H foG.is foG.st foG.red foG.same ek;have hG:=Z.wk G kk ke;refine ay rfl rfl (cS rfl (qS ?_));rw[List.length_map,lT,vC,<-List.map_take]
 have wz:∀x∈Mx.xt T (List.replicate top 0) top,x=0:=fun x hx=>by
  unfold Mx.xt at hx;obtain⟨j,hj,rfl⟩:=List.mem_map.mp hx;have hj:=List.mem_range.mp hj;unfold Mx.rP;rw[fl j (Nat.le_of_lt hj),z0];exact Int.zero_fdiv _
 refine⟨_,_,w,Mx.xt T (List.replicate top 0) top,c.U.take top,rfl,rfl,gE,fun r hr=>iU.j5 r (List.mem_of_mem_take hr),by omega,fun x hx r _ b _=>by rw[wz x hx];exact P0,?_⟩;rw[wG _ _ _ wz fun r hr=>by rw[List.length_replicate];exact iU.j5 r (List.mem_of_mem_take hr)];refine⟨_,G,List.replicate w 0,kk,w,0,rfl,hG,rfl,by simp,fun q _=>by rw[Mx.c8];decide,by decide,fun st4 X4=>?_⟩;refine ay rfl rfl ⟨Nat.le_of_ble_eq_true rfl,k st4 _ G kk _ _ ?_ ke⟩;exact((B2.trans B3).ext X4)
theorem Cd{A:List (List Int)}{N w M:Nat}(hA:Mx.ck N w A)(h:∀r∈A,∀x∈r,x.natAbs<=M):∀i c,i<N->c<w->(Mx.g A i c).natAbs<=M:=fun i c hi hc=>by
 have lA:=hA.len;have lr:=hA.row hi;unfold Mx.g;exact h _ (by rw[Mx.bE (by omega)];exact List.getElem_mem _) _ (getD_mem (by omega))
theorem A6{A:List (List Int)}{N w M:Nat}(hA:Mx.ck N w A)(h:∀i c,i<N->c<w->(Mx.g A i c).natAbs<=M):Mx.gc A N 0 M:=fun i c _ hi=>by
 by_cases hc:c<w
 . exact h i c hi hc
 . have lr:=hA.row hi;unfold Mx.g;rw[Mx.kD (by omega)];exact Nat.zero_le _
def su:b_:=fun ds st K=>∃(d:D) (A:List (List Int)) (N w e0:Nat) (f:Bool),ds=[.int w,d]/\fO st d A/\Mx.ck N w A/\N<=8/\w<=8/\Mx.gc A N 0 (2^e0)/\e0<60000000/\Mx.Rm N w e0/\st[0]?=some (e9 f)/\∀st' F m,Bk st st'->Fo A N w F m->K (.tup [.int w,cB F]) st'
def sf:List Str:=["wide","rows"]
def JD:DS:=(bc (ie (ae (ab 0) (ae (Dz (a8 (ao pD (bo dH (ae (ab 1) ak)) (dC (.int 0)))) (ao aK (aE jS (ae (ab 1) ak)) (dC (.int 0))) (ie ak)) ak))))
theorem FG:∀ds st K,su ds st K->ds.length=2/\JD {nx:=fun _ st'=>K .aH st',rt:=K} (aT sf ds) st:=by
 rintro ds st K ⟨d,A,N,w,e0,f,rfl,hd,hA,n8,w8,hlo,he0,hRm,h0,k⟩;refine⟨rfl,?_⟩;have lA:=hA.len;obtain⟨da,hda,ra⟩:=hd.ex;have lda:da.length=N:=by rw[ra.len];exact lA
 refine cS hda (EE (fun h=>fx ?_) fun h=>?_)
 . exact⟨d,N,w,e0,A,f,rfl,hd,hA,by omega,n8,by omega,hlo,he0,hRm,h0,fun st1 top c ld hC H B=>ay rfl rfl ⟨Nat.le_of_ble_eq_true rfl,k st1 _ _ B (zl H n8)⟩⟩
 . have n0:N=0:=by omega
   subst n0;exact⟨Nat.zero_le _,Nat.le_of_ble_eq_true rfl,k st [] 0 ⟨Nat.le_refl _,fun _ _ _=>rfl,f,h0⟩ C3⟩
def pQ:b_:=fun ds st K=>∃(x dF:D) (F:List (List Int)) (m w e0:Nat) (f:Bool),ds=[x]/\items? st x=some [.int w,dF]/\fO st dF F/\Bs F m w e0/\m<=w/\st[0]?=some (e9 f)/\∀st' G k,Bk st st'->Mx.Ke F m w G k->K (.tup [.int w,cB G]) st'
def pU:List Str:=["one"]
def Fw:DS:=(aF (dN (a8 (ao gH (bo dH (ae (ao aK (ab 0) (dC (.int 1))) ak)) (dC (.int 0)))) (bc (ie (ae (ao aK (ab 0) (dC (.int 0))) (ae (aE i9 (ae (ao aK (ab 0) (dC (.int 0))) ak)) ak)))) cJ)
 (bc (ie (ae (ao aK (ab 0) (dC (.int 0))) (ae (ao aK (aE rD (ae (ao aK (ab 0) (dC (.int 1))) (ae (ao cM (ie (ae (dC (.int 0)) ak)) (bo dH (ae (ao aK (ab 0) (dC (.int 1))) ak))) ak))) (dC (.int 2))) ak)))))
theorem Ei:∀ds st K,pQ ds st K->ds.length=1/\Fw {nx:=fun _ st'=>K .aH st',rt:=K} (aT pU ds) st:=by
 rintro ds st K ⟨x,dF,F,m,w,e0,f,rfl,hx,hF,Z,mw,h0,k⟩;refine⟨rfl,?_⟩;have m8:=Z.m8;have w8:=Z.w8;have lF:=Z.is.len;obtain⟨da,hda,hra⟩:=hF.ex;have hdl:=hra.len;refine ay hx rfl (cS hda ?_);refine eq2 (fun h=>fx ?_) fun h=>?_
 . have e:m=0:=by omega
   subst e;refine ay hx rfl (ay hx rfl ⟨w,rfl,by omega,⟨Nat.le_of_ble_eq_true rfl,k st _ w ⟨Nat.le_refl _,fun _ _ _=>rfl,f,h0⟩ Mx.Ke.units⟩⟩)
 . refine ay hx rfl (ay hx rfl ⟨Nat.le_of_ble_eq_true rfl,ay hx rfl (cS hda (IM ⟨by omega,by omega,by rw[sizeLine_eq];simp;omega⟩ ?_))⟩)
   have e:(List.replicate (da.length:Int).toNat [D.int 0]).flatten=aD (List.replicate m 0):=by
    rw[Int.toNat_natCast,hdl,lF];simp[aD]
   rw[e];exact⟨dF,F,m,w,e0,f,rfl,hF,Z,by omega,mw,h0,fun st' a G kk u v B ke=>ay rfl rfl ⟨Nat.le_of_ble_eq_true rfl,k st' G kk B ke⟩⟩
def nD:b_:=fun ds st K=>∃(x dF:D) (F:List (List Int)) (m w e1 e2:Nat) (f:Bool),ds=[x]/\items? st x=some [.int w,dF]/\fO st dF F/\Bs F m w e1/\m<=w/\(∀K k,Mx.Ke F m w K k->Bs K k w e2)/\st[0]?=some (e9 f)/\∀st' G K1 k,Bk st st'->Mx.Ke F m w K1 k->Mx.Ke K1 k w G m->K (.tup [.int w,cB G]) st'
def vd:List Str:=["one"]
def KN:DS:=(bc (aE pQ (ae (aE pQ (ae (ab 0) ak)) ak)))
theorem HU:∀ds st K,nD ds st K->ds.length=1/\KN {nx:=fun _ st'=>K .aH st',rt:=K} (aT vd ds) st:=by
 rintro ds st K ⟨x,dF,F,m,w,e1,e2,f,rfl,hx,hF,Z,mw,Z2,h0,k⟩;refine⟨rfl,x,dF,F,m,w,e1,f,rfl,hx,hF,Z,mw,h0,fun st1 G1 kk B1 ke=>?_⟩;obtain⟨f1,t1⟩:=B1.tb;have num:=ke.num;refine⟨_,_,G1,kk,w,e2,f1,rfl,rfl,gE,Z2 G1 kk ke,by omega,t1,fun st2 G m' B2 kg=>?_⟩;have e:=(ke.back kg).1;subst e;exact k st2 G G1 kk (B1.trans B2) ke kg
structure Hd(st:af)(n:Nat)(b:Int):Prop where
 ex:∃(cs:List Int) (p q f:Int),st[n]?=some (.lst [.lst (aD cs),.int p,.int q,.int f])/\cs.length<=63/\0<=p/\0<=q/\p<=100+b
structure Upd(st:af)(n:Nat)(st':af):Prop where
 len:st'.length=st.length
 same:∀m,m≠n->st'[m]?=st[m]?
theorem Upd.refl{st:af}{n:Nat}:Upd st n st:=⟨rfl,fun _ _=>rfl⟩
theorem Upd.trans{st st1 st2:af}{n:Nat}(a:Upd st n st1)(b:Upd st1 n st2):Upd st n st2:=⟨b.len.trans a.len,fun m h=>(b.same m h).trans (a.same m h)⟩
theorem Upd.set{st:af}{n:Nat}{c:Cell}:Upd st n (st.set n c):=⟨List.length_set,fun m h=>List.getElem?_set_ne (Ne.symm h)⟩
theorem Hd.mono{st:af}{n:Nat}{b b':Int}(h:Hd st n b)(l:b<=b'):Hd st n b':=let⟨cs,p,q,f,e,h1,h2,h3,h4⟩:=h.ex;⟨cs,p,q,f,e,h1,h2,h3,by omega⟩
theorem sh{st:af}{n:Nat}{xs ys:List D}{i:Int}{j:Nat}{d:D}{K:af->Prop}(h:st[n]?=some (.lst xs))(e:mr xs.length i=some j)(ey:xs.set j d=ys)(k:∀st',st'[n]?=some (.lst ys)->Upd st n st'->K st'):yZ (.ref n) (.int i) d st K:=i7 h e (by
 refine k _ ?_ Upd.set;rw[List.getElem?_set_self (List.getElem?_eq_some_iff.mp h).1,ey])
def p7:b_:=fun ds st K=>∃ns:List Int,ds=[.lst (ns.map .int)]/\ns.length<=63/\∀st',Hd st' st.length 0->Ext st st'->K (.ref st.length) st'
def my:List Str:=["_law_script","_law_first"]
def CN:DS:=(aF (a9 1 (bo ui (ae (gY (ab 0) fJ (je (dC (.int 1)))) ak)))
 (bc (wd (ae (bo j_ (ae (gY (ab 0) fJ (je (dC (.int 63)))) ak)) (ae (dC (.int 0)) (ae (ao lg (bo nA (ae (ab 1) ak)) (dC (.int 2))) (ae (bo tP (ae (ao CW (bo nA (ae (ab 1) ak)) (ao uh (dC (.int 10)) (dC (.int 18)))) ak)) ak)))))))
theorem oW{r:List Int}{j:Nat}:L3.cutD (aD r) none (some (j:Int))=aD (r.take j):=by rw[vC];exact(List.map_take ..).symm
theorem Aj:∀ds st K,p7 ds st K->ds.length=1/\CN {nx:=fun _ st'=>K .aH st',rt:=K} (aT my ds) st:=by
 rintro ds st K ⟨ns,rfl,hl,k⟩;refine⟨rfl,?_⟩;refine oh ?_;rw[show(1:Int)=((1:Nat):Int)from rfl,show ns.map D.int=aD ns from rfl,oW];refine EA (ints_map _) ?_;generalize(ns.take 1).sum=x;refine oh ?_;rw[show(63:Int)=((63:Nat):Int)from rfl,oW];refine kM rfl (vw (pE (by decide) (by decide) (vw (yn ⟨by decide,by decide,by decide⟩ (N3 (pB ⟨Nat.le_of_ble_eq_true rfl,?_⟩))))));refine k _ ⟨_,_,_,_,List.getElem?_concat_length,by rw[List.length_take];omega,Int.le_refl _,?_,by omega⟩ Ext.push;rw[Int.fdiv_eq_ediv_of_nonneg _ (by decide)];exact Int.ediv_nonneg (Int.natCast_nonneg _) (by decide)
def cx:b_:=fun ds st K=>∃(n:Nat) (m b:Int),ds=[.ref n,.int m]/\Hd st n b/\0<=b/\b<=1000000000/\0<m/\m<2^62/\∀r st',0<=r->r<m->Hd st' n (b+1)->Upd st n st'->K (.int r) st'
def mJ:List Str:=["_law_hand_here","_law_many_here","_law_found","_law_cell","_law_once","_law_twice"]
def Cb:DS:=(aF (pG (qh (a8 (ao gH (ao aK (ab 0) (dC (.int 3))) (dC (.int 1)))) (qh (a8 (ao gH (ao aK (ab 0) (dC (.int 2))) (dC (.int 0)))) (a8 (ao nS (ao dc (ao aK (ab 0) (dC (.int 1))) (dC (.int 1))) (bo dH (ae (ao aK (ab 0) (dC (.int 0))) ak)))))) (aF (d5 (ab 0) (dC (.int 1)) (ao dc (ao aK (ab 0) (dC (.int 1))) (dC (.int 1))))
 (d5 (ab 0) (dC (.int 2)) (bo nA (ae (ao aK (ao aK (ab 0) (dC (.int 0))) (ao aK (ab 0) (dC (.int 1)))) ak)))))
 (aF (dN (qh (a8 (ao gH (ao aK (ab 0) (dC (.int 3))) (dC (.int 1)))) (a8 (ao pD (ao aK (ab 0) (dC (.int 2))) (dC (.int 0))))) (aF (a9 2 (ao h_ (ao aK (ab 0) (dC (.int 2))) (ab 1)))
 (aF (d5 (ab 0) (dC (.int 2)) (ao lg (ao aK (ab 0) (dC (.int 2))) (ab 1)))
 (bc (ab 2)))) cJ)
 (aF (d5 (ab 0) (dC (.int 1)) (ao dc (ao aK (ab 0) (dC (.int 1))) (dC (.int 1))))
 (aF (a9 3 (bo ui (ae (gY (gY (ao aK (ab 0) (dC (.int 0))) (je (ao h_ (ao aK (ab 0) (dC (.int 1))) (bo wA (ae (dC (.int 1)) (ae (bo dH (ae (ao aK (ab 0) (dC (.int 0))) ak)) ak))))) fJ) fJ (je (dC (.int 1)))) ak)))
 (aF (a9 4 (ao h_ (ao cM (ao dc (ao dc (ao h_ (ab 3) (dC (.int 2147483629))) (ao cM (dC (.int 7919)) (ao aK (ab 0) (dC (.int 1))))) (dC (.int 11))) (ao dc (dC (.int 48271)) (ao cM (dC (.int 2)) (ao aK (ab 0) (dC (.int 1)))))) (dC (.int 2147483647))))
 (aF (a9 5 (ao h_ (ao dc (ao cM (ab 4) (ao dc (ao h_ (ab 4) (dC (.int 39373))) (ao aK (ab 0) (dC (.int 1))))) (ao cM (dC (.int 31)) (ao aK (ab 0) (dC (.int 1))))) (dC (.int 1999999973))))
 (bc (ao h_ (ao lg (ab 5) (dC (.int 7))) (ab 1)))))))))
theorem C5{m:Int}(h0:0<m)(h:m<2^62):m.natAbs.log2<9000:=by
 have:m.natAbs.log2<62:=(Nat.log2_lt (by omega)).mpr (by omega);omega
theorem Ah:∀ds st K,cx ds st K->ds.length=2/\Cb {nx:=fun _ st'=>K .aH st',rt:=K} (aT mJ ds) st:=by
 rintro ds st K ⟨n,m,b,rfl,⟨cs,p,q,f,e,hcl,hp,hq,hpb⟩,hb0,hb2,hm0,hm1,k⟩;refine⟨rfl,?_⟩;try dsimp only
 refine kI (A:=pG _ _) (fun σ' st'=>∃(p q:Int),σ'=[some (.ref n),some (.int m),none,none,none,none]/\st'[n]?=some (.lst [.lst (aD cs),.int p,.int q,.int f])/\0<=p/\0<=q/\p<=100+b/\Upd st n st') (fun nx hnx=>?_) ?_
 . refine⟨fun m' σ st'=>∃(p q:Int),σ=[some (.ref n),some (.int m),none,none,none,none]/\st'[n]?=some (.lst [.lst (aD cs),.int p,.int q,.int f])/\0<=p/\0<=q/\p<=100+b/\Upd st n st'/\m'=(cs.length-p).toNat,⟨_,p,q,rfl,e,hp,hq,hpb,Upd.refl,rfl⟩,?_⟩;clear e hp hq hpb p q;rintro m' σ st' ⟨p,q,rfl,e,hp,hq,hpb,U,rfl⟩;have stop:nx [some (.ref n),some (.int m),none,none,none,none] st':=hnx _ _ ⟨p,q,rfl,e,hp,hq,hpb,U⟩;refine ay (aM e) (by rfl) (eq2 (fun _=>fx ?_) fun _=>stop);refine ay (aM e) (by rfl) (eq2 (fun _=>fx ?_) fun _=>stop);refine ay (aM e) (by rfl) (eR (ay (aM e) (by rfl) (cS rfl ?_)));rw[List.length_map];refine Ly (fun h=>fx ?_) fun _=>stop;refine ay (aM e) (by rfl) (eR (sh (ys:=[.lst (aD cs),.int (p+1),.int q,.int f]) e (by rfl) (by rfl) fun st1 e1 U1=>?_));obtain⟨j,ej⟩:=Int.eq_ofNat_of_zero_le (show 0<=p+1 by omega);have hj:j<cs.length:=by omega
   refine ay (aM e1) (by rfl) (ay (aM e1) (by rfl) ?_);rw[ej];refine ay rfl (fL hj) (vw ?_);rw[ej]at e1;refine sh (ys:=[.lst (aD cs),.int j,.int ((cs.getD j 0).natAbs:Nat),.int f]) e1 (by rfl) (by rfl) fun st2 e2 U2=>?_;exact⟨_,by omega,(j:Int),_,rfl,e2,by omega,Int.natCast_nonneg _,by omega,U.trans (U1.trans U2),rfl⟩
 . clear e hp hq hpb p q;rintro σ st1 ⟨p,q,rfl,e,hp,hq,hpb,U⟩
   have mixed:(aF (d5 (ab 0) (dC (.int 1)) (ao dc (ao aK (ab 0) (dC (.int 1))) (dC (.int 1))))
    (aF (a9 3 (bo ui (ae (gY (gY (ao aK (ab 0) (dC (.int 0))) (je (ao h_ (ao aK (ab 0) (dC (.int 1))) (bo wA (ae (dC (.int 1)) (ae (bo dH (ae (ao aK (ab 0) (dC (.int 0))) ak)) ak))))) fJ) fJ (je (dC (.int 1)))) ak)))
    (aF (a9 4 (ao h_ (ao cM (ao dc (ao dc (ao h_ (ab 3) (dC (.int 2147483629))) (ao cM (dC (.int 7919)) (ao aK (ab 0) (dC (.int 1))))) (dC (.int 11))) (ao dc (dC (.int 48271)) (ao cM (dC (.int 2)) (ao aK (ab 0) (dC (.int 1)))))) (dC (.int 2147483647))))
    (aF (a9 5 (ao h_ (ao dc (ao cM (ab 4) (ao dc (ao h_ (ab 4) (dC (.int 39373))) (ao aK (ab 0) (dC (.int 1))))) (ao cM (dC (.int 31)) (ao aK (ab 0) (dC (.int 1))))) (dC (.int 1999999973))))
    (bc (ao h_ (ao lg (ab 5) (dC (.int 7))) (ab 1))))))) {nx:=fun _ st'=>K .aH st',rt:=K} [some (.ref n),some (.int m),none,none,none,none] st1:=by
    refine ay (aM e) (by rfl) (eR (sh (ys:=[.lst (aD cs),.int (p+1),.int q,.int f]) e (by rfl) (by rfl) fun st2 e2 U2=>?_));have p0:0<=p+1:=by omega
    have pb:p+1<=100+(b+1):=by omega
    generalize p+1=c at e2 p0 pb;refine ay (aM e2) (by rfl) (ay (aM e2) (by rfl) (ay (aM e2) (by rfl) (cS rfl (LX ?_))));have mx:0<(if(((aD cs).length:Nat):Int)>1 then(((aD cs).length:Nat):Int)else 1):=by split<;>omega
    generalize(if(((aD cs).length:Nat):Int)>1 then(((aD cs).length:Nat):Int)else 1)=mm at mx;refine ny (by omega) ?_;obtain⟨j,ej⟩:=Int.eq_ofNat_of_zero_le (Int.fmod_nonneg_of_pos c mx);rw[ej];refine oh ?_;rw[yL,<-List.map_drop];refine oh ?_;rw[show(1:Int)=((1:Nat):Int)from rfl,oW];refine EA (ints_map _) ?_;generalize((cs.drop j).take 1).sum=x;refine ny (by decide) (ay (aM e2) (by rfl) (fR (gB (by decide) (by decide)) (eR (eR ?_))));have m1:=Int.fmod_nonneg_of_pos x (show(0:Int)<2147483629 by decide);have m2:=Int.fmod_lt_of_pos x (show(0:Int)<2147483629 by decide);refine ay (aM e2) (by rfl) (fR (gB (by decide) (by decide)) (eR (fR (gB (by omega) (by omega)) (ny (by decide) ?_))));have u1:=Int.fmod_nonneg_of_pos ((x.fmod 2147483629+7919*c+11)*(48271+2*c)) (show(0:Int)<2147483647 by decide);have u2:=Int.fmod_lt_of_pos ((x.fmod 2147483629+7919*c+11)*(48271+2*c)) (show(0:Int)<2147483647 by decide);generalize((x.fmod 2147483629+7919*c+11)*(48271+2*c)).fmod 2147483647=u at u1 u2⊢;refine ny (by decide) (ay (aM e2) (by rfl) (eR (fR (gB (by omega) (by omega)) (ay (aM e2) (by rfl) (fR (gB (by decide) (by decide)) (eR (ny (by decide) ?_)))))));refine pE (by decide) (by decide+kernel) (ny (by omega) ?_);exact k _ _ (Int.fmod_nonneg_of_pos _ hm0) (Int.fmod_lt_of_pos _ hm0) ⟨cs,_,_,_,e2,hcl,p0,hq,pb⟩ (U.trans U2)
   refine ay (aM e) (by rfl) (eq2 (fun _=>fx ?_) fun _=>mixed);refine ay (aM e) (by rfl) (EE (fun _=>fx ?_) fun _=>mixed);refine ay (aM e) (by rfl) (ny (by omega) (ay (aM e) (by rfl) (pE (by omega) (C5 hm0 hm1) (sh (ys:=[.lst (aD cs),.int p,.int (q.fdiv m),.int f]) e (by rfl) (by rfl) fun st4 e4 U4=>?_))));refine k _ _ (Int.fmod_nonneg_of_pos _ hm0) (Int.fmod_lt_of_pos _ hm0) ⟨cs,_,_,_,e4,hcl,hp,?_,by omega⟩ (U.trans U4);rw[Int.fdiv_eq_ediv_of_nonneg _ (by omega)];exact Int.ediv_nonneg hq (by omega)
def oP(wild:Int):Nat:=if wild=15 then 1000000000000 else 30
def m_:b_:=fun ds st K=>∃(n:Nat) (b wild:Int),ds=[.ref n,.int wild]/\Hd st n b/\0<=b/\b<=900000000/\∀r st',r.natAbs<=oP wild->Hd st' n (b+2)->Upd st n st'->K (.int r) st'
def kb:List Str:=["_law_hand_here","_law_wild"]
def zm:DS:=(aF (dN (qh (a8 (ao gH (ab 1) (dC (.int 15)))) (a8 (ao gH (aE cx (ae (ab 0) (ae (dC (.int 3)) ak))) (dC (.int 0))))) (bc (ao dc (ao mf (aE cx (ae (ab 0) (ae (ao mf (ao cM (dC (.int 2)) (ao uh (dC (.int 10)) (dC (.int 12)))) (dC (.int 1))) ak))) (ao uh (dC (.int 10)) (dC (.int 12)))) (dC (.int 1)))) cJ)
 (aF (dN (a8 (ao pD (ab 1) (dC (.int 11)))) (bc (ao mf (aE cx (ae (ab 0) (ae (dC (.int 61)) ak))) (dC (.int 30)))) cJ)
 (bc (ao aK (nu (ae (dC (.int 0)) (ae (dC (.int 1)) (ae (kn gv (dC (.int 1))) (ae (dC (.int 2)) (ae (dC (.int 0)) (ae (dC (.int 3)) (ae (kn gv (dC (.int 2))) (ae (dC (.int 1)) ak))))))))) (aE cx (ae (ab 0) (ae (dC (.int 8)) ak)))))))
theorem xC:∀ds st K,m_ ds st K->ds.length=2/\zm {nx:=fun _ st'=>K .aH st',rt:=K} (aT kb ds) st:=by
 rintro ds st K ⟨n,b,wild,rfl,B,b0,hb,k⟩;refine⟨rfl,?_⟩;have h30:30<=oP wild:=by unfold oP;split<;>omega
 have e12:(10:Int)^(12:Int).toNat=1000000000000:=by decide
 have rest:∀st1,Hd st1 n (b+1)->Upd st n st1->(aF (dN (a8 (ao pD (ab 1) (dC (.int 11)))) (bc (ao mf (aE cx (ae (ab 0) (ae (dC (.int 61)) ak))) (dC (.int 30)))) cJ)
  (bc (ao aK (nu (ae (dC (.int 0)) (ae (dC (.int 1)) (ae (kn gv (dC (.int 1))) (ae (dC (.int 2)) (ae (dC (.int 0)) (ae (dC (.int 3)) (ae (kn gv (dC (.int 2))) (ae (dC (.int 1)) ak))))))))) (aE cx (ae (ab 0) (ae (dC (.int 8)) ak)))))) {nx:=fun _ st'=>K .aH st',rt:=K} [some (.ref n),some (.int wild)] st1:=fun st1 B1 U1=>by
  refine EE (fun _=>fx ?_) fun _=>?_
  . exact⟨n,61,_,rfl,B1,by omega,by omega,by decide,by decide,fun r st2 r0 r1 B2 U2=>rh (k _ _ (by omega) (B2.mono (by omega)) (U1.trans U2))⟩
  . refine i5 (i5 ⟨Nat.le_of_ble_eq_true rfl,n,8,_,rfl,B1,by omega,by omega,by decide,by decide,fun r st2 r0 r1 B2 U2=>?_⟩);have go:∀c:Int,c.natAbs<=30->K (.int c) st2:=fun c hc=>k c st2 (by omega) (B2.mono (by omega)) (U1.trans U2);have:r=0\/r=1\/r=2\/r=3\/r=4\/r=5\/r=6\/r=7:=by omega
    rcases this with rfl|rfl|rfl|rfl|rfl|rfl|rfl|rfl<;>exact ay rfl rfl (go _ (by decide))
 refine eq2 (fun h15=>fx ?_) fun _=>rest st (B.mono (by omega)) Upd.refl;refine⟨n,3,_,rfl,B,b0,by omega,by decide,by decide,fun r st1 r0 r1 B1 U1=>eq2 (fun _=>fx ?_) fun _=>rest st1 B1 U1⟩;refine yn ⟨by decide,by decide,by decide⟩ (fR (gB (by decide) (by decide)) (rh ?_));rw[e12];refine⟨n,_,_,rfl,B1,by omega,by omega,by decide,by decide,fun r st2 r0 r1 B2 U2=>yn ⟨by decide,by decide,by decide⟩ (rh (eR ?_))⟩;rw[e12];refine k _ _ ?_ (B2.mono (by omega)) (U1.trans U2);unfold oP;rw[if_pos h15];omega
def pZ:b_:=fun ds st K=>∃(n:Nat) (b:Int) (N w:Nat),ds=[.ref n,.int N,.int w]/\Hd st n b/\0<=b/\b<=800000000/\N<=8/\w<=8/\∀A st',Mx.ck N w A->(∀r∈A,∀x∈r,x.natAbs<=1000000000000)->(5<w->∀r∈A,∀x∈r,x.natAbs<=30)->Hd st' n (b+140)->Upd st n st'->K (cB A) st'
def mv:List Str:=["_law_hand_here","_law_many_here","_law_wide","_law_wild"]
def CF:DS:=(aF (a9 3 (aE cx (ae (ab 0) (ae (dC (.int 16)) ak))))
 (aF (dN (a8 (ao pD (ab 2) (dC (.int 5)))) (a9 3 (bo vT (ae (ab 3) (ae (dC (.int 12)) ak)))) cJ)
 (bc (bo dY (ae (dn (d8 (ae (ab 1) ak)) [none,some 2,some 0,some 3] (bp 0) cH (bo dY (ae (dn (d8 (ae (ab 1) ak)) [none,some 2,some 3] (bp 0) cH (aE m_ (ae (ab 1) (ae (ab 2) ak)))) ak))) ak)))))
theorem Ao:∀ds st K,pZ ds st K->ds.length=3/\CF {nx:=fun _ st'=>K .aH st',rt:=K} (aT mv ds) st:=by
 rintro ds st K ⟨n,b,N,w,rfl,B,b0,hb,n8,w8,k⟩;refine⟨rfl,?_⟩;refine⟨n,16,_,rfl,B,b0,by omega,by decide,by decide,fun wl st1 r0 r1 B1 U1=>?_⟩;dsimp only;refine kI (fun σ' st'=>∃wild:Int,σ'=[some (.ref n),some (.int N),some (.int w),some (.int wild)]/\st'=st1/\(5<w->wild≠15)) (fun nx hnx=>?_) ?_
 . refine EE (fun h=>fx (ER ?_)) fun h=>hnx _ _ ⟨wl,rfl,rfl,fun z=>by omega⟩;exact hnx _ _ ⟨_,rfl,rfl,fun _=>by split<;>omega⟩
 rintro σ' st' ⟨wild,rfl,rfl,hwild⟩;have nb:oP wild<=1000000000000:=by unfold oP;split<;>omega
 have nb2:5<w->oP wild<=30:=fun h=>by unfold oP;rw[if_neg (hwild h)];exact Nat.le_refl _
 refine fk ⟨by omega,by omega⟩ ⟨cG (by rw[di];omega),?_⟩;rw[Int.toNat_natCast];refine ft (fun rest acc st'=>∃A:List (List Int),acc=A.map bQ/\A.length+rest.length=N/\(∀r∈A,r.length=w)/\(∀r∈A,∀x∈r,x.natAbs<=oP wild)/\Hd st' n (b+1+16*A.length)/\Upd st n st') ?_ ?_ _ _ _ ⟨[],rfl,by rw[di];simp,by simp,by simp,B1.mono (by simp),U1⟩
 . rintro acc st2 ⟨A,rfl,hl,hA,hbd,B2,U2⟩;have hl:A.length=N:=by simpa using hl
   exact⟨trivial,dX rfl (k A st2 ⟨hl,hA⟩ (fun r hr x hx=>Nat.le_trans (hbd r hr x hx) nb) (fun h r hr x hx=>Nat.le_trans (hbd r hr x hx) (nb2 h)) (B2.mono (by omega)) U2)⟩
 . rintro x rest acc st2 ⟨A,rfl,hl,hA,hbd,B2,U2⟩ next
   have hl2:A.length<N:=by simp at hl;omega
   refine⟨trivial,_,rfl,?_⟩;refine fk ⟨by omega,by omega⟩ ⟨cG (by rw[di];omega),?_⟩;rw[Int.toNat_natCast];refine ft (fun rest acc st'=>∃r:List Int,acc=aD r/\r.length+rest.length=w/\(∀x∈r,x.natAbs<=oP wild)/\Hd st' n (b+1+16*A.length+2*r.length)/\Upd st n st') ?_ ?_ _ _ _ ⟨[],rfl,by rw[di];simp,by simp,B2.mono (by simp),U2⟩
   . rintro acc st3 ⟨r,rfl,hr,hrb,B3,U3⟩;have hr:r.length=w:=by simpa using hr
     refine⟨trivial,dX rfl ?_⟩;show du _ _ _ _ _ _ _ _ _;rw[Gj];refine next _ _ ⟨A++[r],rfl,by simp at hl⊢;omega,fun q hq=>?_,fun q hq=>?_,B3.mono (by simp;omega),U3⟩
     . rcases List.mem_append.mp hq with h|h
       . exact hA q h
       . rw[List.mem_singleton.mp h];exact hr
     . rcases List.mem_append.mp hq with h|h
       . exact hbd q h
       . rw[List.mem_singleton.mp h];exact hrb
   . rintro y rest2 acc st3 ⟨r,rfl,hr,hrb,B3,U3⟩ vt;have hr2:r.length<w:=by simp at hr;omega
     refine⟨trivial,_,rfl,n,_,wild,rfl,B3,by omega,by omega,fun z st4 hz B4 U4=>?_⟩;show du _ _ _ _ _ _ _ _ _;rw[ints_app];refine vt _ _ ⟨r++[z],rfl,by simp at hr⊢;omega,fun x hx=>?_,B4.mono (by simp;omega),U3.trans U4⟩;rcases List.mem_append.mp hx with h|h
     . exact hrb x h
     . rw[List.mem_singleton.mp h];exact hz
def oS:b_:=fun ds st K=>∃(n:Nat) (b:Int),ds=[.ref n]/\Hd st n b/\0<=b/\b<=800000000/\∀(w:Nat) (g:Bool) st',1<=w->w<=8->(g=true->6<=w)->(g=false->w<=4)->Hd st' n (b+2)->Upd st n st'->K (.tup [.int w,.bl g]) st'
def ll:List Str:=["_law_hand_here"]
def Ar:DS:=(aF (dN (a8 (ao gH (aE cx (ae (ab 0) (ae (dC (.int 8)) ak))) (dC (.int 7)))) (bc (ie (ae (ao dc (dC (.int 6)) (aE cx (ae (ab 0) (ae (dC (.int 3)) ak)))) (ae (dC (.bl true)) ak)))) cJ)
 (bc (ie (ae (ao dc (dC (.int 1)) (aE cx (ae (ab 0) (ae (dC (.int 4)) ak)))) (ae (dC (.bl false)) ak)))))
theorem yE:∀ds st K,oS ds st K->ds.length=1/\Ar {nx:=fun _ st'=>K .aH st',rt:=K} (aT ll ds) st:=by
 rintro ds st K ⟨n,b,rfl,B,b0,hb,k⟩;refine⟨rfl,?_⟩;refine⟨n,8,_,rfl,B,b0,by omega,by decide,by decide,fun r st1 r0 r1 B1 U1=>eq2 (fun _=>fx ?_) fun _=>?_⟩
 . refine⟨n,3,_,rfl,B1,by omega,by omega,by decide,by decide,fun r st2 r0 r1 B2 U2=>eR ⟨Nat.le_of_ble_eq_true rfl,?_⟩⟩;obtain⟨j,rfl⟩:=Int.eq_ofNat_of_zero_le r0;exact k (6+j) true st2 (by omega) (by omega) (fun _=>by omega) (fun z=>by cases z) (B2.mono (by omega)) (U1.trans U2)
 . refine⟨n,4,_,rfl,B1,by omega,by omega,by decide,by decide,fun r st2 r0 r1 B2 U2=>eR ⟨Nat.le_of_ble_eq_true rfl,?_⟩⟩;obtain⟨j,rfl⟩:=Int.eq_ofNat_of_zero_le r0;exact k (1+j) false st2 (by omega) (by omega) (fun z=>by cases z) (fun _=>by omega) (B2.mono (by omega)) (U1.trans U2)
def pS:b_:=fun ds st K=>∃(n:Nat) (b:Int) (w:Nat) (g:Bool),ds=[.ref n,.int w,.bl g]/\Hd st n b/\0<=b/\b<=800000000/\1<=w/\w<=8/\(g=false->w<=4)/\∀(N:Nat) st',N<=8->Hd st' n (b+1)->Upd st n st'->K (.int N) st'
def mG:List Str:=["_law_hand_here","_law_wide","_law_great"]
def Cg:DS:=(aF (dN (a8 (ab 2)) (bc (ao aK (nu (ae (ab 1) (ae (dC (.int 7)) (ae (dC (.int 6)) (ae (ao mf (ab 1) (dC (.int 1))) ak))))) (aE cx (ae (ab 0) (ae (dC (.int 4)) ak))))) cJ)
 (bc (aE cx (ae (ab 0) (ae (ao dc (ab 1) (dC (.int 2))) ak)))))
theorem Ag:∀ds st K,pS ds st K->ds.length=3/\Cg {nx:=fun _ st'=>K .aH st',rt:=K} (aT mG ds) st:=by
 rintro ds st K ⟨n,b,w,g,rfl,B,b0,hb,w1,w8,hg,k⟩;refine⟨rfl,?_⟩;cases g with
 |true=>
  refine rh ⟨Nat.le_of_ble_eq_true rfl,n,4,_,rfl,B,b0,by omega,by decide,by decide,fun r st2 r0 r1 B2 U2=>?_⟩;have:r=0\/r=1\/r=2\/r=3:=by omega
  rcases this with rfl|rfl|rfl|rfl
  . exact ay rfl rfl (k w st2 w8 B2 U2)
  . exact ay rfl rfl (k 7 st2 (by decide) B2 U2)
  . exact ay rfl rfl (k 6 st2 (by decide) B2 U2)
  . obtain⟨v,rfl⟩:∃v,w=v+1:=⟨w-1,by omega⟩
    refine ay rfl (show dG [D.int ((v+1:Nat):Int),.int 7,.int 6,.int (((v+1:Nat):Int)-1)] 3=some (.int (((v+1:Nat):Int)-1))from rfl) ?_;rw[show((v+1:Nat):Int)-1=(v:Int) by omega];exact k v st2 (by omega) B2 U2
 |false=>
  have w4:=hg rfl;refine eR ⟨n,_,_,rfl,B,b0,by omega,by omega,by omega,fun r st2 r0 r1 B2 U2=>?_⟩;obtain⟨j,rfl⟩:=Int.eq_ofNat_of_zero_le r0;exact k j st2 (by omega) B2 U2
def oV:b_:=fun ds st K=>∃(dr:D) (F:List (List Int)) (r:List Int) (m w e:Nat),ds=[cB F,dr]/\Wf F m w/\items? st dr=some (aD r)/\r.length=w/\(∀c,c<w->(r.getD c 0).natAbs<=2^e)/\e<=10000/\∀st',Ext st st'->K (bQ (Mx.c6 F r m)) st'
def lq:List Str:=["_law_form","_law_row","_law_left","_law_step","_law_lead","_law_many_here","_law_k"]
def Aa:DS:=(aF (a9 2 (bo oZ (ae (ab 1) ak)))
 (aF (ib (d6 (ab 0)) (bp 3) (aF (a9 4 (ao aK (dn (d8 (ae (bo dH (ae (ab 3) ak)) ak)) [none,some 3] (bp 0) (a8 (ao lX (ao aK (ab 1) (ab 0)) (dC (.int 0)))) (ab 0)) (dC (.int 0))))
 (aF (a9 5 (ao lg (ao aK (ab 2) (ab 4)) (ao aK (ab 3) (ab 4))))
 (ib (d8 (ae (bo dH (ae (ab 2) ak)) ak)) (bp 6) (d5 (ab 2) (ab 6) (ao mf (ao aK (ab 2) (ab 6)) (ao cM (ab 5) (ao aK (ab 3) (ab 6)))))))))
 (bc (bo dY (ae (ab 2) ak)))))
theorem u_:∀(r:List Int) (i:Nat),fF r (i+1)=(fF r i).map (· +1)
 | [],_=>rfl
 |x::r,i=>by
  unfold fF;split
  . exact u_ r (i+1)
  . rfl
theorem oE:∀r:List Int,((List.range r.length).filter fun j=>decide (r.getD j 0≠0)).head?=iz r
 | []=>rfl
 |x::r=>by
  have ih:=oE r;rw[List.length_cons,List.range_succ_eq_map,List.filter_cons];by_cases h:x=0
  . have h1:decide ((x::r).getD 0 0≠0)=false:=by simpa using h
    rw[h1,if_neg Bool.false_ne_true,List.filter_map,List.head?_map]
    have e:(fun j=>decide ((x::r).getD j 0≠0))∘Nat.succ=fun j=>decide (r.getD j 0≠0):=by
     funext j;simp
    rw[e,ih];unfold iz;conv=>rhs;unfold fF
    rw[if_pos h,u_]
  . have h1:decide ((x::r).getD 0 0≠0)=true:=by simpa using h
    rw[h1,if_pos rfl,List.head?_cons];unfold iz fF;rw[if_neg h]
theorem sV{n:Nat}{p:Nat->Bool}{c:DT}{te:DE}{σc:bV}{st:af}{K:List D->af->Prop}(h:∀i:Nat,i<n->∃σ2,bp 0 (.int (i:Int)) σc=some σ2/\(∀K',K' (p i) st->c σ2 st K')/\∀K',K' (.int (i:Int)) st->te σ2 st K')(k:K (((List.range n).filter p).map fun(j:Nat)=>D.int (j:Int)) st):du (bp 0) c te (fun _=>True) σc (c9 0 n) [] st K:=by
 refine ft (fun rest acc st'=>st'=st/\∃j:Nat,j<=n/\rest=(List.range (n-j)).map (fun i=>D.int (((j+i:Nat):Int)))/\acc=((List.range j).filter p).map fun(j:Nat)=>D.int (j:Int)) ?_ ?_ _ _ _ ⟨rfl,0,Nat.zero_le _,by unfold c9;simp,rfl⟩
 . rintro acc st' ⟨rfl,j,hj,hr,rfl⟩
   have:n-j=0:=by
    cases q:n-j with
    |zero=>rfl
    |succ m=>rw[q,List.range_succ_eq_map]at hr;cases hr
   have hjn:j=n:=by omega
   subst hjn;exact⟨trivial,k⟩
 . rintro d rest acc st' ⟨rfl,j,hj,hr,rfl⟩ next
   cases q:n-j with
   |zero=>rw[q]at hr;cases hr
   |succ m=>
    rw[q,List.range_succ_eq_map,List.map_cons,List.map_map]at hr;simp only[List.cons.injEq]at hr;obtain⟨rfl,hrest⟩:=hr;obtain⟨σ2,e2,hc,ht⟩:=h j (by omega)
    have hrest':rest=(List.range (n-(j+1))).map (fun i=>D.int (((j+1+i:Nat):Int))):=by
     have:n-(j+1)=m:=by omega
     rw[this,hrest];refine List.map_congr_left fun i _=>?_;show D.int (((j+(i+1):Nat):Int))=D.int (((j+1+i:Nat):Int));congr 2;omega
    refine⟨trivial,σ2,e2,hc _ ?_⟩;cases ep:p j with
    |false=>
     refine next _ _ ⟨rfl,j+1,by omega,hrest',?_⟩
     rw[List.range_succ,List.filter_append,List.map_append];simp[ep]
    |true=>
     refine fx (ht _ (next _ _ ⟨rfl,j+1,by omega,hrest',?_⟩));rw[List.range_succ,List.filter_append,List.map_append];simp[ep]
theorem FY{M L:List Int}{k:Nat}(hl:M.length=L.length)(hk:k<L.length):(aD (M.take k++L.drop k)).set k (.int (M.getD k 0))=aD (M.take (k+1)++L.drop (k+1)):=by
 rw[<-List.map_set];congr 1;have l1:(M.take k).length=k:=by rw[List.length_take];omega
 rw[List.set_append_right _ _ (by omega),l1,Nat.sub_self,List.drop_eq_getElem_cons hk,List.set_cons_zero,List.take_succ_eq_append_getElem (by omega),List.append_assoc,Mx.bE (by omega)];rfl
theorem Ld{M L:List Int}{k:Nat}(hl:M.length=L.length)(hk:k<L.length):dG (aD (M.take k++L.drop k)) (k:Int)=some (.int (L.getD k 0)):=by
 have l1:(M.take k).length=k:=by rw[List.length_take];omega
 rw[fL (by rw[List.length_append,List.length_drop,l1];omega),List.getD_eq_getElem?_getD,List.getElem?_append_right (by omega),l1,Nat.sub_self,List.getElem?_drop,Nat.add_zero,List.getD_eq_getElem?_getD]
theorem yA:∀ds st K,oV ds st K->ds.length=2/\Aa {nx:=fun _ st'=>K .aH st',rt:=K} (aT lq ds) st:=by
 rintro ds st K ⟨dr,F,r,m,w,e,rfl,hW,hr,lr,br,he,k⟩;refine⟨rfl,?_⟩;have lF:=hW.is.len;have m8:=hW.m8;have w8:=hW.w8;refine yR hr ?_;have X0:Ext st (st++[.lst (aD r)]):=Ext.push;have e0:(st++[Cell.lst (aD r)])[st.length]?=some (.lst (aD (Mx.c6 F r 0))):=by simp[Mx.c6]
 refine fH ?_;refine hJ (fun rest σ st'=>∃(i:Nat) (v3 v4 v5 v6:Option D),i<=m/\rest=(F.map bQ).drop i/\σ=[some (cB F),some dr,some (.ref st.length),v3,v4,v5,v6]/\Ext st st'/\st'[st.length]?=some (.lst (aD (Mx.c6 F r i)))) ?_ ?_ _ _ _ ⟨0,none,none,none,none,Nat.zero_le _,rfl,rfl,X0,e0⟩
 . rintro σ st' ⟨i,v3,v4,v5,v6,hi,hrest,rfl,X,ew⟩;have e1:i=m:=Nat.le_antisymm hi (by rw[<-lF];exact drop_nil hrest);subst e1;exact⟨trivial,dX (aM ew) (k st' X)⟩
 . rintro x rest σ st' ⟨i,v3,v4,v5,v6,hi,hrest,rfl,X,ew⟩ next
   obtain⟨hiF,rfl,rfl⟩:=drop_cons hrest;have him:i<m:=by rw[<-lF];exact hiF
   obtain⟨l1,l2,wF,eld⟩:=hW.lead him;have lL:=Mx.iN hW.is lr (i:=i) (Nat.le_of_lt him);refine⟨trivial,_,rfl,cS rfl ?_⟩;rw[List.length_map,wF];refine fk ⟨by omega,by omega⟩ ⟨cG (by rw[di];omega),?_⟩;rw[Int.toNat_natCast];refine sV (p:=fun j=>decide ((F.getD i []).getD j 0≠0)) (fun j hj=>⟨_,rfl,fun K' q=>?_,fun K' q=>q⟩) ?_
   . refine ay rfl (fL (by omega)) (ne2 (fun h=>?_) fun h=>?_)
     . rw[decide_eq_true h]at q;exact q
     . rw[decide_eq_false (by simpa using h)]at q;exact q
   have hf:=oE (F.getD i []);rw[wF,qC (hW.st.lead i him).2.2 (Int.ne_of_gt l2)]at hf;generalize((List.range w).filter fun j=>decide ((F.getD i []).getD j 0≠0))=fl at hf;match fl,hf with
   |l::fl,hf=>
    have hl:l=Mx.aZ F i:=by simpa using hf
    subst hl;refine ay rfl (show dG ((Mx.aZ F i::fl).map fun(j:Nat)=>D.int (j:Int)) 0=some (.int ((Mx.aZ F i:Nat):Int))from g_ (j:=0) rfl) ?_;have at1:dG (aD (F.getD i [])) ((Mx.aZ F i:Nat):Int)=some (.int (Mx.g F i (Mx.aZ F i))):=fL (by omega);have at2:dG (aD (Mx.c6 F r i)) ((Mx.aZ F i:Nat):Int)=some (.int ((Mx.c6 F r i).getD (Mx.aZ F i) 0)):=fL (by omega);refine ay (aM ew) at2 (ay rfl at1 (pE (by omega) (z9 (hW.sm i _ him l1) (by omega)) ?_));have bx:=Mx.wu hW.is lr hW.st hW.sm br (Nat.le_of_lt him) _ l1;have bq:(Mx.rP F (Mx.c6 F r i) i).natAbs<=2^(e+i*(5000+1)):=Nat.le_trans (Mx.nI _ l2) bx;have lM:(Mx.c6 F r (i+1)).length=(Mx.c6 F r i).length:=by rw[lL];exact Mx.iN hW.is lr him
    have hMk:∀c,(Mx.c6 F r (i+1)).getD c 0=(Mx.c6 F r i).getD c 0-Mx.rP F (Mx.c6 F r i) i*Mx.g F i c:=Mx.uD hW.is lr him;unfold Mx.rP at bq hMk;generalize((Mx.c6 F r i).getD (Mx.aZ F i) 0).fdiv (Mx.g F i (Mx.aZ F i))=q at bq hMk⊢;refine cS (aM ew) ?_;rw[List.length_map,lL];refine fk ⟨by omega,by omega⟩ ?_;rw[Int.toNat_natCast];refine lI w (fun c σ st2=>∃v6:Option D,σ=[some (cB F),some dr,some (.ref st.length),some (bQ (F.getD i [])),some (.int (Mx.aZ F i:Nat)),some (.int q),v6]/\Ext st st2/\st2[st.length]?=some (.lst (aD ((Mx.c6 F r (i+1)).take c++(Mx.c6 F r i).drop c)))) ?_ ?_ ⟨_,rfl,X,by rw[List.take_zero,List.drop_zero];exact ew⟩
    . rintro σ st2 ⟨v6,rfl,X2,e2⟩;rw[List.drop_eq_nil_of_le (by omega),List.append_nil,List.take_of_length_le (by omega)]at e2;exact next _ _ ⟨i+1,_,_,_,_,him,rfl,rfl,X2,e2⟩
    . rintro c σ st2 rest2 hc ⟨v6,rfl,X2,e2⟩ vt;refine⟨_,rfl,?_⟩;refine ay (aM e2) (Ld lM (by omega)) (ay rfl (fL (by omega)) (fR (g5 bq (hW.sm i c him hc) (by omega)) (rh ?_)));refine i7 e2 (Di (by omega) (by rw[List.length_map,List.length_append,List.length_take,List.length_drop];omega)) ?_;rw[Int.toNat_natCast];refine vt _ _ ⟨_,rfl,X2.set (Nat.le_refl _),?_⟩;rw[List.getElem?_set_self (List.getElem?_eq_some_iff.mp e2).1,<-FY lM (by omega),hMk c];rfl
def nL:b_:=fun ds st K=>∃(dr:D) (F:List (List Int)) (r:List Int) (m w e:Nat),ds=[cB F,dr]/\Wf F m w/\items? st dr=some (aD r)/\r.length=w/\(∀c,c<w->(r.getD c 0).natAbs<=2^e)/\e<=10000/\∀st' (b:Bool),Ext st st'->(b=true↔Mx.bH F m w fun c=>r.getD c 0)->K (.bl b) st'
def p_:List Str:=["_law_form","_law_row"]
def FO:DS:=(bc (xR (a8 (bo uF (ae (aE oV (ae (ab 0) (ae (ab 1) ak))) ak)))))
theorem Dw:∀ds st K,nL ds st K->ds.length=2/\FO {nx:=fun _ st'=>K .aH st',rt:=K} (aT p_ ds) st:=by
 rintro ds st K ⟨dr,F,r,m,w,e,rfl,hW,hr,lr,br,he,k⟩;refine⟨rfl,dr,F,r,m,w,e,rfl,hW,hr,lr,br,he,fun st' X=>HM (ints_map _) ?_⟩;refine k st' _ X ?_;rw[<-(yJ hW lr).1];have lR:=Mx.iN hW.is lr (Nat.le_refl m);constructor
 . intro h;refine Mx.pq lR (by simp) fun j hj=>?_;rw[Mx.c8];have h1:((Mx.c6 F r m).any fun n=>decide (n≠0))=false:=by simpa using h
   have:=List.any_eq_false.mp h1 _ (getD_mem (k:=j) (by omega));simpa using this
 . intro h;rw[h];simp
def nj:b_:=fun ds st K=>∃(F:List (List Int)) (m w:Nat),ds=[cB F]/\Wf F m w/\Mx.jo F m (Mx.aZ F)/\K (.bl true) st
def jO:List Str:=["_law_rows_here","_law_last","_law_j","_law_row","_law_some"]
def zc:DS:=(aF (a9 1 (kn gv (dC (.int 1))))
 (aF (ib (xX (ae (ab 0) ak)) (km 2 3) (aF (a9 4 (dn (d8 (ae (bo dH (ae (ab 3) ak)) ak)) [none,some 3] (bp 0) (a8 (ao lX (ao aK (ab 1) (ab 0)) (dC (.int 0)))) (ab 0)))
 (aF (dN (nv (a8 (ao gH (ab 4) (nu ak))) (nv (a8 (ao wI (ao aK (ab 4) (dC (.int 0))) (ab 1))) (a8 (ao nS (ao aK (ab 3) (ao aK (ab 4) (dC (.int 0)))) (dC (.int 0)))))) (bc (dC (.bl false))) cJ)
 (aF (a9 1 (ao aK (ab 4) (dC (.int 0))))
 (dN (jf (a8 (bo qV (ae (dn (d6 (gY (ab 0) fJ (je (ab 2)))) [none,some 1,some 3] (bp 0) cH (ve wI nS (dC (.int 0)) (ao aK (ab 0) (ab 1)) (ao aK (ab 2) (ab 1)))) ak)))) (bc (dC (.bl false))) cJ)))))
 (bc (dC (.bl true)))))
theorem enum_rows{A:List (List Int)}{i:Nat}{d:D}{rest:List D}(hr:d::rest=gm i ((A.map bQ).drop i)):i<A.length/\d= .tup [.int (i:Int),bQ (A.getD i [])]/\rest=gm (i+1) ((A.map bQ).drop (i+1)):=by
 rcases Nat.lt_or_ge i A.length with h|h
 . rw[List.drop_eq_getElem_cons (by rw[List.length_map];exact h),List.getElem_map]at hr;unfold gm at hr;obtain⟨h1,h2⟩:=List.cons.inj hr;exact⟨h,by rw[Mx.bE h];exact h1,h2⟩
 . rw[List.drop_eq_nil_of_le (by rw[List.length_map];exact h)]at hr;cases hr
theorem wc:∀l:List D,jc (l.map fun _=>D.bl true)=some (l.map fun _=>true)
 | []=>rfl
 |_::l=>by simp[jc,wc l]
theorem HD(l:List D):(l.map fun _=>true).all id=true:=by simp
theorem xF:∀ds st K,nj ds st K->ds.length=1/\zc {nx:=fun _ st'=>K .aH st',rt:=K} (aT jO ds) st:=by
 rintro ds st K ⟨F,m,w,rfl,hW,hR,k⟩;refine⟨rfl,?_⟩;have lF:=hW.is.len;have m8:=hW.m8;have w8:=hW.w8;refine i5 (A3 (xs:=F.map bQ) rfl fun ok aP=>?_);refine hJ (fun rest σ st'=>st=st'/\∃(i:Nat) (last:Int) (v2 v3 v4:Option D),i<=m/\rest=gm i ((F.map bQ).drop i)/\σ=[some (cB F),some (.int last),v2,v3,v4]/\(i<m->last<(Mx.aZ F i:Int))) ?_ ?_ _ _ _ ⟨rfl,0,-1,none,none,none,Nat.zero_le _,rfl,rfl,fun _=>by omega⟩
 . rintro σ st' ⟨rfl,i,last,v2,v3,v4,_,_,rfl,_⟩;exact⟨aP _ rfl,k⟩
 . rintro x rest σ st' ⟨rfl,i,last,v2,v3,v4,hi,hrest,rfl,hlast⟩ next
   obtain⟨hiF,rfl,rfl⟩:=enum_rows hrest;have him:i<m:=by omega
   obtain⟨l1,l2,wF,eld⟩:=hW.lead him;refine⟨aP _ rfl,_,rfl,cS rfl ?_⟩;rw[List.length_map,wF];refine fk ⟨by omega,by omega⟩ ⟨cG (by rw[di];omega),?_⟩;rw[Int.toNat_natCast];refine sV (p:=fun j=>decide ((F.getD i []).getD j 0≠0)) (fun j hj=>⟨_,rfl,fun K' q=>?_,fun K' q=>q⟩) ?_
   . refine ay rfl (fL (by omega)) (ne2 (fun h=>?_) fun h=>?_)
     . rw[decide_eq_true h]at q;exact q
     . rw[decide_eq_false (by simpa using h)]at q;exact q
   have hf:=oE (F.getD i []);rw[wF,qC (hW.st.lead i him).2.2 (Int.ne_of_gt l2)]at hf;generalize((List.range w).filter fun j=>decide ((F.getD i []).getD j 0≠0))=fl at hf;match fl,hf with
   |l::fl,hf=>
    have hl:l=Mx.aZ F i:=by simpa using hf
    subst hl;have a0:dG ((Mx.aZ F i::fl).map fun(j:Nat)=>D.int (j:Int)) 0=some (.int ((Mx.aZ F i:Nat):Int)):=g_ (j:=0) rfl;have at1:dG (aD (F.getD i [])) ((Mx.aZ F i:Nat):Int)=some (.int (Mx.g F i (Mx.aZ F i))):=fL (by omega)
    have pll:pl 40 (.lst ((Mx.aZ F i::fl).map fun(j:Nat)=>D.int (j:Int)))=true:=by
     unfold pl;refine List.all_eq_true.mpr fun d hd=>?_;obtain⟨j,_,rfl⟩:=List.mem_map.mp hd;unfold pl;rfl
    refine⟨Nat.zero_le _,sr pll rfl ?_⟩;refine ay rfl a0 (Qd (hlast him) ?_);refine ay rfl a0 (ay rfl at1 (OD (by omega) ?_));refine ay rfl a0 ?_;refine qS ?_;rw[vC,<-List.map_take];refine fH ⟨cG (by rw[List.length_map,List.length_take];omega),?_⟩;refine comp_map (g:=fun _=> .bl true) trivial _ (fun d hd K' q=>?_) ?_
    . obtain⟨s,hs,rfl⟩:=List.mem_map.mp hd;obtain⟨j,hj,rfl⟩:=List.mem_iff_getElem.mp hs;rw[List.length_take]at hj;rw[List.getElem_take];have hr:=hR j i (by omega) him;have lj:(F[j]'(by omega)).length=w:=hW.is.j5 _ (List.getElem_mem _);have ej:(F[j]'(by omega)).getD (Mx.aZ F i) 0=Mx.g F j (Mx.aZ F i):=by unfold Mx.g;rw[Mx.bE (show j<F.length by omega)]
      refine⟨_,rfl,ay rfl (fL (by omega)) ?_⟩;rw[ej];exact Qa hr.1 (ay rfl at1 (Ot hr.2 q))
    refine uU (wc ((F.take i).map bQ)) ?_;rw[HD];exact next _ _ ⟨rfl,i+1,_,_,_,_,him,rfl,rfl,fun h=>Int.ofNat_lt.mpr (hW.st.mono i (i+1) (Nat.lt_succ_self _) h)⟩
def kC:b_:=fun ds st K=>∃(F:List (List Int)) (m w:Nat),ds=[.tup [.int w,cB F],.int w]/\Wf F m w/\Mx.jo F m (Mx.aZ F)/\K (.bl true) st
def iL:List Str:=["_law_found","_law_wide","_law_row"]
def vZ:DS:=(aF (dN (nv (jf (a8 (bo nE (ae (ab 0) (ae (dC (.ty "tuple")) ak))))) (nv (a8 (ao lX (bo dH (ae (ab 0) ak)) (dC (.int 2)))) (jf (a8 (bo nE (ae (ao aK (ab 0) (dC (.int 1))) (ae (dC (.ty "tuple")) ak))))))) (bc (dC (.bl false))) cJ)
 (aF (dN (nv (jf (a8 (bo nE (ae (ao aK (ab 0) (dC (.int 0))) (ae (dC (.ty "int")) ak))))) (nv (a8 (bo nE (ae (ao aK (ab 0) (dC (.int 0))) (ae (dC (.ty "bool")) ak)))) (a8 (ao lX (ao aK (ab 0) (dC (.int 0))) (ab 1))))) (bc (dC (.bl false))) cJ)
 (aF (ib (d6 (ao aK (ab 0) (dC (.int 1)))) (bp 2) (aF (dN (nv (jf (a8 (bo nE (ae (ab 2) (ae (dC (.ty "tuple")) ak))))) (a8 (ao lX (bo dH (ae (ab 2) ak)) (ab 1)))) (bc (dC (.bl false))) cJ)
 (dN (jf (a8 (bo qV (ae (dn (d6 (ab 2)) [none] (bp 0) cH (ye (bo nE (ae (ab 0) (ae (dC (.ty "int")) ak))) (xR (a8 (bo nE (ae (ab 0) (ae (dC (.ty "bool")) ak))))))) ak)))) (bc (dC (.bl false))) cJ)))
 (bc (aE nj (ae (ao aK (ab 0) (dC (.int 1))) ak))))))
theorem va:∀ds st K,kC ds st K->ds.length=2/\vZ {nx:=fun _ st'=>K .aH st',rt:=K} (aT iL ds) st:=by
 rintro ds st K ⟨F,m,w,rfl,hW,hR,k⟩;refine⟨rfl,?_⟩;have w8:=hW.w8;refine nN rfl (by decide) ?_;refine cS rfl (Eb rfl ?_);refine ay rfl rfl (nN rfl (by decide) ?_);refine ay rfl rfl (nN rfl (by decide) ?_);refine ay rfl rfl (nN rfl (by decide) ?_);refine ay rfl rfl (Eb rfl ?_);refine ay rfl rfl (fH ?_);refine hJ (fun rest σ st'=>st=st'/\∃(i:Nat) (v2:Option D),i<=F.length/\rest=(F.map bQ).drop i/\σ=[some (.tup [.int w,cB F]),some (.int w),v2]) ?_ ?_ _ _ _ ⟨rfl,0,none,Nat.zero_le _,rfl,rfl⟩
 . rintro σ st' ⟨rfl,i,v2,_,_,rfl⟩;exact⟨trivial,ay rfl rfl ⟨F,m,w,rfl,hW,hR,k⟩⟩
 . rintro x rest σ st' ⟨rfl,i,v2,hi,hrest,rfl⟩ next
   obtain⟨hiF,rfl,rfl⟩:=drop_cons hrest;have lw:(F.getD i []).length=w:=by rw[Mx.bE hiF];exact hW.is.j5 _ (List.getElem_mem _)
   refine⟨trivial,_,rfl,?_⟩;refine nN rfl (by decide) ?_;refine cS rfl (Eb (by rw[List.length_map,lw]) ?_);refine fH ⟨cG (by rw[List.length_map];omega),?_⟩;refine comp_map (g:=fun _=> .bl true) trivial _ (fun d hd K' q=>?_) ?_
   . obtain⟨i,_,rfl⟩:=List.mem_map.mp hd;exact⟨_,rfl,nN rfl (by decide) (fx (nN rfl (by decide) q))⟩
   refine uU (wc (aD (F.getD i []))) ?_;rw[HD];exact next _ _ ⟨rfl,i+1,_,hiF,rfl,rfl⟩
def oN:b_:=fun ds st K=>∃w:Nat,ds=[.int w]/\1<=w/\w<=4/\∀st' (R:List (List Int)),Ext st st'->R.length<=200->(∀r∈R,r.length=w/\∀x∈r,x.natAbs<=6)->K (.lst (R.map bQ)) st'
def lx:List Str:=["_law_wide","_law_most","_law_found","_law_k","_law_ahead","_law_row"]
def An:DS:=(aF (a9 1 (ao aK (nu (ae (dC (.int 0)) (ae (dC (.int 6)) (ae (dC (.int 3)) (ae (dC (.int 2)) (ae (dC (.int 1)) ak)))))) (bo vT (ae (ab 0) (ae (dC (.int 4)) ak)))))
 (aF (a9 2 (wd (ae (ie ak) ak)))
 (aF (ib (d8 (ae (ab 0) ak)) (bp 3) (aF (pJ 2 (a9 4 (ab 2)))
 (aF (a9 2 (wd ak))
 (ib (d6 (ab 4)) (bp 5) (lb (qk nP (ab 2) (ae (dn (pv (ae (kn gv (ab 1)) (ae (ao dc (ab 1) (dC (.int 1))) ak))) [none,some 5] (bp 0) cH (ao dc (ab 1) (ie (ae (ab 0) ak)))) ak)))))))
 (pJ 2 (bc (ab 2))))))
theorem DV{R:List (List Int)}{i:Nat}{d:D}{rest:List D}(h:d::rest=(R.map bQ).drop i):i<R.length/\d=bQ (R.getD i [])/\rest=(R.map bQ).drop (i+1):=drop_cons h
def A_(a:Nat)(r:List Int):List (List Int):=(List.range (2*a+1)).map fun(k:Nat)=>r++[-(a:Int)+(k:Int)]
theorem F1{a:Nat}{r:List Int}{σc:bV}{te:DE}{st:af}{K:List D->af->Prop}(hr:r.length<=8)(ht:∀(i:Int) K',dc (bQ r) (.tup [.int i]) st K'->∃σ2,bp 0 (.int i) σc=some σ2/\te σ2 st K')(k:K ((A_ a r).map bQ) st):du (bp 0) cH te (fun _=>True) σc (c9 (-(a:Int)) (2*a+1)) [] st K:=by
 refine comp_map (g:=fun d=>match d with| .int i=>bQ (r++[i])|_=> .aH) trivial _ (fun d hd K' q=>?_) ?_
 . unfold c9 at hd;obtain⟨i,_,rfl⟩:=List.mem_map.mp hd;refine ht _ K' (H0 (by rw[sizeLine_eq,List.length_map];simp;omega) ?_);have e:(aD r++[D.int (-(a:Int)+(i:Int))])=aD (r++[-(a:Int)+(i:Int)]):=by simp[aD]
   rw[e];exact q
 . unfold A_ at k;unfold c9;rw[List.map_map]at k⊢;exact k
theorem y9:∀ds st K,oN ds st K->ds.length=1/\An {nx:=fun _ st'=>K .aH st',rt:=K} (aT lx ds) st:=by
 rintro ds st K ⟨w,rfl,w1,w4,k⟩;refine⟨rfl,Nat.le_of_ble_eq_true rfl,ER ?_⟩
 obtain⟨a,ea,a6,ha⟩:∃a:Nat,dG [D.int 0,.int 6,.int 3,.int 2,.int 1] (if(4:Int)<(w:Int)then 4 else(w:Int))=some (.int (a:Int))/\a<=6/\∀i,i<=w->(2*a+1)^i<=200:=by
  have:w=1\/w=2\/w=3\/w=4:=by omega
  rcases this with rfl|rfl|rfl|rfl
  . exact⟨6,rfl,by decide,by decide⟩
  . exact⟨3,rfl,by decide,by decide⟩
  . exact⟨2,rfl,by decide,by decide⟩
  . exact⟨1,rfl,by decide,by decide⟩
 refine ay rfl ea ?_;refine⟨Nat.zero_le _,Nat.le_of_ble_eq_true rfl,?_⟩;refine fk ⟨by omega,by omega⟩ ?_;rw[Int.toNat_natCast]
 refine lI w (fun i σ st'=>∃(R:List (List Int)) (n:Nat) (v3 v4 v5:Option D),σ=[some (.int w),some (.int a),some (.ref n),v3,v4,v5]/\st'[n]?=some (.lst (R.map bQ))/\st.length<=n/\Ext st st'/\R.length=(2*a+1)^i/\∀r∈R,r.length=i/\∀x∈r,x.natAbs<=6) ?_ ?_ ⟨[[]],st.length,none,none,none,rfl,List.getElem?_concat_length,Nat.le_refl _,Ext.push,rfl,fun r hr=>by
  rw[List.mem_singleton]at hr;subst hr;exact⟨rfl,fun x hx=>by cases hx⟩⟩
 . rintro σ st' ⟨R,n,v3,v4,v5,rfl,e,hn,X,lR,hR⟩;refine C0 rfl e ?_;exact k _ R (X.set hn) (by have:=ha w (Nat.le_refl _);omega) hR
 . rintro i σ st' rest hi ⟨R,n,v3,v4,v5,rfl,e,hn,X,lR,hR⟩ next
   have l1:=ha (i+1) hi;have l0:=ha i (Nat.le_of_lt hi);rw[<-lR]at l0;refine⟨_,rfl,C0 rfl e ?_⟩;refine⟨Nat.zero_le _,?_⟩;have X2:=X.set (c:= .dead) hn;generalize st'.set n .dead=st2 at X2;refine AY rfl fun ok aP=>?_;refine hJ (fun rest' σ st'=>∃(j:Nat) (Q:List (List Int)) (v5:Option D),j<=R.length/\rest'=(R.map bQ).drop j/\σ=[some (.int w),some (.int a),some (.ref st2.length),some (.int (i:Int)),some (.lst (R.map bQ)),v5]/\st'[st2.length]?=some (.lst (Q.map bQ))/\Ext st st'/\Q.length=j*(2*a+1)/\∀r∈Q,r.length=i+1/\∀x∈r,x.natAbs<=6) ?_ ?_ _ _ _ ⟨0,[],v5,Nat.zero_le _,rfl,rfl,List.getElem?_concat_length,X2.trans Ext.push,by simp,fun r hr=>by cases hr⟩
   . rintro σ st3 ⟨j,Q,v5,hj,hr,rfl,e3,X3,lQ,hQ⟩;have ej:j=R.length:=Nat.le_antisymm hj (drop_nil hr);subst ej;exact⟨aP _ rfl,next _ _ ⟨Q,st2.length,_,_,_,rfl,e3,X2.len,X3,by rw[lQ,lR,Nat.pow_succ],hQ⟩⟩
   . rintro x rest' σ st3 ⟨j,Q,v5,hj,hr,rfl,e3,X3,lQ,hQ⟩ next';obtain⟨hjl,rfl,rfl⟩:=DV hr;have hm:R.getD j []∈R:=by rw[Mx.bE hjl];exact List.getElem_mem _
     obtain⟨h1,h2⟩:=hR _ hm;refine⟨aP _ rfl,_,rfl,Ls (fun K' q=>q) e3 (i5 (eR (AJ ⟨by omega,by omega,by omega,by omega⟩ ⟨cG (by rw[di];omega),?_⟩)))⟩;have ec:((a:Int)+1- -(a:Int)).toNat=2*a+1:=by omega
     rw[ec];refine F1 (by omega) (fun i K' q=>⟨_,rfl,Nat.le_of_ble_eq_true rfl,q⟩) ?_;have l2:(A_ a (R.getD j [])).length=2*a+1:=by unfold A_;simp
     have l3:(j+1)*(2*a+1)<=200:=by
      rw[Nat.pow_succ,<-lR]at l1;exact Nat.le_trans (Nat.mul_le_mul_right _ hjl) l1
     rw[Nat.succ_mul]at l3;refine PD e3 (by rw[sizeLine_eq,List.length_map,List.length_map];omega) (next' _ _ ⟨j+1,Q++A_ a (R.getD j []),_,hjl,rfl,rfl,?_,X3.set X2.len,by rw[List.length_append,lQ,l2];exact(Nat.succ_mul _ _).symm,fun r hr=>?_⟩)
     . rw[List.getElem?_set_self (List.getElem?_eq_some_iff.mp e3).1,List.map_append]
     . rcases List.mem_append.mp hr with q|q
       . exact hQ r q
       . unfold A_ at q;obtain⟨y,hy,rfl⟩:=List.mem_map.mp q;have hy:=List.mem_range.mp hy;refine⟨by rw[List.length_append,h1];rfl,fun x hx=>?_⟩;rcases List.mem_append.mp hx with z|z
         . exact h2 x z
         . rw[List.mem_singleton]at z;omega
def oG:b_:=fun ds st K=>∃(F:List (List Int)) (m w e:Nat),ds=[cB F]/\Wf F m w/\(∀i c,i<m->c<w->(Mx.g F i c).natAbs<=2^e)/\e<=178/\K (.int (Mx.Pr m fun i=>Mx.g F i (Mx.aZ F i))) st
def lD:List Str:=["_law_form","_law_many_here","_law_row"]
def Ac:DS:=(aF (a9 1 (dC (.int 1)))
 (aF (ib (d6 (ab 0)) (bp 2) (a9 1 (ao cM (ab 1) (ao aK (dn (d6 (ab 2)) [none] (bp 0) (a8 (ao lX (ab 0) (dC (.int 0)))) (ab 0)) (dC (.int 0))))))
 (bc (ab 1))))
theorem yq{f:Nat->Int}{e:Nat}:∀ {m:Nat},(∀i,i<m->(f i).natAbs<=2^e)->(Mx.Pr m f).natAbs<=2^(e*m)
 |0,_=>Nat.le_refl _
 |m+1,h=>by
  show(Mx.Pr m f*f m).natAbs<=_;rw[Int.natAbs_mul,Nat.mul_succ,Nat.pow_add];exact Nat.mul_le_mul (yq fun i hi=>h i (by omega)) (h m (Nat.lt_succ_self m))
theorem xk:∀ {r:List Int} {l:Nat},(∀c,c<l->r.getD c 0=0)->r.getD l 0≠0->∃rest,(r.filter fun x=>decide (x≠0))=r.getD l 0::rest
 | [],l,_,h=>absurd rfl h
 |x::r,0,_,h=>⟨_,List.filter_cons_of_pos (by simpa using h)⟩
 |x::r,l+1,h0,h=>by
  obtain⟨rest,e⟩:=xk (r:=r) (l:=l) (fun c hc=>h0 (c+1) (by omega)) h;have hx:x=0:=h0 0 (by omega);exact⟨rest,by rw[List.filter_cons_of_neg (by simp[hx]),e];rfl⟩
theorem D9{p:Int->Bool}{tg:fA}{c:DT}{te:DE}{σc:bV}{st:af}{K:List D->af->Prop}(r:List Int)(hx:∀x:Int,∃σ2,tg (.int x) σc=some σ2/\(∀K',K' (p x) st->c σ2 st K')/\∀K',K' (.int x) st->te σ2 st K')(k:K (aD (r.filter p)) st):du tg c te (fun _=>True) σc (aD r) [] st K:=by
 refine ft (fun rest acc st'=>st=st'/\∃r1 r2:List Int,r1++r2=r/\rest=aD r2/\acc=aD (r1.filter p)) ?_ ?_ _ _ _ ⟨rfl,[],r,rfl,rfl,rfl⟩
 . rintro acc st' ⟨rfl,r1,r2,e,e2,rfl⟩;match r2,e2 with
   | [],_=>rw[List.append_nil]at e;rw[e];exact⟨trivial,k⟩
 . rintro x rest acc st' ⟨rfl,r1,r2,e,e2,rfl⟩ next
   match r2,e2 with
   |y::r2,e2=>
    obtain⟨rfl,rfl⟩:=List.cons.inj e2;obtain⟨σ2,h1,h2,h3⟩:=hx y;refine⟨trivial,σ2,h1,h2 _ ?_⟩;by_cases hp:p y=true
    . rw[if_pos hp];refine h3 _ (next _ _ ⟨rfl,r1++[y],r2,by rw[List.append_assoc];exact e,rfl,?_⟩);rw[List.filter_append,List.filter_cons_of_pos hp];simp[aD]
    . rw[if_neg hp];refine next _ _ ⟨rfl,r1++[y],r2,by rw[List.append_assoc];exact e,rfl,?_⟩
      rw[List.filter_append,List.filter_cons_of_neg hp,List.filter_nil,List.append_nil]
theorem zR:∀ds st K,oG ds st K->ds.length=1/\Ac {nx:=fun _ st'=>K .aH st',rt:=K} (aT lD ds) st:=by
 rintro ds st K ⟨F,m,w,e,rfl,hW,bF,he,k⟩;refine⟨rfl,?_⟩;have lF:=hW.is.len;have m8:=hW.m8;have w8:=hW.w8;refine fH ?_;refine hJ (fun rest σ st'=>st=st'/\∃(i:Nat) (v2:Option D),i<=m/\rest=(F.map bQ).drop i/\σ=[some (cB F),some (.int (Mx.Pr i fun i=>Mx.g F i (Mx.aZ F i))),v2]) ?_ ?_ _ _ _ ⟨rfl,0,none,Nat.zero_le _,rfl,rfl⟩
 . rintro σ st' ⟨rfl,i,v2,hi,hrest,rfl⟩;have e1:i=m:=Nat.le_antisymm hi (by rw[<-lF];exact drop_nil hrest);subst e1;exact⟨trivial,k⟩
 . rintro x rest σ st' ⟨rfl,i,v2,hi,hrest,rfl⟩ next
   obtain⟨hiF,rfl,rfl⟩:=drop_cons hrest;have him:i<m:=by rw[<-lF];exact hiF
   obtain⟨l1,l2,wF,_⟩:=hW.lead him;refine⟨trivial,_,rfl,fH ⟨cG (by rw[List.length_map];omega),?_⟩⟩;refine D9 (p:=fun x=>decide (x≠0)) (F.getD i []) (fun x=>⟨_,rfl,fun K' q=>ne2 (fun h=>?_) fun h=>?_,fun K' q=>q⟩) ?_
   . rw[decide_eq_true h]at q;exact q
   . rw[decide_eq_false (by simpa using h)]at q;exact q
   obtain⟨rs,ef⟩:=xk (r:=F.getD i []) (hW.st.lead i him).2.2 (Int.ne_of_gt l2);rw[ef];refine ay rfl (show dG (aD (Mx.g F i (Mx.aZ F i)::rs)) 0=some (.int (Mx.g F i (Mx.aZ F i)))from g_ (j:=0) rfl) ?_;have b1:(Mx.Pr i fun i=>Mx.g F i (Mx.aZ F i)).natAbs<=2^(e*i):=yq fun j hj=>bF j _ (by omega) (hW.lead (i:=j) (by omega)).1;have b3:e*i<=178*8:=Nat.mul_le_mul he (by omega);refine fR (g5 b1 (bF i _ him l1) (by omega)) ?_;exact next _ _ ⟨rfl,i+1,_,him,rfl,rfl⟩
def oB:b_:=fun ds st K=>∃(dr:D) (F:List (List Int)) (r:List Int) (m w e e':Nat),ds=[cB F,dr]/\Wf F m w/\(∀i c,i<m->c<w->(Mx.g F i c).natAbs<=2^e)/\e<=178/\items? st dr=some (aD r)/\r.length=w/\(∀x∈r,x.natAbs<=2^e')/\e'<=200/\∀st' (b:Bool),Ext st st'->(b=true↔Mx.bH F m w fun c=>Mx.Pr m (fun i=>Mx.g F i (Mx.aZ F i))*r.getD c 0)->K (.bl b) st'
def ly:List Str:=["_law_form","_law_row","_law_many_here"]
def Ad:DS:=(aF (a9 2 (aE oG (ae (ab 0) ak)))
 (bc (aE nL (ae (ab 0) (ae (bo dY (ae (dn (d6 (ab 1)) [none,some 2] (bp 0) cH (ao cM (ab 1) (ab 0))) ak)) ak)))))
theorem yB:∀ds st K,oB ds st K->ds.length=2/\Ad {nx:=fun _ st'=>K .aH st',rt:=K} (aT ly ds) st:=by
 rintro ds st K ⟨dr,F,r,m,w,e,e',rfl,hW,bF,he,hr,lr,br,he',k⟩;refine⟨rfl,?_⟩;have m8:=hW.m8;have w8:=hW.w8;refine⟨F,m,w,e,rfl,hW,bF,he,?_⟩;have b1:(Mx.Pr m fun i=>Mx.g F i (Mx.aZ F i)).natAbs<=2^(e*m):=yq fun j hj=>bF j _ hj (hW.lead hj).1;have b3:e*m<=178*8:=Nat.mul_le_mul he m8;generalize Mx.Pr m (fun i=>Mx.g F i (Mx.aZ F i))=P at b1 k;refine AY hr fun ok aP=>⟨cG (by rw[List.length_map];omega),?_⟩
 refine comp_map (g:=fun d=>match d with| .int x=> .int (P*x)|_=> .aH) (aP st hr) _ (fun d hd K' q=>?_) ?_
 . obtain⟨x,hx,rfl⟩:=List.mem_map.mp hd;exact⟨_,rfl,fR (g5 b1 (br x hx) (by omega)) q⟩
 have em:(aD r).map (fun d=>match d with| .int x=>D.int (P*x)|_=> .aH)=aD (r.map fun x=>P*x):=by
  unfold aD;rw[List.map_map,List.map_map];rfl
 rw[em];refine dX rfl ?_
 have eg:∀c,(r.map fun x=>P*x).getD c 0=P*r.getD c 0:=fun c=>by
  rw[List.getD_eq_getElem?_getD,List.getElem?_map,List.getD_eq_getElem?_getD];cases r[c]? with
  |none=>simp
  |some y=>simp
 refine⟨_,F,r.map fun x=>P*x,m,w,e*m+e',rfl,hW,rfl,by rw[List.length_map];exact lr,fun c hc=>?_,by omega,fun st' b X hb=>k st' b X (hb.trans ?_)⟩
 . rw[eg,Int.natAbs_mul,Nat.pow_add];exact Nat.mul_le_mul b1 (br _ (getD_mem (by omega)))
 . have:(fun c=>(r.map fun x=>P*x).getD c 0)=fun c=>P*r.getD c 0:=funext eg;rw[this]
def nh:b_:=fun ds st K=>∃(w:Nat) (F:List (List Int)),ds=[.tup [.int w,cB F]]/\F.length<=8/\K (.lst [.int w,NT F]) st
def j6:List Str:=["_law_one"]
def zx:DS:=(bc (nu (ae (ao aK (ab 0) (dC (.int 0))) (ae (dn (d6 (ao aK (ab 0) (dC (.int 1)))) [none] (bp 0) cH (bo j_ (ae (ab 0) ak))) ak))))
theorem xy:∀ds st K,nh ds st K->ds.length=1/\zx {nx:=fun _ st'=>K .aH st',rt:=K} (aT j6 ds) st:=by
 rintro ds st K ⟨w,F,rfl,hl,k⟩;refine⟨rfl,?_⟩;refine ay rfl rfl (ay rfl rfl (fH ⟨cG (by rw[List.length_map];omega),?_⟩));refine jW bg trivial cf.tup (fun d q _ he K' t=>⟨_,rfl,kM he t⟩) ?_;exact⟨Nat.le_of_ble_eq_true rfl,k⟩
abbrev GD:b_:=C2 LV
def yc:List Str:=["_law_script","_law_hand_here","_law_wide","_law_great","_law_by","_law_one","_law_found","_law_small_here","_law_many_here","_law_weights","_law_more"]
def NU:DS:=(aF (a9 1 (aE p7 (ae (ab 0) ak)))
 (aF (FH (km 2 3) (aE oS (ae (ab 1) ak)))
 (aF (a9 4 (ao aK (nu (ae (ao dc (dC (.int 2)) (aE cx (ae (ab 1) (ae (dC (.int 8)) ak)))) (ae (ao dc (dC (.int 100000)) (aE cx (ae (ab 1) (ae (dC (.int 900000)) ak)))) ak))) (bo tP (ae (ao gH (aE cx (ae (ab 1) (ae (dC (.int 4)) ak))) (dC (.int 0))) ak))))
 (aF (a9 5 (aE su (ae (ab 2) (ae (aE pZ (ae (ab 1) (ae (aE pS (ae (ab 1) (ae (ab 2) (ae (ab 3) ak)))) (ae (ab 2) ak)))) ak))))
 (aF (a9 6 (aE nD (ae (ab 5) ak)))
 (aF (dN (nv (jf (a8 (aE kC (ae (ab 6) (ae (ab 2) ak))))) (a8 (ao lX (bo dH (ae (ao aK (ab 6) (dC (.int 1))) ak)) (bo dH (ae (ao aK (ab 5) (dC (.int 1))) ak))))) (bc (dC (.bl false))) cJ)
 (aF (dN (jf (a8 (bo qV (ae (dn (d6 (ao aK (ab 5) (dC (.int 1)))) [none,some 6] (bp 0) cH (aE nL (ae (ao aK (ab 1) (dC (.int 1))) (ae (ab 0) ak)))) ak)))) (bc (dC (.bl false))) cJ)
 (aF (a9 7 (bo j_ (ae (ao aK (ab 6) (dC (.int 1))) ak)))
 (aF (dN (jf (a8 (ab 3))) (a9 7 (ao dc (ab 7) (aE oN (ae (ab 2) ak)))) cJ)
 (aF (dN (jf (a8 (bo qV (ae (dn (d6 (ab 7)) [none,some 6,some 5] (bp 0) cH (ao gH (aE nL (ae (ao aK (ab 1) (dC (.int 1))) (ae (ab 0) ak))) (aE oB (ae (ao aK (ab 2) (dC (.int 1))) (ae (ab 0) ak))))) ak)))) (bc (dC (.bl false))) cJ)
 (aF (dN (a8 (ao vR (aE nD (ae (aE nh (ae (ab 5) ak)) ak)) (ab 6))) (bc (dC (.bl false))) cJ)
 (aF (a9 8 (bo dH (ae (ao aK (ab 5) (dC (.int 1))) ak)))
 (aF (dN (a8 (ao gH (ab 8) (dC (.int 0)))) (bc (ao gH (aE nD (ae (ab 6) ak)) (ab 6))) cJ)
 (aF (a9 9 (dn (d8 (ae (ab 8) ak)) [none,some 8,some 4] (bp 0) cH (dn (d8 (ae (ab 1) ak)) [none,some 2,some 0] (bp 0) cH (ao cM (ab 1) (bo tP (ae (ao gH (ab 2) (ab 0)) ak))))))
 (aF (a9 10 (aE su (ae (ab 2) (ae (aE rN (ae (ab 9) (ae (ao aK (ab 5) (dC (.int 1))) ak))) ak))))
 (bc (ye (ao gH (aE nD (ae (ab 6) ak)) (ab 6)) (ao gH (aE nD (ae (ab 10) ak)) (ab 6)))))))))))))))))))
theorem fX{w:Nat}{F:List (List Int)}:pl 40 (.tup [.int (w:Int),cB F])=true:=by
 have:=Gg (n:=37) (A:=F);unfold pl;rw[List.all_cons,List.all_cons,this];rfl
abbrev Rc(N e0 t:Nat):Prop:=Mx.Ez N e0 (t+1)<60000000/\Mx.Uz N e0 t+Mx.Ez N e0 (t+1)<=120000000/\Mx.Uz N e0 t+Mx.Cz N e0 t<=120000000
theorem O_:∀N,N<9->∀t,t<N->Rc N 48 t:=by decide+kernel
theorem zO{F:List (List Int)}{m w:Nat}{ld:Nat->Nat}(s:Mx.bb F m w ld):m<=w:=by
 have go:∀i,i<m->i<=ld i:=fun i=>by
  induction i with
  |zero=>intro _;exact Nat.zero_le _
  |succ i ih=>
   intro h;have:=ih (by omega);have:=s.mono i (i+1) (by omega) h;omega
 rcases Nat.eq_zero_or_pos m with z|z
 . omega
 . have h1:=go (m-1) (by omega);have h2:=(s.lead (m-1) (by omega)).1;omega
theorem Er{A:List (List Int)}{N w M:Nat}(hA:Mx.ck N w A)(h:∀i c,i<N->c<w->(Mx.g A i c).natAbs<=M):∀r∈A,∀x∈r,x.natAbs<=M:=fun r hr x hx=>by
 obtain⟨i,hi,rfl⟩:=List.mem_iff_getElem.mp hr;obtain⟨c,hc,rfl⟩:=List.mem_iff_getElem.mp hx;have lA:=hA.len;have lw:=hA.j5 _ hr;have:=h i c (by omega) (by omega);unfold Mx.g at this;rwa [Mx.bE hi,Mx.bE hc]at this
theorem Bv{A:List (List Int)}{M M':Nat}(h:∀r∈A,∀x∈r,x.natAbs<=M)(l:M<=M'):∀r∈A,∀x∈r,x.natAbs<=M':=fun r hr x hx=>Nat.le_trans (h r hr x hx) l
def Rr(w m e:Nat):Prop:=(∀t,t<w->t<m->Rc w e t)/\Mx.Ez w e m<60000000/\∀t,t<w-m->t<w->Rc (w-m) (Mx.Ez w e m) t
instance (w m e:Nat):Decidable (Rr w m e):=by unfold Rr;infer_instance
theorem O5:∀w,w<5->∀m,m<w+1->Rr w m 178/\Rr w m 134:=by decide+kernel
theorem OU:∀w,w<9->∀m,m<w+1->Rr w m 68/\Rr w m 62:=by decide+kernel
theorem Pb:∀m,m<5->m*(9*1000000000000)^m<=2^178:=by decide+kernel
theorem ON:∀m,m<9->m*(9*30)^m<=2^68:=by decide+kernel
theorem OX:∀w,w<5->∀m,m<w+1->(w-m)*(8^w*1000000000000^m)<=2^134:=by decide+kernel
theorem Pg:∀w,w<9->∀m,m<w+1->(w-m)*(8^w*30^m)<=2^62:=by decide+kernel
theorem Pn:∀m,m<9->m*(9*2^178)^m<=2^5000:=by decide+kernel
theorem NK{m e:Nat}(h:m<=8)(he:e<=178):m*(9*2^e)^m<=2^5000:=
 Nat.le_trans (Nat.mul_le_mul_left _ (Nat.pow_le_pow_left (Nat.mul_le_mul_left _ (Nat.pow_le_pow_right (by decide) he)) _)) (Pn m (by omega))
theorem BZ{F:List (List Int)}{m w e:Nat}(is:Mx.ck m w F)(st:Mx.bb F m w (Mx.aZ F))(m8:m<=8)(w8:w<=8)(bd:∀i c,i<m->c<w->(Mx.g F i c).natAbs<=2^e)(he:e<=178)(R:Rr w m e)(wk:∀G k,Mx.Ke F m w G k->Wf G k w):Bs F m w e:=
 ⟨is,st,m8,w8,bd,by omega,R.1,R.2.1,R.2.2,NK m8 he,wk⟩
structure Al(F:List (List Int))(m w e1 e2:Nat):Prop where
 z:Bs F m w e1
 h1:e1<=178
 k:∀K k,Mx.Ke F m w K k->Bs K k w e2/\∀G,Mx.Ke K k w G m->Bs G m w e1
theorem G7{A F:List (List Int)}{N m w b e1 e2:Nat}(fo:Fo A N w F m)(w8:w<=8)(b1:1<=b)(hA:∀i c,i<N->c<w->(Mx.g A i c).natAbs<=b)(h1:e1<=178)(h2:e2<=178)(n1:m*(9*b)^m<=2^e1)(n2:(w-m)*(8^w*b^m)<=2^e2)(R:∀m,m<=w->Rr w m e1/\Rr w m e2):Al F m w e1 e2:=by
 have mw:=zO fo.st;have up:∀ {x e:Nat},x<=2^e->e<=178->x<=2^5000:=fun h he=>Nat.le_trans h (Nat.pow_le_pow_right (by decide) (by omega))
 have bK:∀K k,Mx.Ke F m w K k->∀i c,i<k->c<w->(Mx.g K i c).natAbs<=2^e2:=fun K k ke i c hi hc=>by
  have num:=ke.num;have ek:k=w-m:=by omega
  subst ek;exact Nat.le_trans (ke.abs fo.st fo.same w8 b1 hA i c hi hc) n2
 have wK:∀K k,Mx.Ke F m w K k->Wf K k w:=fun K k ke=>⟨ke.is,ke.st,by have:=ke.num;omega,w8,fun i c hi hc=>up (bK K k ke i c hi hc) h2⟩
 refine⟨BZ fo.is fo.st fo.m8 w8 (fun i c hi hc=>Nat.le_trans (Mx.d_.abs fo.m8 fo.st fo.red fo.same hA i c hi hc) n1) h1 (R m mw).1 wK,h1,fun K k ke=>?_⟩;have num:=ke.num;have bG:∀G,Mx.Ke K k w G m->∀i c,i<m->c<w->(Mx.g G i c).natAbs<=2^e1:=fun G kg i c hi hc=>Nat.le_trans (ke.OQ kg fo.m8 fo.st fo.same hA i c hi hc) n1;refine⟨BZ ke.is ke.st (by omega) w8 (bK K k ke) h2 (R k (by omega)).2 fun G m' kg=>?_,fun G kg=>BZ kg.is kg.st fo.m8 w8 (bG G kg) h1 (R m mw).1 fun K' k' k2=>?_⟩
 . have e:=(ke.back kg).1;subst e;exact⟨kg.is,kg.st,fo.m8,w8,fun i c hi hc=>up (bG G kg i c hi hc) h1⟩
 . have e:k'=k:=by have:=k2.num;omega
   subst e;rw[ke.again kg k2];exact wK K k' ke
theorem Ni:∀w,w<5->∀m,m<w+1->Rr w m 198/\∀t,t<m->t<w->Rc m 198 t:=by decide+kernel
theorem N2:∀w,w<9->∀m,m<w+1->Rr w m 88/\∀t,t<m->t<w->Rc m 88 t:=by decide+kernel
theorem Qc:∀m,m<9->m*(9*2^198)^m<=2^5000:=by decide+kernel
structure Fl(F:List (List Int))(m w e1 e2:Nat):Prop where
 al:Al F m w e1 e2
 r3:Rr w m (e1+20)
 r4:Mx.Rm m w (e1+20)
theorem zU{F K K' G G':List (List Int)}{m w k k':Nat}(h1:Mx.Ke F m w K k)(h2:Mx.Ke K k w G m)(h3:Mx.Ke F m w K' k')(h4:Mx.Ke K' k' w G' m):G'=G:=by
 have e:k'=k:=by have:=h1.num;have:=h3.num;omega
 subst e;rw[h3.one h1]at h4;exact h4.one h2
theorem yt{F K K' G G':List (List Int)}{m w k k':Nat}(h1:Mx.Ke F m w K k)(h2:Mx.Ke K k w G m)(h3:Mx.Ke G m w K' k')(h4:Mx.Ke K' k' w G' m):G'=G:=by
 have e:k'=k:=by have:=h1.num;have:=h3.num;omega
 subst e;rw[h1.again h2 h3]at h4;exact h4.one h2
theorem HB{F K K' G:List (List Int)}{m w k k' e1 e2:Nat}(al:Al F m w e1 e2)(h1:Mx.Ke F m w K k)(h2:Mx.Ke K k w G m)(h3:Mx.Ke G m w K' k'):Bs K' k' w e2:=by
 have e:k'=k:=by have:=h1.num;have:=h3.num;omega
 subst e;rw[h1.again h2 h3];exact(al.k K k' h1).1
def lV(m:Nat)(a:Int):List (List Int):=(List.range m).map fun j=>(List.range m).map fun k=>a*Mx.dl j k
theorem yC{m:Nat}{a:Int}:Mx.ck m m (lV m a):=⟨by simp[lV],fun r hr=>by
 unfold lV at hr;obtain⟨j,_,rfl⟩:=List.mem_map.mp hr;simp⟩
theorem Du{m i k:Nat}{a:Int}(hi:i<m)(hk:k<m):Mx.g (lV m a) i k=a*Mx.dl i k:=by
 have e:(lV m a).getD i []=(List.range m).map fun k=>a*Mx.dl i k:=by
  unfold lV;rw[Mx.bE (by simpa using hi),List.getElem_map,List.getElem_range]
 unfold Mx.g;rw[e,Mx.bE (by simpa using hk),List.getElem_map,List.getElem_range]
theorem Lu{m:Nat}{a:Int}(h0:0<a)(h:a<=1048576):∀r∈lV m a,∀x∈r,x.natAbs<=2^20:=fun r hr x hx=>by
 unfold lV at hr;obtain⟨j,_,rfl⟩:=List.mem_map.mp hr;obtain⟨k,_,rfl⟩:=List.mem_map.mp hx;unfold Mx.dl;split
 . rw[Int.mul_one];omega
 . rw[Int.mul_zero];decide
theorem Nu{F:List (List Int)}{m w:Nat}{a:Int}(hF:Mx.ck m w F):∀i c,i<m->c<w->Mx.g (Mx.mulM (lV m a) F w) i c=a*Mx.g F i c:=fun i c hi hc=>by
 rw[Mx.H_ yC hF hi,Mx.eZ hi fun k hk hne=>by rw[Du hi hk,Mx.cy (Ne.symm hne),Int.mul_zero,Int.zero_mul],Du hi hi,Mx.bT,Int.mul_one]
theorem Lx:∀ds st K,GD ds st K->ds.length=1/\NU {nx:=fun _ st'=>K .aH st',rt:=K} (aT yc ds) st:=by
 rintro ds st K ⟨ns,rfl,hl,hst,k⟩;refine⟨rfl,?_⟩;have l0:st.length=1:=by rw[hst];rfl
 have t0:st[0]?=some (e9 false):=by rw[hst];rfl
 clear hst;refine⟨ns,rfl,hl,fun st1 B1 X1=>?_⟩;have t1:st1[0]?=some (e9 false):=by rw[X1.same 0 (by omega)];exact t0
 have nz:st.length≠0:=by omega
 refine⟨_,_,rfl,B1,by decide,by decide,fun w gr st2 w1 w8 hg hg' B2 U2=>⟨_,rfl,?_⟩⟩;have t2:=(U2.same 0 (Ne.symm nz)).trans t1;clear B1 U2 t1 t0 X1;dsimp only[ak];refine kI (A:=a9 4 _) (fun σ' st3=>∃a:Int,σ'=[some (.lst (ns.map .int)),some (.ref st.length),some (.int w),some (.bl gr),some (.int a),none,none,none,none,none,none]/\0<a/\a<=1048576/\Hd st3 st.length 10/\st3[0]?=some (e9 false)) (fun nx hnx=>?_) ?_
 . refine⟨_,8,_,rfl,B2,by decide,by decide,by decide,by decide,fun y1 st3 y0 y8 B3 U3=>eR ?_⟩;refine⟨_,900000,_,rfl,B3,by decide,by decide,by decide,by decide,fun y2 st4 z0 z8 B4 U4=>eR ⟨Nat.le_of_ble_eq_true rfl,?_⟩⟩;refine⟨_,4,_,rfl,B4,by decide,by decide,by decide,by decide,fun y3 st5 u0 u8 B5 U5=>?_⟩;have t5:st5[0]?=some (e9 false):=by rw[U5.same 0 (Ne.symm nz),U4.same 0 (Ne.symm nz),U3.same 0 (Ne.symm nz)];exact t2
   refine eq2 (fun h=>pB (ay rfl (show dG [D.int (2+y1),.int (100000+y2)] 1=some (.int (100000+y2))from rfl) (hnx _ _ ⟨_,rfl,by omega,by omega,B5.mono (by decide),t5⟩))) fun h=>pB (ay rfl (show dG [D.int (2+y1),.int (100000+y2)] 0=some (.int (2+y1))from rfl) (hnx _ _ ⟨_,rfl,by omega,by omega,B5.mono (by decide),t5⟩))
 rintro σ' st3 ⟨a,rfl,a0,a1,B3,t3⟩;clear B2 t2;refine⟨_,_,w,gr,rfl,B3,by decide,by decide,w1,w8,hg',fun N st3 n8 B3 U3=>?_⟩;refine⟨_,_,N,w,rfl,B3,by decide,by decide,n8,w8,fun A st4 hA bA bA' B4 U4=>?_⟩;have t4:st4[0]?=some (e9 false):=by rw[U4.same 0 (Ne.symm nz),U3.same 0 (Ne.symm nz)];exact t3
 clear B3 U3 U4 t3 B4;refine⟨_,A,N,w,48,_,rfl,gE,hA,n8,w8,A6 hA (Cd hA (Bv bA (by decide))),by decide,fun t h1 _=>O_ N (by omega) t h1,t4,fun st5 F m K5 fo=>?_⟩;obtain⟨f5,t5⟩:=K5.tb;clear K5 t4;have mw:=zO fo.st
 obtain⟨e1,e2,fl⟩:∃e1 e2,Fl F m w e1 e2:=by
  cases gr with
  |false=>
   have w4:=hg' rfl;have R:=Ni w (by omega) m (by omega);exact⟨178,134,G7 fo w8 (by decide) (Cd hA bA) (by decide) (by decide) (Pb m (by omega)) (OX w (by omega) m (by omega)) (fun m hm=>O5 w (by omega) m (by omega)),R.1,R.2⟩
  |true=>
   have w6:=hg rfl;have R:=N2 w (by omega) m (by omega);exact⟨68,62,G7 fo w8 (by decide) (Cd hA (bA' (by omega))) (by decide) (by decide) (ON m (by omega)) (Pg w (by omega) m (by omega)) (fun m hm=>OU w (by omega) m (by omega)),R.1,R.2⟩
 have al:=fl.al;have Z1:=al.z;have h1:=al.h1;have m8:=fo.m8;have lF:=fo.is.len;have bF:=Er fo.is Z1.bd;have bF5:∀q∈F,∀x∈q,x.natAbs<=2^5000:=Bv bF (Nat.pow_le_pow_right (by decide) (by omega));have hF:Wf F m w:=⟨fo.is,fo.st,m8,w8,Cd fo.is bF5⟩
 clear bA bA' hA;have zk:∀K k,Mx.Ke F m w K k->Bs K k w e2:=fun K k ke=>(al.k K k ke).1;refine⟨_,_,F,m,w,e1,e2,f5,rfl,rfl,gE,Z1,mw,zk,t5,fun st6 G K1 kk B6 ke kg=>?_⟩;obtain⟨f6,t6⟩:=B6.tb;have hG:=(zk K1 kk ke).wk G m kg;have Z3:=(al.k K1 kk ke).2 G kg;have lG:=kg.is.len;have bG:∀q∈G,∀x∈q,x.natAbs<=2^178:=Bv (Er kg.is Z3.bd) (Nat.pow_le_pow_right (by decide) (by omega));clear B6 t5;refine⟨G,m,w,rfl,hG,kg.red,?_⟩;refine ay rfl rfl (cS rfl (ay rfl rfl (cS rfl (Eb ?_ ?_))))
 . rw[List.length_map,List.length_map,lG,lF]
 have ball:∀l:List Nat,jc (l.map fun _=>D.bl true)=some (l.map fun _=>true):=fun l=>by
  induction l with
  |nil=>rfl
  |cons a l ih=>rw[List.map_cons,List.map_cons];unfold jc;rw[ih];rfl
 refine ay rfl rfl (fH ⟨cG (by rw[List.length_map];omega),?_⟩);refine ft (fun rest acc st'=>∃i:Nat,i<=F.length/\rest=(F.map bQ).drop i/\acc=(List.range i).map (fun _=>D.bl true)/\Ext st6 st') ?_ ?_ _ _ _ ⟨0,Nat.zero_le _,rfl,rfl,Ext.refl⟩;rotate_left 1
 . rintro d rest acc st' ⟨i,hi,hrest,rfl,X⟩ next
   obtain⟨hiA,rfl,rfl⟩:=drop_cons hrest;have hmem:F.getD i []∈F:=by rw[Mx.bE hiA];exact List.getElem_mem _
   have lw:=fo.is.j5 _ hmem;refine⟨trivial,_,rfl,ay rfl rfl ⟨_,G,F.getD i [],m,w,5000,rfl,hG,rfl,lw,fun c hc=>bF5 _ hmem _ (getD_mem (by omega)),by decide,fun st' b X6 hb=>?_⟩⟩;have eb:b=true:=hb.mpr ((ke.back kg).2 i (by omega));subst eb;exact next _ _ ⟨i+1,by omega,rfl,by rw[List.range_succ,List.map_append];rfl,X.trans X6⟩
 rintro acc st7 ⟨i,hi,hrest,rfl,X7⟩;refine⟨trivial,uU (ball _) ?_⟩;rw[show((List.range i).map fun _=>true).all id=true by simp];dsimp only[cJ,Bool.not_true,Bool.false_eq_true,if_false];have t7:=(X7.same 0 (List.getElem?_eq_some_iff.mp t6).1).trans t6;clear t6 X7 hrest hi;refine ay rfl rfl (kM rfl ?_);dsimp only[ak];refine kI (A:=dN _ _ _) (fun σ' st8=>∃R:List (List Int),σ'=[some (.lst (ns.map .int)),some (.ref st.length),some (.int w),some (.bl gr),some (.int a),some (.tup [.int w,cB F]),some (.tup [.int w,cB G]),some (.lst (R.map bQ)),none,none,none]/\Ext st7 st8/\R.length<=1000/\∀r∈R,r.length=w/\∀x∈r,x.natAbs<=2^178) (fun nx hnx=>?_) ?_
 . have hGr:∀r∈G,r.length=w/\∀x∈r,x.natAbs<=2^178:=fun r hr=>⟨kg.is.j5 r hr,bG r hr⟩
   cases gr with
   |true=>exact hnx _ _ ⟨G,rfl,Ext.refl,by omega,hGr⟩
   |false=>
    refine⟨w,rfl,w1,hg' rfl,fun st8 R X lR hR=>Jd (by rw[sizeLine_eq,List.length_map,List.length_map];omega) ?_⟩;rw[<-List.map_append];refine hnx _ _ ⟨G++R,rfl,X,by rw[List.length_append];omega,fun r hr=>?_⟩;rcases List.mem_append.mp hr with q|q
    . exact hGr r q
    . exact⟨(hR r q).1,fun x hx=>Nat.le_trans ((hR r q).2 x hx) (by decide)⟩
 rintro σ' st8 ⟨R,rfl,X8,lR,hR⟩;have t8:=(X8.same 0 (List.getElem?_eq_some_iff.mp t7).1).trans t7;clear t7 X8;refine AH ⟨cG (by rw[List.length_map];omega),?_⟩;refine ft (fun rest acc st'=>∃i:Nat,i<=R.length/\rest=(R.map bQ).drop i/\acc=(List.range i).map (fun _=>D.bl true)/\Ext st8 st') ?_ ?_ _ _ _ ⟨0,Nat.zero_le _,rfl,rfl,Ext.refl⟩;rotate_left 1
 . rintro d rest acc st' ⟨i,hi,hrest,rfl,X⟩ next
   obtain⟨hiA,rfl,rfl⟩:=drop_cons hrest;obtain⟨lw,bw⟩:=hR _ (show R.getD i []∈R by rw[Mx.bE hiA];exact List.getElem_mem _);generalize R.getD i []=r at lw bw;refine⟨trivial,_,rfl,ay rfl rfl ⟨_,G,r,m,w,178,rfl,hG,rfl,lw,fun c hc=>bw _ (getD_mem (by omega)),by decide,fun st' b X6 hb=>?_⟩⟩;refine ay rfl rfl ⟨_,F,r,m,w,e1,178,rfl,hF,Z1.bd,h1,rfl,lw,bw,by decide,fun st'' b2 X7 hb2=>?_⟩;have eb:b=b2:=Bool.eq_iff_iff.mpr (hb.trans ((ke.OS fo.st kg _).trans hb2.symm));subst eb;refine sr rfl rfl ?_;rw[jt 40 _ rfl];exact next _ _ ⟨i+1,by omega,rfl,by rw[List.range_succ,List.map_append];rfl,(X.trans X6).trans X7⟩
 rintro acc st9 ⟨i,hi,hrest,rfl,X9⟩;refine⟨trivial,uU (ball _) ?_⟩;rw[show((List.range i).map fun _=>true).all id=true by simp];dsimp only[cJ,Bool.not_true,Bool.false_eq_true,if_false];have t9:=(X9.same 0 (List.getElem?_eq_some_iff.mp t8).1).trans t8;clear t8 X9 hrest hi;refine⟨w,F,rfl,by omega,?_⟩;refine⟨_,_,F,m,w,e1,e2,f6,rfl,rfl,⟨_,rfl,cf.lst⟩,Z1,mw,zk,t9,fun st10 G2 K2 k2 B10 ke2 kg2=>?_⟩;have eG:=zU ke kg ke2 kg2;subst eG;obtain⟨f10,t10⟩:=B10.tb;clear t9 B10;refine Gi fX ?_;refine ay rfl rfl (cS rfl ?_);rw[List.length_map,lF];refine eq2 (fun h=>fx ?_) fun h=>?_
 . refine⟨_,_,G2,m,w,e1,e2,f10,rfl,rfl,gE,Z3,mw,fun K k k3=>HB al ke kg k3,t10,fun st11 G3 K3 k3 B11 ke3 kg3=>?_⟩;have eG:=yt ke kg ke3 kg3;subst eG;refine sr fX fX ?_;rw[jt 40 _ fX];exact k _
 refine fk ⟨by omega,by omega⟩ ⟨cG (by rw[di];omega),?_⟩;rw[Int.toNat_natCast];refine jV (fun j=>bg ((List.range m).map fun k=>a*Mx.dl j k)) m (fun j hj K' q=>⟨_,rfl,?_⟩) ?_
 . refine fk ⟨by omega,by omega⟩ ⟨cG (by rw[di];omega),?_⟩;rw[Int.toNat_natCast];refine jV (fun k=> .int (a*Mx.dl j k)) m (fun k hk K2 q2=>⟨_,rfl,?_⟩) ?_
   . refine eq2 (fun h=>pB (fR (gB (by omega) (by omega)) ?_)) fun h=>pB (fR (gB (by omega) (by omega)) ?_)
     . have:j=k:=by omega
       subst this;rw[Mx.bT]at q2;exact q2
     . rw[Mx.cy (by omega)]at q2;exact q2
   . have:(List.range m).map (fun k=>D.int (a*Mx.dl j k))=aD ((List.range m).map fun k=>a*Mx.dl j k):=by unfold aD;rw[List.map_map];rfl
     rw[this];exact q
 have eu:(List.range m).map (fun j=>bg ((List.range m).map fun k=>a*Mx.dl j k))=(lV m a).map bg:=by unfold lV;rw[List.map_map];rfl
 rw[eu];have isX:=Mx.HE (yC (m:=m) (a:=a)) fo.is;have eX:=Nu (a:=a) fo.is;refine ay rfl rfl ⟨_,_,w,lV m a,F,rfl,⟨_,rfl,cf.lst⟩,gE,fun z=>by rw[z]at lF;simp at lF;omega,fo.is.j5,by omega,by rw[yC.len];omega,fun r hr c hc q hq z hz=>g5 (Lu a0 a1 r hr c hc) (bF q hq z hz) (by omega),?_⟩
 have bX:∀i c,i<m->c<w->(Mx.g (Mx.mulM (lV m a) F w) i c).natAbs<=2^(e1+20):=fun i c hi hc=>by
  rw[eX i c hi hc,Int.natAbs_mul,Nat.pow_add,Nat.mul_comm];exact Nat.mul_le_mul (Z1.bd i c hi hc) (by omega)
 have sX:=fo.st.times a0 eX
 have foX:Fo (Mx.mulM (lV m a) F w) m w (Mx.mulM (lV m a) F w) m:=⟨isX,sX.Lr,fun i j hij hj=>by
  rw[sX.aZ hj];exact fo.red.times a0 eX fo.st i j hij hj,Mx.d_.refl _ _ _,m8⟩
 refine⟨_,_,m,w,e1+20,f10,rfl,gE,isX,m8,w8,A6 isX bX,by omega,fl.r4,t10,fun st11 F2 m2 B11 fo2=>?_⟩;have e:F2=Mx.mulM (lV m a) F w:=fo2.one foX (Mx.d_.refl _ _ _);subst e;have em:m2=m:=by rw[<-fo2.is.len,isX.len]
 subst em;obtain⟨f11,t11⟩:=B11.tb;have ZX:Bs (Mx.mulM (lV m2 a) F w) m2 w (e1+20):=⟨isX,foX.st,m8,w8,bX,by omega,fl.r3.1,fl.r3.2.1,fl.r3.2.2,Nat.le_trans (Nat.mul_le_mul_left _ (Nat.pow_le_pow_left (Nat.mul_le_mul_left _ (Nat.pow_le_pow_right (by decide) (by omega))) _)) (Qc m2 (by omega)),fun K k kx=>Z1.wk K k (kx.times a0 eX)⟩
 clear B11 t10;refine⟨_,_,G2,m2,w,e1,e2,f11,rfl,rfl,gE,Z3,mw,fun K k k3=>HB al ke kg k3,t11,fun st12 G3 K3 k3 B12 ke3 kg3=>?_⟩;have eG:=yt ke kg ke3 kg3;subst eG;obtain⟨f12,t12⟩:=B12.tb;refine sr fX fX ?_;rw[jt 40 _ fX];refine fx ?_;refine⟨_,_,_,m2,w,e1+20,e2,f12,rfl,rfl,gE,ZX,mw,fun K k kx=>zk K k (kx.times a0 eX),t12,fun st13 G4 K4 k4 B13 ke4 kg4=>?_⟩;have eG:=zU ke kg (ke4.times a0 eX) kg4;subst eG;refine sr fX fX ?_;rw[jt 40 _ fX];exact k _
end Prog
namespace Row
open PySem L2 L3 Prog
open PySem.Spec hiding items?
open PyProof.Rows hiding St
theorem nk:(("abs":Str))≠"__name__":=by decide+kernel
theorem cW:(("tuple":Str))≠"__name__":=by decide+kernel
theorem cE:(("len":Str))≠"__name__":=by decide+kernel
theorem iR:(("list":Str))≠"__name__":=by decide+kernel
theorem Dh:(("sum":Str))≠"__name__":=by decide+kernel
theorem qT:(("int":Str))≠"__name__":=by decide+kernel
theorem LN:(("max":Str))≠"__name__":=by decide+kernel
theorem CP:(("min":Str))≠"__name__":=by decide+kernel
theorem Lw:(("any":Str))≠"__name__":=by decide+kernel
theorem uK:(("all":Str))≠"__name__":=by decide+kernel
theorem e_:(("isinstance":Str))≠"__name__":=by decide+kernel
theorem Bf:(("bool":Str))≠"__name__":=by decide+kernel
structure Bl(mg:Str->Option Value):Prop where
 qb:mg "abs"=none
 dE:mg "tuple"=none
 CC:mg "zip"=none
 dq:mg "len"=none
 d9:mg "range"=none
 sU:mg "enumerate"=none
 kl:mg "list"=none
 Gp:mg "sorted"=none
 GJ:mg "sum"=none
 uL:mg "int"=none
 Nr:mg "max"=none
 G9:mg "min"=none
 Nv:mg "any"=none
 xQ:mg "all"=none
 fB:mg "isinstance"=none
 Et:mg "bool"=none
structure Kl(K:PySem.W.Frag)(mg:Str->Option Value):Prop where
 aX:ClsAt K mg "Bench" aC
 bU:fT K aC "body"
 d3:fT K aC "turn"
 cn:fT K aC "back_columns"
theorem de:VS (ag kr) pR ["abs"]:=⟨by decide+kernel⟩
theorem jD:aO pR ["one","other"] (ag kr):=⟨rfl,rfl,rfl,by decide+kernel,rfl,by decide+kernel,by decide+kernel⟩
theorem gZ:VS (ag pC) u7 ["common"]:=⟨by decide+kernel⟩
theorem kH:aO u7 ["top","bottom"] (ag pC):=⟨rfl,rfl,rfl,by decide+kernel,rfl,by decide+kernel,by decide+kernel⟩
theorem lK:VS (ag ph) vf ["part"]:=⟨by decide+kernel⟩
theorem IS:aO vf ["one","other"] (ag ph):=⟨rfl,rfl,rfl,by decide+kernel,rfl,by decide+kernel,by decide+kernel⟩
theorem jB:VS (ag mW) sL ["part"]:=⟨by decide+kernel⟩
theorem FU:aO sL ["one","other"] (ag mW):=⟨rfl,rfl,rfl,by decide+kernel,rfl,by decide+kernel,by decide+kernel⟩
theorem mP:VS (ag mQ) rZ ["part"]:=⟨by decide+kernel⟩
theorem Fz:aO rZ ["one","other"] (ag mQ):=⟨rfl,rfl,rfl,by decide+kernel,rfl,by decide+kernel,by decide+kernel⟩
theorem oX:VS (ag o6) vh ["part"]:=⟨by decide+kernel⟩
theorem HW:aO vh ["one","other"] (ag o6):=⟨rfl,rfl,rfl,by decide+kernel,rfl,by decide+kernel,by decide+kernel⟩
theorem Iw:VS (ag mX) sD []:=⟨by decide+kernel⟩
theorem Fc:aO sD ["n"] (ag mX):=⟨rfl,rfl,rfl,by decide+kernel,rfl,by decide+kernel,by decide+kernel⟩
theorem rS:VS (ag iD) oa ["tuple"]:=⟨by decide+kernel⟩
theorem BY:aO oa ["rows"] (ag iD):=⟨rfl,rfl,rfl,by decide+kernel,rfl,by decide+kernel,by decide+kernel⟩
theorem wb:VS (ag kG) sd ["zip"]:=⟨by decide+kernel⟩
theorem Fq:aO sd ["row","times","other"] (ag kG):=⟨rfl,rfl,rfl,by decide+kernel,rfl,by decide+kernel,by decide+kernel⟩
theorem d7:VS (ag kL) pH ["zip","added","tuple"]:=⟨by decide+kernel⟩
theorem oq:aO pH ["weights","rows","wide"] (ag kL):=⟨rfl,rfl,rfl,by decide+kernel,rfl,by decide+kernel,by decide+kernel⟩
theorem ix:VS (ag iu) nO ["len","tuple"]:=⟨by decide+kernel⟩
theorem vx:aO nO ["one","other"] (ag iu):=⟨rfl,rfl,rfl,by decide+kernel,rfl,by decide+kernel,by decide+kernel⟩
theorem tS:VS (ag ju) p9 ["tuple"]:=⟨by decide+kernel⟩
theorem D0:aO p9 ["rows","place"] (ag ju):=⟨rfl,rfl,rfl,by decide+kernel,rfl,by decide+kernel,by decide+kernel⟩
theorem jd:VS (ag e8) jh ["range","tuple"]:=⟨by decide+kernel⟩
theorem vX:aO jh ["rows","wide"] (ag e8):=⟨rfl,rfl,rfl,by decide+kernel,rfl,by decide+kernel,by decide+kernel⟩
theorem mz:VS (ag gS) mE ["range","tuple"]:=⟨by decide+kernel⟩
theorem Aq:aO mE ["n","place"] (ag gS):=⟨rfl,rfl,rfl,by decide+kernel,rfl,by decide+kernel,by decide+kernel⟩
theorem k9:VS (ag fW) k6 ["range","tuple"]:=⟨by decide+kernel⟩
theorem zQ:aO k6 ["n"] (ag fW):=⟨rfl,rfl,rfl,by decide+kernel,rfl,by decide+kernel,by decide+kernel⟩
theorem ox:VS (ag jC) og ["enumerate"]:=⟨by decide+kernel⟩
theorem uG:aO og ["row"] (ag jC):=⟨rfl,rfl,rfl,by decide+kernel,rfl,by decide+kernel,by decide+kernel⟩
theorem iA:VS (ag dR) fU []:=⟨by decide+kernel⟩
theorem hZ:aO fU ["top","bottom"] (ag dR):=⟨rfl,rfl,rfl,by decide+kernel,rfl,by decide+kernel,by decide+kernel⟩
theorem cT:VS (ag g7) lp ["list"]:=⟨by decide+kernel⟩
theorem rE:aO lp ["rows","k","other"] (ag g7):=⟨rfl,rfl,rfl,by decide+kernel,rfl,by decide+kernel,by decide+kernel⟩
theorem Eu:VS (ag iJ) n_ []:=⟨by decide+kernel⟩
theorem Cw:aO n_ ["row"] (ag iJ):=⟨rfl,rfl,rfl,by decide+kernel,rfl,by decide+kernel,by decide+kernel⟩
theorem bL:VS (ag cN) gQ ["len","unit_rows"]:=⟨by decide+kernel⟩
theorem sQ:aO gQ ["self","rows"] (ag cN):=⟨rfl,rfl,rfl,by decide+kernel,rfl,by decide+kernel,by decide+kernel⟩
theorem aV:VS (ag gw) ka ["added"]:=⟨by decide+kernel⟩
theorem xJ:aO ka ["self","k","times","other"] (ag gw):=⟨rfl,rfl,rfl,by decide+kernel,rfl,by decide+kernel,by decide+kernel⟩
theorem a_:VS (ag eH) gR ["exchanged"]:=⟨by decide+kernel⟩
theorem sN:aO gR ["self","k","other"] (ag eH):=⟨rfl,rfl,rfl,by decide+kernel,rfl,by decide+kernel,by decide+kernel⟩
theorem aU:VS (ag dB) fG ["negated"]:=⟨by decide+kernel⟩
theorem pM:aO fG ["self","k"] (ag dB):=⟨rfl,rfl,rfl,by decide+kernel,rfl,by decide+kernel,by decide+kernel⟩
theorem cU:VS (ag cV) gh ["len","range","sorted"]:=⟨by decide+kernel⟩
theorem lE:aO gh ["self","top","place"] (ag cV):=⟨rfl,rfl,rfl,by decide+kernel,rfl,by decide+kernel,by decide+kernel⟩
theorem aA:VS (ag fj) iQ ["len","nearest_quotient"]:=⟨by decide+kernel⟩
theorem fN:aO iQ ["self","top","place"] (ag fj):=⟨rfl,rfl,rfl,by decide+kernel,rfl,by decide+kernel,by decide+kernel⟩
theorem bP:VS (ag dD) fE ["range"]:=⟨by decide+kernel⟩
theorem fh:aO fE ["self","top","place"] (ag dD):=⟨rfl,rfl,rfl,by decide+kernel,rfl,by decide+kernel,by decide+kernel⟩
theorem a5:VS (ag iK) mF ["Bench","len","range","turned_over","as_rows"]:=⟨by decide+kernel⟩
theorem g9:aO mF ["rows"] (ag iK):=⟨rfl,rfl,rfl,by decide+kernel,rfl,by decide+kernel,by decide+kernel⟩
theorem bj:VS (ag jH) nW ["list","lead_of","added","tuple"]:=⟨by decide+kernel⟩
theorem gM:aO nW ["form","row"] (ag jH):=⟨rfl,rfl,rfl,by decide+kernel,rfl,by decide+kernel,by decide+kernel⟩
theorem sy:VS (ag mY) sx ["weighed"]:=⟨by decide+kernel⟩
theorem FE:aO sx ["form","row"] (ag mY):=⟨rfl,rfl,rfl,by decide+kernel,rfl,by decide+kernel,by decide+kernel⟩
theorem cq:VS (ag g8) la ["whole","zip","times","plus"]:=⟨by decide+kernel⟩
theorem j4:aO la ["parts","row"] (ag g8):=⟨rfl,rfl,rfl,by decide+kernel,rfl,by decide+kernel,by decide+kernel⟩
theorem dJ:VS (ag hO) kZ ["lead_of","abs"]:=⟨by decide+kernel⟩
theorem qM:aO kZ ["form","rest","place"] (ag hO):=⟨rfl,rfl,rfl,by decide+kernel,rfl,by decide+kernel,by decide+kernel⟩
theorem aq:VS (ag eY) iq ["lead_of","whole","len","bottom_at","part","range","parts_dot","minus","over","tuple"]:=⟨by decide+kernel⟩
theorem eA:aO iq ["form","rest"] (ag eY):=⟨rfl,rfl,rfl,by decide+kernel,rfl,by decide+kernel,by decide+kernel⟩
theorem dS:VS (ag fm) iP ["len","standing"]:=⟨by decide+kernel⟩
theorem uZ:aO iP ["turn","many"] (ag fm):=⟨rfl,rfl,rfl,by decide+kernel,rfl,by decide+kernel,by decide+kernel⟩
theorem aJ:VS (ag jI) ow ["len","turned_over","standing","weighed","lead_of","parts_against","steps_behind","sum_by","falls"]:=⟨by decide+kernel⟩
theorem fS:aO ow ["rows","due"] (ag jI):=⟨rfl,rfl,rfl,by decide+kernel,rfl,by decide+kernel,by decide+kernel⟩
theorem kU:VS (ag mR) sf ["len","standing"]:=⟨by decide+kernel⟩
theorem Gh:aO sf ["wide","rows"] (ag mR):=⟨rfl,rfl,rfl,by decide+kernel,rfl,by decide+kernel,by decide+kernel⟩
theorem dZ:VS (ag kO) pU ["len","unit_rows","answers"]:=⟨by decide+kernel⟩
theorem C1:aO pU ["one"] (ag kO):=⟨rfl,rfl,rfl,by decide+kernel,rfl,by decide+kernel,by decide+kernel⟩
theorem rq:VS (ag o_) vd ["beside"]:=⟨by decide+kernel⟩
theorem HZ:aO vd ["one"] (ag o_):=⟨rfl,rfl,rfl,by decide+kernel,rfl,by decide+kernel,by decide+kernel⟩
theorem cQ:VS (ag iM) my ["sum","abs","int","list"]:=⟨by decide+kernel⟩
theorem tx:aO my ["_law_script"] (ag iM):=⟨rfl,rfl,rfl,by decide+kernel,rfl,by decide+kernel,by decide+kernel⟩
theorem aI:VS (ag iX) mJ ["len","abs","max","sum"]:=⟨by decide+kernel⟩
theorem i3:aO mJ ["_law_hand_here","_law_many_here"] (ag iX):=⟨rfl,rfl,rfl,by decide+kernel,rfl,by decide+kernel,by decide+kernel⟩
theorem cw:VS (ag gF) kb ["_law_draw"]:=⟨by decide+kernel⟩
theorem xM:aO kb ["_law_hand_here","_law_wild"] (ag gF):=⟨rfl,rfl,rfl,by decide+kernel,rfl,by decide+kernel,by decide+kernel⟩
theorem dv:VS (ag gO) mv ["_law_draw","min","range","tuple"]:=⟨by decide+kernel⟩
theorem oJ:aO mv ["_law_hand_here","_law_many_here","_law_wide"] (ag gO):=⟨rfl,rfl,rfl,by decide+kernel,rfl,by decide+kernel,by decide+kernel⟩
theorem eM:VS (ag g4) ll ["_law_draw"]:=⟨by decide+kernel⟩
theorem yk:aO ll ["_law_hand_here"] (ag g4):=⟨rfl,rfl,rfl,by decide+kernel,rfl,by decide+kernel,by decide+kernel⟩
theorem eP:VS (ag iZ) mG ["_law_draw"]:=⟨by decide+kernel⟩
theorem Ab:aO mG ["_law_hand_here","_law_wide","_law_great"] (ag iZ):=⟨rfl,rfl,rfl,by decide+kernel,rfl,by decide+kernel,by decide+kernel⟩
theorem aW:VS (ag fY) lq ["list","len","range","tuple"]:=⟨by decide+kernel⟩
theorem gp:aO lq ["_law_form","_law_row"] (ag fY):=⟨rfl,rfl,rfl,by decide+kernel,rfl,by decide+kernel,by decide+kernel⟩
theorem kv:VS (ag ku) p_ ["_law_falls","any"]:=⟨by decide+kernel⟩
theorem Ec:aO p_ ["_law_form","_law_row"] (ag ku):=⟨rfl,rfl,rfl,by decide+kernel,rfl,by decide+kernel,by decide+kernel⟩
theorem bJ:VS (ag eS) jO ["enumerate","len","range","all"]:=⟨by decide+kernel⟩
theorem gT:aO jO ["_law_rows_here"] (ag eS):=⟨rfl,rfl,rfl,by decide+kernel,rfl,by decide+kernel,by decide+kernel⟩
theorem ax:VS (ag eh) iL ["tuple","isinstance","len","int","bool","all","_law_stands"]:=⟨by decide+kernel⟩
theorem oo:aO iL ["_law_found","_law_wide"] (ag eh):=⟨rfl,rfl,rfl,by decide+kernel,rfl,by decide+kernel,by decide+kernel⟩
theorem cv:VS (ag f7) lx ["min","range"]:=⟨by decide+kernel⟩
theorem fC:aO lx ["_law_wide"] (ag f7):=⟨rfl,rfl,rfl,by decide+kernel,rfl,by decide+kernel,by decide+kernel⟩
theorem g6:VS (ag f_) lD []:=⟨by decide+kernel⟩
theorem jZ:aO lD ["_law_form"] (ag f_):=⟨rfl,rfl,rfl,by decide+kernel,rfl,by decide+kernel,by decide+kernel⟩
theorem dW:VS (ag fZ) ly ["_law_times","tuple","_law_in"]:=⟨by decide+kernel⟩
theorem qX:aO ly ["_law_form","_law_row"] (ag fZ):=⟨rfl,rfl,rfl,by decide+kernel,rfl,by decide+kernel,by decide+kernel⟩
theorem qK:VS (ag fD) j6 []:=⟨by decide+kernel⟩
theorem xB:aO j6 ["_law_one"] (ag fD):=⟨rfl,rfl,rfl,by decide+kernel,rfl,by decide+kernel,by decide+kernel⟩
theorem aG:VS (ag jQ) yc ["_law_hand","_law_width","_law_draw","int","_law_many","_law_rows","space","flat","_law_is_space","len","all","list","_law_small","_law_listed","range","product"]:=⟨by decide+kernel⟩
theorem iB:aO yc ["_law_script"] (ag jQ):=⟨rfl,rfl,rfl,by decide+kernel,rfl,by decide+kernel,by decide+kernel⟩
structure Ev(w:World)(mg:Str->Option Value)(h:Heap):Prop where
 X:(KX w.params).In h
 G:h.Ns mainGlobals mg
section
variable {w:World}{mg:Str->Option Value}{h base:Heap}(e:Ev w mg h)
include e
theorem Bt:Bl mg:=⟨PySem.W.mg_none_of e.X e.G (by kernel_rfl),PySem.W.mg_none_of e.X e.G (by kernel_rfl),PySem.W.mg_none_of e.X e.G (by kernel_rfl),PySem.W.mg_none_of e.X e.G (by kernel_rfl),PySem.W.mg_none_of e.X e.G (by kernel_rfl),PySem.W.mg_none_of e.X e.G (by kernel_rfl),PySem.W.mg_none_of e.X e.G (by kernel_rfl),PySem.W.mg_none_of e.X e.G (by kernel_rfl),PySem.W.mg_none_of e.X e.G (by kernel_rfl),PySem.W.mg_none_of e.X e.G (by kernel_rfl),PySem.W.mg_none_of e.X e.G (by kernel_rfl),PySem.W.mg_none_of e.X e.G (by kernel_rfl),PySem.W.mg_none_of e.X e.G (by kernel_rfl),PySem.W.mg_none_of e.X e.G (by kernel_rfl),PySem.W.mg_none_of e.X e.G (by kernel_rfl),PySem.W.mg_none_of e.X e.G (by kernel_rfl)⟩
theorem Qt:Kl (KX w.params) mg:=⟨⟨⟨by kernel_rfl,by kernel_rfl,by kernel_rfl,by kernel_rfl⟩,PySem.W.mg_of e.X e.G (by kernel_rfl),by kernel_rfl,by kernel_rfl⟩,Hd.na (by kernel_rfl),Hd.na (by kernel_rfl),Hd.na (by kernel_rfl)⟩
theorem zo:bC (KX w.params) mg "common" "common" kr ["one","other"] 21 (Hd.fd kr "common" "common" i_ 20):=Hd.ik e.X e.G (by kernel_rfl) fun _ _ _ _ _ _ _ _=>rfl
theorem F7:bf PW w (KX w.params) mg base cj 1 21 (Hd.fd kr "common" "common" i_ 20) ["one","other"] (cp ue):=by
 have B:=Bt e;have Q:=Qt e
 exact bB (N:=pR) (zo e).fn jD (fun cdv A outer s H E hr=>(au (aQ jD.nd (de.l 2) (bY qo (aa (de.nm 0) ai) B.qb rfl nk (de.d 0) (de.g 0)))
  (au (aQ jD.nd (de.l 3) (bY qo (aa (de.nm 1) ai) B.qb rfl nk (de.d 0) (de.g 0)))
  (au (t_ (bR oK (bh _) (de.nm 3) aj) (au (aQ jD.nd (de.l 4) (ba nY (de.nm 2) (de.nm 3)))
  (au (aQ jD.nd (de.l 2) (de.nm 3))
  (aw (aQ jD.nd (de.l 3) (de.nm 4))))))
  (aw (aN (de.nm 2))))))) D_
theorem pA:bC (KX w.params) mg "part" "part" pC ["top","bottom"] 28 (Hd.fd pC "part" "part" i_ 27):=Hd.ik e.X e.G (by kernel_rfl) fun _ _ _ _ _ _ _ _=>rfl
theorem qQ:bf PW w (KX w.params) mg base cj 2 28 (Hd.fd pC "part" "part" i_ 27) ["top","bottom"] (cp m7):=by
 have B:=Bt e;have Q:=Qt e
 exact bB (N:=u7) (pA e).fn kH (fun cdv A outer s H E hr=>(au (aQ kH.nd (gZ.l 2) (aS (zo e) (F7 e) (hr.mono (by decide)) (aa (gZ.nm 0) (aa (gZ.nm 1) ai)) (gZ.d 0) (gZ.g 0)))
  (au (dy (bR uw (bh _) (gZ.nm 1) aj) (aw (aQ kH.nd (gZ.l 2) (iV (gZ.nm 2)))) cF)
  (aw (aN (gd (aa (ba (sI hr rfl kH.gen kH.co) (gZ.nm 0) (gZ.nm 2)) (aa (ba (sI hr rfl kH.gen kH.co) (gZ.nm 1) (gZ.nm 2)) ai)))))))) Jp
theorem Ep:bC (KX w.params) mg "plus" "plus" ph ["one","other"] 35 (Hd.fd ph "plus" "plus" i_ 34):=Hd.ik e.X e.G (by kernel_rfl) fun _ _ _ _ _ _ _ _=>rfl
theorem Kq:bf PW w (KX w.params) mg base cj 3 35 (Hd.fd ph "plus" "plus" i_ 34) ["one","other"] (cp yQ):=by
 have B:=Bt e;have Q:=Qt e;exact bB (N:=vf) (Ep e).fn IS (fun cdv A outer s H E hr=>(aw (aN (aS (pA e) (qQ e) (hr.mono (by decide)) (aa (ba e7 (ba dz (aB (lK.nm 0) aj) (aB (lK.nm 1) aj)) (ba dz (aB (lK.nm 1) aj) (aB (lK.nm 0) aj))) (aa (ba dz (aB (lK.nm 0) aj) (aB (lK.nm 1) aj)) ai)) (lK.d 0) (lK.g 0))))) Jh
theorem AX:bC (KX w.params) mg "minus" "minus" mW ["one","other"] 42 (Hd.fd mW "minus" "minus" i_ 41):=Hd.ik e.X e.G (by kernel_rfl) fun _ _ _ _ _ _ _ _=>rfl
theorem Ju:bf PW w (KX w.params) mg base cj 3 42 (Hd.fd mW "minus" "minus" i_ 41) ["one","other"] (cp v7):=by
 have B:=Bt e;have Q:=Qt e;exact bB (N:=sL) (AX e).fn FU (fun cdv A outer s H E hr=>(aw (aN (aS (pA e) (qQ e) (hr.mono (by decide)) (aa (ba pN (ba dz (aB (jB.nm 0) aj) (aB (jB.nm 1) aj)) (ba dz (aB (jB.nm 1) aj) (aB (jB.nm 0) aj))) (aa (ba dz (aB (jB.nm 0) aj) (aB (jB.nm 1) aj)) ai)) (jB.d 0) (jB.g 0))))) Ge
theorem AL:bC (KX w.params) mg "times" "times" mQ ["one","other"] 49 (Hd.fd mQ "times" "times" i_ 48):=Hd.ik e.X e.G (by kernel_rfl) fun _ _ _ _ _ _ _ _=>rfl
theorem IV:bf PW w (KX w.params) mg base cj 3 49 (Hd.fd mQ "times" "times" i_ 48) ["one","other"] (cp vY):=by
 have B:=Bt e;have Q:=Qt e;exact bB (N:=rZ) (AL e).fn Fz (fun cdv A outer s H E hr=>(aw (aN (aS (pA e) (qQ e) (hr.mono (by decide)) (aa (ba dz (aB (mP.nm 0) aj) (aB (mP.nm 1) aj)) (aa (ba dz (aB (mP.nm 0) aj) (aB (mP.nm 1) aj)) ai)) (mP.d 0) (mP.g 0))))) Gk
theorem Ea:bC (KX w.params) mg "over" "over" o6 ["one","other"] 56 (Hd.fd o6 "over" "over" i_ 55):=Hd.ik e.X e.G (by kernel_rfl) fun _ _ _ _ _ _ _ _=>rfl
theorem LW:bf PW w (KX w.params) mg base cj 3 56 (Hd.fd o6 "over" "over" i_ 55) ["one","other"] (cp zT):=by
 have B:=Bt e;have Q:=Qt e;exact bB (N:=vh) (Ea e).fn HW (fun cdv A outer s H E hr=>(aw (aN (aS (pA e) (qQ e) (hr.mono (by decide)) (aa (ba dz (aB (oX.nm 0) aj) (aB (oX.nm 1) aj)) (aa (ba dz (aB (oX.nm 0) aj) (aB (oX.nm 1) aj)) ai)) (oX.d 0) (oX.g 0))))) Jw
theorem mT:bC (KX w.params) mg "whole" "whole" mX ["n"] 63 (Hd.fd mX "whole" "whole" i_ 62):=Hd.ni e.X e.G (by kernel_rfl) fun _ _ _ _ _ _ _=>rfl
theorem pz:bf PW w (KX w.params) mg base cj 1 63 (Hd.fd mX "whole" "whole" i_ 62) ["n"] (cp kX):=by
 have B:=Bt e;have Q:=Qt e;exact bB (N:=sD) (mT e).fn Fc (fun cdv A outer s H E hr=>(aw (aN (gd (aa (Iw.nm 0) (aa aj ai)))))) Gd
theorem rl:bC (KX w.params) mg "as_rows" "as_rows" iD ["rows"] 68 (Hd.fd iD "as_rows" "as_rows" ip 67):=Hd.ni e.X e.G (by kernel_rfl) fun _ _ _ _ _ _ _=>rfl
theorem wJ:bf PW w (KX w.params) mg base cj 1 68 (Hd.fd iD "as_rows" "as_rows" ip 67) ["rows"] (cp ot):=by
 have B:=Bt e;have Q:=Qt e;exact bB (N:=oa) (rl e).fn BY (fun cdv A outer s H E hr=>(aw (aN (eK eF (aa (dU (Nc:=["row"]) (bz.look (ag iD) ["rows"] (by decide+kernel)) (eV (rS.nm 0)) (fun _ _ _ _=>(c5 (show(["row"]:List Str).Nodup by decide+kernel) (by first|exact Or.inl rfl|exact Or.inr rfl) (by first|exact .inl rfl|exact .inr rfl))) (fun _ _ _ _=>cL) (fun _ _ _ _=>(eK eF (aa cA ai) B.dE rfl cW (by decide+kernel) rfl)) bZ) ai) B.dE rfl cW (rS.d 0) (rS.g 0))))) B_
theorem mS:bC (KX w.params) mg "added" "added" kG ["row","times","other"] 73 (Hd.fd kG "added" "added" ip 72):=Hd.Bq e.X e.G (by kernel_rfl) fun _ _ _ _ _ _ _ _ _=>rfl
theorem oY:bf PW w (KX w.params) mg base cj 1 73 (Hd.fd kG "added" "added" ip 72) ["row","times","other"] (cp kq):=by
 have B:=Bt e;have Q:=Qt e;exact bB (N:=sd) (mS e).fn Fq (fun cdv A outer s H E hr=>(aw (aN (dU (Nc:=["one","two","times"]) (bz.look (ag kG) ["row","times","other"] (by decide+kernel)) (BF (wb.g 0) B.CC (aa (wb.nm 0) (aa (wb.nm 2) ai))) (fun _ _ _ _=>(se rfl (show(["one","two","times"]:List Str).Nodup by decide+kernel) (by first|exact Or.inl rfl|exact Or.inr rfl) (by first|exact .inl rfl|exact .inr rfl) (by first|exact Or.inl rfl|exact Or.inr rfl) (by first|exact .inl rfl|exact .inr rfl))) (fun _ _ _ _=>cL) (fun _ _ _ _=>(ba e7 cA (ba dz cA cA))) Jj)))) FN
theorem uz:bC (KX w.params) mg "sum_by" "sum_by" kL ["weights","rows","wide"] 80 (Hd.fd kL "sum_by" "sum_by" ip 79):=Hd.Bq e.X e.G (by kernel_rfl) fun _ _ _ _ _ _ _ _ _=>rfl
theorem yo:bf PW w (KX w.params) mg base cj 2 80 (Hd.fd kL "sum_by" "sum_by" ip 79) ["weights","rows","wide"] (cp qf):=by
 have B:=Bt e;have Q:=Qt e
 exact bB (N:=pH) (uz e).fn oq (fun cdv A outer s H E hr=>(au (aQ oq.nd (d7.l 3) (ba dz (nX (aa aj ai)) (d7.nm 2)))
  (au (fv (BF (d7.g 0) B.CC (aa (d7.nm 0) (aa (d7.nm 1) ai))) (se rfl oq.nd (by first|exact Or.inl rfl|exact Or.inr rfl) (by first|exact .inl rfl|exact .inr rfl) (by first|exact Or.inl rfl|exact Or.inr rfl) (by first|exact .inl rfl|exact .inr rfl)) (aw (aQ oq.nd (d7.l 3) (aS (mS e) (oY e) (hr.mono (by decide)) (aa (d7.nm 3) (aa (d7.nm 4) (aa (d7.nm 5) ai))) (d7.d 1) (d7.g 1)))))
  (aw (aN (eK eF (aa (d7.nm 3) ai) B.dE rfl cW (d7.d 2) (d7.g 2))))))) EJ
theorem wN:bC (KX w.params) mg "product" "product" iu ["one","other"] 85 (Hd.fd iu "product" "product" ip 84):=Hd.ik e.X e.G (by kernel_rfl) fun _ _ _ _ _ _ _ _=>rfl
theorem EI:bf PW w (KX w.params) mg base cj 3 85 (Hd.fd iu "product" "product" ip 84) ["one","other"] (cp rN):=by
 have B:=Bt e;have Q:=Qt e
 exact bB (N:=nO) (wN e).fn vx (fun cdv A outer s H E hr=>(au (aQ vx.nd (ix.l 2) (bY dw (aa (aB (ix.nm 1) aj) ai) B.dq rfl cE (ix.d 0) (ix.g 0)))
  (aw (aN (eK eF (aa (dU (Nc:=["weights","other","wide"]) (bz.look (ag iu) ["one","other","wide"] (by decide+kernel)) (eV (ix.nm 0)) (fun _ _ _ _=>(c5 (show(["weights","other","wide"]:List Str).Nodup by decide+kernel) (by first|exact Or.inl rfl|exact Or.inr rfl) (by first|exact .inl rfl|exact .inr rfl))) (fun _ _ _ _=>cL) (fun _ _ _ _=>(aS (uz e) (yo e) (hr.mono (by decide)) (aa cA (aa cA (aa cA ai))) (by decide+kernel) rfl)) bZ) ai) B.dE rfl cW (ix.d 1) (ix.g 1)))))) Cp
theorem yf:bC (KX w.params) mg "column" "column" ju ["rows","place"] 90 (Hd.fd ju "column" "column" ip 89):=Hd.ik e.X e.G (by kernel_rfl) fun _ _ _ _ _ _ _ _=>rfl
theorem Fu:bf PW w (KX w.params) mg base cj 1 90 (Hd.fd ju "column" "column" ip 89) ["rows","place"] (cp tT):=by
 have B:=Bt e;have Q:=Qt e;exact bB (N:=p9) (yf e).fn D0 (fun cdv A outer s H E hr=>(aw (aN (eK eF (aa (dU (Nc:=["row","place"]) (bz.look (ag ju) ["rows","place"] (by decide+kernel)) (eV (tS.nm 0)) (fun _ _ _ _=>(c5 (show(["row","place"]:List Str).Nodup by decide+kernel) (by first|exact Or.inl rfl|exact Or.inr rfl) (by first|exact .inl rfl|exact .inr rfl))) (fun _ _ _ _=>cL) (fun _ _ _ _=>(aB cA cA)) bZ) ai) B.dE rfl cW (tS.d 0) (tS.g 0))))) DU
theorem mj:bC (KX w.params) mg "turned_over" "turned_over" e8 ["rows","wide"] 95 (Hd.fd e8 "turned_over" "turned_over" ip 94):=Hd.ik e.X e.G (by kernel_rfl) fun _ _ _ _ _ _ _ _=>rfl
theorem qv:bf PW w (KX w.params) mg base cj 2 95 (Hd.fd e8 "turned_over" "turned_over" ip 94) ["rows","wide"] (cp jn):=by
 have B:=Bt e;have Q:=Qt e;exact bB (N:=jh) (mj e).fn vX (fun cdv A outer s H E hr=>(aw (aN (eK eF (aa (dU (Nc:=["place","rows"]) (bz.look (ag e8) ["rows","wide"] (by decide+kernel)) (eJ (jd.g 0) B.d9 (aa (jd.nm 1) ai)) (fun _ _ _ _=>(c5 (show(["place","rows"]:List Str).Nodup by decide+kernel) (by first|exact Or.inl rfl|exact Or.inr rfl) (by first|exact .inl rfl|exact .inr rfl))) (fun _ _ _ _=>cL) (fun _ _ _ _=>(aS (yf e) (Fu e) (hr.mono (by decide)) (aa cA (aa cA ai)) (by decide+kernel) rfl)) bZ) ai) B.dE rfl cW (jd.d 1) (jd.g 1))))) vF
theorem vb:bC (KX w.params) mg "unit_row" "unit_row" gS ["n","place"] 100 (Hd.fd gS "unit_row" "unit_row" ip 99):=Hd.ik e.X e.G (by kernel_rfl) fun _ _ _ _ _ _ _ _=>rfl
theorem BW:bf PW w (KX w.params) mg base cj 1 100 (Hd.fd gS "unit_row" "unit_row" ip 99) ["n","place"] (cp qj):=by
 have B:=Bt e;have Q:=Qt e;exact bB (N:=mE) (vb e).fn Aq (fun cdv A outer s H E hr=>(aw (aN (eK eF (aa (dU (Nc:=["k","place"]) (bz.look (ag gS) ["n","place"] (by decide+kernel)) (eJ (mz.g 0) B.d9 (aa (mz.nm 0) ai)) (fun _ _ _ _=>(c5 (show(["k","place"]:List Str).Nodup by decide+kernel) (by first|exact Or.inl rfl|exact Or.inr rfl) (by first|exact .inl rfl|exact .inr rfl))) (fun _ _ _ _=>cL) (fun _ _ _ _=>(BE (bR (hV hr) (bh _) cA cA) aj aj)) bZ) ai) B.dE rfl cW (mz.d 1) (mz.g 1))))) Ae
theorem kY:bC (KX w.params) mg "unit_rows" "unit_rows" fW ["n"] 105 (Hd.fd fW "unit_rows" "unit_rows" ip 104):=Hd.ni e.X e.G (by kernel_rfl) fun _ _ _ _ _ _ _=>rfl
theorem oz:bf PW w (KX w.params) mg base cj 2 105 (Hd.fd fW "unit_rows" "unit_rows" ip 104) ["n"] (cp i9):=by
 have B:=Bt e;have Q:=Qt e;exact bB (N:=k6) (kY e).fn zQ (fun cdv A outer s H E hr=>(aw (aN (eK eF (aa (dU (Nc:=["place","n"]) (bz.look (ag fW) ["n"] (by decide+kernel)) (eJ (k9.g 0) B.d9 (aa (k9.nm 0) ai)) (fun _ _ _ _=>(c5 (show(["place","n"]:List Str).Nodup by decide+kernel) (by first|exact Or.inl rfl|exact Or.inr rfl) (by first|exact .inl rfl|exact .inr rfl))) (fun _ _ _ _=>cL) (fun _ _ _ _=>(aS (vb e) (BW e) (hr.mono (by decide)) (aa cA (aa cA ai)) (by decide+kernel) rfl)) bZ) ai) B.dE rfl cW (k9.d 1) (k9.g 1))))) zg
theorem jF:bC (KX w.params) mg "lead_of" "lead_of" jC ["row"] 112 (Hd.fd jC "lead_of" "lead_of" dM 111):=Hd.ni e.X e.G (by kernel_rfl) fun _ _ _ _ _ _ _=>rfl
theorem ma:bf PW w (KX w.params) mg base cj 1 112 (Hd.fd jC "lead_of" "lead_of" dM 111) ["row"] (cp iw):=by
 have B:=Bt e;have Q:=Qt e
 exact bB (N:=og) (jF e).fn uG (fun cdv A outer s H E hr=>(au (fv (EX (ox.g 0) B.sU (aa (ox.nm 0) ai)) (se rfl uG.nd (by first|exact Or.inl rfl|exact Or.inr rfl) (by first|exact .inl rfl|exact .inr rfl) (by first|exact Or.inl rfl|exact Or.inr rfl) (by first|exact .inl rfl|exact .inr rfl)) (aw (dy (bR oK (bh _) (ox.nm 2) aj) (aw (aN (ox.nm 1))) cF)))
  (aw (aN GB)))) B9
theorem l9:bC (KX w.params) mg "nearest_quotient" "nearest_quotient" dR ["top","bottom"] 119 (Hd.fd dR "nearest_quotient" "nearest_quotient" dM 118):=Hd.ik e.X e.G (by kernel_rfl) fun _ _ _ _ _ _ _ _=>rfl
theorem qU:bf PW w (KX w.params) mg base cj 1 119 (Hd.fd dR "nearest_quotient" "nearest_quotient" dM 118) ["top","bottom"] (cp iy):=by
 have B:=Bt e;have Q:=Qt e;exact bB (N:=fU) (l9 e).fn hZ (fun cdv A outer s H E hr=>(aw (aN (ba (sI hr rfl hZ.gen hZ.co) (ba e7 (ba dz aj (iA.nm 0)) (iA.nm 1)) (ba dz aj (iA.nm 1)))))) qw
theorem lB:bC (KX w.params) mg "exchanged" "exchanged" g7 ["rows","k","other"] 126 (Hd.fd g7 "exchanged" "exchanged" dM 125):=Hd.Bq e.X e.G (by kernel_rfl) fun _ _ _ _ _ _ _ _ _=>rfl
theorem oM:bf PW w (KX w.params) mg base cj 1 126 (Hd.fd g7 "exchanged" "exchanged" dM 125) ["rows","k","other"] (cp ja):=by
 have B:=Bt e;have Q:=Qt e
 exact bB (N:=lp) (lB e).fn rE (fun cdv A outer s H E hr=>(au (aQ rE.nd (cT.l 3) (eK AN (aa (cT.nm 0) ai) B.kl rfl iR (cT.d 0) (cT.g 0)))
  (au (dP (aB (cT.nm 0) (cT.nm 2)) (cT.nm 3) (cT.nm 1))
  (au (dP (aB (cT.nm 0) (cT.nm 1)) (cT.nm 3) (cT.nm 2))
  (aw (aN (cT.nm 3))))))) zJ
theorem nV:bC (KX w.params) mg "negated" "negated" iJ ["row"] 131 (Hd.fd iJ "negated" "negated" dM 130):=Hd.ni e.X e.G (by kernel_rfl) fun _ _ _ _ _ _ _=>rfl
theorem qH:bf PW w (KX w.params) mg base cj 1 131 (Hd.fd iJ "negated" "negated" dM 130) ["row"] (cp lS):=by
 have B:=Bt e;have Q:=Qt e;exact bB (N:=n_) (nV e).fn Cw (fun cdv A outer s H E hr=>(aw (aN (dU (Nc:=["number"]) (bz.look (ag iJ) ["row"] (by decide+kernel)) (eV (Eu.nm 0)) (fun _ _ _ _=>(c5 (show(["number"]:List Str).Nodup by decide+kernel) (by first|exact Or.inl rfl|exact Or.inr rfl) (by first|exact .inl rfl|exact .inr rfl))) (fun _ _ _ _=>cL) (fun _ _ _ _=>(iV cA)) bZ)))) CB
theorem gJ:MethAt (KX w.params) aC "__init__" "Bench.__init__" cN ["self","rows"] 143 (Hd.fd cN "__init__" "Bench.__init__" dM 142):=Hd.Oo (by kernel_rfl) fun _ _ _ _ _ _ _ _=>rfl
theorem tO:bf PW w (KX w.params) mg base cj 3 143 (Hd.fd cN "__init__" "Bench.__init__" dM 142) ["self","rows"] (cp jq):=by
 have B:=Bt e;have Q:=Qt e
 exact bB (N:=gQ) (gJ e).fn sQ (fun cdv A outer s H E hr=>(au (mV Q.aX.cl Q.bU (bL.nm 0) (vU (Nc:=["row"]) (bz.look (ag cN) ["self","rows"] (by decide+kernel)) (eV (bL.nm 1)) (fun _ _ _ _=>(c5 (show(["row"]:List Str).Nodup by decide+kernel) (by first|exact Or.inl rfl|exact Or.inr rfl) (by first|exact .inl rfl|exact .inr rfl))) (fun _ _ _ _=>cL) (fun _ _ _ _=>(eK nt (aa cA ai) B.kl rfl iR (by decide+kernel) rfl)) bZ))
  (au (mV Q.aX.cl Q.d3 (bL.nm 0) (vU (Nc:=["row"]) (bz.look (ag cN) ["self","rows"] (by decide+kernel)) (eV (aS (kY e) (oz e) (hr.mono (by decide)) (aa (bY dw (aa (bL.nm 1) ai) B.dq rfl cE (bL.d 0) (bL.g 0)) ai) (bL.d 1) (bL.g 1))) (fun _ _ _ _=>(c5 (show(["row"]:List Str).Nodup by decide+kernel) (by first|exact Or.inl rfl|exact Or.inr rfl) (by first|exact .inl rfl|exact .inr rfl))) (fun _ _ _ _=>cL) (fun _ _ _ _=>(eK nt (aa cA ai) B.kl rfl iR (by decide+kernel) rfl)) bZ))
  (aw (mV Q.aX.cl Q.cn (bL.nm 0) (vU (Nc:=["row"]) (bz.look (ag cN) ["self","rows"] (by decide+kernel)) (eV (aS (kY e) (oz e) (hr.mono (by decide)) (aa (bY dw (aa (bL.nm 1) ai) B.dq rfl cE (bL.d 0) (bL.g 0)) ai) (bL.d 1) (bL.g 1))) (fun _ _ _ _=>(c5 (show(["row"]:List Str).Nodup by decide+kernel) (by first|exact Or.inl rfl|exact Or.inr rfl) (by first|exact .inl rfl|exact .inr rfl))) (fun _ _ _ _=>cL) (fun _ _ _ _=>(eK nt (aa cA ai) B.kl rfl iR (by decide+kernel) rfl)) bZ)))))) sM
theorem iI:MethAt (KX w.params) aC "take" "Bench.take" gw ["self","k","times","other"] 150 (Hd.fd gw "take" "Bench.take" dM 149):=Hd.Qg (by kernel_rfl) fun _ _ _ _ _ _ _ _ _ _=>rfl
theorem qD:bf PW w (KX w.params) mg base cj 2 150 (Hd.fd gw "take" "Bench.take" dM 149) ["self","k","times","other"] (cp jU):=by
 have B:=Bt e;have Q:=Qt e
 exact bB (N:=ka) (iI e).fn xJ (fun cdv A outer s H E hr=>(au (dP (aS (mS e) (oY e) (hr.mono (by decide)) (aa (aB (cX Q.aX.cl Q.bU (aV.nm 0)) (aV.nm 1)) (aa (iV (aV.nm 2)) (aa (aB (cX Q.aX.cl Q.bU (aV.nm 0)) (aV.nm 3)) ai))) (aV.d 0) (aV.g 0)) (cX Q.aX.cl Q.bU (aV.nm 0)) (aV.nm 1))
  (au (dP (aS (mS e) (oY e) (hr.mono (by decide)) (aa (aB (cX Q.aX.cl Q.d3 (aV.nm 0)) (aV.nm 1)) (aa (iV (aV.nm 2)) (aa (aB (cX Q.aX.cl Q.d3 (aV.nm 0)) (aV.nm 3)) ai))) (aV.d 0) (aV.g 0)) (cX Q.aX.cl Q.d3 (aV.nm 0)) (aV.nm 1))
  (aw (dP (aS (mS e) (oY e) (hr.mono (by decide)) (aa (aB (cX Q.aX.cl Q.cn (aV.nm 0)) (aV.nm 3)) (aa (aV.nm 2) (aa (aB (cX Q.aX.cl Q.cn (aV.nm 0)) (aV.nm 1)) ai))) (aV.d 0) (aV.g 0)) (cX Q.aX.cl Q.cn (aV.nm 0)) (aV.nm 3)))))) xG
theorem js:MethAt (KX w.params) aC "exchange" "Bench.exchange" eH ["self","k","other"] 157 (Hd.fd eH "exchange" "Bench.exchange" dM 156):=Hd.GU (by kernel_rfl) fun _ _ _ _ _ _ _ _ _=>rfl
theorem uu:bf PW w (KX w.params) mg base cj 2 157 (Hd.fd eH "exchange" "Bench.exchange" dM 156) ["self","k","other"] (cp jx):=by
 have B:=Bt e;have Q:=Qt e
 exact bB (N:=gR) (js e).fn sN (fun cdv A outer s H E hr=>(au (mV Q.aX.cl Q.bU (a_.nm 0) (aS (lB e) (oM e) (hr.mono (by decide)) (aa (cX Q.aX.cl Q.bU (a_.nm 0)) (aa (a_.nm 1) (aa (a_.nm 2) ai))) (a_.d 0) (a_.g 0)))
  (au (mV Q.aX.cl Q.d3 (a_.nm 0) (aS (lB e) (oM e) (hr.mono (by decide)) (aa (cX Q.aX.cl Q.d3 (a_.nm 0)) (aa (a_.nm 1) (aa (a_.nm 2) ai))) (a_.d 0) (a_.g 0)))
  (aw (mV Q.aX.cl Q.cn (a_.nm 0) (aS (lB e) (oM e) (hr.mono (by decide)) (aa (cX Q.aX.cl Q.cn (a_.nm 0)) (aa (a_.nm 1) (aa (a_.nm 2) ai))) (a_.d 0) (a_.g 0))))))) sO
theorem h7:MethAt (KX w.params) aC "change_sign" "Bench.change_sign" dB ["self","k"] 164 (Hd.fd dB "change_sign" "Bench.change_sign" dM 163):=Hd.Oo (by kernel_rfl) fun _ _ _ _ _ _ _ _=>rfl
theorem qz:bf PW w (KX w.params) mg base cj 2 164 (Hd.fd dB "change_sign" "Bench.change_sign" dM 163) ["self","k"] (cp h8):=by
 have B:=Bt e;have Q:=Qt e
 exact bB (N:=fG) (h7 e).fn pM (fun cdv A outer s H E hr=>(au (dP (aS (nV e) (qH e) (hr.mono (by decide)) (aa (aB (cX Q.aX.cl Q.bU (aU.nm 0)) (aU.nm 1)) ai) (aU.d 0) (aU.g 0)) (cX Q.aX.cl Q.bU (aU.nm 0)) (aU.nm 1))
  (au (dP (aS (nV e) (qH e) (hr.mono (by decide)) (aa (aB (cX Q.aX.cl Q.d3 (aU.nm 0)) (aU.nm 1)) ai) (aU.d 0) (aU.g 0)) (cX Q.aX.cl Q.d3 (aU.nm 0)) (aU.nm 1))
  (aw (dP (aS (nV e) (qH e) (hr.mono (by decide)) (aa (aB (cX Q.aX.cl Q.cn (aU.nm 0)) (aU.nm 1)) ai) (aU.d 0) (aU.g 0)) (cX Q.aX.cl Q.cn (aU.nm 0)) (aU.nm 1)))))) qp
theorem gf:MethAt (KX w.params) aC "live_rows" "Bench.live_rows" cV ["self","top","place"] 169 (Hd.fd cV "live_rows" "Bench.live_rows" dM 168):=Hd.GU (by kernel_rfl) fun _ _ _ _ _ _ _ _ _=>rfl
theorem mq:bf PW w (KX w.params) mg base cj 3 169 (Hd.fd cV "live_rows" "Bench.live_rows" dM 168) ["self","top","place"] (cp gg):=by
 have B:=Bt e;have Q:=Qt e;have hC:PySem.W.codeHdIn (KX w.params) 168 166=true:=by kernel_rfl
 exact KS (N:=gh) (Hd.fc (by kernel_rfl)) lE (fun A outer s H E hr=>(au (vH lE.nd (cU.l 3) (Nc:=["k","self","place"]) (bz.look (ag cV) ["self","top","place","live"] (by decide+kernel)) (yT (cU.g 1) B.d9 (aa (cU.nm 1) (aa (bY dw (aa (cX Q.aX.cl Q.bU (cU.nm 0)) ai) B.dq rfl cE (cU.d 0) (cU.g 0)) ai))) (fun _ _ _ _=>(c5 (show(["k","self","place"]:List Str).Nodup by decide+kernel) (by first|exact Or.inl rfl|exact Or.inr rfl) (by first|exact .inl rfl|exact .inr rfl))) (fun _ _ _ _=>(uS (bR oK (bh _) (aB (aB (cX Q.aX.cl Q.bU cA) cA) cA) aj))) (fun _ _ _ _=>cA) bZ)
  (aw (aN (HY (c0:=168) (mB.look (Nc:=["k","self","place"]) (fr:=[none,some 0,some 2]) (p:="k") (bz.look (ag cV) ["self","top","place","live"] (by decide+kernel))) rfl hr rfl hC (fun _ _ _ _=>(bY qo (aa (aB (aB (cX Q.aX.cl Q.bU cA) cA) cA) ai) B.qb rfl nk (by decide+kernel) rfl)) (cU.nm 3) (cU.g 2) B.Gp))))) rQ
theorem ky:MethAt (KX w.params) aC "gather" "Bench.gather" fj ["self","top","place"] 176 (Hd.fd fj "gather" "Bench.gather" dM 175):=Hd.GU (by kernel_rfl) fun _ _ _ _ _ _ _ _ _=>rfl
theorem wo:bf PW w (KX w.params) mg base cj 4 176 (Hd.fd fj "gather" "Bench.gather" dM 175) ["self","top","place"] (cp kR):=by
 have B:=Bt e;have Q:=Qt e
 exact bB (N:=iQ) (ky e).fn fN (fun cdv A outer s H E hr=>(au (aQ fN.nd (aA.l 3) (l8 (aA.nm 0) Q.aX.cl (gf e).me (mq e) (hr.mono (by decide)) (gf e).bd (aa (aA.nm 1) (aa (aA.nm 2) ai))))
  (au (t_ (bR zu (bh _) (bY dw (aa (aA.nm 3) ai) B.dq rfl cE (aA.d 0) (aA.g 0)) aj) (au (aQ fN.nd (aA.l 4) (aB (aA.nm 3) (iV aj)))
  (au (aQ fN.nd (aA.l 5) (aB (aA.nm 3) (iV aj)))
  (au (kK (l8 (aA.nm 0) Q.aX.cl (iI e).me (qD e) (hr.mono (by decide)) (iI e).bd (aa (aA.nm 4) (aa (aS (l9 e) (qU e) (hr.mono (by decide)) (aa (aB (aB (cX Q.aX.cl Q.bU (aA.nm 0)) (aA.nm 4)) (aA.nm 2)) (aa (aB (aB (cX Q.aX.cl Q.bU (aA.nm 0)) (aA.nm 5)) (aA.nm 2)) ai)) (aA.d 1) (aA.g 1)) (aa (aA.nm 5) ai)))))
  (aw (aQ fN.nd (aA.l 3) (l8 (aA.nm 0) Q.aX.cl (gf e).me (mq e) (hr.mono (by decide)) (gf e).bd (aa (aA.nm 1) (aa (aA.nm 2) ai)))))))))
  (au (dy (bR (hV hr) (bh _) (bY dw (aa (aA.nm 3) ai) B.dq rfl cE (aA.d 0) (aA.g 0)) aj) (aw (aN jr)) cF)
  (au (kK (l8 (aA.nm 0) Q.aX.cl (js e).me (uu e) (hr.mono (by decide)) (js e).bd (aa (aA.nm 1) (aa (aB (aA.nm 3) aj) ai))))
  (au (dy (bR uw (bh _) (aB (aB (cX Q.aX.cl Q.bU (aA.nm 0)) (aA.nm 1)) (aA.nm 2)) aj) (aw (kK (l8 (aA.nm 0) Q.aX.cl (h7 e).me (qz e) (hr.mono (by decide)) (h7 e).bd (aa (aA.nm 1) ai)))) cF)
  (aw (aN jr)))))))) uE
theorem ij:MethAt (KX w.params) aC "lower_above" "Bench.lower_above" dD ["self","top","place"] 183 (Hd.fd dD "lower_above" "Bench.lower_above" dM 182):=Hd.GU (by kernel_rfl) fun _ _ _ _ _ _ _ _ _=>rfl
theorem qA:bf PW w (KX w.params) mg base cj 3 183 (Hd.fd dD "lower_above" "Bench.lower_above" dM 182) ["self","top","place"] (cp ia):=by
 have B:=Bt e;have Q:=Qt e;exact bB (N:=fE) (ij e).fn fh (fun cdv A outer s H E hr=>(aw (fv (eJ (bP.g 0) B.d9 (aa (bP.nm 1) ai)) (c5 fh.nd (by first|exact Or.inl rfl|exact Or.inr rfl) (by first|exact .inl rfl|exact .inr rfl)) (aw (kK (l8 (bP.nm 0) Q.aX.cl (iI e).me (qD e) (hr.mono (by decide)) (iI e).bd (aa (bP.nm 3) (aa (ba (sI hr rfl fh.gen fh.co) (aB (aB (cX Q.aX.cl Q.bU (bP.nm 0)) (bP.nm 3)) (bP.nm 2)) (aB (aB (cX Q.aX.cl Q.bU (bP.nm 0)) (bP.nm 1)) (bP.nm 2))) (aa (bP.nm 1) ai))))))))) qg
theorem mM:bC (KX w.params) mg "standing" "standing" iK ["rows"] 197 (Hd.fd iK "standing" "standing" dM 196):=Hd.ni e.X e.G (by kernel_rfl) fun _ _ _ _ _ _ _=>rfl
theorem ql:bf PW w (KX w.params) mg base cj 5 197 (Hd.fd iK "standing" "standing" dM 196) ["rows"] (cp jS):=by
 have B:=Bt e;have Q:=Qt e
 exact bB (N:=mF) (mM e).fn g9 (fun cdv A outer s H E hr=>(au (aQ g9.nd (a5.l 1) (Kg ⟨Q.aX.Qm,(gJ e).me.at_,(gJ e).me.fn,Q.aX.kp⟩ (tO e) (hr.mono (by decide)) (a5.g 0) Q.aX.mg (gJ e).bd (aa (a5.nm 0) ai) (a5.d 0)))
  (au (aQ g9.nd (a5.l 2) aj)
  (au (fv (eJ (a5.g 2) B.d9 (aa (bY dw (aa (aB (a5.nm 0) aj) ai) B.dq rfl cE (a5.d 1) (a5.g 1)) ai)) (c5 g9.nd (by first|exact Or.inl rfl|exact Or.inr rfl) (by first|exact .inl rfl|exact .inr rfl)) (aw (dy (gD (l8 (a5.nm 1) Q.aX.cl (ky e).me (wo e) (hr.mono (by decide)) (ky e).bd (aa (a5.nm 2) (aa (a5.nm 3) ai)))) (au (kK (l8 (a5.nm 1) Q.aX.cl (ij e).me (qA e) (hr.mono (by decide)) (ij e).bd (aa (a5.nm 2) (aa (a5.nm 3) ai))))
  (aw (L6 g9.nd (a5.l 2) aj KL))) cF)))
  (au (aQ g9.nd (a5.l 4) (aS (mj e) (qv e) (hr.mono (by decide)) (aa (cX Q.aX.cl Q.cn (a5.nm 1)) (aa (bY dw (aa (a5.nm 0) ai) B.dq rfl cE (a5.d 1) (a5.g 1)) ai)) (a5.d 3) (a5.g 3)))
  (aw (aN (gd (aa (aS (rl e) (wJ e) (hr.mono (by decide)) (aa (jG (cX Q.aX.cl Q.bU (a5.nm 1)) jA (jz (a5.nm 2))) ai) (a5.d 4) (a5.g 4)) (aa (aS (rl e) (wJ e) (hr.mono (by decide)) (aa (cX Q.aX.cl Q.d3 (a5.nm 1)) ai) (a5.d 4) (a5.g 4)) (aa (a5.nm 4) ai))))))))))) Av
theorem qR:bC (KX w.params) mg "weighed" "weighed" jH ["form","row"] 204 (Hd.fd jH "weighed" "weighed" dM 203):=Hd.ik e.X e.G (by kernel_rfl) fun _ _ _ _ _ _ _ _=>rfl
theorem wY:bf PW w (KX w.params) mg base cj 2 204 (Hd.fd jH "weighed" "weighed" dM 203) ["form","row"] (cp oj):=by
 have B:=Bt e;have Q:=Qt e
 exact bB (N:=nW) (qR e).fn gM (fun cdv A outer s H E hr=>(au (aQ gM.nd (bj.l 2) (xT ai))
  (au (aQ gM.nd (bj.l 3) (eK nt (aa (bj.nm 1) ai) B.kl rfl iR (bj.d 0) (bj.g 0)))
  (au (fv (eV (bj.nm 0)) (c5 gM.nd (by first|exact Or.inl rfl|exact Or.inr rfl) (by first|exact .inl rfl|exact .inr rfl)) (au (aQ gM.nd (bj.l 5) (aS (jF e) (ma e) (hr.mono (by decide)) (aa (bj.nm 4) ai) (bj.d 1) (bj.g 1)))
  (au (aQ gM.nd (bj.l 6) (ba qZ (aB (bj.nm 3) (bj.nm 5)) (aB (bj.nm 4) (bj.nm 5))))
  (au (kK (DL (bj.nm 2) (bj.nm 6)))
  (aw (aQ gM.nd (bj.l 3) (aS (mS e) (oY e) (hr.mono (by decide)) (aa (bj.nm 3) (aa (iV (bj.nm 6)) (aa (bj.nm 4) ai))) (bj.d 2) (bj.g 2))))))))
  (aw (aN (gd (aa (eK eF (aa (bj.nm 2) ai) B.dE rfl cW (bj.d 3) (bj.g 3)) (aa (eK eF (aa (bj.nm 3) ai) B.dE rfl cW (bj.d 3) (bj.g 3)) ai))))))))) BS
theorem AK:bC (KX w.params) mg "falls" "falls" mY ["form","row"] 211 (Hd.fd mY "falls" "falls" dM 210):=Hd.ik e.X e.G (by kernel_rfl) fun _ _ _ _ _ _ _ _=>rfl
theorem Jt:bf PW w (KX w.params) mg base cj 3 211 (Hd.fd mY "falls" "falls" dM 210) ["form","row"] (cp wy):=by
 have B:=Bt e;have Q:=Qt e;exact bB (N:=sx) (AK e).fn FE (fun cdv A outer s H E hr=>(aw (aN (aB (aS (qR e) (wY e) (hr.mono (by decide)) (aa (sy.nm 0) (aa (sy.nm 1) ai)) (sy.d 0) (sy.g 0)) aj)))) Fd
theorem sZ:bC (KX w.params) mg "parts_dot" "parts_dot" g8 ["parts","row"] 218 (Hd.fd g8 "parts_dot" "parts_dot" uW 217):=Hd.ik e.X e.G (by kernel_rfl) fun _ _ _ _ _ _ _ _=>rfl
theorem Ai:bf PW w (KX w.params) mg base cj 4 218 (Hd.fd g8 "parts_dot" "parts_dot" uW 217) ["parts","row"] (cp oO):=by
 have B:=Bt e;have Q:=Qt e
 exact bB (N:=la) (sZ e).fn j4 (fun cdv A outer s H E hr=>(au (aQ j4.nd (cq.l 2) (aS (mT e) (pz e) (hr.mono (by decide)) (aa aj ai) (cq.d 0) (cq.g 0)))
  (au (fv (BF (cq.g 1) B.CC (aa (cq.nm 0) (aa (cq.nm 1) ai))) (se rfl j4.nd (by first|exact Or.inl rfl|exact Or.inr rfl) (by first|exact .inl rfl|exact .inr rfl) (by first|exact Or.inl rfl|exact Or.inr rfl) (by first|exact .inl rfl|exact .inr rfl)) (aw (aQ j4.nd (cq.l 2) (aS (Ep e) (Kq e) (hr.mono (by decide)) (aa (cq.nm 2) (aa (aS (AL e) (IV e) (hr.mono (by decide)) (aa (cq.nm 3) (aa (aS (mT e) (pz e) (hr.mono (by decide)) (aa (cq.nm 4) ai) (cq.d 0) (cq.g 0)) ai)) (cq.d 2) (cq.g 2)) ai)) (cq.d 3) (cq.g 3)))))
  (aw (aN (cq.nm 2)))))) yx
theorem td:bC (KX w.params) mg "bottom_at" "bottom_at" hO ["form","rest","place"] 225 (Hd.fd hO "bottom_at" "bottom_at" uW 224):=Hd.Bq e.X e.G (by kernel_rfl) fun _ _ _ _ _ _ _ _ _=>rfl
theorem Aw:bf PW w (KX w.params) mg base cj 2 225 (Hd.fd hO "bottom_at" "bottom_at" uW 224) ["form","rest","place"] (cp oA):=by
 have B:=Bt e;have Q:=Qt e
 exact bB (N:=kZ) (td e).fn qM (fun cdv A outer s H E hr=>(au (fv (eV (dJ.nm 0)) (c5 qM.nd (by first|exact Or.inl rfl|exact Or.inr rfl) (by first|exact .inl rfl|exact .inr rfl)) (aw (dy (bR (hV hr) (bh _) (aS (jF e) (ma e) (hr.mono (by decide)) (aa (dJ.nm 3) ai) (dJ.d 0) (dJ.g 0)) (dJ.nm 2)) (aw (aN (aB (dJ.nm 3) (dJ.nm 2)))) cF)))
  (aw (aN (ba dz aj (bY qo (aa (aB (dJ.nm 1) (dJ.nm 2)) ai) B.qb rfl nk (dJ.d 1) (dJ.g 1))))))) yV
theorem om:bC (KX w.params) mg "parts_against" "parts_against" eY ["form","rest"] 232 (Hd.fd eY "parts_against" "parts_against" uW 231):=Hd.ik e.X e.G (by kernel_rfl) fun _ _ _ _ _ _ _ _=>rfl
theorem u4:bf PW w (KX w.params) mg base cj 5 232 (Hd.fd eY "parts_against" "parts_against" uW 231) ["form","rest"] (cp jT):=by
 have B:=Bt e;have Q:=Qt e
 exact bB (N:=iq) (om e).fn eA (fun cdv A outer s H E hr=>(au (aQ eA.nd (aq.l 2) (aS (jF e) (ma e) (hr.mono (by decide)) (aa (aq.nm 1) ai) (aq.d 0) (aq.g 0)))
  (au (aQ eA.nd (aq.l 3) (ba Lq (nX (aa (aS (mT e) (pz e) (hr.mono (by decide)) (aa aj ai) (aq.d 1) (aq.g 1)) ai)) (bY dw (aa (aq.nm 1) ai) B.dq rfl cE (aq.d 2) (aq.g 2))))
  (au (dP (aS (pA e) (qQ e) (hr.mono (by decide)) (aa aj (aa (aS (td e) (Aw e) (hr.mono (by decide)) (aa (aq.nm 0) (aa (aq.nm 1) (aa (aq.nm 2) ai))) (aq.d 3) (aq.g 3)) ai)) (aq.d 4) (aq.g 4)) (aq.nm 3) (aq.nm 2))
  (au (fv (FD (aq.g 5) B.d9 (aa (ba pN (bY dw (aa (aq.nm 0) ai) B.dq rfl cE (aq.d 2) (aq.g 2)) aj) (aa (iV aj) (aa (iV aj) ai)))) (c5 eA.nd (by first|exact Or.inl rfl|exact Or.inr rfl) (by first|exact .inl rfl|exact .inr rfl)) (au (aQ eA.nd (aq.l 5) (aS (jF e) (ma e) (hr.mono (by decide)) (aa (aB (aq.nm 0) (aq.nm 4)) ai) (aq.d 0) (aq.g 0)))
  (aw (dy (bR uw (bh _) (aq.nm 5) (aq.nm 2)) (au (aQ eA.nd (aq.l 6) (aS (AX e) (Ju e) (hr.mono (by decide)) (aa (aS (mT e) (pz e) (hr.mono (by decide)) (aa aj ai) (aq.d 1) (aq.g 1)) (aa (aS (sZ e) (Ai e) (hr.mono (by decide)) (aa (aq.nm 3) (aa (aB (aq.nm 0) (aq.nm 4)) ai)) (aq.d 6) (aq.g 6)) ai)) (aq.d 7) (aq.g 7)))
  (aw (dP (aS (Ea e) (LW e) (hr.mono (by decide)) (aa (aq.nm 6) (aa (aS (mT e) (pz e) (hr.mono (by decide)) (aa (aB (aB (aq.nm 0) (aq.nm 4)) (aq.nm 5)) ai) (aq.d 1) (aq.g 1)) ai)) (aq.d 8) (aq.g 8)) (aq.nm 3) (aq.nm 5)))) cF))))
  (aw (aN (eK eF (aa (aq.nm 3) ai) B.dE rfl cW (aq.d 9) (aq.g 9))))))))) uA
theorem pj:bC (KX w.params) mg "steps_behind" "steps_behind" fm ["turn","many"] 239 (Hd.fd fm "steps_behind" "steps_behind" A7 238):=Hd.ik e.X e.G (by kernel_rfl) fun _ _ _ _ _ _ _ _=>rfl
theorem v9:bf PW w (KX w.params) mg base cj 6 239 (Hd.fd fm "steps_behind" "steps_behind" A7 238) ["turn","many"] (cp kF):=by
 have B:=Bt e;have Q:=Qt e;exact bB (N:=iP) (pj e).fn uZ (fun cdv A outer s H E hr=>(aw (aN (BE (bR uw (bh _) (dS.nm 1) (bY dw (aa (dS.nm 0) ai) B.dq rfl cE (dS.d 0) (dS.g 0))) (aB (aS (mM e) (ql e) (hr.mono (by decide)) (aa (jG (dS.nm 0) (jz (dS.nm 1)) jA) ai) (dS.d 1) (dS.g 1)) aj) (gd ai))))) uV
theorem xp:bC (KX w.params) mg "answers" "answers" jI ["rows","due"] 246 (Hd.fd jI "answers" "answers" A7 245):=Hd.ik e.X e.G (by kernel_rfl) fun _ _ _ _ _ _ _ _=>rfl
theorem EN:bf PW w (KX w.params) mg base cj 7 246 (Hd.fd jI "answers" "answers" A7 245) ["rows","due"] (cp rD):=by
 have B:=Bt e;have Q:=Qt e
 exact bB (N:=ow) (xp e).fn fS (fun cdv A outer s H E hr=>(au (aQ fS.nd (aJ.l 2) (bY dw (aa (aB (aJ.nm 0) aj) ai) B.dq rfl cE (aJ.d 0) (aJ.g 0)))
  (au (aQ fS.nd (aJ.l 3) (aS (mM e) (ql e) (hr.mono (by decide)) (aa (aS (mj e) (qv e) (hr.mono (by decide)) (aa (aJ.nm 0) (aa (aJ.nm 2) ai)) (aJ.d 1) (aJ.g 1)) ai) (aJ.d 2) (aJ.g 2)))
  (au (aQ fS.nd (aJ.l 4) (aB (aJ.nm 3) aj))
  (au (aQ fS.nd (aJ.l 5) (aB (aJ.nm 3) aj))
  (au (aQ fS.nd (aJ.l 6) (aS (qR e) (wY e) (hr.mono (by decide)) (aa (aJ.nm 4) (aa (aJ.nm 1) ai)) (aJ.d 3) (aJ.g 3)))
  (au (dy (bR LP (bh _) (aS (jF e) (ma e) (hr.mono (by decide)) (aa (aB (aJ.nm 6) aj) ai) (aJ.d 4) (aJ.g 4)) GB) (aw (aN (gd (aa GW (aa (aS (om e) (u4 e) (hr.mono (by decide)) (aa (aJ.nm 4) (aa (aB (aJ.nm 6) aj) ai)) (aJ.d 5) (aJ.g 5)) ai))))) cF)
  (au (aQ fS.nd (aJ.l 7) (aS (pj e) (v9 e) (hr.mono (by decide)) (aa (aJ.nm 5) (aa (bY dw (aa (aJ.nm 4) ai) B.dq rfl cE (aJ.d 0) (aJ.g 0)) ai)) (aJ.d 6) (aJ.g 6)))
  (au (aQ fS.nd (aJ.l 8) (aS (AK e) (Jt e) (hr.mono (by decide)) (aa (aJ.nm 7) (aa (aS (uz e) (yo e) (hr.mono (by decide)) (aa (aB (aJ.nm 6) aj) (aa (jG (aJ.nm 5) jA (jz (bY dw (aa (aJ.nm 4) ai) B.dq rfl cE (aJ.d 0) (aJ.g 0)))) (aa (aJ.nm 2) ai))) (aJ.d 7) (aJ.g 7)) ai)) (aJ.d 8) (aJ.g 8)))
  (aw (aN (gd (aa GW (aa (aJ.nm 8) (aa (aJ.nm 7) (aa (aJ.nm 5) (aa (aB (aJ.nm 3) aj) ai))))))))))))))))) BL
theorem vM:bC (KX w.params) mg "space" "space" mR ["wide","rows"] 253 (Hd.fd mR "space" "space" uN 252):=Hd.ik e.X e.G (by kernel_rfl) fun _ _ _ _ _ _ _ _=>rfl
theorem A8:bf PW w (KX w.params) mg base cj 6 253 (Hd.fd mR "space" "space" uN 252) ["wide","rows"] (cp su):=by
 have B:=Bt e;have Q:=Qt e;exact bB (N:=sf) (vM e).fn Gh (fun cdv A outer s H E hr=>(aw (aN (gd (aa (kU.nm 0) (aa (BE (bR zu (bh _) (bY dw (aa (kU.nm 1) ai) B.dq rfl cE (kU.d 0) (kU.g 0)) aj) (aB (aS (mM e) (ql e) (hr.mono (by decide)) (aa (kU.nm 1) ai) (kU.d 1) (kU.g 1)) aj) (gd ai)) ai)))))) FG
theorem uc:bC (KX w.params) mg "beside" "beside" kO ["one"] 260 (Hd.fd kO "beside" "beside" uN 259):=Hd.ni e.X e.G (by kernel_rfl) fun _ _ _ _ _ _ _=>rfl
theorem y6:bf PW w (KX w.params) mg base cj 8 260 (Hd.fd kO "beside" "beside" uN 259) ["one"] (cp pQ):=by
 have B:=Bt e;have Q:=Qt e
 exact bB (N:=pU) (uc e).fn C1 (fun cdv A outer s H E hr=>(au (dy (bR (hV hr) (bh _) (bY dw (aa (aB (dZ.nm 0) aj) ai) B.dq rfl cE (dZ.d 0) (dZ.g 0)) aj) (aw (aN (gd (aa (aB (dZ.nm 0) aj) (aa (aS (kY e) (oz e) (hr.mono (by decide)) (aa (aB (dZ.nm 0) aj) ai) (dZ.d 1) (dZ.g 1)) ai))))) cF)
  (aw (aN (gd (aa (aB (dZ.nm 0) aj) (aa (aB (aS (xp e) (EN e) (hr.mono (by decide)) (aa (aB (dZ.nm 0) aj) (aa (ba dz (gd (aa aj ai)) (bY dw (aa (aB (dZ.nm 0) aj) ai) B.dq rfl cE (dZ.d 0) (dZ.g 0))) ai)) (dZ.d 2) (dZ.g 2)) aj) ai))))))) Ei
theorem pd:bC (KX w.params) mg "flat" "flat" o_ ["one"] 267 (Hd.fd o_ "flat" "flat" uN 266):=Hd.ni e.X e.G (by kernel_rfl) fun _ _ _ _ _ _ _=>rfl
theorem qE:bf PW w (KX w.params) mg base cj 9 267 (Hd.fd o_ "flat" "flat" uN 266) ["one"] (cp nD):=by
 have B:=Bt e;have Q:=Qt e;exact bB (N:=vd) (pd e).fn HZ (fun cdv A outer s H E hr=>(aw (aN (aS (uc e) (y6 e) (hr.mono (by decide)) (aa (aS (uc e) (y6 e) (hr.mono (by decide)) (aa (rq.nm 0) ai) (rq.d 0) (rq.g 0)) ai) (rq.d 0) (rq.g 0))))) HU
theorem uM:bC (KX w.params) mg "_law_hand" "_law_hand" iM ["_law_script"] 274 (Hd.fd iM "_law_hand" "_law_hand" df 273):=Hd.ni e.X e.G (by kernel_rfl) fun _ _ _ _ _ _ _=>rfl
theorem Cf:bf PW w (KX w.params) mg base cj 1 274 (Hd.fd iM "_law_hand" "_law_hand" df 273) ["_law_script"] (cp p7):=by
 have B:=Bt e;have Q:=Qt e
 exact bB (N:=my) (uM e).fn tx (fun cdv A outer s H E hr=>(au (aQ tx.nd (cQ.l 1) (bY (GO rfl) (aa (jG (cQ.nm 0) jA (jz aj)) ai) B.GJ rfl Dh (cQ.d 0) (cQ.g 0)))
  (aw (aN (xT (aa (eK nt (aa (jG (cQ.nm 0) jA (jz aj)) ai) B.kl rfl iR (cQ.d 3) (cQ.g 3)) (aa aj (aa (ba qZ (bY qo (aa (cQ.nm 1) ai) B.qb rfl nk (cQ.d 1) (cQ.g 1)) aj) (aa (eK BG (aa (pW O8 (bh _) (bY qo (aa (cQ.nm 1) ai) B.qb rfl nk (cQ.d 1) (cQ.g 1)) (ba Ce aj aj)) ai) B.uL rfl qT (cQ.d 2) (cQ.g 2)) ai))))))))) Aj
theorem cY:bC (KX w.params) mg "_law_draw" "_law_draw" iX ["_law_hand_here","_law_many_here"] 281 (Hd.fd iX "_law_draw" "_law_draw" df 280):=Hd.ik e.X e.G (by kernel_rfl) fun _ _ _ _ _ _ _ _=>rfl
theorem dg:bf PW w (KX w.params) mg base cj 1 281 (Hd.fd iX "_law_draw" "_law_draw" df 280) ["_law_hand_here","_law_many_here"] (cp cx):=by
 have B:=Bt e;have Q:=Qt e
 exact bB (N:=mJ) (cY e).fn i3 (fun cdv A outer s H E hr=>(au (t_ (nU (vo (bR (hV hr) (bh _) (aB (aI.nm 0) aj) aj) (vo (bR (hV hr) (bh _) (aB (aI.nm 0) aj) aj) (vK (bR uw (bh _) (ba e7 (aB (aI.nm 0) aj) aj) (bY dw (aa (aB (aI.nm 0) aj) ai) B.dq rfl cE (aI.d 0) (aI.g 0))))))) (au (dP (ba e7 (aB (aI.nm 0) aj) aj) (aI.nm 0) aj)
  (aw (dP (bY qo (aa (aB (aB (aI.nm 0) aj) (aB (aI.nm 0) aj)) ai) B.qb rfl nk (aI.d 1) (aI.g 1)) (aI.nm 0) aj))))
  (au (dy (nU (vo (bR (hV hr) (bh _) (aB (aI.nm 0) aj) aj) (vK (bR zu (bh _) (aB (aI.nm 0) aj) aj)))) (au (aQ i3.nd (aI.l 2) (ba nY (aB (aI.nm 0) aj) (aI.nm 1)))
  (au (dP (ba qZ (aB (aI.nm 0) aj) (aI.nm 1)) (aI.nm 0) aj)
  (aw (aN (aI.nm 2))))) cF)
  (au (dP (ba e7 (aB (aI.nm 0) aj) aj) (aI.nm 0) aj)
  (au (aQ i3.nd (aI.l 3) (bY (GO rfl) (aa (jG (jG (aB (aI.nm 0) aj) (jz (ba nY (aB (aI.nm 0) aj) (bY (NG rfl) (aa aj (aa (bY dw (aa (aB (aI.nm 0) aj) ai) B.dq rfl cE (aI.d 0) (aI.g 0)) ai)) B.Nr rfl LN (aI.d 2) (aI.g 2)))) jA) jA (jz aj)) ai) B.GJ rfl Dh (aI.d 3) (aI.g 3)))
  (au (aQ i3.nd (aI.l 4) (ba nY (ba dz (ba e7 (ba e7 (ba nY (aI.nm 3) aj) (ba dz aj (aB (aI.nm 0) aj))) aj) (ba e7 aj (ba dz aj (aB (aI.nm 0) aj)))) aj))
  (au (aQ i3.nd (aI.l 5) (ba nY (ba e7 (ba dz (aI.nm 4) (ba e7 (ba nY (aI.nm 4) aj) (aB (aI.nm 0) aj))) (ba dz aj (aB (aI.nm 0) aj))) aj))
  (aw (aN (ba nY (ba qZ (aI.nm 5) aj) (aI.nm 1))))))))))) Ah
theorem rJ:bC (KX w.params) mg "_law_number" "_law_number" gF ["_law_hand_here","_law_wild"] 288 (Hd.fd gF "_law_number" "_law_number" df 287):=Hd.ik e.X e.G (by kernel_rfl) fun _ _ _ _ _ _ _ _=>rfl
theorem yI:bf PW w (KX w.params) mg base cj 2 288 (Hd.fd gF "_law_number" "_law_number" df 287) ["_law_hand_here","_law_wild"] (cp m_):=by
 have B:=Bt e;have Q:=Qt e
 exact bB (N:=kb) (rJ e).fn xM (fun cdv A outer s H E hr=>(au (dy (nU (vo (bR (hV hr) (bh _) (cw.nm 1) aj) (vK (bR (hV hr) (bh _) (aS (cY e) (dg e) (hr.mono (by decide)) (aa (cw.nm 0) (aa aj ai)) (cw.d 0) (cw.g 0)) aj)))) (aw (aN (ba e7 (ba pN (aS (cY e) (dg e) (hr.mono (by decide)) (aa (cw.nm 0) (aa (ba pN (ba dz aj (ba Ce aj aj)) aj) ai)) (cw.d 0) (cw.g 0)) (ba Ce aj aj)) aj))) cF)
  (au (dy (bR zu (bh _) (cw.nm 1) aj) (aw (aN (ba pN (aS (cY e) (dg e) (hr.mono (by decide)) (aa (cw.nm 0) (aa aj ai)) (cw.d 0) (cw.g 0)) aj))) cF)
  (aw (aN (aB (nX (aa aj (aa aj (aa (iV aj) (aa aj (aa aj (aa aj (aa (iV aj) (aa aj ai))))))))) (aS (cY e) (dg e) (hr.mono (by decide)) (aa (cw.nm 0) (aa aj ai)) (cw.d 0) (cw.g 0)))))))) xC
theorem vn:bC (KX w.params) mg "_law_rows" "_law_rows" gO ["_law_hand_here","_law_many_here","_law_wide"] 293 (Hd.fd gO "_law_rows" "_law_rows" df 292):=Hd.Bq e.X e.G (by kernel_rfl) fun _ _ _ _ _ _ _ _ _=>rfl
theorem Cm:bf PW w (KX w.params) mg base cj 3 293 (Hd.fd gO "_law_rows" "_law_rows" df 292) ["_law_hand_here","_law_many_here","_law_wide"] (cp pZ):=by
 have B:=Bt e;have Q:=Qt e
 exact bB (N:=mv) (vn e).fn oJ (fun cdv A outer s H E hr=>(au (aQ oJ.nd (dv.l 3) (aS (cY e) (dg e) (hr.mono (by decide)) (aa (dv.nm 0) (aa aj ai)) (dv.d 0) (dv.g 0)))
  (au (dy (bR zu (bh _) (dv.nm 2) aj) (aw (aQ oJ.nd (dv.l 3) (bY (GX rfl) (aa (dv.nm 3) (aa aj ai)) B.G9 rfl CP (dv.d 1) (dv.g 1)))) cF)
  (aw (aN (eK eF (aa (dU (Nc:=["_law_j","_law_wide","_law_hand_here","_law_wild"]) (bz.look (ag gO) ["_law_hand_here","_law_many_here","_law_wide","_law_wild"] (by decide+kernel)) (eJ (dv.g 2) B.d9 (aa (dv.nm 1) ai)) (fun _ _ _ _=>(c5 (show(["_law_j","_law_wide","_law_hand_here","_law_wild"]:List Str).Nodup by decide+kernel) (by first|exact Or.inl rfl|exact Or.inr rfl) (by first|exact .inl rfl|exact .inr rfl))) (fun _ _ _ _=>cL) (fun _ _ _ _=>(eK eF (aa (dU (Nc:=["_law_k","_law_hand_here","_law_wild"]) (bz.He (by decide+kernel)) (eJ rfl B.d9 (aa cA ai)) (fun _ _ _ _=>(c5 (show(["_law_k","_law_hand_here","_law_wild"]:List Str).Nodup by decide+kernel) (by first|exact Or.inl rfl|exact Or.inr rfl) (by first|exact .inl rfl|exact .inr rfl))) (fun _ _ _ _=>cL) (fun _ _ _ _=>(aS (rJ e) (yI e) (hr.mono (by decide)) (aa cA (aa cA ai)) (by decide+kernel) rfl)) bZ) ai) B.dE rfl cW (by decide+kernel) rfl)) bZ) ai) B.dE rfl cW (dv.d 3) (dv.g 3))))))) Ao
theorem s_:bC (KX w.params) mg "_law_width" "_law_width" g4 ["_law_hand_here"] 300 (Hd.fd g4 "_law_width" "_law_width" df 299):=Hd.ni e.X e.G (by kernel_rfl) fun _ _ _ _ _ _ _=>rfl
theorem As:bf PW w (KX w.params) mg base cj 2 300 (Hd.fd g4 "_law_width" "_law_width" df 299) ["_law_hand_here"] (cp oS):=by
 have B:=Bt e;have Q:=Qt e
 exact bB (N:=ll) (s_ e).fn yk (fun cdv A outer s H E hr=>(au (dy (bR (hV hr) (bh _) (aS (cY e) (dg e) (hr.mono (by decide)) (aa (eM.nm 0) (aa aj ai)) (eM.d 0) (eM.g 0)) aj) (aw (aN (gd (aa (ba e7 aj (aS (cY e) (dg e) (hr.mono (by decide)) (aa (eM.nm 0) (aa aj ai)) (eM.d 0) (eM.g 0))) (aa jr ai))))) cF)
  (aw (aN (gd (aa (ba e7 aj (aS (cY e) (dg e) (hr.mono (by decide)) (aa (eM.nm 0) (aa aj ai)) (eM.d 0) (eM.g 0))) (aa jr ai))))))) yE
theorem vz:bC (KX w.params) mg "_law_many" "_law_many" iZ ["_law_hand_here","_law_wide","_law_great"] 307 (Hd.fd iZ "_law_many" "_law_many" df 306):=Hd.Bq e.X e.G (by kernel_rfl) fun _ _ _ _ _ _ _ _ _=>rfl
theorem Cs:bf PW w (KX w.params) mg base cj 2 307 (Hd.fd iZ "_law_many" "_law_many" df 306) ["_law_hand_here","_law_wide","_law_great"] (cp pS):=by
 have B:=Bt e;have Q:=Qt e
 exact bB (N:=mG) (vz e).fn Ab (fun cdv A outer s H E hr=>(au (dy (gD (eP.nm 2)) (aw (aN (aB (nX (aa (eP.nm 1) (aa aj (aa aj (aa (ba pN (eP.nm 1) aj) ai))))) (aS (cY e) (dg e) (hr.mono (by decide)) (aa (eP.nm 0) (aa aj ai)) (eP.d 0) (eP.g 0))))) cF)
  (aw (aN (aS (cY e) (dg e) (hr.mono (by decide)) (aa (eP.nm 0) (aa (ba e7 (eP.nm 1) aj) ai)) (eP.d 0) (eP.g 0)))))) Ag
theorem tK:bC (KX w.params) mg "_law_falls" "_law_falls" fY ["_law_form","_law_row"] 312 (Hd.fd fY "_law_falls" "_law_falls" df 311):=Hd.ik e.X e.G (by kernel_rfl) fun _ _ _ _ _ _ _ _=>rfl
theorem AB:bf PW w (KX w.params) mg base cj 1 312 (Hd.fd fY "_law_falls" "_law_falls" df 311) ["_law_form","_law_row"] (cp oV):=by
 have B:=Bt e;have Q:=Qt e
 exact bB (N:=lq) (tK e).fn gp (fun cdv A outer s H E hr=>(au (aQ gp.nd (aW.l 2) (eK AN (aa (aW.nm 1) ai) B.kl rfl iR (aW.d 0) (aW.g 0)))
  (au (fv (eV (aW.nm 0)) (c5 gp.nd (by first|exact Or.inl rfl|exact Or.inr rfl) (by first|exact .inl rfl|exact .inr rfl)) (au (aQ gp.nd (aW.l 4) (aB (dU (Nc:=["_law_k","_law_step"]) (bz.look (ag fY) ["_law_form","_law_row","_law_left","_law_step","_law_lead","_law_many_here","_law_k"] (by decide+kernel)) (eJ (aW.g 2) B.d9 (aa (bY dw (aa (aW.nm 3) ai) B.dq rfl cE (aW.d 1) (aW.g 1)) ai)) (fun _ _ _ _=>(c5 (show(["_law_k","_law_step"]:List Str).Nodup by decide+kernel) (by first|exact Or.inl rfl|exact Or.inr rfl) (by first|exact .inl rfl|exact .inr rfl))) (fun _ _ _ _=>(uS (bR oK (bh _) (aB cA cA) aj))) (fun _ _ _ _=>cA) bZ) aj))
  (au (aQ gp.nd (aW.l 5) (ba qZ (aB (aW.nm 2) (aW.nm 4)) (aB (aW.nm 3) (aW.nm 4))))
  (aw (fv (eJ (aW.g 2) B.d9 (aa (bY dw (aa (aW.nm 2) ai) B.dq rfl cE (aW.d 1) (aW.g 1)) ai)) (c5 gp.nd (by first|exact Or.inl rfl|exact Or.inr rfl) (by first|exact .inl rfl|exact .inr rfl)) (aw (dP (ba pN (aB (aW.nm 2) (aW.nm 6)) (ba dz (aW.nm 5) (aB (aW.nm 3) (aW.nm 6)))) (aW.nm 2) (aW.nm 6))))))))
  (aw (aN (eK eF (aa (aW.nm 2) ai) B.dE rfl cW (aW.d 3) (aW.g 3))))))) yA
theorem qc:bC (KX w.params) mg "_law_in" "_law_in" ku ["_law_form","_law_row"] 319 (Hd.fd ku "_law_in" "_law_in" df 318):=Hd.ik e.X e.G (by kernel_rfl) fun _ _ _ _ _ _ _ _=>rfl
theorem tY:bf PW w (KX w.params) mg base cj 2 319 (Hd.fd ku "_law_in" "_law_in" df 318) ["_law_form","_law_row"] (cp nL):=by
 have B:=Bt e;have Q:=Qt e;exact bB (N:=p_) (qc e).fn Ec (fun cdv A outer s H E hr=>(aw (aN (Gy (bY (Mi rfl) (aa (aS (tK e) (AB e) (hr.mono (by decide)) (aa (kv.nm 0) (aa (kv.nm 1) ai)) (kv.d 0) (kv.g 0)) ai) B.Nv rfl Lw (kv.d 1) (kv.g 1)))))) Dw
theorem rm:bC (KX w.params) mg "_law_stands" "_law_stands" eS ["_law_rows_here"] 324 (Hd.fd eS "_law_stands" "_law_stands" df 323):=Hd.ni e.X e.G (by kernel_rfl) fun _ _ _ _ _ _ _=>rfl
theorem yS:bf PW w (KX w.params) mg base cj 1 324 (Hd.fd eS "_law_stands" "_law_stands" df 323) ["_law_rows_here"] (cp nj):=by
 have B:=Bt e;have Q:=Qt e
 exact bB (N:=jO) (rm e).fn gT (fun cdv A outer s H E hr=>(au (aQ gT.nd (bJ.l 1) (iV aj))
  (au (fv (EX (bJ.g 0) B.sU (aa (bJ.nm 0) ai)) (se rfl gT.nd (by first|exact Or.inl rfl|exact Or.inr rfl) (by first|exact .inl rfl|exact .inr rfl) (by first|exact Or.inl rfl|exact Or.inr rfl) (by first|exact .inl rfl|exact .inr rfl)) (au (vH gT.nd (bJ.l 4) (Nc:=["_law_k","_law_row"]) (bz.look (ag eS) ["_law_rows_here","_law_last","_law_j","_law_row","_law_some"] (by decide+kernel)) (eJ (bJ.g 2) B.d9 (aa (bY dw (aa (bJ.nm 3) ai) B.dq rfl cE (bJ.d 1) (bJ.g 1)) ai)) (fun _ _ _ _=>(c5 (show(["_law_k","_law_row"]:List Str).Nodup by decide+kernel) (by first|exact Or.inl rfl|exact Or.inr rfl) (by first|exact .inl rfl|exact .inr rfl))) (fun _ _ _ _=>(uS (bR oK (bh _) (aB cA cA) aj))) (fun _ _ _ _=>cA) bZ)
  (au (dy (nU (nR (bR (hV hr) (bh _) (bJ.nm 4) (nX ai)) (nR (bR LM (bh _) (aB (bJ.nm 4) aj) (bJ.nm 1)) (rL (bR uw (bh _) (aB (bJ.nm 3) (aB (bJ.nm 4) aj)) aj))))) (aw (aN jr)) cF)
  (au (aQ gT.nd (bJ.l 1) (aB (bJ.nm 4) aj))
  (aw (dy (i4 (gD (bY (xY rfl) (aa (dU (Nc:=["_law_above","_law_last","_law_row"]) (bz.look (ag eS) ["_law_rows_here","_law_last","_law_j","_law_row","_law_some"] (by decide+kernel)) (eV (jG (bJ.nm 0) jA (jz (bJ.nm 2)))) (fun _ _ _ _=>(c5 (show(["_law_above","_law_last","_law_row"]:List Str).Nodup by decide+kernel) (by first|exact Or.inl rfl|exact Or.inr rfl) (by first|exact .inl rfl|exact .inr rfl))) (fun _ _ _ _=>cL) (fun _ _ _ _=>(Ji LM uw aj (aB cA cA) (aB cA cA))) bZ) ai) B.xQ rfl uK (bJ.d 3) (bJ.g 3)))) (aw (aN jr)) cF))))))
  (aw (aN jr))))) xF
theorem pF:bC (KX w.params) mg "_law_is_space" "_law_is_space" eh ["_law_found","_law_wide"] 329 (Hd.fd eh "_law_is_space" "_law_is_space" df 328):=Hd.ik e.X e.G (by kernel_rfl) fun _ _ _ _ _ _ _ _=>rfl
theorem vQ:bf PW w (KX w.params) mg base cj 2 329 (Hd.fd eh "_law_is_space" "_law_is_space" df 328) ["_law_found","_law_wide"] (cp kC):=by
 have B:=Bt e;have Q:=Qt e
 exact bB (N:=iL) (pF e).fn oo (fun cdv A outer s H E hr=>(au (dy (nU (nR (i4 (gD (bY p8 (aa (ax.nm 0) (aa (uj B.dE rfl cW (ax.d 0) (ax.g 0)) ai)) B.fB rfl e_ (ax.d 1) (ax.g 1)))) (nR (bR oK (bh _) (bY dw (aa (ax.nm 0) ai) B.dq rfl cE (ax.d 2) (ax.g 2)) aj) (rL (i4 (gD (bY p8 (aa (aB (ax.nm 0) aj) (aa (uj B.dE rfl cW (ax.d 0) (ax.g 0)) ai)) B.fB rfl e_ (ax.d 1) (ax.g 1)))))))) (aw (aN jr)) cF)
  (au (dy (nU (nR (i4 (gD (bY p8 (aa (aB (ax.nm 0) aj) (aa (uj B.uL rfl qT (ax.d 3) (ax.g 3)) ai)) B.fB rfl e_ (ax.d 1) (ax.g 1)))) (nR (gD (bY p8 (aa (aB (ax.nm 0) aj) (aa (uj B.Et rfl Bf (ax.d 4) (ax.g 4)) ai)) B.fB rfl e_ (ax.d 1) (ax.g 1))) (rL (bR oK (bh _) (aB (ax.nm 0) aj) (ax.nm 1)))))) (aw (aN jr)) cF)
  (au (fv (eV (aB (ax.nm 0) aj)) (c5 oo.nd (by first|exact Or.inl rfl|exact Or.inr rfl) (by first|exact .inl rfl|exact .inr rfl)) (au (dy (nU (nR (i4 (gD (bY p8 (aa (ax.nm 2) (aa (uj B.dE rfl cW (ax.d 0) (ax.g 0)) ai)) B.fB rfl e_ (ax.d 1) (ax.g 1)))) (rL (bR oK (bh _) (bY dw (aa (ax.nm 2) ai) B.dq rfl cE (ax.d 2) (ax.g 2)) (ax.nm 1))))) (aw (aN jr)) cF)
  (aw (dy (i4 (gD (bY (xY rfl) (aa (dU (Nc:=["_law_one"]) (bz.look (ag eh) ["_law_found","_law_wide","_law_row"] (by decide+kernel)) (eV (ax.nm 2)) (fun _ _ _ _=>(c5 (show(["_law_one"]:List Str).Nodup by decide+kernel) (by first|exact Or.inl rfl|exact Or.inr rfl) (by first|exact .inl rfl|exact .inr rfl))) (fun _ _ _ _=>cL) (fun _ _ _ _=>(GR (bY p8 (aa cA (aa (uj B.uL rfl qT (by decide+kernel) rfl) ai)) B.fB rfl e_ (by decide+kernel) rfl) (Hj (Gy (bY p8 (aa cA (aa (uj B.Et rfl Bf (by decide+kernel) rfl) ai)) B.fB rfl e_ (by decide+kernel) rfl))))) bZ) ai) B.xQ rfl uK (ax.d 5) (ax.g 5)))) (aw (aN jr)) cF))))
  (aw (aN (aS (rm e) (yS e) (hr.mono (by decide)) (aa (aB (ax.nm 0) aj) ai) (ax.d 6) (ax.g 6)))))))) va
theorem tu:bC (KX w.params) mg "_law_small" "_law_small" f7 ["_law_wide"] 334 (Hd.fd f7 "_law_small" "_law_small" df 333):=Hd.ni e.X e.G (by kernel_rfl) fun _ _ _ _ _ _ _=>rfl
theorem Az:bf PW w (KX w.params) mg base cj 1 334 (Hd.fd f7 "_law_small" "_law_small" df 333) ["_law_wide"] (cp oN):=by
 have B:=Bt e;have Q:=Qt e
 exact bB (N:=lx) (tu e).fn fC (fun cdv A outer s H E hr=>(au (aQ fC.nd (cv.l 1) (aB (nX (aa aj (aa aj (aa aj (aa aj (aa aj ai)))))) (bY (GX rfl) (aa (cv.nm 0) (aa aj ai)) B.G9 rfl CP (cv.d 0) (cv.g 0))))
  (au (aQ fC.nd (cv.l 2) (xT (aa (gd ai) ai)))
  (au (fv (eJ (cv.g 1) B.d9 (aa (cv.nm 0) ai)) (c5 fC.nd (by first|exact Or.inl rfl|exact Or.inr rfl) (by first|exact .inl rfl|exact .inr rfl)) (au (Dv (aQ fC.nd (cv.l 4) (cv.nm 2)))
  (au (aQ fC.nd (cv.l 2) (xT ai))
  (aw (fv (eV (cv.nm 4)) (c5 fC.nd (by first|exact Or.inl rfl|exact Or.inr rfl) (by first|exact .inl rfl|exact .inr rfl)) (aw (kK (N5 (cv.nm 2) (dU (Nc:=["_law_number_here","_law_row"]) (bz.look (ag f7) ["_law_wide","_law_most","_law_found","_law_k","_law_ahead","_law_row"] (by decide+kernel)) (yT (cv.g 1) B.d9 (aa (iV (cv.nm 1)) (aa (ba e7 (cv.nm 1) aj) ai))) (fun _ _ _ _=>(c5 (show(["_law_number_here","_law_row"]:List Str).Nodup by decide+kernel) (by first|exact Or.inl rfl|exact Or.inr rfl) (by first|exact .inl rfl|exact .inr rfl))) (fun _ _ _ _=>cL) (fun _ _ _ _=>(ba e7 cA (gd (aa cA ai)))) bZ)))))))))
  (aw (Dv (aN (cv.nm 2)))))))) y9
theorem tF:bC (KX w.params) mg "_law_times" "_law_times" f_ ["_law_form"] 339 (Hd.fd f_ "_law_times" "_law_times" df 338):=Hd.ni e.X e.G (by kernel_rfl) fun _ _ _ _ _ _ _=>rfl
theorem Ax:bf PW w (KX w.params) mg base cj 1 339 (Hd.fd f_ "_law_times" "_law_times" df 338) ["_law_form"] (cp oG):=by
 have B:=Bt e;have Q:=Qt e
 exact bB (N:=lD) (tF e).fn jZ (fun cdv A outer s H E hr=>(au (aQ jZ.nd (g6.l 1) aj)
  (au (fv (eV (g6.nm 0)) (c5 jZ.nd (by first|exact Or.inl rfl|exact Or.inr rfl) (by first|exact .inl rfl|exact .inr rfl)) (aw (aQ jZ.nd (g6.l 1) (ba dz (g6.nm 1) (aB (dU (Nc:=["_law_number_here"]) (bz.look (ag f_) ["_law_form","_law_many_here","_law_row"] (by decide+kernel)) (eV (g6.nm 2)) (fun _ _ _ _=>(c5 (show(["_law_number_here"]:List Str).Nodup by decide+kernel) (by first|exact Or.inl rfl|exact Or.inr rfl) (by first|exact .inl rfl|exact .inr rfl))) (fun _ _ _ _=>(uS (bR oK (bh _) cA aj))) (fun _ _ _ _=>cA) bZ) aj)))))
  (aw (aN (g6.nm 1)))))) zR
theorem tG:bC (KX w.params) mg "_law_on_it" "_law_on_it" fZ ["_law_form","_law_row"] 344 (Hd.fd fZ "_law_on_it" "_law_on_it" df 343):=Hd.ik e.X e.G (by kernel_rfl) fun _ _ _ _ _ _ _ _=>rfl
theorem Am:bf PW w (KX w.params) mg base cj 3 344 (Hd.fd fZ "_law_on_it" "_law_on_it" df 343) ["_law_form","_law_row"] (cp oB):=by
 have B:=Bt e;have Q:=Qt e
 exact bB (N:=ly) (tG e).fn qX (fun cdv A outer s H E hr=>(au (aQ qX.nd (dW.l 2) (aS (tF e) (Ax e) (hr.mono (by decide)) (aa (dW.nm 0) ai) (dW.d 0) (dW.g 0)))
  (aw (aN (aS (qc e) (tY e) (hr.mono (by decide)) (aa (dW.nm 0) (aa (eK eF (aa (dU (Nc:=["_law_number_here","_law_many_here"]) (bz.look (ag fZ) ["_law_form","_law_row","_law_many_here"] (by decide+kernel)) (eV (dW.nm 1)) (fun _ _ _ _=>(c5 (show(["_law_number_here","_law_many_here"]:List Str).Nodup by decide+kernel) (by first|exact Or.inl rfl|exact Or.inr rfl) (by first|exact .inl rfl|exact .inr rfl))) (fun _ _ _ _=>cL) (fun _ _ _ _=>(ba dz cA cA)) bZ) ai) B.dE rfl cW (dW.d 1) (dW.g 1)) ai)) (dW.d 2) (dW.g 2)))))) yB
theorem rT:bC (KX w.params) mg "_law_listed" "_law_listed" fD ["_law_one"] 349 (Hd.fd fD "_law_listed" "_law_listed" df 348):=Hd.ni e.X e.G (by kernel_rfl) fun _ _ _ _ _ _ _=>rfl
theorem zF:bf PW w (KX w.params) mg base cj 1 349 (Hd.fd fD "_law_listed" "_law_listed" df 348) ["_law_one"] (cp nh):=by
 have B:=Bt e;have Q:=Qt e;exact bB (N:=j6) (rT e).fn xB (fun cdv A outer s H E hr=>(aw (aN (nX (aa (aB (qK.nm 0) aj) (aa (dU (Nc:=["_law_row"]) (bz.look (ag fD) ["_law_one"] (by decide+kernel)) (eV (aB (qK.nm 0) aj)) (fun _ _ _ _=>(c5 (show(["_law_row"]:List Str).Nodup by decide+kernel) (by first|exact Or.inl rfl|exact Or.inr rfl) (by first|exact .inl rfl|exact .inr rfl))) (fun _ _ _ _=>cL) (fun _ _ _ _=>(eK nt (aa cA ai) B.kl rfl iR (by decide+kernel) rfl)) bZ) ai)))))) xy
theorem MZ:bC (KX w.params) mg "law" "law" jQ ["_law_script"] 354 (Hd.fd jQ "law" "law" df 353):=Hd.ni e.X e.G (by kernel_rfl) fun _ _ _ _ _ _ _=>rfl
theorem NI:bf PW w (KX w.params) mg base cj 10 354 (Hd.fd jQ "law" "law" df 353) ["_law_script"] (cp GD):=by
 have B:=Bt e;have Q:=Qt e
 exact bB (N:=yc) (MZ e).fn iB (fun cdv A outer s H E hr=>(au (aQ iB.nd (aG.l 1) (aS (uM e) (Cf e) (hr.mono (by decide)) (aa (aG.nm 0) ai) (aG.d 0) (aG.g 0)))
  (au (L8 (aS (s_ e) (As e) (hr.mono (by decide)) (aa (aG.nm 1) ai) (aG.d 1) (aG.g 1)) (se rfl iB.nd (by first|exact Or.inl rfl|exact Or.inr rfl) (by first|exact .inl rfl|exact .inr rfl) (by first|exact Or.inl rfl|exact Or.inr rfl) (by first|exact .inl rfl|exact .inr rfl)))
  (au (aQ iB.nd (aG.l 4) (aB (nX (aa (ba e7 aj (aS (cY e) (dg e) (hr.mono (by decide)) (aa (aG.nm 1) (aa aj ai)) (aG.d 2) (aG.g 2))) (aa (ba e7 aj (aS (cY e) (dg e) (hr.mono (by decide)) (aa (aG.nm 1) (aa aj ai)) (aG.d 2) (aG.g 2))) ai))) (eK BG (aa (pW (hV hr) (bh _) (aS (cY e) (dg e) (hr.mono (by decide)) (aa (aG.nm 1) (aa aj ai)) (aG.d 2) (aG.g 2)) aj) ai) B.uL rfl qT (aG.d 3) (aG.g 3))))
  (au (aQ iB.nd (aG.l 5) (aS (vM e) (A8 e) (hr.mono (by decide)) (aa (aG.nm 2) (aa (aS (vn e) (Cm e) (hr.mono (by decide)) (aa (aG.nm 1) (aa (aS (vz e) (Cs e) (hr.mono (by decide)) (aa (aG.nm 1) (aa (aG.nm 2) (aa (aG.nm 3) ai))) (aG.d 4) (aG.g 4)) (aa (aG.nm 2) ai))) (aG.d 5) (aG.g 5)) ai)) (aG.d 6) (aG.g 6)))
  (au (aQ iB.nd (aG.l 6) (aS (pd e) (qE e) (hr.mono (by decide)) (aa (aG.nm 5) ai) (aG.d 7) (aG.g 7)))
  (au (dy (nU (nR (i4 (gD (aS (pF e) (vQ e) (hr.mono (by decide)) (aa (aG.nm 6) (aa (aG.nm 2) ai)) (aG.d 8) (aG.g 8)))) (rL (bR oK (bh _) (bY dw (aa (aB (aG.nm 6) aj) ai) B.dq rfl cE (aG.d 9) (aG.g 9)) (bY dw (aa (aB (aG.nm 5) aj) ai) B.dq rfl cE (aG.d 9) (aG.g 9)))))) (aw (aN jr)) cF)
  (au (dy (i4 (gD (bY (xY rfl) (aa (dU (Nc:=["_law_row","_law_found"]) (bz.look (ag jQ) ["_law_script","_law_hand_here","_law_wide","_law_great","_law_by","_law_one","_law_found","_law_small_here","_law_many_here","_law_weights","_law_more"] (by decide+kernel)) (eV (aB (aG.nm 5) aj)) (fun _ _ _ _=>(c5 (show(["_law_row","_law_found"]:List Str).Nodup by decide+kernel) (by first|exact Or.inl rfl|exact Or.inr rfl) (by first|exact .inl rfl|exact .inr rfl))) (fun _ _ _ _=>cL) (fun _ _ _ _=>(aS (qc e) (tY e) (hr.mono (by decide)) (aa (aB cA aj) (aa cA ai)) (by decide+kernel) rfl)) bZ) ai) B.xQ rfl uK (aG.d 10) (aG.g 10)))) (aw (aN jr)) cF)
  (au (aQ iB.nd (aG.l 7) (eK nt (aa (aB (aG.nm 6) aj) ai) B.kl rfl iR (aG.d 11) (aG.g 11)))
  (au (dy (i4 (gD (aG.nm 3))) (aw (aQ iB.nd (aG.l 7) (ba e7 (aG.nm 7) (aS (tu e) (Az e) (hr.mono (by decide)) (aa (aG.nm 2) ai) (aG.d 12) (aG.g 12))))) cF)
  (au (dy (i4 (gD (bY (xY rfl) (aa (dU (Nc:=["_law_row","_law_found","_law_one"]) (bz.look (ag jQ) ["_law_script","_law_hand_here","_law_wide","_law_great","_law_by","_law_one","_law_found","_law_small_here","_law_many_here","_law_weights","_law_more"] (by decide+kernel)) (eV (aG.nm 7)) (fun _ _ _ _=>(c5 (show(["_law_row","_law_found","_law_one"]:List Str).Nodup by decide+kernel) (by first|exact Or.inl rfl|exact Or.inr rfl) (by first|exact .inl rfl|exact .inr rfl))) (fun _ _ _ _=>cL) (fun _ _ _ _=>(pW (hV hr) (bh _) (aS (qc e) (tY e) (hr.mono (by decide)) (aa (aB cA aj) (aa cA ai)) (by decide+kernel) rfl) (aS (tG e) (Am e) (hr.mono (by decide)) (aa (aB cA aj) (aa cA ai)) (by decide+kernel) rfl))) bZ) ai) B.xQ rfl uK (aG.d 10) (aG.g 10)))) (aw (aN jr)) cF)
  (au (dy (bR (Nn hr) (bh _) (aS (pd e) (qE e) (hr.mono (by decide)) (aa (aS (rT e) (zF e) (hr.mono (by decide)) (aa (aG.nm 5) ai) (aG.d 13) (aG.g 13)) ai) (aG.d 7) (aG.g 7)) (aG.nm 6)) (aw (aN jr)) cF)
  (au (aQ iB.nd (aG.l 8) (bY dw (aa (aB (aG.nm 5) aj) ai) B.dq rfl cE (aG.d 9) (aG.g 9)))
  (au (dy (bR (hV hr) (bh _) (aG.nm 8) aj) (aw (aN (pW (hV hr) (bh _) (aS (pd e) (qE e) (hr.mono (by decide)) (aa (aG.nm 6) ai) (aG.d 7) (aG.g 7)) (aG.nm 6)))) cF)
  (au (vH iB.nd (aG.l 9) (Nc:=["_law_j","_law_many_here","_law_by"]) (bz.look (ag jQ) ["_law_script","_law_hand_here","_law_wide","_law_great","_law_by","_law_one","_law_found","_law_small_here","_law_many_here","_law_weights","_law_more"] (by decide+kernel)) (eJ (aG.g 14) B.d9 (aa (aG.nm 8) ai)) (fun _ _ _ _=>(c5 (show(["_law_j","_law_many_here","_law_by"]:List Str).Nodup by decide+kernel) (by first|exact Or.inl rfl|exact Or.inr rfl) (by first|exact .inl rfl|exact .inr rfl))) (fun _ _ _ _=>cL) (fun _ _ _ _=>(dU (Nc:=["_law_k","_law_by","_law_j"]) (bz.He (by decide+kernel)) (eJ rfl B.d9 (aa cA ai)) (fun _ _ _ _=>(c5 (show(["_law_k","_law_by","_law_j"]:List Str).Nodup by decide+kernel) (by first|exact Or.inl rfl|exact Or.inr rfl) (by first|exact .inl rfl|exact .inr rfl))) (fun _ _ _ _=>cL) (fun _ _ _ _=>(ba dz cA (eK BG (aa (pW (hV hr) (bh _) cA cA) ai) B.uL rfl qT (by decide+kernel) rfl))) bZ)) bZ)
  (au (aQ iB.nd (aG.l 10) (aS (vM e) (A8 e) (hr.mono (by decide)) (aa (aG.nm 2) (aa (aS (wN e) (EI e) (hr.mono (by decide)) (aa (aG.nm 9) (aa (aB (aG.nm 5) aj) ai)) (aG.d 15) (aG.g 15)) ai)) (aG.d 6) (aG.g 6)))
  (aw (aN (GR (pW (hV hr) (bh _) (aS (pd e) (qE e) (hr.mono (by decide)) (aa (aG.nm 6) ai) (aG.d 7) (aG.g 7)) (aG.nm 6)) (Hj (pW (hV hr) (bh _) (aS (pd e) (qE e) (hr.mono (by decide)) (aa (aG.nm 10) ai) (aG.d 7) (aG.g 7)) (aG.nm 6)))))))))))))))))))))) Lx
end
def dL:DefRec:=match jQ with
 | .FunctionDef n a b _ _ _ sc _ _ pos=>⟨n,a,b,sc,pos⟩
 |_=>⟨"",L2.iY (.Pass ⟨0,0,0,0⟩),[],L2.ag (.Pass ⟨0,0,0,0⟩),⟨0,0,0,0⟩⟩
theorem FX:PySem.Challenge.rw_latticeworks_k65_flat_spaces.wellSaid=true:=by decide+kernel
end Row
open PySem PySem.W PyProof.Rows
set_option maxRecDepth 100000 in
set_option maxHeartbeats 0 in
theorem PySem.Challenge.cw_latticeworks_k65_flat_spaces_holds : PySem.Challenge.rw_latticeworks_k65_flat_spaces.Holds := by
 refine PySem.W.holds_law Row.FX fun FX=>?_;refine PySem.W.holds_open (r:=PySem.Challenge.rw_latticeworks_k65_flat_spaces.row) (q:=PySem.W.view Row.PW [1,2,3,4,5,6,7,9,10,11,12,13,14,15,16,18,19,20,21,22,23,24,25,27,28,29,31,32,34,35,36,38,39,40,41,42,43,44,45,46,47,48,49,50,51,52]) (loose:=[]) (Xt:=fun _=>true) (XP:=fun _ _=>True) (YP:=(PySem.W.kmHook Row.KX Row.KA (fun _=>rfl) [166]).says) (d:=Row.dL) (kwd:=[]) Row.left ((PySem.W.kmHook Row.KX Row.KA (fun _=>rfl) [166]).of) ((PySem.W.kmHook Row.KX Row.KA (fun _=>rfl) [166]).keeps) (fun _ _=>trivial) (fun _ _ _ _ _=>trivial) (by kernel_rfl) (by kernel_rfl) (by kernel_rfl) (fun s _=>PySem.W.recFacts_of (R:=[]) rfl) (by kernel_rfl) FX (by decide+kernel) ⟨rfl,rfl,rfl,rfl,rfl,by decide+kernel⟩ ?hw ?hc;case hw=>w_witness2
 refine L2.NN (n:=63) (k:=10) (x:="_law_script") (ts:=[(168,166)]) (K:=Row.KX) (sp:=fun w=>L3.Dd (Row.KX w.params) [(168,166)]) rfl (by decide) (by kernel_rfl) ⟨rfl,by decide,by decide⟩ (by kernel_rfl) rfl (fun w h Y=>⟨PySem.W.km_in_of Y,⟨(fun q hq=>by rcases List.mem_cons.mp hq with rfl|hq;kernel_rfl;cases hq),(fun q hq=>by rcases List.mem_cons.mp hq with rfl|hq;kernel_rfl;cases hq),fun q hq=>PySem.W.km_tabs_of Y _ (List.mem_map_of_mem (f:=Prod.snd) hq)⟩⟩) ?F fun _ _ a ns hl hE=>⟨a,ns,rfl,hE,hl,fun _=>rfl⟩
 intro w mg fa h X G hmg;have e2:=hmg.symm.trans (PySem.W.mg_of (v:= .ref 354) X G (by kernel_rfl));cases e2;exact⟨Hd.fd Row.jQ "law" "law" Row.df 353,fun s v=> .of_eq rfl,fun base _ _=>(Row.NI ⟨X,G⟩).imp fun vs H Q E h=>L3.Ej (tl:=[(166,⟨85,32,85,66⟩,"Bench.live_rows.<locals>.<lambda>")]) (by kernel_rfl) rfl (by decide) h⟩
