import PyProof.Rows.All
import Wide.All
import OpenK.AllK
import Wide.FinOn
import Lean
import PyProof.EqAt
import PyProof.EqKinds
import PyProof.TupleCall
import PyProof.NeKinds
import KE.KUnpack
import PySem.Challenge.RW_latticeworks_k63_spaces_shared
set_option Elab.async false
set_option linter.all false
set_option maxRecDepth 100000
namespace L2
open PySem PySem.Spec PyProof.Rows
abbrev Key:=Sum Int Str
def FW:Key->Value->Bool
 | .inl k,v=>Value.isInt k v
 | .inr x,v=>Value.isStrOf x v
def NQ(w:World):Key->Int
 | .inl k=>hashInt k
 | .inr x=>hashStr w x
theorem eY:∀ {k:Key} {v:Value},FW k v=true->(∃i t,k=Sum.inl i/\v=Value.int i t)\/(∃x t,k=Sum.inr x/\v=Value.str x t)
 | .inl i,v,h=>by
   obtain⟨t,e⟩:=Value.isInt_shape (k:=i) (v:=v) h;exact .inl ⟨i,t,rfl,e⟩
 | .inr x,v,h=>by
   obtain⟨t,e⟩:=Value.isStrOf_shape (x:=x) (v:=v) h;exact .inr ⟨x,t,rfl,e⟩
theorem JX(a b:Int):decide ((Sum.inl a:Key)=Sum.inl b)=(a==b):=by
 by_cases e:a=b
 . subst e;simp
 . have h:¬(Sum.inl a:Key)=Sum.inl b:=fun q=>e (Sum.inl.inj q);rw[decide_eq_false h];exact(beq_eq_false_iff_ne.mpr e).symm
theorem IM(a b:Str):decide ((Sum.inr a:Key)=Sum.inr b)=decide (a=b):=by
 by_cases e:a=b
 . subst e;simp
 . have h:¬(Sum.inr a:Key)=Sum.inr b:=fun q=>e (Sum.inr.inj q);rw[decide_eq_false h,decide_eq_false e]
theorem JK(a:Int)(b:Str):decide ((Sum.inl a:Key)=Sum.inr b)=false:=decide_eq_false (fun q=>nomatch q)
theorem IV(a:Str)(b:Int):decide ((Sum.inr a:Key)=Sum.inl b)=false:=decide_eq_false (fun q=>nomatch q)
def zY(prog:Program)(w:World):PySem.KeyKind prog w Key where
 is:=FW
 hash:=NQ w
 inj:=fun v a b ha hb=>by
  rcases eY ha with⟨i,t,rfl,rfl⟩|⟨x,t,rfl,rfl⟩
  . rcases eY hb with⟨j,u,rfl,e⟩|⟨y,u,rfl,e⟩
    . injection e with e1 _;rw[e1]
    . exact nomatch e
  . rcases eY hb with⟨j,u,rfl,e⟩|⟨y,u,rfl,e⟩
    . exact nomatch e
    . injection e with e1 _;rw[e1]
 byValue:=fun k v h=>by
  rcases eY h with⟨i,t,rfl,rfl⟩|⟨x,t,rfl,rfl⟩<;>rfl
 pyHash:=fun hv h=>by
  rcases eY hv with⟨i,t,rfl,rfl⟩|⟨x,t,rfl,rfl⟩
  . exact wpAny_pyHash_int h
  . exact wpAny_pyHash_str h
 eqBool:=fun hu hv h=>by
  rcases eY hu with⟨i,t,rfl,rfl⟩|⟨x,t,rfl,rfl⟩
  . rcases eY hv with⟨j,u,rfl,rfl⟩|⟨y,u,rfl,rfl⟩
    . rw[JX]at h;exact wpAny_eqBool_int h
    . rw[JK]at h;exact SeqAt.EqAt.int_str i t y u _ _ _ _ h
  . rcases eY hv with⟨j,u,rfl,rfl⟩|⟨y,u,rfl,rfl⟩
    . rw[IV]at h;exact SeqAt.EqAt.str_int x t j u _ _ _ _ h
    . rw[IM]at h;exact wpAny_eqBool_str h
 «strs» :=fun k x t v h=>by
  rcases eY h with⟨i,u,rfl,e⟩|⟨y,u,rfl,e⟩
  . exact nomatch e
  . injection e with e1 _;subst e1;cases v<;>rfl
inductive V where
 |aL|bl (b:Bool)|int (i:Int)|str (x:Str)|sR (b:Array UInt8)|s_ (b:UInt64)|ref (a:Addr)|ty (n:String)
 deriving DecidableEq
def RelV:V->Value->Prop
 | .aL,u=>u=Value.none
 | .bl b,u=>u=Value.bool b
 | .int i,u=>∃t,u=Value.int i t
 | .str x,u=>∃t,u=Value.str x t
 | .sR b,u=>∃t,u=Value.bytes b t
 | .s_ b,u=>∃t,u=Value.float b t
 | .ref a,u=>u=Value.ref a
 | .ty n,u=>u=Value.type n
abbrev Vals:List V->List Value->Prop:=Paired RelV
theorem Vals.length{xs:List V}{us:List Value}(r:Vals xs us):xs.length=us.length:=Paired.length r
theorem Vals.get:∀ {xs:List V} {us:List Value} {i:Nat} {x:V},Vals xs us->xs[i]?=some x->∃u,us[i]?=some u/\RelV x u
 |_,_,_,_,.nil,e=>by simp at e
 |_,_,0,_,.cons r _,e=>by simp at e;subst e;exact⟨_,rfl,r⟩
 |_,_,i+1,x,.cons _ t,e=>by
  obtain⟨u,h1,h2⟩:=Vals.get (i:=i) (x:=x) t (by simpa using e);exact⟨u,by simpa using h1,h2⟩
theorem Vals.set{x:V}{u:Value}(r:RelV x u):∀ {xs:List V} {us:List Value} (i:Nat),Vals xs us->Vals (xs.set i x) (us.set i u)
 |_,_,_,.nil=> .nil
 |_,_,0,.cons _ t=> .cons r t
 |_,_,i+1,.cons q t=> .cons q (Vals.set r i t)
theorem Vals.append:∀ {xs ys:List V} {us ws:List Value},Vals xs us->Vals ys ws->Vals (xs++ys) (us++ws)
 |_,_,_,_,.nil,s=>s
 |_,_,_,_,.cons r t,s=> .cons r (Vals.append t s)
theorem Vals.take:∀ {xs:List V} {us:List Value} (n:Nat),Vals xs us->Vals (xs.take n) (us.take n)
 |_,_,0,_=> .nil
 |_,_,_+1,.nil=> .nil
 |_,_,n+1,.cons r t=> .cons r (Vals.take n t)
theorem Vals.drop:∀ {xs:List V} {us:List Value} (n:Nat),Vals xs us->Vals (xs.drop n) (us.drop n)
 |_,_,0,r=>r
 |_,_,_+1,.nil=> .nil
 |_,_,n+1,.cons _ t=>Vals.drop n t
def oF:Option V->Option Value->Prop
 |some v,some u=>RelV v u
 |none,none=>True
 |_,_=>False
def KV{κ:Type}:List (κ×V)->List (κ×Value)->Prop:=Paired fun(p:κ×V) (q:κ×Value)=>p.1=q.1/\RelV p.2 q.2
def kV:Key->V
 | .inl i=> .int i
 | .inr x=> .str x
inductive HO where
 |lst (xs:List V)
 |tup (xs:List V)
 |dK (kvs:List (Key×V))|dT (kvs:List (List Key×V))
 |set (S:Int->Bool) (n:Nat)
 |ins (C dx:Addr) (fs:List (Str×V))
 |own (x:Addr)
 |xd (fs:List (Str×V))
 |met (f x:Addr)
 |IW (lo hi:Int)
 |gh (o:Obj) (u:HO)
 |jT (ps:Array Value)
 |ext (φ:Heap->Prop)
abbrev Hp:=Addr->Option HO
def upd(H:Hp)(a:Addr)(o:HO):Hp:=fun b=>if b=a then some o else H b
theorem a6{H:Hp}{a:Addr}{o:HO}:upd H a o a=some o:=by unfold upd;rw[if_pos rfl]
theorem ay{H:Hp}{a b:Addr}{o:HO}(h:b≠a):upd H a o b=H b:=by unfold upd;rw[if_neg h]
theorem HV{H:Hp}{a:Addr}{o u:HO}:upd (upd H a o) a u=upd H a u:=by
 funext b;unfold upd;split<;>rfl
theorem dD{H:Hp}{a b:Addr}{o:HO}(h:H a=some o)(h':H b=none):a≠b:=by
 intro e;subst e;rw[h]at h';cases h'
section
variable (P:Program)(w:World)
def dB(H:Hp)(h:Heap)(a:Addr):HO->Prop
 | .lst xs=>xs.length<=sizeLine/\∃(its:List Value) (n:Nat),Vals xs its/\h.get? a=some {cls:= .type "list",data:= .seq its.toArray n}
 | .tup xs=>xs.length<=sizeLine/\∃its:List Value,Vals xs its/\IsTup h a its.toArray
 | .dK kvs=>kvs.length<=sizeLine/\(a==sysModules)=false/\∃vs,KV kvs vs/\h.DictOf (zY P w) a vs
 | .dT kvs=>kvs.length<=sizeLine/\(a==sysModules)=false/\∃xs:List (List Key×Addr×Value),
    Paired (fun(p:List Key×V) (q:List Key×Addr×Value)=>p.1=q.1/\H q.2.1=some (.tup (p.1.map kV))/\RelV p.2 q.2.2) kvs xs/\
    ∃o es ep,h.get? a=some o/\o.ExactDict/\o.data= .dict es ep/\es.toList=xs.map (entryOfKey (tupleKind (zY P w)))/\(xs.map (·.1)).Nodup
 | .set S n=>h.SetOf (intKind P w) a S n
 | .ins C dx fs=>H dx=some (.own a)/\fs.length<=1000/\dx≠a/\h.get? a=some (PySem.W.instObj C dx)/\
    ∃mA,h.Ns1 dx mA/\(∀f,oF (fs.lookup f) (mA f))/\PySem.Within mA (fs.map (·.1))
 | .own _=>∃o,h.get? a=some o
 | .xd fs=>∃mA,h.Ns1 a mA/\∀f,oF (fs.lookup f) (mA f)
 | .IW lo hi=>∃t u v,h.get? a=some {cls:= .type "range",data:= .fields #[.int lo t,.int hi u,.int 1 v]}
 | .gh o u=>h.get? a=some o/\dB H h a u
 | .jT ps=>h.get? a=some {cls:= .none,data:= .fields ps}
 | .met f x=>h.get? a=some (PySem.W.methodObj (.ref f) (.ref x))
 | .ext φ=>φ h/\(∃o,h.get? a=some o)/\∀h1 h2:Heap,φ h1->(∀o,h1.get? a=some o->h2.get? a=some o)->φ h2
def g9(H:Hp)(h:Heap):Prop:=∀a o,H a=some o->dB P w H h a o
end
section
variable {P:Program}{w:World}{H H':Hp}{h h':Heap}{a:Addr}{o:HO}
theorem dB.lt(x:dB P w H h a o):a<h.objs.size:=by
 cases o with
 |lst xs=>obtain⟨_,_,_,_,e⟩:=x;exact Heap.lt_size e
 |tup xs=>obtain⟨_,_,_,p⟩:=x;exact p.lt
 |dK kvs=>obtain⟨_,_,_,_,o,_,_,e,_⟩:=x;exact Heap.lt_size e
 |dT kvs=>obtain⟨_,_,_,_,o,_,_,e,_⟩:=x;exact Heap.lt_size e
 |set S n=>obtain⟨o,_,_,_,e,_⟩:=x;exact Heap.lt_size e
 |ins C dx fs=>obtain⟨_,_,_,e,_⟩:=x;exact Heap.lt_size e
 |own y=>obtain⟨_,e⟩:=x;exact Heap.lt_size e
 |xd fs=>obtain⟨_,⟨_,_,_,e,_⟩,_⟩:=x;exact Heap.lt_size e
 |IW lo hi=>obtain⟨_,_,_,e⟩:=x;exact Heap.lt_size e
 |gh ob u=>obtain⟨e,_⟩:=x;exact Heap.lt_size e
 |jT ps=>exact Heap.lt_size (show h.get? a=some _ from x)
 |met f y=>exact Heap.lt_size (show h.get? a=some _ from x)
 |ext φ=>obtain⟨_,⟨_,e⟩,_⟩:=x;exact Heap.lt_size e
theorem Paired.EG{α β:Type}{F G:α->β->Prop}:∀ {l₁:List α} {l₂:List β},Paired F l₁ l₂->(∀a b,F a b->G a b)->Paired G l₁ l₂
 |_,_,.nil,_=> .nil
 |_,_,.cons r t,f=> .cons (f _ _ r) (Paired.EG t f)
theorem dB.oA(x:dB P w H h a o)(k:∀b u,(b=a\/H b=some (.own a))->h.get? b=some u->h'.get? b=some u)
 (ho:∀b,H b=some (.own a)->H' b=some (.own a)) (ht:∀b xs,H b=some (.tup xs)->H' b=some (.tup xs)):dB P w H' h' a o:=by
 induction o with
 |lst xs=>obtain⟨z,its,n,r,e⟩:=x;exact⟨z,its,n,r,k _ _ (.inl rfl) e⟩
 |tup xs=>obtain⟨z,its,r,ob,e,c⟩:=x;exact⟨z,its,r,ob,k _ _ (.inl rfl) e,c⟩
 |dK kvs=>obtain⟨z,y,vs,r,ob,es,ep,e,c⟩:=x;exact⟨z,y,vs,r,ob,es,ep,k _ _ (.inl rfl) e,c⟩
 |dT kvs=>
  obtain⟨z,y,xs,r,ob,es,ep,e,c⟩:=x;exact⟨z,y,xs,Paired.EG r fun p q z=>⟨z.1,ht _ _ z.2.1,z.2.2⟩,ob,es,ep,k _ _ (.inl rfl) e,c⟩
 |set S n=>obtain⟨ob,es,ep,t,e,c⟩:=x;exact⟨ob,es,ep,t,k _ _ (.inl rfl) e,c⟩
 |ins C dx fs=>
  obtain⟨d,z,ne,e,mA,⟨od,es,ep,e2,c⟩,r⟩:=x;exact⟨ho _ d,z,ne,k _ _ (.inl rfl) e,mA,⟨od,es,ep,k _ _ (.inr d) e2,c⟩,r⟩
 |own y=>obtain⟨ob,e⟩:=x;exact⟨ob,k _ _ (.inl rfl) e⟩
 |xd fs=>obtain⟨mA,⟨od,es,ep,e,c⟩,r⟩:=x;exact⟨mA,⟨od,es,ep,k _ _ (.inl rfl) e,c⟩,r⟩
 |IW lo hi=>obtain⟨t,u,v,e⟩:=x;exact⟨t,u,v,k _ _ (.inl rfl) e⟩
 |gh ob u ih=>obtain⟨e,q⟩:=x;exact⟨k _ _ (.inl rfl) e,ih q⟩
 |jT ps=>
  have e:h.get? a=some {cls:= .none,data:= .fields ps}:=x;show h'.get? a=some {cls:= .none,data:= .fields ps};exact k a _ (.inl rfl) e
 |met f y=>
  have e:h.get? a=some (PySem.W.methodObj (.ref f) (.ref y)):=x;show h'.get? a=some (PySem.W.methodObj (.ref f) (.ref y));exact k a _ (.inl rfl) e
 |ext φ=>obtain⟨p,⟨o,e⟩,st⟩:=x;exact⟨st _ _ p fun o q=>k _ _ (.inl rfl) q,⟨o,k _ _ (.inl rfl) e⟩,st⟩
theorem g9.lt(x:g9 P w H h)(e:H a=some o):a<h.objs.size:=(x a o e).lt
theorem g9.fresh(x:g9 P w H h)(e:h.objs.size<=a):H a=none:=by
 cases q:H a with
 |none=>rfl
 |some u=>exact absurd (Nat.lt_of_lt_of_le (x.lt q) e) (Nat.lt_irrefl _)
theorem g9.kept(x:g9 P w H h)(k:∀b u,h.get? b=some u->h'.get? b=some u):g9 P w H h':=fun a o e=>
 (x a o e).oA (fun b u _ q=>k b u q) (fun _ q=>q) fun _ _ q=>q
theorem g9.laid(x:g9 P w H h)(k:∀b u,h.get? b=some u->h'.get? b=some u)(hp:h.objs.size<=a)(new:dB P w (upd H a o) h' a o):g9 P w (upd H a o) h':=fun b u e=>by
 have hn:=x.fresh hp;by_cases hb:b=a
 . subst hb;rw[a6]at e;cases e;exact new
 . rw[ay hb]at e;exact(x b u e).oA (fun c v _ q=>k c v q) (fun c q=>by rw[ay (dD q hn)];exact q) fun c xs q=>by rw[ay (dD q hn)];exact q
end
def Rd(H:Hp)(a:Addr)(u:HO):Prop:=H a=some u\/∃o,H a=some (.gh o u)
theorem Rd.of{H:Hp}{a:Addr}{u:HO}(h:H a=some u):Rd H a u:= .inl h
theorem Rd.ok{P:Program}{w:World}{H:Hp}{h:Heap}{a:Addr}{u:HO}(r:Rd H a u)(x:g9 P w H h):dB P w H h a u:=by
 rcases r with r|⟨o,r⟩
 . exact x a u r
 . obtain⟨_,q⟩:=x a _ r;exact q
def FP:Option HO->Prop
 |some (.lst _)=>True
 |some (.dK _)=>True
 |some (.dT _)=>True
 |some (.set _ _)=>True
 |some (.ins _ _ _)=>True
 |some (.ext _)=>True
 |_=>False
section
variable {P:Program}{w:World}{H:Hp}{h h':Heap}{x e:Addr}{o':HO}
theorem g9.write(ok:g9 P w H h)(mu:FP (H x))(he:e=x\/H e=some (.own x))(k:∀b u,b≠e->h.get? b=some u->h'.get? b=some u)(heo:∃u,h'.get? e=some u)
 (new:dB P w (upd H x o') h' x o'):g9 P w (upd H x o') h':=fun b u q=>by
 have nown:∀c y,H c=some (.own y)->c≠x:=fun c y r z=>by subst z;rw[r]at mu;exact mu
 have ntup:∀c xs,H c=some (.tup xs)->c≠x:=fun c xs r z=>by subst z;rw[r]at mu;exact mu
 by_cases hb:b=x
 . subst hb;rw[a6]at q;cases q;exact new
 . rw[ay hb]at q;by_cases hbe:b=e
   . have q':H b=some (.own x):=by
      rcases he with z|z
      . exact absurd (hbe.trans z) hb
      . rw[hbe];exact z
     rw[q]at q';cases q';obtain⟨v,hv⟩:=heo;exact⟨v,by rw[hbe];exact hv⟩
   . refine(ok b u q).oA (fun c v hc r=>k c v ?_ r) (fun c r=>by rw[ay (nown c b r)];exact r) fun c xs r=>by rw[ay (ntup c xs r)];exact r
     rcases hc with rfl|hc
     . exact hbe
     . rintro rfl;rcases he with z|z
       . exact nown c b hc z
       . rw[hc]at z;cases z;exact hb rfl
end
structure Un(fs ex:List Addr)(H H':Hp)(h h':Heap):Prop where
 keep:∀b o,h.get? b=some o->H b=none->b∉fs->b∉ex->h'.get? b=some o
 slot:∀b o,h.get? b=some o->H b=none->b∈fs->b∉ex->∃sl,h'.get? b=some {o with slots:=sl}
 free:∀b o,h.get? b=some o->H b=none->b∉ex->H' b=none
 there:∀b o,h.get? b=some o->b∉ex->∃o',h'.get? b=some o'
 oM:∀b xs,H b=some (.tup xs)->H' b=some (.tup xs)
 nK:∀b o u,H b=some (.gh o u)->H' b=some (.gh o u)
 nj:∀b ps,H b=some (.jT ps)->∃more,H' b=some (.jT (ps++more))
section
variable {fs fs' ex ex':List Addr}{H H1 H2:Hp}{h h1 h2 h':Heap}{a x e:Addr}{o:HO}
theorem Un.any(u:Un fs ex H H1 h h1){b:Addr}{ob:Obj}(q:h.get? b=some ob)(n:H b=none)(hx:b∉ex):∃sl,h1.get? b=some {ob with slots:=sl}:=by
 by_cases hb:b∈fs
 . exact u.slot b ob q n hb hx
 . exact⟨ob.slots,u.keep b ob q n hb hx⟩
theorem Un.kept(k:∀b u,h.get? b=some u->h'.get? b=some u):Un fs ex H H h h':=
 ⟨fun b ob q _ _ _=>k b ob q,fun b ob q _ _ _=>⟨ob.slots,k b ob q⟩,fun _ _ _ n _=>n,fun b ob q _=>⟨ob,k b ob q⟩,fun _ _ q=>q,fun _ _ _ q=>q,fun _ ps q=>⟨#[],by rw[q];simp⟩⟩
theorem Un.refl:Un fs ex H H h h:=Un.kept fun _ _ q=>q
theorem Un.laid(k:∀b u,h.get? b=some u->h'.get? b=some u)(hp:h.objs.size<=a)(hn:H a=none):Un fs ex H (upd H a o) h h' where
 keep:=fun b u q _ _ _=>k b u q
 slot:=fun b u q _ _ _=>⟨u.slots,k b u q⟩
 free:=fun b u q n _=>by rw[ay (Nat.ne_of_lt (Nat.lt_of_lt_of_le (Heap.lt_size q) hp))];exact n
 there:=fun b u q _=>⟨u,k b u q⟩
 oM:=fun b xs q=>by rw[ay (dD q hn)];exact q
 nK:=fun b u xs q=>by rw[ay (dD q hn)];exact q
 nj:=fun b ps q=>⟨#[],by rw[ay (dD q hn),q];simp⟩
theorem Un.write(mu:FP (H x))(he:e=x\/H e=some (.own x))(k:∀b u,b≠e->h.get? b=some u->h'.get? b=some u)(heo:∃u,h'.get? e=some u):Un fs ex H (upd H x o) h h':=by
 have hx:∀b,H b=none->b≠x:=fun b n z=>by subst z;rw[n]at mu;exact mu
 have hb:∀b,H b=none->b≠e:=fun b n z=>by
  subst z;rcases he with r|r
  . exact hx b n r
  . rw[n]at r;cases r
 have hm:∀b u,H b=some u->¬FP (some u)->b≠x:=fun b u q nm z=>by subst z;rw[q]at mu;exact nm mu
 refine⟨fun b u q n _ _=>k b u (hb b n) q,fun b u q n _ _=>⟨u.slots,k b u (hb b n) q⟩,fun b u q n _=>by rw[ay (hx b n)];exact n,fun b u q _=>?_,
  fun b xs q=>by rw[ay (hm b _ q fun z=>z)];exact q,fun b u xs q=>by rw[ay (hm b _ q fun z=>z)];exact q,fun b ps q=>⟨#[],by rw[ay (hm b _ q fun z=>z),q];simp⟩⟩
 by_cases hbe:b=e
 . subst hbe;exact heo
 . exact⟨u,k b u hbe q⟩
end
def FU(h:Heap)(H:Hp):List Addr:=(List.range h.objs.size).filter fun a=>(H a).isSome
def oN(h:Heap)(H:Hp):Heap:=PySem.W.hideAll h (FU h H)
theorem DL(h:Heap)(H:Hp):(oN h H).objs.size=h.objs.size:=PySem.W.hideAll_size _ _
theorem p7{h:Heap}{H:Hp}{b:Addr}{o:Obj}(e:h.get? b=some o)(n:H b=none):(oN h H).get? b=some o:=
 PySem.W.hideAll_get _ e fun hm=>by
  have q:(H b).isSome=true:=(List.mem_filter.mp hm).2;rw[n]at q;simp at q
theorem Hm{h:Heap}{H:Hp}{b:Addr}{o:Obj}(e:(oN h H).get? b=some o):h.get? b=some o/\H b=none:=by
 have e':h.get? b=some o:=PySem.W.of_hideAll (FU h H) e;refine⟨e',?_⟩;cases q:H b with
 |none=>rfl
 |some x=>
  have hm:b∈FU h H:=List.mem_filter.mpr ⟨List.mem_range.mpr (Heap.lt_size e'),by simp[q]⟩;have z:(oN h H).get? b=none:=PySem.W.hideAll_none (FU h H) hm;rw[z]at e;cases e
def GJ(g h:Heap)(L:Addr):List (Addr×Obj):=(List.range h.objs.size).filterMap fun a=>if a=L\/(g.get? a).isSome=true then none else(h.get? a).map fun o=>(a,o)
def rest(g h:Heap)(L d:Addr):List (Addr×Obj):=(GJ g h L).filter fun p=>decide (p.1≠d)
structure Mod(K:PySem.W.Frag)(mg:Str->Option Value)(base:Heap):Prop where
 Dh:K.In base
 glob:base.Ns mainGlobals mg
 blt:∃mb,base.Ns builtinsNs mb/\∀x:Str,x≠"__name__"->mb x=bootBuiltins x
 nolimit:base.NoLimit
 seer:base.NoSeer
 bmain:∃bm ob,mg "__builtins__"=some (.ref bm)/\bm≠builtinsNs/\base.get? bm=some ob/\ob.cls= .type "module"/\ob.dict=some builtinsNs/\ob.data= .plain
structure Cx where
 prog:Program
 w:World
 K:PySem.W.Frag
 mg:Str->Option Value
 base:Heap
 A:Around
 N:List Str
 s₀:Shared
 H₀:Hp
 env:Env
 outer:List Env
 stack:List Env
 ex:List Addr
 fn:Str->Bool
 calm:Bool
 pn:List (Addr×Obj)
 xe:Value->Shared->Prop
def oZ(l:List Env):List Addr:=l.filterMap (·.frame)
abbrev Cx.fs(X:Cx):List Addr:=oZ X.outer
def yU(sc:Scope)(x:Str):Prop:=sc.names.lookup x=some .local\/sc.names.lookup x=some .cell\/sc.names.lookup x=some .free
def Loc(sc:Scope)(x:Str):Prop:=sc.names.lookup x=some .local\/sc.names.lookup x=some .cell
def Look(env:Env)(h:Heap)(m:Str->Option Value)(x:Str)(u:Value):Prop:=
 (env.kindOf x=some .local/\m x=some u)\/((env.kindOf x=some .cell\/env.kindOf x=some .free)/\∃c,env.cells.lookup x=some c/\h.IsCell c (some u))
structure Cx.Ok(X:Cx):Prop where
 mod:Mod X.K X.mg X.base
 kind:X.env.scope.kind= .function
 glob:X.env.globals=mainGlobals
 blt:X.env.builtins=builtinsNs
 above:X.s₀.heap.objs.size<=X.env.locals
 inj:∀x y c,X.env.cells.lookup x=some c->X.env.cells.lookup y=some c->x=y
 has:∀x,(X.env.kindOf x=some .cell\/X.env.kindOf x=some .free)->∃c,X.env.cells.lookup x=some c
 yw:∀x c,X.fn x=true->X.env.cells.lookup x=some c->X.s₀.heap.objs.size<=c
 hd:X.calm=true->X.A.handled=none
 frames:X.A.frames=some X.stack
 zW:X.stack=X.outer\/(X.stack=X.env::X.outer/\X.env.frame=some X.env.locals)
 CB:∀b∈X.ex,b≠X.env.locals/\∀x c,X.env.cells.lookup x=some c->c≠b
 bs:∀b o,X.base.get? b=some o->X.s₀.heap.get? b=some o/\X.H₀ b=none
 qP:X.base.objs.size<=X.s₀.heap.objs.size
 tX:∀b o,X.base.get? b=some o->b∉X.ex
 tG:∀b∈X.ex,b∉X.fs
 kj:X.s₀.heap.FunFrames X.base X.outer
 uD:∀b∈X.fs,X.H₀ b=none
 gt:X.prog.given.tree=none
structure Inv(X:Cx)(pins:List (Addr×Obj))(σ:List (Option V))(H:Hp)(s:Shared):Prop where
 ok:X.Ok
 os:s.os=X.s₀.os
 bare:AllBare s.gens
 base:Un X.fs X.ex X.H₀ H X.s₀.heap s.heap
 loc:∃m,s.heap.Ns X.env.locals m/\∀(i:Nat) (x:Str) (v:V),X.N[i]?=some x->σ[i]?=some (some v)->yU X.env.scope x->∃u,RelV v u/\Look X.env s.heap m x u
 cell:∀x c,X.env.cells.lookup x=some c->∃v,s.heap.IsCell c v
 free:H X.env.locals=none
 iI:∀x c,X.env.cells.lookup x=some c->H c=none
 pin:∀p∈X.pn++pins,s.heap.get? p.1=some p.2/\H p.1=none/\p.1≠X.env.locals/\p.1∉X.fs/\∀v,p.2.data≠ .cell v
 aJ:g9 X.prog X.w H s.heap
 len:σ.length=X.N.length
section
variable {X:Cx}{pins:List (Addr×Obj)}{σ:List (Option V)}{H H':Hp}{s:Shared}{h':Heap}
theorem Cx.Ok.Nf(ok:X.Ok){b:Addr}{o:Obj}(e:X.base.get? b=some o):b∉X.fs:=fun hb=>by
 have:=(ok.kj.mem hb).1;rw[e]at this;cases this
theorem Inv.bs(I:Inv X pins σ H s):∀b o,X.base.get? b=some o->s.heap.get? b=some o/\H b=none:=fun b o e=>
 ⟨I.base.keep b o (I.ok.bs b o e).1 (I.ok.bs b o e).2 (I.ok.Nf e) (I.ok.tX b o e),I.base.free b o (I.ok.bs b o e).1 (I.ok.bs b o e).2 (I.ok.tX b o e)⟩
theorem Inv.bk(I:Inv X pins σ H s):∀b o,X.base.get? b=some o->s.heap.get? b=some o:=fun b o e=>(I.bs b o e).1
theorem Inv.mod(I:Inv X pins σ H s):Mod X.K X.mg X.base:=I.ok.mod
theorem Inv.iD(I:Inv X pins σ H s):X.K.In s.heap:=I.ok.mod.Dh.keeps I.bk
theorem Inv.nolimit(I:Inv X pins σ H s):s.heap.NoLimit:=I.ok.mod.nolimit.keeps I.bk
theorem Inv.lt(I:Inv X pins σ H s):X.env.locals<s.heap.objs.size:=let⟨_,hn,_⟩:=I.loc;hn.lt
theorem Inv.sz(I:Inv X pins σ H s):X.s₀.heap.objs.size<=s.heap.objs.size:=Nat.le_trans I.ok.above (Nat.le_of_lt I.lt)
theorem Inv.J5(I:Inv X pins σ H s){a:Addr}(h:s.heap.objs.size<=a):a∉X.fs:=fun hb=>by
 obtain⟨_,o,ho,_⟩:=I.ok.kj.mem hb;exact absurd (Nat.lt_of_lt_of_le (Heap.lt_size ho) (Nat.le_trans I.sz h)) (Nat.lt_irrefl _)
theorem Inv.za(I:Inv X pins σ H s):∀x c,X.env.cells.lookup x=some c->c≠X.env.locals:=fun x c e z=>by
 obtain⟨v,o,ho,hd⟩:=I.cell x c e;obtain⟨m,⟨o',es,ep,ho',hd',_⟩,_⟩:=I.loc;rw[z,ho']at ho;cases ho;rw[hd']at hd;cases hd
theorem Inv.kj(I:Inv X pins σ H s):s.heap.FunFrames X.base X.outer:=by
 have all:∀(l:List Env),(∀b∈oZ l,b∈X.fs)->X.s₀.heap.FunFrames X.base l->s.heap.FunFrames X.base l:=by
  intro l;induction l with
  |nil=>intro _ _;trivial
  |cons env r ih=>
   intro hs hl;obtain⟨hk,⟨L,o,hf,hn,ho,hd⟩,hr⟩:=hl;have hL:L∈X.fs:=hs L (by unfold oZ;rw[List.filterMap_cons,hf];exact List.mem_cons_self);obtain⟨sl,e⟩:=I.base.slot L o ho (I.ok.uD L hL) hL fun z=>I.ok.tG L z hL;exact⟨hk,⟨L,_,hf,hn,e,hd⟩,ih (fun b hb=>hs b (by unfold oZ;rw[List.filterMap_cons,hf];exact List.mem_cons_of_mem _ hb)) hr⟩
 exact all X.outer (fun _ hb=>hb) I.ok.kj
theorem Inv.stack(I:Inv X pins σ H s):s.heap.FunFrames X.base X.stack:=by
 rcases I.ok.zW with e|⟨e,hf⟩
 . rw[e];exact I.kj
 . rw[e];obtain⟨m,hn,_⟩:=I.loc;refine .cons (by rw[I.ok.kind];decide) hf hn ?_ I.kj;exact Heap.get?_none_of_le (Nat.le_trans I.ok.qP I.ok.above)
theorem Inv.yo(I:Inv X pins σ H s):∀b∈oZ X.stack,b∈X.env.locals::X.fs:=fun b hb=>by
 rcases I.ok.zW with e|⟨e,hf⟩
 . rw[e]at hb;exact List.mem_cons_of_mem _ hb
 . rw[e]at hb;unfold oZ at hb;rw[List.filterMap_cons,hf]at hb;exact hb
theorem Inv.vB(I:Inv X pins σ H s):∀b∈oZ X.stack,H b=none:=fun b hb=>by
 rcases List.mem_cons.mp (I.yo b hb)with e|hb
 . rw[e];exact I.free
 . obtain⟨_,o,ho,_⟩:=I.ok.kj.mem hb;exact I.base.free b o ho (I.ok.uD b hb) fun z=>I.ok.tG b z hb
theorem Inv.step{g':Array GenState}{t':Nat}{d':Drawn}{ch:List Addr}(I:Inv X pins σ H s)
 (hch:∀b∈ch,(b∈X.ex\/X.s₀.heap.objs.size<=b)/\b≠X.env.locals/\(∀x c,X.env.cells.lookup x=some c->c≠b)/\∀p∈X.pn++pins,p.1≠b)
 (keep:∀b o,b≠X.env.locals->b∉X.fs->b∉ch->s.heap.get? b=some o->H b=none->h'.get? b=some o)
 (slot:∀b o,b≠X.env.locals->b∈X.fs->b∉ch->s.heap.get? b=some o->H b=none->∃sl,h'.get? b=some {o with slots:=sl}) (free:∀b o,b∉ch->s.heap.get? b=some o->H b=none->H' b=none)
 (there:∀b o,b∉ch->s.heap.get? b=some o->∃o',h'.get? b=some o')
 (oM:∀b xs,H b=some (.tup xs)->H' b=some (.tup xs)) (nK:∀b o u,H b=some (.gh o u)->H' b=some (.gh o u)) (nj:∀b ps,H b=some (.jT ps)->∃more,H' b=some (.jT (ps++more)))
 (ns:∀m,s.heap.Ns X.env.locals m->h'.Ns X.env.locals m) (aJ:g9 X.prog X.w H' h') (hg:AllBare g'):
 Inv X pins σ H' {s with heap:=h',gens:=g',drawn:=d',toks:=t'}:=by
 have neL:∀b o,X.s₀.heap.get? b=some o->b≠X.env.locals:=fun b o e=>Nat.ne_of_lt (Nat.lt_of_lt_of_le (Heap.lt_size e) I.ok.above)
 have neC:∀b o,X.s₀.heap.get? b=some o->b∉X.ex->b∉ch:=fun b o e hx hb=>by
  rcases(hch b hb).1 with z|z
  . exact hx z
  . exact absurd (Nat.lt_of_lt_of_le (Heap.lt_size e) z) (Nat.lt_irrefl _)
 have cellK:∀x c,X.env.cells.lookup x=some c->∀v,s.heap.IsCell c v->h'.IsCell c v:=fun x c e v ⟨o,ho,hd⟩=>by
  have nch:c∉ch:=fun z=>(hch c z).2.2.1 x c e rfl;by_cases hc:c∈X.fs
  . obtain⟨sl,q⟩:=slot c o (I.za x c e) hc nch ho (I.iI x c e);exact⟨_,q,hd⟩
  . exact⟨o,keep c o (I.za x c e) hc nch ho (I.iI x c e),hd⟩
 refine⟨I.ok,I.os,hg,⟨fun b o e n hb hx=>?_,fun b o e n hb hx=>?_,fun b o e n hx=>?_,fun b o e hx=>?_,fun b xs e=>oM b xs (I.base.oM b xs e),fun b o xs e=>nK b o xs (I.base.nK b o xs e),fun b ps e=>?_⟩,?_,fun x c e=>?_,?_,fun x c e=>?_,fun p hp=>?_,aJ,I.len⟩
 . exact keep b o (neL b o e) hb (neC b o e hx) (I.base.keep b o e n hb hx) (I.base.free b o e n hx)
 . obtain⟨sl,e1⟩:=I.base.slot b o e n hb hx;obtain⟨sl',e2⟩:=slot b _ (neL b o e) hb (neC b o e hx) e1 (I.base.free b o e n hx);exact⟨sl',e2⟩
 . obtain⟨o',e1⟩:=I.base.there b o e hx;exact free b o' (neC b o e hx) e1 (I.base.free b o e n hx)
 . obtain⟨o',e1⟩:=I.base.there b o e hx;exact there b o' (neC b o e hx) e1
 . obtain⟨m1,e1⟩:=I.base.nj b ps e;obtain⟨m2,e2⟩:=nj b _ e1;exact⟨m1++m2,by rw[e2,Array.append_assoc]⟩
 . obtain⟨m,hn,hl⟩:=I.loc;refine⟨m,ns m hn,fun i x v e1 e2 e3=>?_⟩;obtain⟨u,r,l⟩:=hl i x v e1 e2 e3;refine⟨u,r,?_⟩;rcases l with l|⟨k,c,e,z⟩
   . exact .inl l
   . exact .inr ⟨k,c,e,cellK x c e _ z⟩
 . obtain⟨v,z⟩:=I.cell x c e;exact⟨v,cellK x c e v z⟩
 . obtain⟨m,⟨o,_,_,ho,_⟩,_⟩:=I.loc;exact free _ o (fun z=>(hch _ z).2.1 rfl) ho I.free
 . obtain⟨v,o,ho,hd⟩:=I.cell x c e;exact free c o (fun z=>(hch c z).2.2.1 x c e rfl) ho (I.iI x c e)
 . obtain⟨e,n,ne,nf,d⟩:=I.pin p hp;have nch:p.1∉ch:=fun z=>(hch p.1 z).2.2.2 p hp rfl;exact⟨keep p.1 p.2 ne nf nch e n,free p.1 p.2 nch e n,ne,nf,d⟩
theorem Inv.un{t':Nat}(I:Inv X pins σ H s)(u:Un X.fs [] H H' s.heap h')(aJ:g9 X.prog X.w H' h'):Inv X pins σ H' {s with heap:=h',toks:=t'}:=by
 obtain⟨m,⟨o,es,ep,ho,r⟩,_⟩:=id I.loc;obtain⟨sl,hL⟩:=u.any ho I.free (by simp)
 exact I.step (g':=s.gens) (d':=s.drawn) (ch:=[]) (fun _ z=>nomatch z) (fun b o _ hb _ e n=>u.keep b o e n hb (by simp)) (fun b o _ hb _ e n=>u.slot b o e n hb (by simp)) (fun b o _ e n=>u.free b o e n (by simp)) (fun b o _ e=>u.there b o e (by simp)) u.oM u.nK u.nj (fun m' hm=>by
  obtain⟨o',es',ep',ho',r'⟩:=hm;rw[ho]at ho';cases ho';exact⟨_,es',ep',hL,r'⟩) aJ I.bare
theorem Inv.call{g':Array GenState}{t':Nat}{d':Drawn}{ch:List Addr}(I:Inv X pins σ H s)(u:Un (oZ X.stack) ch H H' s.heap h')(aJ:g9 X.prog X.w H' h')(hg:AllBare g')
 (hch:∀b∈ch,(b∈X.ex\/X.s₀.heap.objs.size<=b)/\b≠X.env.locals/\(∀x c,X.env.cells.lookup x=some c->c≠b)/\∀p∈X.pn++pins,p.1≠b):
 Inv X pins σ H' {s with heap:=h',gens:=g',drawn:=d',toks:=t'}:=by
 obtain⟨m,⟨o,es,ep,ho,r⟩,_⟩:=id I.loc;obtain⟨sl,hL⟩:=u.any ho I.free fun z=>(hch _ z).2.1 rfl
 exact I.step (ch:=ch) hch (fun b o hL hb hc e n=>u.keep b o e n (fun z=>(List.mem_cons.mp (I.yo b z)).elim hL hb) hc) (fun b o _ _ hc e n=>u.any e n hc) (fun b o hc e n=>u.free b o e n hc) (fun b o hc e=>u.there b o e hc) u.oM u.nK u.nj (fun m' hm=>by
  obtain⟨o',es',ep',ho',r'⟩:=hm;rw[ho]at ho';cases ho';exact⟨_,es',ep',hL,r'⟩) aJ hg
theorem Inv.turned{t':Nat}{it:Addr}(I:Inv X pins σ H s)(k:∀b o,b≠it->s.heap.get? b=some o->h'.get? b=some o)(hn:H it=none)(hL:it≠X.env.locals)
 (h1:it∈X.ex\/X.s₀.heap.objs.size<=it) (h2:∀x c,X.env.cells.lookup x=some c->c≠it) (h3:∀p∈X.pn++pins,p.1≠it):Inv X pins σ H {s with heap:=h',toks:=t'}:=by
 have nit:∀b u,H b=some u->b≠it:=fun b u e z=>by rw[z,hn]at e;cases e
 refine I.step (g':=s.gens) (d':=s.drawn) (ch:=[it]) (fun b hb=>?_) (fun b o _ _ hc e _=>k b o (fun z=>hc (by simp[z])) e) (fun b o _ _ hc e _=>⟨o.slots,k b o (fun z=>hc (by simp[z])) e⟩) (fun _ _ _ _ n=>n)
  (fun b o hc e=>⟨o,k b o (fun z=>hc (by simp[z])) e⟩) (fun _ _ e=>e) (fun _ _ _ e=>e) (fun b ps e=>⟨#[],by rw[e];simp⟩) (fun m hm=>?_) (fun b u e=>?_) I.bare
 . have e:b=it:=by simpa using hb
   subst e;exact⟨h1,hL,h2,h3⟩
 . obtain⟨o,es,ep,ho,r⟩:=hm;exact⟨o,es,ep,k _ o (Ne.symm hL) ho,r⟩
 . refine(I.aJ b u e).oA (fun c v hc q=>k c v ?_ q) (fun _ q=>q) fun _ _ q=>q;rcases hc with z|z
   . rw[z];exact nit b u e
   . exact nit c _ z
theorem Inv.tok(I:Inv X pins σ H s)(t:Nat):Inv X pins σ H {s with toks:=t}:=I.un (h':=s.heap) (t':=t) Un.refl I.aJ
theorem Inv.kept{t':Nat}(I:Inv X pins σ H s)(k:∀b u,s.heap.get? b=some u->h'.get? b=some u):Inv X pins σ H {s with heap:=h',toks:=t'}:=I.un (Un.kept k) (I.aJ.kept k)
theorem Inv.laid{a:Addr}{o:HO}{t':Nat}(I:Inv X pins σ H s)(k:∀b u,s.heap.get? b=some u->h'.get? b=some u)(hp:s.heap.objs.size<=a)(new:dB X.prog X.w (upd H a o) h' a o):
 Inv X pins σ (upd H a o) {s with heap:=h',toks:=t'}:=I.un (Un.laid k hp (I.aJ.fresh hp)) (I.aJ.laid k hp new)
theorem Inv.write{x e:Addr}{o:HO}{t':Nat}(I:Inv X pins σ H s)(mu:FP (H x))(he:e=x\/H e=some (.own x))(k:∀b u,b≠e->s.heap.get? b=some u->h'.get? b=some u)(heo:∃u,h'.get? e=some u)
 (new:dB X.prog X.w (upd H x o) h' x o):Inv X pins σ (upd H x o) {s with heap:=h',toks:=t'}:=I.un (Un.write mu he k heo) (I.aJ.write mu he k heo new)
theorem Inv.rE{pins':List (Addr×Obj)}(I:Inv X pins σ H s)(h:∀p∈pins',s.heap.get? p.1=some p.2/\H p.1=none/\p.1≠X.env.locals/\p.1∉X.fs/\∀v,p.2.data≠ .cell v):Inv X pins' σ H s:=
 ⟨I.ok,I.os,I.bare,I.base,I.loc,I.cell,I.free,I.iI,fun p hp=>(List.mem_append.mp hp).elim (fun z=>I.pin p (List.mem_append_left _ z)) (h p),I.aJ,I.len⟩
theorem zB{N:List Str}(hN:N.Nodup){i j:Nat}{x:Str}(a:N[i]?=some x)(b:N[j]?=some x):i=j:=by
 obtain⟨h1,e1⟩:=List.getElem?_eq_some_iff.mp a;obtain⟨h2,e2⟩:=List.getElem?_eq_some_iff.mp b;exact(List.getElem_inj hN).mp (e1.trans e2.symm)
theorem wD{M:Model}{A:Around}{E:Value->Shared->Prop}{i:Nat}{x:Str}{v:V}{u:Value}{Q:Unit->Shared->Prop}(I:Inv X pins σ H s)(hN:X.N.Nodup)(hi:X.N[i]?=some x)(hx:Loc X.env.scope x)(r:RelV v u)
 (h:∀s',Inv X pins (σ.set i (some v)) H s'->(∃a,Heap.SameBut a s.heap s'.heap/\(a=X.env.locals\/X.env.cells.lookup x=some a))->Q () s') (hf:X.fn x=true\/X.env.scope.names.lookup x=some .local:=by first|exact .inl rfl|exact .inr rfl|assumption):wpAny M A (storeName X.env x u) Q E s:=by
 obtain⟨m,hn,hl⟩:=id I.loc;have hcls:(X.env.scope.kind== .class||(X.env.scope.kind== .module&&X.env.locals != X.env.globals))=false:=by rw[I.ok.kind];rfl
 have hiσ:i<σ.length:=by rw[I.len];exact(List.getElem?_eq_some_iff.mp hi).1
 have za:=I.za
 have tracked:∀ {a:Addr} {h':Heap},(∃o,s.heap.get? a=some o/\H a=none)->Heap.SameBut a s.heap h'->g9 X.prog X.w H h':=fun{a h'} ha hs b ob e=>by
  obtain⟨_,_,hfree⟩:=ha;refine(I.aJ b ob e).oA (fun c w' hc q=>(hs.2 c ?_).trans q) (fun _ q=>q) fun _ _ q=>q;rintro rfl;rcases hc with rfl|hc
  . rw[hfree]at e;cases e
  . rw[hfree]at hc;cases hc
 rcases hx with hk|hk
 . refine wpAny_storeName_local hk hn (fun h' hn' hs=>?_) hcls;obtain⟨oL,_,_,hoL,_⟩:=id hn;refine h _ ⟨I.ok,I.os,I.bare,⟨fun b o e n hb hx=>?_,fun b o e n hb hx=>?_,I.base.free,fun b o e hx=>?_,I.base.oM,I.base.nK,I.base.nj⟩,⟨_,hn',fun j y v' e1 e2 e3=>?_⟩,fun y c e=>?_,I.free,I.iI,fun p hp=>?_,tracked ⟨oL,hoL,I.free⟩ hs,by simpa using I.len⟩ ⟨_,hs,.inl rfl⟩
   . exact(hs.2 b (Nat.ne_of_lt (Nat.lt_of_lt_of_le (Heap.lt_size e) I.ok.above))).trans (I.base.keep b o e n hb hx)
   . obtain⟨sl,e1⟩:=I.base.slot b o e n hb hx;exact⟨sl,(hs.2 b (Nat.ne_of_lt (Nat.lt_of_lt_of_le (Heap.lt_size e) I.ok.above))).trans e1⟩
   . obtain⟨o',e1⟩:=I.base.there b o e hx;exact⟨o',(hs.2 b (Nat.ne_of_lt (Nat.lt_of_lt_of_le (Heap.lt_size e) I.ok.above))).trans e1⟩
   . by_cases hj:j=i
     . subst hj;rw[hi]at e1;cases e1;rw[List.getElem?_set_self hiσ]at e2;cases e2;exact⟨u,r,.inl ⟨hk,by simp⟩⟩
     . rw[List.getElem?_set_ne (Ne.symm hj)]at e2;obtain⟨u',r',q⟩:=hl j y v' e1 e2 e3;refine⟨u',r',?_⟩;rcases q with⟨k,e⟩|⟨k,c,e,z⟩
       . refine .inl ⟨k,?_⟩;have:y≠x:=fun e=>hj (zB hN e1 (e▸hi));simp[this,e]
       . exact .inr ⟨k,c,e,z.sameBut hs (za y c e)⟩
   . obtain⟨w',z⟩:=I.cell y c e;exact⟨w',z.sameBut hs (za y c e)⟩
   . obtain⟨e,n,ne,nf,d⟩:=I.pin p hp;exact⟨(hs.2 p.1 ne).trans e,n,ne,nf,d⟩
 . have hfn:X.fn x=true:=by
    rcases hf with z|z
    . exact z
    . rw[z]at hk;cases hk
   obtain⟨c,hc⟩:=I.ok.has x (.inl hk);obtain⟨w',z⟩:=I.cell x c hc;refine wpAny_storeName_cell I.ok.kind hk hc z (fun h' hc' hs=>?_);obtain⟨oc,hoc,hocd⟩:=id z;refine h {s with heap:=h'} ⟨I.ok,I.os,I.bare,⟨fun b o e n hb hx=>?_,fun b o e n hb hx=>?_,I.base.free,fun b o e hx=>?_,I.base.oM,I.base.nK,I.base.nj⟩,⟨m,hn.sameBut hs (Ne.symm (za x c hc)),fun j y v' e1 e2 e3=>?_⟩,fun y c' e=>?_,I.free,I.iI,fun p hp=>?_,tracked ⟨oc,hoc,I.iI x c hc⟩ hs,by simpa using I.len⟩ ⟨c,hs,.inr hc⟩
   . exact(hs.2 b (Nat.ne_of_lt (Nat.lt_of_lt_of_le (Heap.lt_size e) (I.ok.yw x c hfn hc)))).trans (I.base.keep b o e n hb hx)
   . obtain⟨sl,e1⟩:=I.base.slot b o e n hb hx;exact⟨sl,(hs.2 b (Nat.ne_of_lt (Nat.lt_of_lt_of_le (Heap.lt_size e) (I.ok.yw x c hfn hc)))).trans e1⟩
   . obtain⟨o',e1⟩:=I.base.there b o e hx;exact⟨o',(hs.2 b (Nat.ne_of_lt (Nat.lt_of_lt_of_le (Heap.lt_size e) (I.ok.yw x c hfn hc)))).trans e1⟩
   . by_cases hj:j=i
     . subst hj;rw[hi]at e1;cases e1;rw[List.getElem?_set_self hiσ]at e2;cases e2;exact⟨u,r,.inr ⟨.inl hk,c,hc,hc'⟩⟩
     . rw[List.getElem?_set_ne (Ne.symm hj)]at e2;obtain⟨u',r',q⟩:=hl j y v' e1 e2 e3;refine⟨u',r',?_⟩;rcases q with q|⟨k,c',e,z'⟩
       . exact .inl q
       . refine .inr ⟨k,c',e,z'.sameBut hs ?_⟩;rintro rfl;exact hj (zB hN e1 (I.ok.inj _ _ _ e hc▸hi))
   . by_cases hcc:c'=c
     . subst hcc;exact⟨_,hc'⟩
     . obtain⟨w2,z2⟩:=I.cell y c' e;exact⟨w2,z2.sameBut hs hcc⟩
   . obtain⟨e,n,ne,nf,d⟩:=I.pin p hp;refine⟨(hs.2 p.1 ?_).trans e,n,ne,nf,d⟩;intro q;rw[q,hoc]at e;have q':oc=p.2:=Option.some.inj e;exact d w' (by rw[<-q'];exact hocd)
theorem tQ{M:Model}{A:Around}{E:Value->Shared->Prop}{i:Nat}{x:Str}{v:V}{u:Value}{Q:Unit->Shared->Prop}(I:Inv X pins σ H s)(hN:X.N.Nodup)(hi:X.N[i]?=some x)(hx:Loc X.env.scope x)(r:RelV v u)
 (h:∀s',Inv X pins (σ.set i (some v)) H s'->Q () s') (hf:X.fn x=true\/X.env.scope.names.lookup x=some .local:=by first|exact .inl rfl|exact .inr rfl|assumption):wpAny M A (storeName X.env x u) Q E s:=
 wD I hN hi hx r (fun s' I' _=>h s' I') hf
theorem Inv.AS{s':Shared}{ch:List Addr}(I:Inv X pins σ H s)(ho:s'.os=s.os)(u:Un (oZ X.stack) ch H H' s.heap s'.heap)(aJ:g9 X.prog X.w H' s'.heap)(hg:AllBare s'.gens)
 (hch:∀b∈ch,(b∈X.ex\/X.s₀.heap.objs.size<=b)/\b≠X.env.locals/\(∀x c,X.env.cells.lookup x=some c->c≠b)/\∀p∈X.pn++pins,p.1≠b):Inv X pins σ H' s':=by
 obtain⟨h',g',d',t',o'⟩:=s';have e:o'=s.os:=ho;subst e;exact I.call (g':=g') (t':=t') (d':=d') u aJ hg hch
end
abbrev XK:=Value->Option Addr->Hp->Prop
abbrev St:=List (Option V)
abbrev VK:=V->Hp->Prop
abbrev TE:=St->Hp->VK->Prop
abbrev TT:=St->Hp->(Bool->Hp->Prop)->Prop
abbrev TA:=St->Hp->(List V->Hp->Prop)->Prop
structure Ends where
 nx:St->Hp->Prop
 rt:VK
 bk:St->Hp->Prop:=fun _ _=>False
 ct:St->Hp->Prop:=fun _ _=>False
abbrev TS:=Ends->St->Hp->Prop
def EP(X:Cx)(pins:List (Addr×Obj))(σ:St)(Q:VK)(u:Value)(s':Shared):Prop:=∃v H',Inv X pins σ H' s'/\RelV v u/\Q v H'
def TP(X:Cx)(pins:List (Addr×Obj))(σ:St)(Q:Bool->Hp->Prop)(b:Bool)(s':Shared):Prop:=∃H',Inv X pins σ H' s'/\Q b H'
def AP(X:Cx)(pins:List (Addr×Obj))(σ:St)(Q:List V->Hp->Prop)(us:List Value)(s':Shared):Prop:=∃vs H',Inv X pins σ H' s'/\Vals vs us/\Q vs H'
def SP(X:Cx)(pins:List (Addr×Obj))(D:Ends)(f:Flow)(s':Shared):Prop:=
 match f with
 | .next=>∃σ' H',Inv X pins σ' H' s'/\D.nx σ' H'
 | .brk=>∃σ' H',Inv X pins σ' H' s'/\D.bk σ' H'
 | .cont=>∃σ' H',Inv X pins σ' H' s'/\D.ct σ' H'
 | .ret u=>∃v σ' H',Inv X pins σ' H' s'/\RelV v u/\D.rt v H'
def PE(X:Cx)(e:Expr)(t:TE):Prop:=
 ∀(pins:List (Addr×Obj)) (s:Shared) (σ:St) (H:Hp) (Q:VK),Inv X pins σ H s->t σ H Q->wpAny (model X.prog X.w) X.A (eval e X.env) (EP X pins σ Q) X.xe s
def PT(X:Cx)(e:Expr)(t:TT):Prop:=
 ∀(pins:List (Addr×Obj)) (s:Shared) (σ:St) (H:Hp) (Q:Bool->Hp->Prop),Inv X pins σ H s->t σ H Q->wpAny (model X.prog X.w) X.A (isTrue e X.env (eval e X.env)) (TP X pins σ Q) X.xe s
def PW(X:Cx)(e:Expr)(t:TT):Prop:=
 ∀(whole:Sem Value) (pins:List (Addr×Obj)) (s:Shared) (σ:St) (H:Hp) (Q:Bool->Hp->Prop),Inv X pins σ H s->t σ H Q->wpAny (model X.prog X.w) X.A (isTrue e X.env whole) (TP X pins σ Q) X.xe s
theorem PW.pt{X:Cx}{e:Expr}{t:TT}(h:PW X e t):PT X e t:=h _
def PA(X:Cx)(es:List Expr)(t:TA):Prop:=
 ∀(pos:Pos) (pins:List (Addr×Obj)) (s:Shared) (σ:St) (H:Hp) (Q:List V->Hp->Prop),Inv X pins σ H s->t σ H Q->wpAny (model X.prog X.w) X.A (spliced (backTo pos (starEach es X.env))) (AP X pins σ Q) X.xe s
def PS(X:Cx)(st:Stmt)(t:TS):Prop:=
 ∀(pins:List (Addr×Obj)) (s:Shared) (σ:St) (H:Hp) (D:Ends),Inv X pins σ H s->t D σ H->wpAny (model X.prog X.w) X.A (exec st X.env) (SP X pins D) X.xe s
def gM(X:Cx)(st:List Stmt)(t:TS):Prop:=
 ∀(pins:List (Addr×Obj)) (s:Shared) (σ:St) (H:Hp) (D:Ends),Inv X pins σ H s->t D σ H->wpAny (model X.prog X.w) X.A (execs st X.env) (SP X pins D) X.xe s
theorem bQ{α:Type}{t:Sem α}{Q Q':α->Shared->Prop}{M:Model}{A:Around}{E:Value->Shared->Prop}{s:Shared}(h:wpAny M A t Q E s)(hQ:∀a s,Q a s->Q' a s):wpAny M A t Q' E s:=wpAny_mono h hQ fun _ _ x=>x
section
variable {X:Cx}
def Kc(i:Nat):TE:=fun σ H Q=>∃v,σ[i]?=some (some v)/\Q v H
def tC(v:V):TE:=fun _ H Q=>Q v H
theorem Kt{i:Nat}{x:Str}{pos:Pos}(hN:X.N[i]?=some x)(hv:yU X.env.scope x)(hd:(x==("__debug__":Str))=false:=by decide)(hcd:(x==("__classdict__":Str))=false:=by decide):PE X (.Name x pos) (Kc i):=by
 intro pins s σ H Q I h;obtain⟨v,e,h⟩:=h;obtain⟨m,hn,hl⟩:=I.loc;obtain⟨u,r,l⟩:=hl i x v hN e hv;have fin:EP X pins σ Q u s:=⟨v,H,I,r,h⟩
 rcases l with⟨hk,hm⟩|⟨hk,c,hc,hcell⟩
 . exact wpAny_Name (wpAny_loadName_local I.ok.kind hk hn hm fin) hd
 . rcases hk with hk|hk
   . exact wpAny_Name (wpAny_loadName_cell I.ok.kind hk hc hcell fin) hd
   . exact wpAny_Name (wpAny_loadName_free I.ok.kind hk hc hcell fin hcd) hd
theorem JM{i j pos}:PE X (.Constant (.int i) j pos) (tC (.int i)):=fun _ _ _ H _ I h=>wpAny_Constant_int ⟨.int i,H,I.tok _,⟨_,rfl⟩,h⟩
theorem Lg{b j pos}:PE X (.Constant (.bool b) j pos) (tC (.bl b)):=fun _ _ _ H _ I h=>Constant_bool ⟨.bl b,H,I,rfl,h⟩
theorem J0{j pos}:PE X (.Constant .none j pos) (tC .aL):=fun _ _ _ H _ I h=>Constant_none ⟨.aL,H,I,rfl,h⟩
def Gl(X:Cx)(x:Str):Prop:=X.env.kindOf x=some .globalImplicit
theorem z8{E:Value->Shared->Prop}{pins:List (Addr×Obj)}{s:Shared}{σ:St}{H:Hp}{x:Str}{u:Value}{pos:Pos}{Q:Value->Shared->Prop}(I:Inv X pins σ H s)(hg:Gl X x)(hm:X.mg x=some u)(h:Q u s)
 (hd:(x==("__debug__":Str))=false:=by decide):wpAny (model X.prog X.w) X.A (eval (.Name x pos) X.env) Q E s:=
 Calls.Name_function_global I.ok.kind hg (Calls.loadGlobal_global (by rw[I.ok.glob];exact I.mod.glob.keeps I.bk) hm h) hd
theorem lI{E:Value->Shared->Prop}{pins:List (Addr×Obj)}{s:Shared}{σ:St}{H:Hp}{x:Str}{u:Value}{pos:Pos}{Q:Value->Shared->Prop}(I:Inv X pins σ H s)(hg:Gl X x)(hm:X.mg x=none)(hv:bootBuiltins x=some u)(h:Q u s)
 (hn:x≠"__name__":=by decide) (hd:(x==("__debug__":Str))=false:=by decide):wpAny (model X.prog X.w) X.A (eval (.Name x pos) X.env) Q E s:=by
 obtain⟨mb,h1,h2⟩:=I.mod.blt;exact Calls.Name_function_global I.ok.kind hg (Calls.loadGlobal_builtin (by rw[I.ok.glob];exact I.mod.glob.keeps I.bk) hm (by rw[I.ok.blt];exact h1.keeps I.bk) ((h2 x hn).trans hv) h) hd
theorem GQ{x:Str}{v:V}{u:Value}{pos:Pos}(hg:Gl X x)(hm:X.mg x=none)(hv:bootBuiltins x=some u)(r:RelV v u)(hn:x≠"__name__":=by decide)(hd:(x==("__debug__":Str))=false:=by decide):PE X (.Name x pos) (tC v):=
 fun _ _ _ H _ I h=>lI I hg hm hv ⟨v,H,I,r,h⟩ hn hd
variable {a b:Expr}{ta tb:TE}{pos:Pos}
def tB(t:TE):TT:=fun σ H Q=>t σ H fun x H1=>∃c,x= .bl c/\Q c H1
theorem Jt{e:Expr}{t:TE}(h:PE X e t)(he:∀whole,isTrue e X.env whole=(do let v <-whole;standAt e.pos;holding [v] (truthy v)):=by intro _;rfl):PT X e (tB t):=by
 intro pins s σ H Q I hw;refine isTrue_plain (bQ (h pins s σ H _ I hw) fun v s1 ⟨x,H1,I1,r1,q1⟩=>?_) (he _);obtain⟨d,rfl,q⟩:=q1;cases r1;exact wpAny_truthy_bool ⟨H1,I1,q⟩
variable {tA tB':TT}{rest:List Expr}
def Jf(t u:TT):TT:=fun σ H Q=>t σ H fun c H1=>if c=true then u σ H1 Q else Q false H1
def MR(t u:TT):TT:=fun σ H Q=>t σ H fun c H1=>if c=true then Q true H1 else u σ H1 Q
def M8(t:TT):TT:=fun σ H Q=>t σ H fun c H1=>Q (!c) H1
theorem pw_and1(ha:PT X a tA):PW X (.BoolOp .And [a] pos) tA:=by
 intro wh pins s σ H Q I h;refine isTrue_and (bQ (ha pins s σ H Q I h) fun c s1 e=>?_);cases c with
 |true=>exact isTrue_and_nil e
 |false=>exact e
theorem pw_or1(ha:PT X a tA):PW X (.BoolOp .Or [a] pos) tA:=by
 intro wh pins s σ H Q I h;refine isTrue_or (bQ (ha pins s σ H Q I h) fun c s1 e=>?_);cases c with
 |false=>exact isTrue_or_nil e
 |true=>exact e
theorem pw_and(ha:PT X a tA)(hb:PW X (.BoolOp .And (b::rest) pos) tB'):PW X (.BoolOp .And (a::b::rest) pos) (Jf tA tB'):=by
 intro wh pins s σ H Q I h;refine isTrue_and (bQ (ha pins s σ H _ I h) fun c s1 ⟨H1,I1,q1⟩=>?_);cases c with
 |true=>exact hb wh pins s1 σ H1 Q I1 q1
 |false=>exact⟨H1,I1,q1⟩
theorem pw_or(ha:PT X a tA)(hb:PW X (.BoolOp .Or (b::rest) pos) tB'):PW X (.BoolOp .Or (a::b::rest) pos) (MR tA tB'):=by
 intro wh pins s σ H Q I h;refine isTrue_or (bQ (ha pins s σ H _ I h) fun c s1 ⟨H1,I1,q1⟩=>?_);cases c with
 |true=>exact⟨H1,I1,q1⟩
 |false=>exact hb wh pins s1 σ H1 Q I1 q1
theorem IH(ha:PT X a tA):PT X (.UnaryOp .Not a pos) (M8 tA):=by
 intro pins s σ H Q I h;exact isTrue_not (ha pins s σ H (fun c H1=>Q (!c) H1) I h)
def Lb(ta tb:TE):TE:=fun σ H Q=>ta σ H fun x H1=>∃c,x= .bl c/\if c=true then tb σ H1 Q else Q (.bl false) H1
def Nv(ta tb:TE):TE:=fun σ H Q=>ta σ H fun x H1=>∃c,x= .bl c/\if c=true then Q (.bl true) H1 else tb σ H1 Q
def Ma(ta:TE):TE:=fun σ H Q=>ta σ H fun x H1=>∃c,x= .bl c/\Q (.bl (!c)) H1
theorem II{op}{t:TE}(h:PE X a t):PE X (.BoolOp op [a] pos) t:=fun pins s σ H Q I hw=>BoolOp_one (h pins s σ H Q I hw)
theorem Kx(ha:PE X a ta)(hb:PE X (.BoolOp .And (b::rest) pos) tb):PE X (.BoolOp .And (a::b::rest) pos) (Lb ta tb):=by
 intro pins s σ H Q I h;refine BoolOp_and (bQ (ha pins s σ H _ I h) fun v s1 ⟨x,H1,I1,r1,q1⟩=>?_);obtain⟨c,rfl,q1⟩:=q1;cases r1;refine wpAny_truthy_bool ?_;cases c with
 |true=>exact hb pins s1 σ H1 Q I1 q1
 |false=>exact⟨.bl false,H1,I1,rfl,q1⟩
theorem L7(ha:PE X a ta)(hb:PE X (.BoolOp .Or (b::rest) pos) tb):PE X (.BoolOp .Or (a::b::rest) pos) (Nv ta tb):=by
 intro pins s σ H Q I h;refine BoolOp_or (bQ (ha pins s σ H _ I h) fun v s1 ⟨x,H1,I1,r1,q1⟩=>?_);obtain⟨c,rfl,q1⟩:=q1;cases r1;refine wpAny_truthy_bool ?_;cases c with
 |false=>exact hb pins s1 σ H1 Q I1 q1
 |true=>exact⟨.bl true,H1,I1,rfl,q1⟩
theorem JU(ha:PE X a ta):PE X (.UnaryOp .Not a pos) (Ma ta):=by
 intro pins s σ H Q I h;refine UnaryOp_ (bQ (ha pins s σ H _ I h) fun v s1 ⟨x,H1,I1,r1,q1⟩=>?_);obtain⟨c,rfl,q1⟩:=q1;cases r1;exact not_of (wpAny_truthy_bool ⟨.bl (!c),H1,I1,rfl,q1⟩)
def Om(t:TT)(ta tb:TE):TE:=fun σ H Q=>t σ H fun c H1=>if c=true then ta σ H1 Q else tb σ H1 Q
theorem EB{c:Expr}(hc:PT X c tA)(ha:PE X a ta)(hb:PE X b tb):PE X (.IfExp c a b pos) (Om tA ta tb):=by
 intro pins s σ H Q I h;refine wpAny_IfExp (bQ (hc pins s σ H _ I h) fun d s1 ⟨H1,I1,q1⟩=>?_);cases d with
 |true=>exact ha pins s1 σ H1 Q I1 q1
 |false=>exact hb pins s1 σ H1 Q I1 q1
end
def mf(K:PySem.W.Frag)(H:Hp)(a:Addr)(xs:List V):Prop:=
 Rd H a (.lst xs)\/
  ∃(o:Obj) (its:Array Value) (n:Nat),K.lookup a=some o/\o.cls= .type "list"/\o.dict=none/\o.data= .seq its n/\its.size<=sizeLine/\Vals xs its.toList
def i3(K:PySem.W.Frag)(H:Hp)(a:Addr)(xs:List V):Prop:=
 Rd H a (.tup xs)\/
  ∃(o:Obj) (its:Array Value) (n:Nat),K.lookup a=some o/\o.cls= .type "tuple"/\o.data= .seq its n/\its.size<=sizeLine/\Vals xs its.toList
def NN:Value->Option V
 | .none=>some .aL
 | .bool b=>some (.bl b)
 | .int i _=>some (.int i)
 | .str x _=>some (.str x)
 | .bytes b _=>some (.sR b)
 | .float b _=>some (.s_ b)
 | .ref a=>some (.ref a)
 | .type n=>some (.ty n)
 |_=>none
theorem RelV.abs{x:V}{u:Value}(r:RelV x u):NN u=some x:=by
 cases x with
 |aL=>cases r;rfl
 |bl _=>cases r;rfl
 |int _=>obtain⟨t,rfl⟩:=r;rfl
 |str _=>obtain⟨t,rfl⟩:=r;rfl
 |sR _=>obtain⟨t,rfl⟩:=r;rfl
 |s_ _=>obtain⟨t,rfl⟩:=r;rfl
 |ref _=>cases r;rfl
 |ty _=>cases r;rfl
theorem RelV.inj{x y:V}{u:Value}(r:RelV x u)(q:RelV y u):x=y:=Option.some.inj (r.abs.symm.trans q.abs)
theorem Vals.inj:∀ {xs ys:List V} {us:List Value},Vals xs us->Vals ys us->xs=ys
 |_,_,_,.nil,.nil=>rfl
 |_,_,_,.cons r t,.cons r' t'=>by rw[r.inj r',Vals.inj t t']
section
variable {X:Cx}{pins:List (Addr×Obj)}{σ:St}{H:Hp}{s:Shared}{a:Addr}{xs ys:List V}
theorem mf.of{K:PySem.W.Frag}(h:H a=some (.lst xs)):mf K H a xs:= .inl (.inl h)
theorem i3.of{K:PySem.W.Frag}(h:H a=some (.tup xs)):i3 K H a xs:= .inl (.inl h)
theorem Inv.list(I:Inv X pins σ H s)(h:mf X.K H a xs):∃its:List Value,Vals xs its/\PlainL s.heap a its.toArray/\xs.length<=sizeLine:=by
 rcases h with h|⟨o,its,n,hk,hc,hd,hs,hz,r⟩
 . obtain⟨z,its,n,r,e⟩:=h.ok I.aJ;exact⟨its,r,⟨_,n,e,rfl,rfl,rfl⟩,z⟩
 . refine⟨its.toList,r,⟨o,n,I.iD a o hk,hc,hd,by simpa using hs⟩,?_⟩;have e:=r.length;simp only[Array.length_toList]at e;omega
theorem Inv.tuple(I:Inv X pins σ H s)(h:i3 X.K H a xs):∃its:List Value,Vals xs its/\IsTup s.heap a its.toArray/\xs.length<=sizeLine:=by
 rcases h with h|⟨o,its,n,hk,hc,hs,hz,r⟩
 . obtain⟨z,its,r,p⟩:=h.ok I.aJ;exact⟨its,r,p,z⟩
 . refine⟨its.toList,r,⟨o,I.iD a o hk,hc,n,by simpa using hs⟩,?_⟩;have e:=r.length;simp only[Array.length_toList]at e;omega
theorem Inv.yY(I:Inv X pins σ H s)(h:mf X.K H a xs)(h':mf X.K H a ys):xs=ys:=by
 obtain⟨its,r,⟨o,n,e,_,_,d⟩,_⟩:=I.list h;obtain⟨its',r',⟨o',n',e',_,_,d'⟩,_⟩:=I.list h';rw[e]at e';cases e';rw[d]at d';injection d' with d1 _;have:its=its':=by simpa using congrArg Array.toList d1
 subst this;exact r.inj r'
theorem Inv.wR(I:Inv X pins σ H s)(h:i3 X.K H a xs)(h':i3 X.K H a ys):xs=ys:=by
 obtain⟨its,r,⟨o,e,_,n,d⟩,_⟩:=I.tuple h;obtain⟨its',r',⟨o',e',_,n',d'⟩,_⟩:=I.tuple h';rw[e]at e';cases e';rw[d]at d';injection d' with d1 _;have:its=its':=by simpa using congrArg Array.toList d1
 subst this;exact r.inj r'
end
abbrev Cx.oK(X:Cx)(E:Value->Shared->Prop):Cx:={X with xe:=E}
abbrev Cx.uv(X:Cx):Cx:=X.oK fun _ _=>False
theorem Cx.Ok.oK{X:Cx}(ok:X.Ok)(E:Value->Shared->Prop):(X.oK E).Ok:=
 ⟨ok.mod,ok.kind,ok.glob,ok.blt,ok.above,ok.inj,ok.has,ok.yw,ok.hd,ok.frames,ok.zW,ok.CB,ok.bs,ok.qP,ok.tX,ok.tG,ok.kj,ok.uD,ok.gt⟩
theorem Cx.Ok.lK{X:Cx}{E:Value->Shared->Prop}(ok:(X.oK E).Ok):X.Ok:=
 ⟨ok.mod,ok.kind,ok.glob,ok.blt,ok.above,ok.inj,ok.has,ok.yw,ok.hd,ok.frames,ok.zW,ok.CB,ok.bs,ok.qP,ok.tX,ok.tG,ok.kj,ok.uD,ok.gt⟩
section
variable {X:Cx}{pins:List (Addr×Obj)}{σ:St}{H:Hp}{s:Shared}{E:Value->Shared->Prop}
theorem Inv.oK(I:Inv X pins σ H s)(E:Value->Shared->Prop):Inv (X.oK E) pins σ H s:=⟨I.ok.oK E,I.os,I.bare,I.base,I.loc,I.cell,I.free,I.iI,I.pin,I.aJ,I.len⟩
theorem Inv.lK(I:Inv (X.oK E) pins σ H s):Inv X pins σ H s:=⟨I.ok.lK,I.os,I.bare,I.base,I.loc,I.cell,I.free,I.iI,I.pin,I.aJ,I.len⟩
theorem SP.lK{D:Ends}{f:Flow}{s':Shared}(h:SP (X.oK E) pins D f s'):SP X pins D f s':=by
 cases f with
 |next=>obtain⟨σ',H',I,q⟩:=h;exact⟨σ',H',I.lK,q⟩
 |brk=>obtain⟨σ',H',I,q⟩:=h;exact⟨σ',H',I.lK,q⟩
 |cont=>obtain⟨σ',H',I,q⟩:=h;exact⟨σ',H',I.lK,q⟩
 |ret u=>obtain⟨v,σ',H',I,r,q⟩:=h;exact⟨v,σ',H',I.lK,r,q⟩
theorem gM.uv{st:List Stmt}{t:TS}(h:gM X.uv st t):gM X st t:=fun pins s σ H D I hw=>
 wpAny_mono (h pins s σ H D (I.oK _) hw) (fun _ _ q=>q.lK) fun _ _ z=>False.elim z
end
section
variable {X:Cx}{st:Stmt}{rest:List Stmt}{t u:TS}{e:Expr}{te:TE}{pos:Pos}
def Lj:TS:=fun D σ H=>D.nx σ H
def M7(t u:TS):TS:=fun D σ H=>t {D with nx:=u D} σ H
theorem GP:gM X [] Lj:=fun _ _ σ H _ I h=>wpAny_execs_nil ⟨σ,H,I,h⟩
theorem Fp(h1:PS X st t)(h2:gM X rest u):gM X (st::rest) (M7 t u):=by
 intro pins s σ H D I h;refine wpAny_execs_cons (bQ (h1 pins s σ H {D with nx:=u D} I h) fun f s1 q=>?_);cases f with
 |next=>
  obtain⟨σ',H',I',q⟩:=q;exact h2 pins s1 σ' H' D I' q
 |ret v=>exact q
 |brk=>exact q
 |cont=>exact q
theorem HP(h1:PS X st t):gM X [st] t:=by
 intro pins s σ H D I h;refine wpAny_execs_cons (bQ (h1 pins s σ H D I h) fun f s1 q=>?_);cases f with
 |next=>exact wpAny_execs_nil q
 |ret v=>exact q
 |brk=>exact q
 |cont=>exact q
theorem Inv.quiet{pins:List (Addr×Obj)}{σ:St}{H:Hp}{s:Shared}(I:Inv X pins σ H s):interactive X.env=false:=by simp[interactive,I.ok.kind]
def K0(te:TE):TS:=fun D σ H=>te σ H fun _ H1=>D.nx σ H1
theorem H0(he:PE X e te)(hs:swapsWith e none pos.line X.env=pure false:=by rfl):PS X (.Expr e pos) (K0 te):=by
 intro pins s σ H D I h;exact wpAny_Expr_any (bQ (he pins s σ H _ I h) fun v s1 ⟨x,H1,I1,r1,q1⟩=>⟨σ,H1,I1,q1⟩) I.quiet hs
def Nh(te:TE):TS:=fun D σ H=>te σ H D.rt
theorem J6(he:PE X e te):PS X (.Return (some e) pos) (Nh te):=by
 intro pins s σ H D I h;exact wpAny_Return_some (bQ (he pins s σ H _ I h) fun v s1 ⟨x,H1,I1,r1,q1⟩=>⟨x,σ,H1,I1,r1,q1⟩)
def M6(c:TT)(t u:TS):TS:=fun D σ H=>c σ H fun b H1=>if b=true then t D σ H1 else u D σ H1
theorem Mg{c:Expr}{a b:List Stmt}{tc:TT}(hc:PT X c tc)(ha:gM X a t)(hb:gM X b u):PS X (.If c a b pos) (M6 tc t u):=by
 intro pins s σ H D I h;refine wpAny_If (bQ (hc pins s σ H _ I h) fun d s1 ⟨H1,I1,q1⟩=>?_);cases d with
 |true=>exact ha pins s1 σ H1 D I1 q1
 |false=>exact hb pins s1 σ H1 D I1 q1
end
abbrev TG:=V->St->Hp->(St->Hp->Prop)->Prop
abbrev x8:=List V->St->Hp->(St->Hp->Prop)->Prop
def PG(X:Cx)(target:Expr)(t:TG):Prop:=
 ∀(pins:List (Addr×Obj)) (s:Shared) (σ:St) (H:Hp) (v:V) (u:Value) (Q:St->Hp->Prop),Inv X pins σ H s->RelV v u->t v σ H Q->
  wpAny (model X.prog X.w) X.A (assign target X.env u) (fun _ s'=>∃σ' H',Inv X pins σ' H' s'/\Q σ' H') X.xe s
def FQ(X:Cx)(ts:List Expr)(t:x8):Prop:=
 ∀(pins:List (Addr×Obj)) (s:Shared) (σ:St) (H:Hp) (vs:List V) (us:List Value) (Q:St->Hp->Prop),Inv X pins σ H s->Vals vs us->t vs σ H Q->
  wpAny (model X.prog X.w) X.A (assignInOrder ((assignEach ts X.env).map (·.2)) us) (fun _ s'=>∃σ' H',Inv X pins σ' H' s'/\Q σ' H') X.xe s
abbrev FD:=V->V->V->Hp->(Hp->Prop)->Prop
def Kz(X:Cx)(t:FD):Prop:=
 ∀(pins:List (Addr×Obj)) (s:Shared) (σ:St) (H:Hp) (o i v:V) (ov iv u:Value) (Q:Hp->Prop),Inv X pins σ H s->RelV o ov->RelV i iv->RelV v u->t o i v H Q->
  wpAny (model X.prog X.w) X.A (setItem ov iv u) (fun _ s'=>∃H',Inv X pins σ H' s'/\Q H') X.xe s
abbrev Ga:=V->V->Hp->VK->Prop
def JD(X:Cx)(op:Operator)(t:Ga):Prop:=
 ∀(pins:List (Addr×Obj)) (s:Shared) (σ:St) (H:Hp) (x y:V) (v u:Value) (Q:VK),Inv X pins σ H s->RelV x v->RelV y u->t x y H Q->
  wpAny (model X.prog X.w) X.A (inplaceOp op v u) (EP X pins σ Q) X.xe s
section
variable {X:Cx}{pos:Pos}
def mD(i:Nat):TG:=fun v σ H Q=>Q (σ.set i (some v)) H
theorem vh{i:Nat}{x:Str}(hN:X.N.Nodup)(hi:X.N[i]?=some x)(hx:Loc X.env.scope x)(hf:X.fn x=true\/X.env.scope.names.lookup x=some .local:=by first|exact .inl rfl|exact .inr rfl|assumption):PG X (.Name x pos) (mD i):=by
 intro pins s σ H v u Q I r h;exact wpAny_assign_Name (tQ I hN hi hx r (fun s' I'=>⟨_,H,I',h⟩) hf)
def Jv:x8:=fun vs σ H Q=>vs=[]/\Q σ H
def Bf(t:TG)(u:x8):x8:=fun vs σ H Q=>∃v r,vs=v::r/\t v σ H fun σ' H'=>u r σ' H' Q
theorem HJ:FQ X [] Jv:=by
 intro pins s σ H vs us Q I r h;obtain⟨e,h⟩:=h;subst e;cases r;exact assignInOrder_nil ⟨σ,H,I,h⟩
theorem zC{e:Expr}{es:List Expr}{t:TG}{u:x8}(h1:PG X e t)(h2:FQ X es u)
 (hs:(assignEach (e::es) X.env).map (·.2)=assign e X.env::(assignEach es X.env).map (·.2):=by rfl):FQ X (e::es) (Bf t u):=by
 intro pins s σ H vs us Q I r h;obtain⟨v,vr,e1,h⟩:=h;subst e1;cases r with
 |cons r rr=>
  rw[hs];refine assignInOrder_cons (bQ (h1 pins s σ H _ _ _ I r h) fun _ s1 ⟨σ1,H1,I1,q1⟩=>?_);exact h2 pins s1 σ1 H1 _ _ Q I1 rr q1
def Kq(K:PySem.W.Frag)(n:Nat)(t:x8):TG:=fun v σ H Q=>∃a xs,v= .ref a/\i3 K H a xs/\xs.length=n/\t xs σ H Q
theorem Jc{es:List Expr}{k:Nat}{t:x8}{n:Nat}(hc:X.calm=true)(h:FQ X es t)
 (hn:(assignEach es X.env).length=n:=by rfl) (hst:(assignEach es X.env).findIdx? (·.1)=none:=by rfl):PG X (.Tuple es k pos) (Kq X.K n t):=by
 intro pins s σ H v u Q I r hw;obtain⟨a,xs,e1,hq,hl,hw⟩:=hw;subst e1;cases r;obtain⟨its,rv,ht,hz⟩:=I.tuple hq;refine assign_Tuple_tuple (I.ok.hd hc) ht (by simp[hn,<-hl,rv.length]) hst fun h' hx=>?_;have I1:Inv X pins σ H {s with heap:=h'}:=I.kept (t':=s.toks) fun b o e=>hx b o (Nat.ne_of_lt (Heap.lt_size e)) e;exact h pins _ σ H xs _ Q I1 (by simpa using rv) hw
def BB(to ti:TE)(t:FD):TG:=fun v σ H Q=>to σ H fun o H1=>ti σ H1 fun i H2=>t o i v H2 fun H3=>Q σ H3
theorem J8{o i:Expr}{to ti:TE}{t:FD}(ho:PE X o to)(hi:PE X i ti)(hs:Kz X t)
 (ha:∀v,assign (.Subscript o i pos) X.env v=(do
   let ov <-holding [v] (eval o X.env)
   let iv <-holding [v,ov] (eval i X.env)
   standAt pos
   holding [v,ov,iv] (setItem ov iv v)
   release [v,ov,iv] []):=by intro _;rfl):PG X (.Subscript o i pos) (BB to ti t):=by
 intro pins s σ H v u Q I r h;rw[ha];refine wpAny_bind (wpAny_holding (bQ (ho pins s σ H _ I h) fun ov s1 ⟨x,H1,I1,r1,q1⟩=>?_));refine wpAny_bind (wpAny_holding (bQ (hi pins s1 σ H1 _ I1 q1) fun iv s2 ⟨y,H2,I2,r2,q2⟩=>?_));refine wpAny_bind (wpAny_standAt (wpAny_bind (wpAny_holding (bQ (hs pins s2 σ H2 x y v ov iv u _ I2 r1 r2 r q2) fun _ s3 ⟨H3,I3,q3⟩=>?_))));exact wpAny_release ⟨σ,H3,I3,q3⟩
def oQ(te:TE)(g:TG):TS:=fun D σ H=>te σ H fun x H1=>g x σ H1 D.nx
theorem Cr{tg e:Expr}{te:TE}{g:TG}(he:PE X e te)(hg:PG X tg g)(hs:swapsWithSole [tg] e pos.line X.env=pure false:=by rfl)(hw:swappedStores [tg] e X.env=pure none:=by rfl)
 (h1:(assignEach [tg] X.env).map (·.2)=[assign tg X.env]:=by rfl):PS X (.Assign [tg] e pos) (oQ te g):=by
 intro pins s σ H D I h;refine wpAny_Assign_stores (bQ (he pins s σ H _ I h) fun v s1 ⟨x,H1,I1,r1,q1⟩=>?_) hs hw;rw[h1];exact bQ (hg pins s1 σ H1 x v _ I1 r1 q1) fun _ s2 q=>q
theorem Kj{i:Nat}{x:Str}{e:Expr}{te:TE}{pos':Pos}(hN:X.N.Nodup)(hi:X.N[i]?=some x)(hx:Loc X.env.scope x)(he:PE X e te)(hs:swapsWith e (some (.Name x pos')) pos.line X.env=pure false:=by rfl)(hf:X.fn x=true\/X.env.scope.names.lookup x=some .local:=by first|exact .inl rfl|exact .inr rfl|assumption):
 PS X (.Assign [.Name x pos'] e pos) (oQ te (mD i)):=by
 intro pins s σ H D I h;refine wpAny_Assign_Name (bQ (he pins s σ H _ I h) fun v s1 ⟨y,H1,I1,r1,q1⟩=>?_) hs;exact tQ I1 hN hi hx r1 (fun s2 I2=>⟨_,H1,I2,q1⟩) hf
def IP(i:Nat)(te:TE)(ti:Ga):TS:=fun D σ H=>∃x,σ[i]?=some (some x)/\te σ H fun y H1=>ti x y H1 fun z H2=>D.nx (σ.set i (some z)) H2
theorem Ir{i:Nat}{x:Str}{e:Expr}{te:TE}{op:Operator}{ti:Ga}{pos':Pos}(hN:X.N.Nodup)(hi:X.N[i]?=some x)(hx:Loc X.env.scope x)(he:PE X e te)(ho:JD X op ti)(hf:X.fn x=true\/X.env.scope.names.lookup x=some .local:=by first|exact .inl rfl|exact .inr rfl|assumption):
 PS X (.AugAssign (.Name x pos') op e pos) (IP i te ti):=by
 intro pins s σ H D I h;obtain⟨v,e1,h⟩:=h;obtain⟨m,hn,hl⟩:=I.loc;have vis:yU X.env.scope x:=by rcases hx with k|k;exact .inl k;exact .inr (.inl k)
 obtain⟨u,r,l⟩:=hl i x v hi e1 vis;refine wpAny_AugAssign_Name ?_
 have go:wpAny (model X.prog X.w) X.A (eval e X.env) (fun w s₂=>wpAny (model X.prog X.w) X.A (inplaceOp op u w) (fun r s₃=>wpAny (model X.prog X.w) X.A (storeName X.env x r) (fun _=>SP X pins D .next) X.xe s₃) X.xe s₂) X.xe s:=by
  refine bQ (he pins s σ H _ I h) fun w s1 ⟨y,H1,I1,r1,q1⟩=>?_;refine bQ (ho pins s1 σ H1 v y u w _ I1 r r1 q1) fun z s2 ⟨zv,H2,I2,r2,q2⟩=>?_;exact tQ I2 hN hi hx r2 (fun s3 I3=>⟨_,H2,I3,q2⟩) hf
 rcases l with⟨hk,hm⟩|⟨hk,c,hc,hcell⟩
 . exact wpAny_loadName_local I.ok.kind hk hn hm go
 . rcases hk with hk|hk
   . exact wpAny_loadName_cell I.ok.kind hk hc hcell go
   . rcases hx with k|k
     . have:X.env.scope.names.lookup x=some .free:=hk;rw[k]at this;cases this
     . have:X.env.scope.names.lookup x=some .free:=hk;rw[k]at this;cases this
def IX(f:Int->Int->Int):Ga:=fun x y H Q=>∃i j,x= .int i/\y= .int j/\Q (.int (f i j)) H
theorem J4:JD X .Add (IX fun i j=>i+j):=by
 intro pins s σ H x y v u Q I r1 r2 h;obtain⟨i,j,e1,e2,q⟩:=h;subst e1;subst e2;obtain⟨t,rfl⟩:=r1;obtain⟨t',rfl⟩:=r2;exact iadd_int ⟨.int _,H,I.tok _,⟨_,rfl⟩,q⟩
def CY(c:TT)(tb:TS):TS:=fun D σ H=>∃W:Nat->St->Hp->Prop,(∃m,W m σ H)/\∀m σ H,W m σ H->
 c σ H fun b H1=>if b=true then∃N:St->Hp->Prop,(∀σ' H',N σ' H'->∃m',m'<m/\W m' σ' H')/\tb {D with nx:=N,ct:=N,bk:=D.nx} σ H1 else D.nx σ H1
theorem Fb{c:Expr}{body:List Stmt}{tc:TT}{tb:TS}(hp:PassesOwn (model X.prog X.w) X.A X.env X.xe)(hc:PT X c tc)(hb:gM X body tb):PS X (.While c body [] pos) (CY tc tb):=by
 intro pins s σ H D I h;obtain⟨W,⟨m0,w0⟩,turn⟩:=h;refine wpAny_While (codeAny_whileLoop (fun n s'=>∃σ' H',Inv X pins σ' H' s'/\W n σ' H') ?_ m0 ⟨σ,H,I,w0⟩);rintro n s1 ⟨σ1,H1,I1,w1⟩;refine wpAny_passesOwn hp (bQ (hc pins s1 σ1 H1 _ I1 (turn n σ1 H1 w1)) fun b s2 ⟨H2,I2,q2⟩=>?_);cases b with
 |true=>
  obtain⟨N,hN,q2⟩:=q2;rw[if_pos rfl];refine wpAny_passesOwn hp (bQ (hb pins s2 σ1 H2 _ I2 q2) fun f s3 q3=>?_);cases f with
  |next=>
   obtain⟨σ3,H3,I3,n3⟩:=q3;obtain⟨m',hm,w3⟩:=hN σ3 H3 n3;exact⟨m',hm,σ3,H3,I3,w3⟩
  |cont=>
   obtain⟨σ3,H3,I3,n3⟩:=q3;obtain⟨m',hm,w3⟩:=hN σ3 H3 n3;exact⟨m',hm,σ3,H3,I3,w3⟩
  |brk=>exact q3
  |ret v=>exact q3
 |false=>
  rw[if_neg Bool.false_ne_true];exact wpAny_execs_nil ⟨σ1,H2,I2,q2⟩
end
structure It where
 go:Nat->Hp->Prop
 oX:Nat->Hp->V->Hp->Prop
 stop:Nat->Hp->Prop
def kv(X:Cx)(pins:List (Addr×Obj))(H:Hp)(b:Addr):Prop:=
 H b=none/\b≠X.env.locals/\b∉X.fs/\(b∈X.ex\/X.s₀.heap.objs.size<=b)/\(∀x c,X.env.cells.lookup x=some c->c≠b)/\∀p∈X.pn++pins,p.1≠b
theorem Inv.vx{X:Cx}{pins:List (Addr×Obj)}{σ:St}{H H':Hp}{s:Shared}{b:Addr}(I:Inv X pins σ H s)(hb:s.heap.objs.size<=b)(hn:H' b=none):kv X pins H' b:=by
 refine⟨hn,Nat.ne_of_gt (Nat.lt_of_lt_of_le I.lt hb),I.J5 hb,.inr (Nat.le_trans I.sz hb),fun x c e z=>?_,fun p hp z=>?_⟩
 . obtain⟨v,q⟩:=I.cell x c e;exact absurd (Nat.lt_of_lt_of_le q.lt (by rw[z];exact hb)) (Nat.lt_irrefl _)
 . exact absurd (Nat.lt_of_lt_of_le (Heap.lt_size (I.pin p hp).1) (by rw[z];exact hb)) (Nat.lt_irrefl _)
structure Turn(P:Program)(w:World)(K:PySem.W.Frag)(tg:Expr)(J:It)(fp:List Addr)(it:Addr)(tn:Nat->Heap->Prop):Prop where
 mem:it∈fp
 obj:∀i h,tn i h->∀b∈fp,∃o,h.get? b=some o/\∀v,o.data≠ .cell v
 keep:∀i h h',tn i h->(∀b∈fp,∀o,h.get? b=some o->h'.get? b=some o)->tn i h'
 item:∀(X:Cx),X.prog=P->X.w=w->X.K=K->X.calm=true->∀(i:Nat) (pins:List (Addr×Obj)) (s:Shared) (σ:St) (H:Hp) (E:Value->Shared->Prop),Inv X pins σ H s->(∀b∈fp,kv X pins H b)->tn i s.heap->J.go i H->
  wpAny (model P w) X.A (pyNext (.ref it)) (fun r s1=>∃u,r=some u/\
   wpAny (model P w) X.A (letOwnedTupleGo tg (.ref it) u) (fun _ s2=>∃x H',Inv X pins σ H' s2/\RelV x u/\J.oX i H x H'/\tn (i+1) s2.heap/\∀b∈fp,H' b=none) E s1) E s
 done:∀(X:Cx),X.prog=P->X.w=w->X.K=K->X.calm=true->∀(i:Nat) (pins:List (Addr×Obj)) (s:Shared) (σ:St) (H:Hp) (E:Value->Shared->Prop),Inv X pins σ H s->(∀b∈fp,kv X pins H b)->tn i s.heap->J.stop i H->
  wpAny (model P w) X.A (pyNext (.ref it)) (fun r s1=>r=none/\Inv X pins σ H s1) E s
 self:∀(A:Around) (i:Nat) (s:Shared) (Q:Value->Shared->Prop) (E:Value->Shared->Prop),tn i s.heap->Q (.ref it) s->wpAny (model P w) A (pyIter (.ref it)) Q E s
abbrev TI:=St->Hp->(It->Hp->Prop)->Prop
def F0(X:Cx)(pins:List (Addr×Obj))(σ:St)(tg:Expr)(R:It->Hp->Prop)(itv:Value)(s2:Shared):Prop:=
 ∃(it:Addr) (fp:List Addr) (tn:Nat->Heap->Prop) (J:It) (H':Hp),itv= .ref it/\Inv X pins σ H' s2/\Turn X.prog X.w X.K tg J fp it tn/\tn 0 s2.heap/\(∀b∈fp,kv X pins H' b)/\R J H'
def PI(X:Cx)(tg iter:Expr)(wi:TI):Prop:=
 ∀(pins:List (Addr×Obj)) (s:Shared) (σ:St) (H:Hp) (R:It->Hp->Prop),Inv X pins σ H s->wi σ H R->
  wpAny (model X.prog X.w) X.A (eval iter X.env) (fun v s1=>wpAny (model X.prog X.w) X.A (pyIter v) (F0 X pins σ tg R) X.xe s1) X.xe s
theorem Be{M:Model}{A:Around}{E:Value->Shared->Prop}{s:Shared}{tg:Expr}{it:Addr}{u:Value}{o:Obj}{n:String}{vs:Array Value}{Q:Unit->Shared->Prop}(ho:s.heap.get? it=some o)(hc:o.cls= .type n)(hd:o.data= .fields vs)
 (hn: ["enumerate","zip","dict_itemiterator","dict_reverseitemiterator","odict_iterator","itertools.zip_longest","itertools.pairwise"].contains n=false) (hQ:Q () s):wpAny M A (letOwnedTupleGo tg (.ref it) u) Q E s:=by
 unfold letOwnedTupleGo
 cases tg<;>first
  |exact wpAny_pure hQ
  |(cases u<;>first
     |exact wpAny_pure hQ
     |(refine wpAny_bind (wpAny_load ho ?_)
       rw[hc,hd];show wpAny M A (if(["enumerate","zip","dict_itemiterator","dict_reverseitemiterator","odict_iterator","itertools.zip_longest","itertools.pairwise"].contains n&&vs[0]?==some (rawInt _))=true then _ else _) Q E s;rw[if_neg (by intro h;rw[hn,Bool.false_and]at h;cases h)];exact wpAny_pure hQ))
def Iz(K:PySem.W.Frag)(a:Addr):It:=
 ⟨fun i H=>∃xs x,mf K H a xs/\xs[i]?=some x,fun i H x H'=>H'=H/\∀xs,mf K H a xs->xs[i]?=some x,fun i H=>∃xs,mf K H a xs/\xs.length<=i⟩
def Ik(K:PySem.W.Frag)(a:Addr):It:=
 ⟨fun i H=>∃xs x,i3 K H a xs/\xs[i]?=some x,fun i H x H'=>H'=H/\∀xs,i3 K H a xs->xs[i]?=some x,fun i H=>∃xs,i3 K H a xs/\xs.length<=i⟩
def vW(lo:Int)(n:Nat):It:=⟨fun i _=>i<n,fun i H x H'=>H'=H/\x= .int (lo+i),fun i _=>n<=i⟩
theorem DV{P:Program}{w:World}{K:PySem.W.Frag}{tg:Expr}(a it:Addr):Turn P w K tg (Iz K a) [it] it (fun i h=>h.IsListIter it a i) where
 mem:=by simp
 obj:=fun i h st b hb=>by
  have e:b=it:=by simpa using hb
  subst e;obtain⟨o,e,c,d⟩:=st;exact⟨o,e,fun v z=>by rw[d]at z;cases z⟩
 keep:=fun i h h' st k=>st.at fun o e=>k it (by simp) o e
 item:=by
  intro X hP hw hK hc i pins s σ H E I hf st hg;subst hP hw hK;obtain⟨xs,x,hq,hx⟩:=hg;obtain⟨its,rv,p,hz⟩:=I.list hq;obtain⟨u,hu,ru⟩:=rv.get hx;obtain⟨f0,f1,f2,f3,f4,f5⟩:=hf it (by simp);refine wpAny_pyNext_list_item st p.isList (x:=u) (by simpa using hu) fun h' st' sb=>?_;have I1:Inv X pins σ H {s with heap:=h'}:=I.turned (t':=s.toks) (fun b o hb e=>(sb.2 b hb).trans e) f0 f1 f3 f4 f5;obtain⟨o,e,c,d⟩:=id st';exact⟨u,rfl,Be (s:={s with heap:=h'}) e c d (by decide) ⟨x,H,I1,ru,⟨rfl,fun ys hy=>by rw[I.yY hy hq];exact hx⟩,st',fun b hb=>(hf b hb).1⟩⟩
 done:=by
  intro X hP hw hK hc i pins s σ H E I hf st hg;subst hP hw hK;obtain⟨xs,hq,hx⟩:=hg;obtain⟨its,rv,p,hz⟩:=I.list hq;obtain⟨f0,f1,f2,f3,f4,f5⟩:=hf it (by simp);have hl:=rv.length;exact wpAny_pyNext_list_end (I.ok.hd hc) st p.isList (by simp;omega) fun h' eb=>⟨rfl,I.turned (t':=s.toks) (fun b o hb e=>eb b o hb e) f0 f1 f3 f4 f5⟩
 self:=fun _ _ _ _ _ st h=>wpAny_pyIter_listiter st h
theorem BU{P:Program}{w:World}{K:PySem.W.Frag}{tg:Expr}(a it:Addr):Turn P w K tg (Ik K a) [it] it (fun i h=>h.IsTupleIter it a i) where
 mem:=by simp
 obj:=fun i h st b hb=>by
  have e:b=it:=by simpa using hb
  subst e;obtain⟨o,e,c,d⟩:=st;exact⟨o,e,fun v z=>by rw[d]at z;cases z⟩
 keep:=fun i h h' st k=>st.at fun o e=>k it (by simp) o e
 item:=by
  intro X hP hw hK hc i pins s σ H E I hf st hg;subst hP hw hK;obtain⟨xs,x,hq,hx⟩:=hg;obtain⟨its,rv,p,hz⟩:=I.tuple hq;obtain⟨u,hu,ru⟩:=rv.get hx;obtain⟨f0,f1,f2,f3,f4,f5⟩:=hf it (by simp);refine wpAny_pyNext_tuple_item st (show s.heap.IsTuple a its.toArray from p) (x:=u) (by simpa using hu) fun h' st' sb=>?_;have I1:Inv X pins σ H {s with heap:=h'}:=I.turned (t':=s.toks) (fun b o hb e=>(sb.2 b hb).trans e) f0 f1 f3 f4 f5;obtain⟨o,e,c,d⟩:=id st';exact⟨u,rfl,Be (s:={s with heap:=h'}) e c d (by decide) ⟨x,H,I1,ru,⟨rfl,fun ys hy=>by rw[I.wR hy hq];exact hx⟩,st',fun b hb=>(hf b hb).1⟩⟩
 done:=by
  intro X hP hw hK hc i pins s σ H E I hf st hg;subst hP hw hK;obtain⟨xs,hq,hx⟩:=hg;obtain⟨its,rv,p,hz⟩:=I.tuple hq;obtain⟨f0,f1,f2,f3,f4,f5⟩:=hf it (by simp);have hl:=rv.length;exact wpAny_pyNext_tuple_end (I.ok.hd hc) st (show s.heap.IsTuple a its.toArray from p) (by simp;omega) fun h' eb=>⟨rfl,I.turned (t':=s.toks) (fun b o hb e=>eb b o hb e) f0 f1 f3 f4 f5⟩
 self:=fun _ _ _ _ _ st h=>wpAny_pyIter_tupleiter st h
theorem BK{P:Program}{w:World}{K:PySem.W.Frag}{tg:Expr}(it:Addr)(lo:Int)(n:Nat):Turn P w K tg (vW lo n) [it] it (fun i h=>IsRangeIter h it (lo+(i:Nat)*1) ((n:Int)-(i:Nat)) 1) where
 mem:=by simp
 obj:=fun i h st b hb=>by
  have e:b=it:=by simpa using hb
  subst e
  exact⟨_,st,fun v z=>by
   have z':Data.fields _=Data.cell v:=z;cases z'⟩
 keep:=fun i h h' st k=>k it (by simp) _ st
 item:=by
  intro X hP hw hK hc i pins s σ H E I hf st hg;subst hP hw hK;obtain⟨f0,f1,f2,f3,f4,f5⟩:=hf it (by simp);have W:=Walks.range (prog:=X.prog) (w:=X.w) (I.ok.hd hc) it lo 1 n;refine W.item i s _ _ hg st fun v h' tk hv st' kk=>?_;obtain⟨t,rfl⟩:=hv;have I1:Inv X pins σ H {s with heap:=h',toks:=tk}:=I.turned (fun b o hb e=>kk b o (by simpa using hb) e) f0 f1 f3 f4 f5;refine⟨_,rfl,Be (s:={s with heap:=h',toks:=tk}) (n:="range_iterator") st' rfl rfl (by decide) ⟨.int (lo+i),H,I1,⟨t,?_⟩,⟨rfl,rfl⟩,st',fun b hb=>(hf b hb).1⟩⟩;rw[Int.mul_one]
 done:=by
  intro X hP hw hK hc i pins s σ H E I hf st hg;subst hP hw hK;obtain⟨f0,f1,f2,f3,f4,f5⟩:=hf it (by simp);exact wpAny_pyNext_range_end (I.ok.hd hc) st (by have:n<=i:=hg;omega) fun h' eb=>⟨rfl,I.turned (t':=s.toks) (fun b o hb e=>eb b o hb e) f0 f1 f3 f4 f5⟩
 self:=fun _ _ _ _ _ st h=>wpAny_pyIter_rangeiter st h
section
variable {X:Cx}{tg:Expr}
theorem yv{pins:List (Addr×Obj)}{σ:St}{H:Hp}{s:Shared}{R:It->Hp->Prop}{E:Value->Shared->Prop}{lo hi:Int}{t u v:Tok}{tk:Nat}(I:Inv X pins σ H s)(h1: -(2^62)<=lo)(h2:lo<2^62)(h3: -(2^62)<=hi)(h4:hi<2^62)
 (q:R (vW lo (hi-lo).toNat) H):wpAny (model X.prog X.w) X.A (pyIter (.ref s.heap.objs.size)) (F0 X pins σ tg R) E {s with heap:=s.heap.push {cls:= .type "range",data:= .fields #[.int lo t,.int hi u,.int 1 v]},toks:=tk}:=by
 refine wpAny_pyIter_range (IsRange.new ..) (small_one h1 h2 h3 h4) ?_;have I1:Inv X pins σ H {s with heap:=s.heap.push {cls:= .type "range",data:= .fields #[.int lo t,.int hi u,.int 1 v]},toks:=tk}:=I.kept fun b o e=>Heap.get?_push_of_some _ e
 refine⟨(s.heap.push {cls:= .type "range",data:= .fields #[.int lo t,.int hi u,.int 1 v]}).objs.size,[(s.heap.push {cls:= .type "range",data:= .fields #[.int lo t,.int hi u,.int 1 v]}).objs.size],_,_,H,rfl,
  I1.kept (t':=tk) fun b o e=>Heap.get?_push_of_some _ e,BK _ lo (hi-lo).toNat,?_,fun b hb=>?_,q⟩
 . have e1:lo+((0:Nat):Int)*1=lo:=by simp
   have e2:(((hi-lo).toNat:Nat):Int)-((0:Nat):Int)=Builtin.Range.rangeSize lo hi 1:=by rw[rangeSize_one];split<;>omega
   show IsRangeIter _ _ (lo+((0:Nat):Int)*1) ((((hi-lo).toNat:Nat):Int)-((0:Nat):Int)) 1;rw[e1,e2];exact Heap.get?_push_size _ rfl
 . have e:b=(s.heap.push {cls:= .type "range",data:= .fields #[.int lo t,.int hi u,.int 1 v]}).objs.size:=by simpa using hb
   subst e;exact I1.vx (Nat.le_refl _) (I1.aJ.fresh (Nat.le_refl _))
def Ba(ta:TA):TI:=fun σ H R=>ta σ H fun vs H1=>∃j:Int,vs=[.int j]/\ -(2^62)<=j/\j<2^62/\R (vW 0 j.toNat) H1
def A4(ta:TA):TI:=fun σ H R=>ta σ H fun vs H1=>∃i j:Int,vs=[.int i,.int j]/\(-(2^62)<=i/\i<2^62/\ -(2^62)<=j/\j<2^62)/\R (vW i (j-i).toNat) H1
theorem Dn{a:Expr}{ta:TA}{p pos:Pos}(hg:Gl X "range")(hm:X.mg "range"=none)(ha:PA X [a] ta)(hs:starEach [a] X.env=[(false,eval a X.env)]:=by rfl):PI X tg (.Call (.Name "range" p) [a] [] pos) (Ba ta):=by
 intro pins s σ H R I h;refine Call_ (lI I hg hm boot_range (PyProof.Rows.callWith_type1 (bQ (ha pos pins s σ H _ I h) fun us s1 ⟨vs,H1,I1,r1,q1⟩=>?_) hs rfl));obtain⟨j,e,q1,q2,q⟩:=q1;subst e;cases r1 with
 |cons r rr=>
  cases rr;obtain⟨t,rfl⟩:=r;exact call_range_1 (yv I1 (by omega) (by omega) q1 q2 (by simpa using q))
theorem Dg{a b:Expr}{ta:TA}{p pos:Pos}(hg:Gl X "range")(hm:X.mg "range"=none)(ha:PA X [a,b] ta)(hs:starEach [a,b] X.env=[(false,eval a X.env),(false,eval b X.env)]:=by rfl)(hs2:starEach [b] X.env=[(false,eval b X.env)]:=by rfl):
 PI X tg (.Call (.Name "range" p) [a,b] [] pos) (A4 ta):=by
 intro pins s σ H R I h;refine Call_ (lI I hg hm boot_range (PyProof.Rows.callWith_type1 (bQ (ha pos pins s σ H _ I h) fun us s1 ⟨vs,H1,I1,r1,q1⟩=>?_) (by rw[hs,hs2]) (by rw[hs2];rfl)));obtain⟨i,j,e,⟨q1,q2,q3,q4⟩,q⟩:=q1;subst e;cases r1 with
 |cons r rr=>
  cases rr with
  |cons r' rr=>
   cases rr;obtain⟨t,rfl⟩:=r;obtain⟨t',rfl⟩:=r';exact call_range_2 (yv I1 q1 q2 q3 q4 q)
def JN(wi:TI)(g:TG)(tb:TS):TS:=fun D σ H=>wi σ H fun J H1=>∃W:Nat->Nat->St->Hp->Prop,(∃m,W 0 m σ H1)/\∀i m σ H,W i m σ H->
 (J.stop i H/\D.nx σ H)\/(J.go i H/\∃N:St->Hp->Prop,(∀σ' H',N σ' H'->∃m',m'<m/\W (i+1) m' σ' H')/\∀x H',J.oX i H x H'->g x σ H' fun σ2 H2=>tb {D with nx:=N,ct:=N,bk:=D.nx} σ2 H2)
def rq(fp:List Addr)(h:Heap):List (Addr×Obj):=fp.filterMap fun b=>(h.get? b).map fun o=>(b,o)
theorem mK{fp:List Addr}{h:Heap}{b:Addr}{o:Obj}(hb:b∈fp)(e:h.get? b=some o):(b,o)∈rq fp h:=List.mem_filterMap.mpr ⟨b,hb,by rw[e];rfl⟩
theorem CN{fp:List Addr}{h:Heap}{p:Addr×Obj}(hp:p∈rq fp h):p.1∈fp/\h.get? p.1=some p.2:=by
 obtain⟨b,hb,e⟩:=List.mem_filterMap.mp hp;cases q:h.get? b with
 |none=>rw[q]at e;cases e
 |some o=>
  rw[q]at e;have e':(b,o)=p:=Option.some.inj e;subst e';exact⟨hb,q⟩
theorem Inv.pinned{pins:List (Addr×Obj)}{σ:St}{H:Hp}{s:Shared}{fp:List Addr}(I:Inv X pins σ H s)(hf:∀b∈fp,kv X pins H b)(ho:∀b∈fp,∃o,s.heap.get? b=some o/\∀v,o.data≠ .cell v):Inv X (pins++rq fp s.heap) σ H s:=
 I.rE fun p hp=>(List.mem_append.mp hp).elim (fun z=>I.pin p (List.mem_append_right _ z)) fun z=>by
  obtain⟨hb,e⟩:=CN z;obtain⟨f0,f1,f2,_⟩:=hf p.1 hb;obtain⟨o,e',d⟩:=ho p.1 hb;rw[e]at e';cases e';exact⟨e,f0,f1,f2,d⟩
theorem Inv.gR{pins pl:List (Addr×Obj)}{σ:St}{H:Hp}{s:Shared}(I:Inv X (pins++pl) σ H s):Inv X pins σ H s:=I.rE fun p hp=>I.pin p (List.mem_append_right _ (List.mem_append_left _ hp))
theorem Jw{iter:Expr}{body:List Stmt}{wi:TI}{g:TG}{tb:TS}{pos:Pos}(hp:PassesOwn (model X.prog X.w) X.A X.env X.xe)(hc:X.calm=true)(hi:PI X tg iter wi)(hg:PG X tg g)(hb:gM X body tb)
 (hs:∀x,foldedSetIterable iter X.env x=pure x:=by intro _;rfl):PS X (.For tg iter body [] pos) (JN wi g tb):=by
 intro pins s σ H D I h;refine wpAny_For (bQ (hi pins s σ H _ I h) fun v s1 h1=>bQ h1 fun itv s2 h2=>?_) hs;obtain⟨it,fp,tn,J,H2,e,I2,T,st2,f2,W,⟨m0,w0⟩,turn⟩:=h2;subst e;have stat:∀ {H':Hp},(∀b∈fp,H' b=none)->∀b∈fp,kv X pins H' b:=fun hn b hb=>⟨hn b hb,(f2 b hb).2⟩
 refine codeAny_forLoop_any (fun n s'=>∃i σ' H',Inv X pins σ' H' s'/\tn i s'.heap/\(∀b∈fp,H' b=none)/\W i n σ' H') ?_ m0 ⟨0,σ,H2,I2,st2,fun b hb=>(f2 b hb).1,w0⟩;rintro n s3 ⟨i,σ3,H3,I3,st3,fr3,w3⟩;rcases turn i n σ3 H3 w3 with⟨stop,qn⟩|⟨go,N,hN,step⟩
 . refine wpAny_passesOwn hp (bQ (T.done X rfl rfl rfl hc i pins s3 σ3 H3 X.xe I3 (stat fr3) st3 stop) fun r s4 ⟨hr,I4⟩=>?_);subst hr;exact wpAny_execs_nil ⟨σ3,H3,I4,qn⟩
 . refine wpAny_passesOwn hp (bQ (T.item X rfl rfl rfl hc i pins s3 σ3 H3 X.xe I3 (stat fr3) st3 go) fun r s4 ⟨u,hr,h4⟩=>?_);subst hr;refine wpAny_passesOwn hp (bQ h4 fun _ s5 ⟨x,H5,I5,r5,y5,st5,fr5⟩=>?_);have I5':=I5.pinned (stat fr5) (T.obj _ _ st5);refine wpAny_passesOwn hp (bQ (hg _ s5 σ3 H5 x u _ I5' r5 (step x H5 y5)) fun _ s6 ⟨σ6,H6,I6,q6⟩=>?_);refine wpAny_passesOwn hp (bQ (hb _ s6 σ6 H6 _ I6 q6) fun f s7 q7=>?_)
   have again:∀ {σ7:St} {H7:Hp},Inv X (pins++rq fp s5.heap) σ7 H7 s7->N σ7 H7->∃m,m<n/\∃i σ' H',Inv X pins σ' H' s7/\tn i s7.heap/\(∀b∈fp,H' b=none)/\W i m σ' H':=fun{σ7 H7} I7 n7=>by
    obtain⟨m',hm,w7⟩:=hN σ7 H7 n7;refine⟨m',hm,i+1,σ7,H7,I7.gR,T.keep _ _ _ st5 fun b hb o e=>(I7.pin (b,o) (List.mem_append_right _ (List.mem_append_right _ (mK hb e)))).1,fun b hb=>?_,w7⟩;obtain⟨o,e,d⟩:=T.obj _ _ st5 b hb;exact(I7.pin (b,o) (List.mem_append_right _ (List.mem_append_right _ (mK hb e)))).2.1
   cases f with
   |next=>obtain⟨σ7,H7,I7,n7⟩:=q7;exact again I7 n7
   |cont=>obtain⟨σ7,H7,I7,n7⟩:=q7;exact again I7 n7
   |brk=>obtain⟨σ7,H7,I7,q7⟩:=q7;exact⟨σ7,H7,I7.gR,q7⟩
   |ret v=>obtain⟨x7,σ7,H7,I7,r7,q7⟩:=q7;exact⟨x7,σ7,H7,I7.gR,r7,q7⟩
end
theorem jS{lo:Int}{n:Nat}{g:TG}{tb:TS}{D:Ends}{σ:St}{H:Hp}(Pv:Nat->St->Hp->Prop)(h0:Pv 0 σ H)
 (hs:∀i σ H,i<n->Pv i σ H->g (.int (lo+i)) σ H fun σ2 H2=>tb {D with nx:=Pv (i+1),ct:=Pv (i+1),bk:=D.nx} σ2 H2) (hd:∀σ H,Pv n σ H->D.nx σ H):
 ∃W:Nat->Nat->St->Hp->Prop,(∃m,W 0 m σ H)/\∀i m σ H,W i m σ H->
  ((vW lo n).stop i H/\D.nx σ H)\/((vW lo n).go i H/\∃N:St->Hp->Prop,(∀σ' H',N σ' H'->∃m',m'<m/\W (i+1) m' σ' H')/\∀x H',(vW lo n).oX i H x H'->g x σ H' fun σ2 H2=>tb {D with nx:=N,ct:=N,bk:=D.nx} σ2 H2):=by
 refine⟨fun i m σ H=>m=n-i/\i<=n/\Pv i σ H,⟨n,by simp,Nat.zero_le _,h0⟩,?_⟩;rintro i m σ H ⟨rfl,hi,p⟩;by_cases hlt:i<n
 . refine .inr ⟨hlt,Pv (i+1),fun σ' H' p'=>⟨n-(i+1),by omega,rfl,hlt,p'⟩,fun x H' y=>?_⟩;obtain⟨e,y⟩:=y;subst e y;exact hs i σ _ hlt p
 . have e:i=n:=by omega
   subst e;exact .inl ⟨Nat.le_refl _,hd σ H p⟩
abbrev R2:=V->V->Hp->VK->Prop
def bS(X:Cx)(f:Value->Value->Sem Value)(r:R2):Prop:=
 ∀(pins:List (Addr×Obj)) (s:Shared) (σ:St) (H:Hp) (x y:V) (v u:Value) (Q:VK),Inv X pins σ H s->RelV x v->RelV y u->r x y H Q->
  wpAny (model X.prog X.w) X.A (f v u) (EP X pins σ Q) X.xe s
def Ad(X:Cx)(f:Value->Sem Value)(r:V->Hp->VK->Prop):Prop:=
 ∀(pins:List (Addr×Obj)) (s:Shared) (σ:St) (H:Hp) (x:V) (v:Value) (Q:VK),Inv X pins σ H s->RelV x v->r x H Q->
  wpAny (model X.prog X.w) X.A (f v) (EP X pins σ Q) X.xe s
def bp(X:Cx)(f:Value)(r:List V->Hp->VK->Prop):Prop:=
 ∀(pins:List (Addr×Obj)) (s:Shared) (σ:St) (H:Hp) (xs:List V) (us:List Value) (Q:VK),Inv X pins σ H s->Vals xs us->r xs H Q->
  wpAny (model X.prog X.w) X.A (call f us) (EP X pins σ Q) X.xe s
def D2(r:R2)(ta tb:TE):TE:=fun σ H Q=>ta σ H fun x H1=>tb σ H1 fun y H2=>r x y H2 Q
def MF(r:V->Hp->VK->Prop)(ta:TE):TE:=fun σ H Q=>ta σ H fun x H1=>r x H1 Q
def rI(C:Int->Int->Prop)(g:Int->Int->V):R2:=fun x y H Q=>∃i j,x= .int i/\y= .int j/\C i j/\Q (g i j) H
def ux(g:Int->Int->V):R2:=fun x y H Q=>∃i j,x= .int i/\y= .int j/\Q (g i j) H
def rU(g:Int->V):V->Hp->VK->Prop:=fun x H Q=>∃i,x= .int i/\Q (g i) H
section
variable {X:Cx}{a b c:Expr}{ta tb tc:TE}{pos:Pos}
theorem Fz(ha:PE X a ta)(hb:PE X b tb){pins:List (Addr×Obj)}{s:Shared}{σ:St}{H:Hp}{R:V->V->Hp->Prop}(I:Inv X pins σ H s)
 (h:ta σ H fun x H1=>tb σ H1 fun y H2=>R x y H2) {Q:Value->Shared->Prop} {f:Value->Value->Sem Value}
 (hf:∀v u s2 x y H2,Inv X pins σ H2 s2->RelV x v->RelV y u->R x y H2->wpAny (model X.prog X.w) X.A (f v u) Q X.xe s2):
 wpAny (model X.prog X.w) X.A (eval a X.env) (fun v s₁=>wpAny (model X.prog X.w) X.A (eval b X.env) (fun u s₂=>wpAny (model X.prog X.w) X.A (f v u) Q X.xe s₂) X.xe s₁) X.xe s:=by
 refine bQ (ha pins s σ H _ I h) fun v s1 ⟨x,H1,I1,r1,q1⟩=>?_;refine bQ (hb pins s1 σ H1 _ I1 q1) fun u s2 ⟨y,H2,I2,r2,q2⟩=>?_;exact hf v u s2 x y H2 I2 r1 r2 q2
theorem KY{op:Operator}{r:R2}(ho:bS X (binaryOp op) r)(ha:PE X a ta)(hb:PE X b tb):PE X (.BinOp a op b pos) (D2 r ta tb):=by
 intro pins s σ H Q I h;exact wpAny_BinOp (Fz ha hb I h fun v u s2 x y H2 I2 rx ry q=>ho pins s2 σ H2 x y v u Q I2 rx ry q)
theorem KR{op:UnaryOp}{r:V->Hp->VK->Prop}(ho:Ad X (unaryOp op) r)(ha:PE X a ta):PE X (.UnaryOp op a pos) (MF r ta):=by
 intro pins s σ H Q I h;exact UnaryOp_ (bQ (ha pins s σ H _ I h) fun v s1 ⟨x,H1,I1,r1,q1⟩=>ho pins s1 σ H1 x v Q I1 r1 q1)
theorem Gj{f:Value->Value->Sem Value}{C:Int->Int->Prop}{g:Int->Int->Int}
 (rule:∀(i j:Int) (t u:Tok) (s:Shared) (Q:Value->Shared->Prop) (E:Value->Shared->Prop),C i j->Q (.int (g i j) s.toks) {s with toks:=s.toks+1}->wpAny (model X.prog X.w) X.A (f (.int i t) (.int j u)) Q E s):
 bS X f (rI C fun i j=> .int (g i j)):=by
 intro pins s σ H x y v u Q I rx ry h;obtain⟨i,j,rfl,rfl,hc,q⟩:=h;obtain⟨t,rfl⟩:=rx;obtain⟨t',rfl⟩:=ry;exact rule i j t t' s _ _ hc ⟨.int (g i j),H,I.tok _,⟨_,rfl⟩,q⟩
theorem IZ{f:Value->Value->Sem Value}{g:Int->Int->Int}
 (rule:∀(i j:Int) (t u:Tok) (s:Shared) (Q:Value->Shared->Prop) (E:Value->Shared->Prop),Q (.int (g i j) s.toks) {s with toks:=s.toks+1}->wpAny (model X.prog X.w) X.A (f (.int i t) (.int j u)) Q E s):
 bS X f (ux fun i j=> .int (g i j)):=by
 intro pins s σ H x y v u Q I rx ry h;obtain⟨i,j,rfl,rfl,q⟩:=h;obtain⟨t,rfl⟩:=rx;obtain⟨t',rfl⟩:=ry;exact rule i j t t' s _ _ ⟨.int (g i j),H,I.tok _,⟨_,rfl⟩,q⟩
theorem Bj{f:Value->Value->Sem Value}{g:Int->Int->Bool}
 (rule:∀(i j:Int) (t u:Tok) (s:Shared) (Q:Value->Shared->Prop) (E:Value->Shared->Prop),Q (.bool (g i j)) s->wpAny (model X.prog X.w) X.A (f (.int i t) (.int j u)) Q E s):
 bS X f (ux fun i j=> .bl (g i j)):=by
 intro pins s σ H x y v u Q I rx ry h;obtain⟨i,j,rfl,rfl,q⟩:=h;obtain⟨t,rfl⟩:=rx;obtain⟨t',rfl⟩:=ry;exact rule i j t t' s _ _ ⟨.bl (g i j),H,I,rfl,q⟩
def E1(i j:Int):Prop:=0<=j/\j<=1000000/\i.natAbs<2^64
theorem Iy:bS X (binaryOp .Add) (ux fun i j=> .int (i+j)):=IZ fun _ _ _ _ _ _ _ q=>add_int q
theorem Kb:bS X (binaryOp .Sub) (ux fun i j=> .int (i-j)):=IZ fun _ _ _ _ _ _ _ q=>sub_int q
theorem GN:bS X (binaryOp .Mod) (rI (fun _ j=>j≠0) fun i j=> .int (i.fmod j)):=Gj fun _ _ _ _ _ _ _ hc q=>mod_int' hc q
theorem Jg:bS X (binaryOp .Pow) (rI E1 fun i j=> .int (i^j.toNat)):=Gj fun _ _ _ _ _ _ _ hc q=>pow_int_small hc.1 hc.2.1 hc.2.2 q
theorem N1{f:Value->Sem Value}{g:Int->Int}
 (rule:∀(i:Int) (t:Tok) (s:Shared) (Q:Value->Shared->Prop) (E:Value->Shared->Prop),Q (.int (g i) s.toks) {s with toks:=s.toks+1}->wpAny (model X.prog X.w) X.A (f (.int i t)) Q E s):
 Ad X f (rU fun i=> .int (g i)):=by
 intro pins s σ H x v Q I rx h;obtain⟨i,rfl,q⟩:=h;obtain⟨t,rfl⟩:=rx;exact rule i t s _ _ ⟨.int (g i),H,I.tok _,⟨_,rfl⟩,q⟩
theorem IU:Ad X (unaryOp .USub) (rU fun i=> .int (-i)):=N1 fun _ _ _ _ _ q=>neg_int q
end
def M_:V->V->Bool
 | .aL,.aL=>true| .aL,.int _=>true| .int _,.aL=>true| .aL,.bl _=>true| .bl _,.aL=>true| .aL,.str _=>true| .str _,.aL=>true
 | .int _,.int _=>true| .bl _,.bl _=>true| .str _,.str _=>true| .sR _,.sR _=>true
 | .int _,.str _=>true| .str _,.int _=>true| .bl _,.str _=>true| .str _,.bl _=>true
 |_,_=>false
def N6:R2:=fun x y H Q=>M_ x y=true/\Q (.bl (!decide (x=y))) H
theorem GW{i j:Int}:decide (V.int i=V.int j)=(i==j):=by
 rw[Bool.eq_iff_iff];simp
theorem Km{i j:Bool}:decide (V.bl i=V.bl j)=(i==j):=by
 rw[Bool.eq_iff_iff];simp
theorem HS{i j:Str}:decide (V.str i=V.str j)=(i==j):=by
 rw[Bool.eq_iff_iff];simp
theorem HF{i j:Array UInt8}:decide (V.sR i=V.sR j)=(i.toList==j.toList):=by
 rw[Bool.eq_iff_iff];cases i;cases j;simp
section
variable {X:Cx}{a b c:Expr}{ta tb tc:TE}{pos:Pos}
theorem fA{pins:List (Addr×Obj)}{σ:St}{H:Hp}{s:Shared}{Q:VK}{k k':Bool}(I:Inv X pins σ H s)(q:Q (.bl k) H)(e:k=k'):EP X pins σ Q (.bool k') s:=by
 subst e;exact⟨.bl k,H,I,rfl,q⟩
theorem LL:bS X (compareOp .NotEq) N6:=by
 intro pins s σ H x y v u Q I rx ry h;obtain⟨hs,q⟩:=h;cases x with
 |aL=>
  cases rx;cases y with
  |aL=>cases ry;exact PySem.EqNone.ne_none_none (fA I q (by simp))
  |bl j=>cases ry;exact PySem.EqNone.ne_none_bool (fA I q (by simp))
  |int j=>obtain⟨t',rfl⟩:=ry;exact PySem.EqNone.ne_none_int (fA I q (by simp))
  |str j=>obtain⟨t',rfl⟩:=ry;exact PySem.EqNone.ne_none_str (fA I q (by simp))
  |_=>exact absurd (show false=true from hs) Bool.false_ne_true
 |bl i=>
  cases rx;cases y with
  |aL=>cases ry;exact PySem.EqNone.ne_bool_none (fA I q (by simp))
  |bl j=>cases ry;exact ne_bool (fA I q (congrArg not Km))
  |str j=>obtain⟨t',rfl⟩:=ry;exact PySem.EqMixed.ne_bool_str (fA I q (by simp))
  |_=>exact absurd (show false=true from hs) Bool.false_ne_true
 |int i=>
  obtain⟨t,rfl⟩:=rx;cases y with
  |aL=>cases ry;exact PySem.EqNone.ne_int_none (fA I q (by simp))
  |int j=>obtain⟨t',rfl⟩:=ry;exact ne_int (fA I q (congrArg not GW))
  |str j=>obtain⟨t',rfl⟩:=ry;exact PySem.EqMixed.ne_int_str (fA I q (by simp))
  |_=>exact absurd (show false=true from hs) Bool.false_ne_true
 |str i=>
  obtain⟨t,rfl⟩:=rx;cases y with
  |aL=>cases ry;exact PySem.EqNone.ne_str_none (fA I q (by simp))
  |bl j=>cases ry;exact PySem.EqMixed.ne_str_bool (fA I q (by simp))
  |int j=>obtain⟨t',rfl⟩:=ry;exact PySem.EqMixed.ne_str_int (fA I q (by simp))
  |str j=>obtain⟨t',rfl⟩:=ry;exact ne_str (fA I q (congrArg not HS))
  |_=>exact absurd (show false=true from hs) Bool.false_ne_true
 |sR i=>
  obtain⟨t,rfl⟩:=rx;cases y with
  |sR j=>obtain⟨t',rfl⟩:=ry;exact PySem.W.ne_bytes (fA I q (congrArg not HF))
  |_=>exact absurd (show false=true from hs) Bool.false_ne_true
 |_=>cases y<;>exact absurd (show false=true from hs) Bool.false_ne_true
theorem K5:bS X (compareOp .Lt) (ux fun i j=> .bl (decide (i<j))):=Bj fun _ _ _ _ _ _ _ q=>lt_int q
theorem Mu:bS X (compareOp .LtE) (ux fun i j=> .bl (decide (i<=j))):=Bj fun _ _ _ _ _ _ _ q=>le_int q
theorem Mh:bS X (compareOp .Gt) (ux fun i j=> .bl (decide (j<i))):=Bj fun _ _ _ _ _ _ _ q=>gt_int q
theorem L5:bS X (compareOp .GtE) (ux fun i j=> .bl (decide (j<=i))):=Bj fun _ _ _ _ _ _ _ q=>ge_int q
theorem bI(b:Expr){op:CmpOp}(h:op≠ .In:=by decide)(h2:op≠ .NotIn:=by decide):behindInMarks op b=false:=by
 have e1:(op==CmpOp.In)=false:=by cases op<;>first|rfl|exact absurd rfl h
 have e2:(op==CmpOp.NotIn)=false:=by cases op<;>first|rfl|exact absurd rfl h2
 cases b<;>simp[behindInMarks,e1,e2]
theorem GS{op:CmpOp}{r:R2}(ho:bS X (compareOp op) r)(ha:PE X a ta)(hb:PE X b tb)(hm:behindInMarks op b=false):PE X (.Compare a [op] [b] pos) (D2 r ta tb):=by
 intro pins s σ H Q I h;exact wpAny_Compare1 (Fz ha hb I h fun v u s2 x y H2 I2 rx ry q=>ho pins s2 σ H2 x y v u Q I2 rx ry q) hm
def MA(t:TE):TT:=fun σ H Q=>t σ H fun x H'=>∃k,x= .bl k/\Q k H'
theorem Ib{op:CmpOp}{r:R2}(ho:bS X (compareOp op) r)(ha:PE X a ta)(hb:PE X b tb)(hm:behindInMarks op b=false):PT X (.Compare a [op] [b] pos) (MA (D2 r ta tb)):=by
 intro pins s σ H Q I h
 refine wpAny_isTrue_Compare1 (bQ (ha pins s σ H _ I h) fun v s1 ⟨x,H1,I1,r1,q1⟩=>bQ (hb pins s1 σ H1 _ I1 q1) fun u s2 ⟨y,H2,I2,r2,q2⟩=>
  bQ (ho pins s2 σ H2 x y v u _ I2 r1 r2 q2) fun c s3 ⟨z,H3,I3,r3,k,e,q3⟩=>?_) hm
 subst e;cases r3;exact wpAny_truthy_bool ⟨H3,I3,q3⟩
def CZ(r r':R2)(ta tb tc:TE):TE:=fun σ H Q=>ta σ H fun x H1=>tb σ H1 fun y H2=>r x y H2 fun z H3=>∃k,z= .bl k/\
 (if k=true then tc σ H3 fun w' H4=>r' y w' H4 Q else Q (.bl false) H3)
theorem FE{op op':CmpOp}{r r':R2}(ho:bS X (compareOp op) r)(ho':bS X (compareOp op') r')(ha:PE X a ta)(hb:PE X b tb)(hc:PE X c tc)
 (hm:lastMarks [op,op'] [b,c]=false:=by with_unfolding_all rfl):PE X (.Compare a [op,op'] [b,c] pos) (CZ r r' ta tb tc):=by
 intro pins s σ H Q I h
 refine Compare_chain (bQ (ha pins s σ H _ I h) fun v s1 ⟨x,H1,I1,r1,q1⟩=>chain_link (bQ (hb pins s1 σ H1 _ I1 q1) fun u s2 ⟨y,H2,I2,r2,q2⟩=>
  bQ (ho pins s2 σ H2 x y v u _ I2 r1 r2 q2) fun d s3 ⟨z,H3,I3,r3,k,e,q3⟩=>?_)) hm
 subst e;cases r3;refine wpAny_truthy_bool ?_;cases k with
 |false=>exact ite_ff ⟨.bl false,H3,I3,rfl,q3⟩
 |true=>exact ite_tt (chain_last (bQ (hc pins s3 σ H3 _ I3 q3) fun w' s4 ⟨z',H4,I4,r4,q4⟩=>ho' pins s4 σ H4 y z' u w' Q I4 r2 r4 q4))
theorem qL:(sizeLine:Nat)<2^63:=by rw[sizeLine_eq];decide
theorem Bd:bS X (binaryOp .Add) (fun x y H Q=>∃i j,x= .str i/\y= .str j/\i.length+j.length<=sizeLine/\Q (.str (i++j)) H):=by
 intro pins s σ H x y v u Q I rx ry h;obtain⟨i,j,rfl,rfl,hz,q⟩:=h;obtain⟨t,rfl⟩:=rx;obtain⟨t',rfl⟩:=ry;exact add_str (fun t' tk=>⟨.str (i++j),H,I.tok _,⟨_,rfl⟩,q⟩) hz
theorem vals1{x:V}{us:List Value}(r:Vals [x] us):∃u,us=[u]/\RelV x u:=by
 cases r with
 |cons r1 r2=>cases r2;exact⟨_,rfl,r1⟩
theorem vals2{x y:V}{us:List Value}(r:Vals [x,y] us):∃u w',us=[u,w']/\RelV x u/\RelV y w':=by
 cases r with
 |cons r1 r2=>
  cases r2 with
  |cons r3 r4=>cases r4;exact⟨_,_,rfl,r1,r3⟩
theorem ED:bp X (.builtin "abs") (fun xs H Q=>∃i,xs=[.int i]/\Q (.int (if i<0 then-i else i)) H):=by
 intro pins s σ H xs us Q I r h;obtain⟨i,rfl,q⟩:=h;obtain⟨u,rfl,t,rfl⟩:=vals1 r;exact call_abs_int fun u tk=>⟨.int (if i<0 then-i else i),H,I.tok _,⟨_,rfl⟩,q⟩
theorem DC(hc:X.calm=true):bp X (.builtin "max") (fun xs H Q=>∃i j,xs=[.int i,.int j]/\Q (.int (if j>i then j else i)) H):=by
 intro pins s σ H xs us Q I r h;obtain⟨i,j,rfl,q⟩:=h;obtain⟨u,w',rfl,⟨t,rfl⟩,⟨t',rfl⟩⟩:=vals2 r;refine max_two_ints (I.ok.hd hc) fun h' tk k=>⟨_,H,I.kept k,?_,q⟩
 by_cases hj:j>i
 . rw[if_pos hj,if_pos hj];exact⟨_,rfl⟩
 . rw[if_neg hj,if_neg hj];exact⟨_,rfl⟩
theorem DX(hc:X.calm=true):bp X (.builtin "min") (fun xs H Q=>∃i j,xs=[.int i,.int j]/\Q (.int (if j<i then j else i)) H):=by
 intro pins s σ H xs us Q I r h;obtain⟨i,j,rfl,q⟩:=h;obtain⟨u,w',rfl,⟨t,rfl⟩,⟨t',rfl⟩⟩:=vals2 r;refine min_two_ints (I.ok.hd hc) fun h' tk k=>⟨_,H,I.kept k,?_,q⟩
 by_cases hj:j<i
 . rw[if_pos hj,if_pos hj];exact⟨_,rfl⟩
 . rw[if_neg hj,if_neg hj];exact⟨_,rfl⟩
theorem CJ:bp X (.type "int") (fun xs H Q=>(∃i,xs=[.int i]/\Q (.int i) H)\/∃k,xs=[.bl k]/\Q (.int (if k then 1 else 0)) H):=by
 intro pins s σ H xs us Q I r h;rcases h with⟨i,rfl,q⟩|⟨k,rfl,q⟩
 . obtain⟨u,rfl,t,rfl⟩:=vals1 r;exact call_int_int ⟨.int i,H,I,⟨_,rfl⟩,q⟩
 . obtain⟨u,rfl,r1⟩:=vals1 r;cases r1;exact call_int_bool ⟨.int (if k then 1 else 0),H,I.tok _,⟨_,rfl⟩,q⟩
end
structure tR(h:Heap)(x dx C:Addr)(mA:Str->Option Value):Prop where
 obj:h.get? x=some (PySem.W.instObj C dx)
 ns:h.Ns1 dx mA
 ne:dx≠x
theorem Cp{h:Heap}{dx:Addr}{mA:Str->Option Value}(n:h.Ns1 dx mA):∃od,h.get? dx=some od/\∀name,PySem.W.lookIn name od=some (mA name):=by
 obtain⟨o,es,ep,ho,hd,hk,_,hm⟩:=n;refine⟨o,ho,fun name=>?_⟩;have e:=hm name;unfold nsFind findBy at e;rw[<-Array.find?_toList]at e;unfold PySem.W.lookIn;rw[hd];dsimp only;split
 . rename_i y q;rw[q]at e;exact congrArg some e
 . rename_i q;rw[q]at e
   have a:es.toList.any (·.refKey)=false:=by
    rw[List.any_eq_false];intro y hy;obtain⟨z,t,hkey⟩:=hk y (Array.mem_toList_iff.mp hy);simp[DictEntry.refKey,hkey]
   have a':¬es.toList.any (·.refKey)=true:=by rw[a];exact Bool.false_ne_true
   rw[if_neg a'];exact congrArg some e
theorem tR.look{h:Heap}{x dx C:Addr}{mA:Str->Option Value}(I:tR h x dx C mA):∃od,PySem.W.InstAt h x (PySem.W.instObj C dx) C (some od)/\∀name,PySem.W.lookIn name od=some (mA name):=
 let⟨od,ho,hl⟩:=Cp I.ns
 ⟨od,⟨I.obj,rfl,rfl,ho⟩,hl⟩
section
variable {prog:Program}{w:World}{A:Around}{E:Value->Shared->Prop}{s:Shared}{K:PySem.W.Frag}{x dx C f:Addr}{mA:Str->Option Value}{name:Str}{v:Value}
theorem get_map{expr:Bool}{Q:Value->Shared->Prop}(X:K.In s.heap)(I:tR s.heap x dx C mA)(hg:PySem.W.plainGet K C name=true)(hh:PySem.W.hasDictIn K C=true)
 (ha:PySem.W.findIn K (.ref C) name=some none) (hv:mA name=some v) (hv':PySem.W.handedIn v=true) (h:Q v {s with toks:=s.toks+1}):
 wpAny (model prog w) A (getAttr (.ref x) name expr) Q E s:=by
 obtain⟨od,J,hl⟩:=I.look;exact PySem.W.get_value X J (PySem.W.plainGet_of hg).1 (PySem.W.findObj_own hh ha rfl (by rw[hl,hv])) hv' h
theorem Ez{pl:Sem Bool}{Q:Value×List Value->Shared->Prop}(X:K.In s.heap)(I:tR s.heap x dx C mA)(hg:PySem.W.plainGet K C name=true)
 (hf:PySem.W.findIn K (.ref C) name=some (some (.ref f))) (ht:PySem.W.isFn K (.ref f)=true) (hv:mA name=none) (h:Q (.ref f,[.ref x]) s):
 wpAny (model prog w) A (getMethod (.ref x) name pl) Q E s:=by
 obtain⟨od,J,hl⟩:=I.look;exact PySem.W.method_fn X J (PySem.W.plainGet_of hg).1 (PySem.W.plainGet_of hg).2 hf (beq_iff_eq.mp ht) (by show(PySem.W.lookIn name od).map (·.isSome)=some false;rw[hl,hv];rfl) h
theorem hZ{ns:List Str}{Q:Unit->Shared->Prop}(X:K.In s.heap)(I:tR s.heap x dx C mA)
 (hs:PySem.W.findIn K (.ref C) "__setattr__"=some (some (.builtin "object.__setattr__"))) (hp:PySem.W.plainOver K C=true) (ht:PySem.W.takerIn K C name=some none) (hh:PySem.W.hasDictIn K C=true)
 (hw:PySem.Within mA ns) (hsz:ns.length<=sizeLine)
 (h:∀h',tR h' x dx C (fun y=>if y=name then some v else mA y)->Heap.SameBut dx s.heap h'->Q () {s with heap:=h',toks:=s.toks+2}):
 wpAny (model prog w) A (setAttr (.ref x) name v) Q E s:=by
 obtain⟨od,J,hl⟩:=I.look;refine PySem.W.set_plain X J hs (PySem.W.osa_open (s:={s with toks:=s.toks+1}) (r:=none) X J hp ht fun b=>?_);obtain⟨cd,hc,hd'⟩:=PySem.W.any_some hh;have hx:s.heap.get? x=some ⟨.ref C,some dx,.plain,#[]⟩:=I.obj;refine wpAny_bind (wpAny_pure (wpAny_bind (wpAny_bind (wpAny_loadPart hx (wpAny_bind (PySem.W.Looks.here (s:={s with toks:=s.toks+1}) (PySem.W.looks_clsIn X hc) ?_))))));rw[hd'];refine wpAny_pure (a:=some dx) (wpAny_bind (wpAny_pure (wpAny_bind ?_)));refine wpAny_nsSet1 (s:={s with toks:=s.toks+1}) I.ns fun h' hn2 hs2=>?_;obtain⟨oD,esD,epD,hoD,hdD,hcD⟩:=hn2.count (PySem.Within.cons name v hw);refine wpAny_bind (wpAny_lookBehind hoD (by rw[hdD];exact pastItsLine_dict (Nat.le_trans hcD (by rw[List.length_cons];omega))) ?_);exact wpAny_pure (h _ ⟨(hs2.2 _ (Ne.symm I.ne)).trans I.obj,hn2,I.ne⟩ hs2)
theorem Fm{R:Result->Shared->Prop}{vs:List Value}{kw:List (Str×Value)}(X:K.In s.heap)(hm:PySem.W.makesIn K C=true)
 (hi:PySem.W.findIn K (.ref C) "__init__"=some (some (.ref f))) (hf:PySem.W.typeIn K (.ref f)=some (.type "function"))
 (h:codeAny (model prog w) (A.under (.builtin "type.__call__" ⟨.ref C::vs,kw⟩)) (.call (.ref f) ⟨.ref (s.heap.objs.size+1)::vs,kw⟩) (PySem.W.InitBack (s.heap.objs.size+1) R)
   {s with heap:=(s.heap.push PySem.W.emptyDict).push (PySem.W.instObj C s.heap.objs.size)}):
 codeAny (model prog w) A (.call (.ref C) ⟨vs,kw⟩) R s:=by
 obtain⟨hh,g,d,t,os⟩:=s;exact PySem.W.make_core (PySem.W.makes_of X hm) (PySem.W.looks_findIn X hi) (fun self=>PySem.W.bind_fn X self hf) (.inl rfl) h
end
def gI(f:Str)(v:V):List (Str×V)->List (Str×V)
 | []=>[(f,v)]
 |(g,x)::r=>if g=f then(g,v)::r else(g,x)::gI f v r
theorem sT(f g:Str)(v:V):∀fs:List (Str×V),(gI f v fs).lookup g=if g=f then some v else fs.lookup g
 | []=>by
   show List.lookup g [(f,v)]=_;by_cases h:g=f
   . have hb:(g==f)=true:=beq_iff_eq.mpr h;simp only[List.lookup,hb,if_pos h]
   . have hb:(g==f)=false:=beq_eq_false_iff_ne.mpr h;simp only[List.lookup,hb,if_neg h]
 |(k,x)::r=>by
  have ih:=sT f g v r;rw[show gI f v ((k,x)::r)=(if k=f then(k,v)::r else(k,x)::gI f v r)from rfl];by_cases hk:k=f
  . rw[if_pos hk];by_cases h:g=k
    . have hb:(g==k)=true:=beq_iff_eq.mpr h;simp only[List.lookup,hb,if_pos (h.trans hk)]
    . have hb:(g==k)=false:=beq_eq_false_iff_ne.mpr h;simp only[List.lookup,hb,if_neg (fun e:g=f=>h (e.trans hk.symm))]
  . rw[if_neg hk];by_cases h:g=k
    . have hb:(g==k)=true:=beq_iff_eq.mpr h;simp only[List.lookup,hb,if_neg (fun e:g=f=>hk (h.symm.trans e))]
    . have hb:(g==k)=false:=beq_eq_false_iff_ne.mpr h;simp only[List.lookup,hb];exact ih
theorem qC(f:Str)(v:V):∀fs:List (Str×V),f∈(gI f v fs).map (·.1)/\∀g,g∈fs.map (·.1)->g∈(gI f v fs).map (·.1)
 | []=>⟨by simp[gI],fun g h=>by simp at h⟩
 |(k,x)::r=>by
  obtain⟨i1,i2⟩:=qC f v r;rw[show gI f v ((k,x)::r)=(if k=f then(k,v)::r else(k,x)::gI f v r)from rfl];by_cases hk:k=f
  . rw[if_pos hk];subst hk;exact⟨by simp,fun g h=>by simpa using h⟩
  . rw[if_neg hk];refine⟨?_,fun g h=>?_⟩
    . rw[List.map_cons];exact List.mem_cons_of_mem _ i1
    . rw[List.map_cons]at h⊢;rcases List.mem_cons.mp h with e|e
      . exact List.mem_cons.mpr (.inl e)
      . exact List.mem_cons_of_mem _ (i2 g e)
theorem sW(f:Str)(v:V):∀fs:List (Str×V),(gI f v fs).length<=fs.length+1
 | []=>by simp[gI]
 |(k,x)::r=>by
  have ih:=sW f v r;rw[show gI f v ((k,x)::r)=(if k=f then(k,v)::r else(k,x)::gI f v r)from rfl];by_cases hk:k=f
  . rw[if_pos hk,List.length_cons,List.length_cons];omega
  . rw[if_neg hk,List.length_cons,List.length_cons];omega
theorem oF.some_of{v:V}{o:Option Value}(r:oF (some v) o):∃u,o=some u/\RelV v u:=by
 cases o with
 |none=>exact(show False from r).elim
 |some u=>exact⟨u,rfl,r⟩
theorem oF.none_of{o:Option Value}(r:oF none o):o=none:=by
 cases o with
 |none=>rfl
 |some u=>exact(show False from r).elim
theorem Dt{v:V}{u:Value}(r:RelV v u):PySem.W.handedIn u=true:=by
 cases v with
 |aL=>cases (show u=Value.none from r);rfl
 |bl b=>cases (show u=Value.bool b from r);rfl
 |int i=>obtain⟨t,e⟩:=(show∃t,u=Value.int i t from r);cases e;rfl
 |str x=>obtain⟨t,e⟩:=(show∃t,u=Value.str x t from r);cases e;rfl
 |sR b=>obtain⟨t,e⟩:=(show∃t,u=Value.bytes b t from r);cases e;rfl
 |s_ b=>obtain⟨t,e⟩:=(show∃t,u=Value.float b t from r);cases e;rfl
 |ref a=>cases (show u=Value.ref a from r);rfl
 |ty n=>cases (show u=Value.type n from r);rfl
section
variable {P:Program}{w:World}{H H':Hp}{h h':Heap}{a C dx:Addr}{fs fs':List (Str×V)}
theorem pa(aJ:g9 P w H h)(e:H a=some (.ins C dx fs)):∃mA,tR h a dx C mA/\(∀f,oF (fs.lookup f) (mA f))/\PySem.Within mA (fs.map (·.1))/\fs.length<=1000/\H dx=some (.own a):=by
 obtain⟨d,z,ne,ob,mA,n,r,q⟩:=(show dB P w H h a (.ins C dx fs)from aJ a _ e)
 exact⟨mA,⟨ob,n,ne⟩,r,q,z,d⟩
end
structure m7(K:PySem.W.Frag)(C:Addr):Prop where
 pg:PySem.W.plainGet K C Str.empty=true
 hd:PySem.W.hasDictIn K C=true
 po:PySem.W.plainOver K C=true
 sa:PySem.W.findIn K (.ref C) "__setattr__"=some (some (.builtin "object.__setattr__"))
theorem m7.get{K:PySem.W.Frag}{C:Addr}(c:m7 K C)(f:Str):PySem.W.plainGet K C f=true:=c.pg
def f7(K:PySem.W.Frag)(C:Addr)(f:Str):Prop:=PySem.W.findIn K (.ref C) f=some none
theorem f7.Ld{K:PySem.W.Frag}{C:Addr}{f:Str}(n:f7 K C f):PySem.W.takerIn K C f=some none:=by
 unfold PySem.W.takerIn;rw[show PySem.W.findIn K (.ref C) f=some none from n];rfl
structure Meth(K:PySem.W.Frag)(C:Addr)(m:Str)(f:Addr):Prop where
 at_:PySem.W.findIn K (.ref C) m=some (some (.ref f))
 fn:PySem.W.isFn K (.ref f)=true
 kp:PySem.W.keepIn K (.ref f)=true
section
variable {X:Cx}{pins:List (Addr×Obj)}{σ:St}{H:Hp}{s:Shared}{a C dx:Addr}{fs:List (Str×V)}{f:Str}{v:V}{A:Around}{E:Value->Shared->Prop}
theorem BY{b:Bool}{Q:Value->Shared->Prop}(I:Inv X pins σ H s)(e:H a=some (.ins C dx fs))(c:m7 X.K C)(n:f7 X.K C f)(l:fs.lookup f=some v)
 (h:∀u s',Inv X pins σ H s'->RelV v u->Q u s'):wpAny (model X.prog X.w) A (getAttr (.ref a) f b) Q E s:=by
 obtain⟨mA,O,r,_,_,_⟩:=pa I.aJ e;obtain⟨u,hu,ru⟩:=oF.some_of (v:=v) (o:=mA f) (by rw[<-l];exact r f);exact get_map I.iD O (c.get f) c.hd n hu (Dt ru) (h u _ (I.tok _) ru)
theorem BI{m:Str}{g:Addr}{pl:Sem Bool}{Q:Value×List Value->Shared->Prop}(I:Inv X pins σ H s)(e:H a=some (.ins C dx fs))(c:m7 X.K C)(k:Meth X.K C m g)(l:fs.lookup m=none)
 (h:Q (.ref g,[.ref a]) s):wpAny (model X.prog X.w) A (getMethod (.ref a) m pl) Q E s:=by
 obtain⟨mA,O,r,_,_,_⟩:=pa I.aJ e;have hn:mA m=none:=oF.none_of (by rw[<-l];exact r m);exact Ez I.iD O (c.get m) k.at_ k.fn hn h
theorem B_{y:V}{u:Value}{Q:Unit->Shared->Prop}(I:Inv X pins σ H s)(e:H a=some (.ins C dx fs))(c:m7 X.K C)(n:f7 X.K C f)(hl:fs.length<1000)(ry:RelV y u)
 (h:∀s',Inv X pins σ (upd H a (.ins C dx (gI f y fs))) s'->Q () s'):wpAny (model X.prog X.w) A (setAttr (.ref a) f u) Q E s:=by
 obtain⟨mA,O,r,wi,_,ho⟩:=pa I.aJ e;have hz:(fs.map (·.1)).length<=sizeLine:=by rw[List.length_map,sizeLine_eq];omega
 refine hZ I.iD O c.sa c.po n.Ld c.hd wi hz fun h' O' sb=>h _ ?_;have hd:∃o,h'.get? dx=some o:=let⟨o,_,_,e',_⟩:=O'.ns;⟨o,e'⟩
 refine I.write (x:=a) (e:=dx) (by rw[e];exact True.intro) (.inr ho) (fun b q hb z=>(sb.2 b hb).trans z) hd ?_;refine⟨by rw[ay O.ne];exact ho,?_,O.ne,O'.obj,_,O'.ns,fun g=>?_,fun g hg=>?_⟩
 . have:=sW f y fs;omega
 . show oF ((gI f y fs).lookup g) (if g=f then some u else mA g);rw[sT];by_cases q:g=f
   . rw[if_pos q,if_pos q];exact ry
   . rw[if_neg q,if_neg q];exact r g
 . by_cases q:g=f
   . rw[q];exact(qC f y fs).1
   . refine(qC f y fs).2 g (wi g fun z=>hg ?_);show(if g=f then some u else mA g)=none;rw[if_neg q];exact z
theorem Inv.made(I:Inv X pins σ H s):Inv X pins σ (upd (upd H s.heap.objs.size (.own (s.heap.objs.size+1))) (s.heap.objs.size+1) (.ins C s.heap.objs.size []))
 {s with heap:=(s.heap.push PySem.W.emptyDict).push (PySem.W.instObj C s.heap.objs.size)}:=by
 have e1:(s.heap.push PySem.W.emptyDict).get? s.heap.objs.size=some PySem.W.emptyDict:=Heap.get?_push_size s.heap rfl
 have e2:((s.heap.push PySem.W.emptyDict).push (PySem.W.instObj C s.heap.objs.size)).get? (s.heap.objs.size+1)=some (PySem.W.instObj C s.heap.objs.size):=by
  have:=Heap.get?_push_size (s.heap.push PySem.W.emptyDict) (o:=PySem.W.instObj C s.heap.objs.size) rfl;rwa [Heap.size_push]at this
 have e3:(s.heap.push PySem.W.emptyDict).Ns s.heap.objs.size (fun _=>none):=⟨PySem.W.emptyDict,#[],_,e1,rfl,(fun e he=>absurd he (by simp)),fun _=>rfl⟩
 have I1:=I.laid (a:=s.heap.objs.size) (o:= .own (s.heap.objs.size+1)) (h':=s.heap.push PySem.W.emptyDict) (t':=s.toks) (fun b u q=>Heap.get?_push_of_some _ q) (Nat.le_refl _) ⟨_,e1⟩;refine I1.laid (a:=s.heap.objs.size+1) (o:= .ins C s.heap.objs.size []) (t':=s.toks) (fun b u q=>Heap.get?_push_of_some _ q) (Nat.le_of_eq (Heap.size_push _ _)) ?_;have ne:s.heap.objs.size≠s.heap.objs.size+1:=Nat.ne_of_lt (Nat.lt_succ_self _);refine⟨by rw[ay ne,a6],Nat.zero_le _,ne,e2,fun _=>none,(Heap.Ns1.of_empty e3).at fun o q=>Heap.get?_push_of_some _ q,fun _=>True.intro,fun y hy=>absurd rfl hy⟩
theorem GZ{prog:Program}{w:World}{env:Env}{e:Expr}{f:Str}{pos:Pos}{s:Shared}{Q:Value->Shared->Prop}(hb:attributeBase e f env (eval e env)=eval e env)
 (h:wpAny (model prog w) A (eval e env) (fun o s₁=>wpAny (model prog w) A (getAttr o f true) Q E s₁) E s):wpAny (model prog w) A (eval (.Attribute e f pos) env) Q E s:=
 Attribute_any_ h (by rw[arm_eval_Attribute,hb])
end
def NC(K:PySem.W.Frag)(ta:TE)(f:Str):TE:=fun σ H Q=>ta σ H fun x H1=>∃a C dx fs v,x= .ref a/\H1 a=some (.ins C dx fs)/\m7 K C/\f7 K C f/\fs.lookup f=some v/\Q v H1
def NP(K:PySem.W.Frag)(ta tv:TE)(f:Str):TS:=fun D σ H=>tv σ H fun y H1=>ta σ H1 fun x H2=>∃a C dx fs,x= .ref a/\H2 a=some (.ins C dx fs)/\m7 K C/\f7 K C f/\fs.length<1000/\
 D.nx σ (upd H2 a (.ins C dx (gI f y fs)))
section
variable {X:Cx}{o e value:Expr}{f:Str}{pos pos' tpos:Pos}{ta tv:TE}
theorem Ja(he:PE X e ta)(hb:attributeBase e f X.env (eval e X.env)=eval e X.env):PE X (.Attribute e f pos) (NC X.K ta f):=by
 intro pins s σ H Q I h;refine GZ hb (bQ (he pins s σ H _ I h) fun u s1 ⟨x,H1,I1,rx,a,C,dx,fs,v,ex,ea,c,n,l,q⟩=>?_);subst ex;obtain rfl:u=Value.ref a:=rx;exact BY I1 ea c n l fun u' s2 I2 ru=>⟨v,H1,I2,ru,q⟩
theorem Io(ha:PE X o ta)(hv:PE X value tv)(hs:swapsWith value (some (.Attribute o f pos')) pos.line X.env=pure false):PS X (.Assign [.Attribute o f pos'] value pos) (NP X.K ta tv f):=by
 intro pins s σ H D I h;refine plainObj_wpAny_Assign_Attribute (bQ (hv pins s σ H _ I h) fun u s1 ⟨y,H1,I1,ry,q⟩=>bQ (ha pins s1 σ H1 _ I1 q) fun ov s2 ⟨x,H2,I2,rx,a,C,dx,fs,ex,ea,c,n,l,q2⟩=>?_) hs;subst ex;obtain rfl:ov=Value.ref a:=rx;exact B_ I2 ea c n l ry fun s3 I3=>⟨σ,_,I3,q2⟩
end
section
variable {X:Cx}{pins:List (Addr×Obj)}{σ:St}{H:Hp}{s:Shared}{A:Around}{E:Value->Shared->Prop}{Q:Value->Shared->Prop}{c:Value}{b:Bool}
inductive js(K:PySem.W.Frag)(H:Hp):V->Value->Prop where
 |aL:js K H .aL (.type "NoneType")
 |bl (x:Bool):js K H (.bl x) (.type "bool")
 |int (i:Int):js K H (.int i) (.type "int")
 |str (x:Str):js K H (.str x) (.type "str")
 |s_ (x:UInt64):js K H (.s_ x) (.type "float")
 |lst {a:Addr} {xs:List V} (e:H a=some (.lst xs)):js K H (.ref a) (.type "list")
 |gh {a:Addr} {o:Obj} {xs:List V} (e:H a=some (.gh o (.lst xs))):js K H (.ref a) (.type "list")
 |tup {a:Addr} {xs:List V} (e:H a=some (.tup xs)):js K H (.ref a) (.type "tuple")
 |dK {a:Addr} {kvs:List (Key×V)} (e:H a=some (.dK kvs)):js K H (.ref a) (.type "dict")
 |dT {a:Addr} {kvs:List (List Key×V)} (e:H a=some (.dT kvs)):js K H (.ref a) (.type "dict")
 |ins {a C dx:Addr} {fs:List (Str×V)} (e:H a=some (.ins C dx fs)) (cl:m7 K C) (ha:PySem.W.findIn K (.ref C) "__class__"=some (some (.builtin "object.__class__")))
   (hn:PySem.W.specialIn K (.builtin "object.__class__") "__get__"=some (some (.builtin "getset_descriptor.__get__"))) (htk:PySem.W.takesIn K (.builtin "object.__class__")=some true)
   (hm:PySem.W.mroIn K C (.type "object")=some true):js K H (.ref a) (.ref C)
theorem Eh{x:V}{u t:Value}(I:Inv X pins σ H s)(rx:RelV x u)(ty:js X.K H x t)(e:PySem.W.kitOne X.K t c=some b)(h:∀tk,Q (.bool b) {s with toks:=tk}):
 wpAny (model X.prog X.w) A (call (.builtin "isinstance") [u,c]) Q E s:=by
 cases ty with
 |aL=>cases (show u=Value.none from rx);exact PySem.W.kia_one PySem.W.kitx_none I.iD True.intro e (fun z=>nomatch z) h
 |bl y=>cases (show u=Value.bool y from rx);exact PySem.W.kia_one PySem.W.kitx_bool I.iD True.intro e (fun z=>nomatch z) h
 |int i=>obtain⟨t,q⟩:=(show∃t,u=Value.int i t from rx);cases q;exact PySem.W.kia_one PySem.W.kitx_int I.iD True.intro e (fun z=>nomatch z) h
 |str y=>obtain⟨t,q⟩:=(show∃t,u=Value.str y t from rx);cases q;exact PySem.W.kia_one PySem.W.kitx_str I.iD True.intro e (fun z=>nomatch z) h
 |s_ y=>obtain⟨t,q⟩:=(show∃t,u=Value.float y t from rx);cases q;exact PySem.W.kia_one PySem.W.kitx_float I.iD True.intro e (fun z=>nomatch z) h
 | @lst a xs ea=>
   cases (show u=Value.ref a from rx);obtain⟨_,_,n,_,h1⟩:=(show dB X.prog X.w H s.heap a (.lst xs)from I.aJ a _ ea)
   exact PySem.W.kia_one PySem.W.kitx_list I.iD ⟨_,h1,rfl⟩ e (fun z=>nomatch z) h
 | @gh a ob xs ea=>
   cases (show u=Value.ref a from rx);obtain⟨_,_,_,n,_,h1⟩:=(show dB X.prog X.w H s.heap a (.gh ob (.lst xs))from I.aJ a _ ea)
   exact PySem.W.kia_one PySem.W.kitx_list I.iD ⟨_,h1,rfl⟩ e (fun z=>nomatch z) h
 | @tup a xs ea=>
   cases (show u=Value.ref a from rx);obtain⟨_,_,_,p⟩:=(show dB X.prog X.w H s.heap a (.tup xs)from I.aJ a _ ea)
   obtain⟨o,h1,h2,_⟩:=p;exact PySem.W.kia_one PySem.W.kitx_tuple I.iD ⟨o,h1,h2⟩ e (fun z=>nomatch z) h
 | @dK a kvs ea=>
   cases (show u=Value.ref a from rx);obtain⟨_,_,vs,_,p⟩:=(show dB X.prog X.w H s.heap a (.dK kvs)from I.aJ a _ ea)
   obtain⟨o,es,ep,h1,h2,_⟩:=p;exact PySem.W.kia_one PySem.W.kitx_dict I.iD ⟨o,h1,h2.1⟩ e (fun z=>nomatch z) h
 | @dT a kvs ea=>
   cases (show u=Value.ref a from rx);obtain⟨_,_,xs,_,o,es,ep,h1,h2,_⟩:=(show dB X.prog X.w H s.heap a (.dT kvs)from I.aJ a _ ea)
   exact PySem.W.kia_one PySem.W.kitx_dict I.iD ⟨o,h1,h2.1⟩ e (fun z=>nomatch z) h
 | @ins a C dx fs ea cl ha hn htk hm=>
   cases (show u=Value.ref a from rx);obtain⟨mA,O,_⟩:=pa I.aJ ea;obtain⟨od,J,_⟩:=O.look;exact PySem.W.kia_one (PySem.W.kitx_own (cl.get _) cl.hd ha hn htk hm) I.iD J e (fun z=>nomatch z) h
end
structure cT(k:Nat)(A:Around):Prop where
 hd:A.handled=none
 dp:A.depth+3*k+105<recursionLimit
 un:A.units+16*k+200<cLine
theorem cT.mono{j k:Nat}{A:Around}(r:cT k A)(h:j<=k):cT j A:=⟨r.hd,by have:=r.dp;omega,by have:=r.un;omega⟩
theorem cT.deeper{k:Nat}{A:Around}(r:cT (k+1) A)(env:Env):cT k (A.deeper env):=
 ⟨r.hd,by have:=r.dp;show A.depth+1+3*k+105<_;omega,by have:=r.un;show A.units+3+16*k+200<_;omega⟩
theorem Ca{A:Around}{C:Addr}{us:List Value}{kw:List (Str×Value)}:(A.under (.builtin "type.__call__" ⟨.ref C::us,kw⟩)).depth=A.depth+1:=by
 first|rfl|simp[Around.under,Code.weight,Code.isCreation,Code.isGuard,Code.isCaller,Code.frames,Code.isFrame,guardIds]
theorem BC{A:Around}{C:Addr}{us:List Value}{kw:List (Str×Value)}:(A.under (.builtin "type.__call__" ⟨.ref C::us,kw⟩)).units=A.units+1:=by
 first|rfl|simp[Around.under,Code.cUnits,Code.frames,Code.isFrame]
theorem cT.make{k:Nat}{A:Around}(r:cT (k+1) A)(C:Addr)(us:List Value)(kw:List (Str×Value)):cT k (A.under (.builtin "type.__call__" ⟨.ref C::us,kw⟩)):=
 ⟨r.hd,by have:=r.dp;rw[Ca];omega,by have:=r.un;rw[BC];omega⟩
theorem cT.depth{k:Nat}{A:Around}(r:cT k A):A.depth<recursionLimit:=by have:=r.dp;omega
theorem cT.units{k:Nat}{A:Around}(r:cT k A):A.units+64<cLine:=by have:=r.un;omega
def M3:TA:=fun _ H Q=>Q [] H
def LQ(ta:TE)(tr:TA):TA:=fun σ H Q=>ta σ H fun x H1=>tr σ H1 fun xs H2=>Q (x::xs) H2
section
variable {X:Cx}{e:Expr}{es:List Expr}{te:TE}{t:TA}{pos:Pos}
theorem JR:PA X [] M3:=fun _ _ _ _ H Q I h=>Calls.spliced_nil ⟨[],H,I,.nil,h⟩
theorem He(ha:PE X e te)(hr:PA X es t)(hs:starEach (e::es) X.env=(false,eval e X.env)::starEach es X.env:=by rfl):PA X (e::es) (LQ te t):=by
 intro pos pins s σ H Q I h;rw[hs];show wpAny _ _ (spliced ((false,eval e X.env)::backTo pos (starEach es X.env))) _ _ s;refine Calls.spliced_cons (bQ (ha pins s σ H _ I h) fun u s1 ⟨x,H1,I1,r1,q1⟩=>?_);exact bQ (hr pos pins s1 σ H1 _ I1 q1) fun us s2 ⟨xs,H2,I2,r2,q2⟩=>⟨x::xs,H2,I2,.cons r1 r2,q2⟩
def M5(t:TA):TE:=fun σ H Q=>t σ H fun xs H1=>xs.length<=sizeLine/\∀p,H1 p=none->Q (.ref p) (upd H1 p (.tup xs))
def Nq(t:TA):TE:=fun σ H Q=>t σ H fun xs H1=>xs.length<=sizeLine/\∀p,H1 p=none->Q (.ref p) (upd H1 p (.lst xs))
theorem Kf{x1}(h:PA X es t):PE X (.Tuple es x1 pos) (M5 t):=by
 intro pins s σ H Q I hq;refine wpAny_Tuple_spliced (bQ (h pos pins s σ H _ I hq) fun us s1 ⟨xs,H1,I1,r,z,q⟩=>⟨by rw[<-r.length];exact z,?_⟩);have hf:H1 s1.heap.objs.size=none:=I1.aJ.fresh (Nat.le_refl _);refine⟨.ref s1.heap.objs.size,upd H1 s1.heap.objs.size (.tup xs),I1.laid (t':=s1.toks) (fun b u e=>Heap.get?_push_of_some _ e) (Nat.le_refl _) ?_,rfl,q _ hf⟩;exact⟨z,us,r,⟨_,Heap.get?_push_size _ rfl,rfl,_,rfl⟩⟩
theorem CG(h:PA X es t):PE X (.List es pos) (Nq t):=by
 intro pins s σ H Q I hq;refine wpAny_List_spliced (bQ (h pos pins s σ H _ I hq) fun us s1 ⟨xs,H1,I1,r,z,q⟩=>⟨by rw[<-r.length];exact z,?_⟩);have hf:H1 s1.heap.objs.size=none:=I1.aJ.fresh (Nat.le_refl _);refine⟨.ref s1.heap.objs.size,upd H1 s1.heap.objs.size (.lst xs),I1.laid (t':=s1.toks) (fun b u e=>Heap.get?_push_of_some _ e) (Nat.le_refl _) ?_,rfl,q _ hf⟩;exact⟨z,us,0,r,Heap.get?_push_size _ rfl⟩
end
abbrev Sp:=List V->Hp->VK->XK->Prop
abbrev sP:=List Env->Hp->Shared->XK->Value->Shared->Prop
structure ug(P:Program)(w:World)(K:PySem.W.Frag)(mg:Str->Option Value)(base:Heap)(A:Around)(outer:List Env)(s:Shared)(H:Hp):Prop where
 frames:A.frames=some outer
 mod:Mod K mg base
 bs:∀b o,base.get? b=some o->s.heap.get? b=some o/\H b=none
 qP:base.objs.size<=s.heap.objs.size
 kj:s.heap.FunFrames base outer
 uD:∀b∈oZ outer,H b=none
 aJ:g9 P w H s.heap
 bare:AllBare s.gens
 gt:P.given.tree=none
def CE(outer:List Env)(P:Program)(w:World)(H:Hp)(s:Shared)(Q:VK)(u:Value)(s':Shared):Prop:=
 ∃v H',s'.os=s.os/\AllBare s'.gens/\Un (oZ outer) [] H H' s.heap s'.heap/\g9 P w H' s'.heap/\RelV v u/\Q v H'
def CR(CX:sP)(outer:List Env)(P:Program)(w:World)(H:Hp)(s:Shared)(Q:VK)(E:XK)(r:Result)(s':Shared):Prop:=
 match r with
 | .ok (.ret u)=>CE outer P w H s Q u s'
 | .ok _=>False
 | .error e=>CX outer H s E e s'
structure bz(P:Program)(w:World)(K:PySem.W.Frag)(mg:Str->Option Value)(base:Heap)(CX:sP)(k:Nat)(f:Addr)(fd:FuncData)(ps:List Str)(sp:Sp):Prop where
 len:∀vs H Q E,sp vs H Q E->vs.length=ps.length
 run:∀(A:Around) (outer:List Env) (s:Shared) (H:Hp) (args:Args) (us:List Value) (vs:List V) (Q:VK) (E:XK),cT k A->ug P w K mg base A outer s H->BindsTo s fd args (ps.zip us)->Vals vs us->sp vs H Q E->
  codeAny (model P w) A (.call (.ref f) args) (CR CX outer P w H s Q E) s
theorem bz.imp{P:Program}{w:World}{K:PySem.W.Frag}{mg:Str->Option Value}{base:Heap}{CX:sP}{k:Nat}{f:Addr}{fd:FuncData}{ps:List Str}{sp sp':Sp}(F:bz P w K mg base CX k f fd ps sp)
 (h:∀vs H Q E,sp' vs H Q E->sp vs H Q E):bz P w K mg base CX k f fd ps sp':=
 ⟨fun vs H Q E q=>F.len vs H Q E (h _ _ _ _ q),fun A outer s H args us vs Q E hr he hb hv hs=>F.run A outer s H args us vs Q E hr he hb hv (h _ _ _ _ hs)⟩
theorem ug.make{P:Program}{w:World}{K:PySem.W.Frag}{mg:Str->Option Value}{base:Heap}{A:Around}{outer:List Env}{s:Shared}{H:Hp}(e:ug P w K mg base A outer s H)(C:Addr)(us:List Value)(kw:List (Str×Value)):
 ug P w K mg base (A.under (.builtin "type.__call__" ⟨.ref C::us,kw⟩)) outer s H:=⟨by first|exact e.frames|(simpa[Around.under,Code.envs,Code.isFrame,pushEnvs]using e.frames),e.mod,e.bs,e.qP,e.kj,e.uD,e.aJ,e.bare,e.gt⟩
section
variable {X:Cx}{pins:List (Addr×Obj)}{σ:St}{H:Hp}{s s':Shared}
theorem Inv.IK(I:Inv X pins σ H s):ug X.prog X.w X.K X.mg X.base X.A X.stack s H:=
 ⟨I.ok.frames,I.ok.mod,I.bs,Nat.le_trans I.ok.qP I.sz,I.stack,I.vB,I.aJ,I.bare,I.ok.gt⟩
theorem Inv.after{Q:VK}{u:Value}(I:Inv X pins σ H s)(h:CE X.stack X.prog X.w H s Q u s'):EP X pins σ Q u s':=by
 obtain⟨v,H',os,bare,un,aJ,r,q⟩:=h;obtain⟨hh,g,d,t,os'⟩:=s';obtain rfl:os'=s.os:=os;exact⟨v,H',I.call (h':=hh) (g':=g) (d':=d) (t':=t) (ch:=[]) un aJ bare (fun b z=>absurd z (by simp)),r,q⟩
end
def Gf(sp:Sp)(dvs:List V)(E:XK)(t:TA):TE:=fun σ H Q=>t σ H fun vs H1=>sp (vs++dvs) H1 Q E
def Gv(C:Addr)(m:Str)(sp:Sp)(dvs:List V)(E:XK)(ta:TE)(t:TA):TE:=fun σ H Q=>ta σ H fun x H1=>∃a dx fs,x= .ref a/\H1 a=some (.ins C dx fs)/\fs.lookup m=none/\
 t σ H1 fun vs H2=>sp (x::(vs++dvs)) H2 Q E
def FX(C:Addr)(sp:Sp)(dvs:List V)(E:XK)(t:TA):TE:=fun σ H Q=>t σ H fun vs H1=>∀x dx,H1 x=none->H1 dx=none->dx≠x->
 sp (.ref x::(vs++dvs)) (upd (upd H1 dx (.own x)) x (.ins C dx [])) (fun v H2=>v= .aL/\Q (.ref x) H2) E
def Binds(K:PySem.W.Frag)(fd:FuncData)(ps:List Str)(ds:List Value):Prop:=
 ∀(s:Shared) (us:List Value),K.In s.heap->(us++ds).length=ps.length->BindsTo s fd ⟨us,[]⟩ (ps.zip (us++ds))
theorem Binds.all{K:PySem.W.Frag}{fd:FuncData}{ps:List Str}(h:∀us:List Value,us.length=ps.length->bindArgs fd ⟨us,[]⟩=pure (ps.zip us)):Binds K fd ps []:=fun s us _ hl=>by
 rw[List.append_nil]at hl⊢;exact .of_eq (h us hl)
def Passes(CX:sP)(X:Cx)(E:XK):Prop:=∀(pins:List (Addr×Obj)) (σ:St) (H:Hp) (s:Shared) (e:Value) (s':Shared),Inv X pins σ H s->CX X.stack H s E e s'->X.xe e s'
section
variable {X:Cx}{CX:sP}{k:Nat}{f C:Addr}{fd:FuncData}{ps:List Str}{sp:Sp}{dvs:List V}{ds:List Value}{E:XK}{x m:Str}{p pos apos:Pos}{e o:Expr}{es:List Expr}{ta:TE}{t:TA}
theorem C5{pins:List (Addr×Obj)}{σ:St}{H:Hp}{s:Shared}{Q:VK}{us:List Value}{vs:List V}(F:bz X.prog X.w X.K X.mg X.base CX k f fd ps sp)(hr:cT k X.A)(hb:Binds X.K fd ps ds)(hd:Vals dvs ds)(hx:Passes CX X E)
 (I:Inv X pins σ H s) (r:Vals vs us) (h:sp (vs++dvs) H Q E):wpAny (model X.prog X.w) X.A (call (.ref f) us) (EP X pins σ Q) X.xe s:=by
 have r2:Vals (vs++dvs) (us++ds):=r.append hd;have hl:(us++ds).length=ps.length:=by rw[<-r2.length];exact F.len _ _ _ _ h
 refine wpAny_call (codeAny_mono (F.run X.A X.stack s H ⟨us,[]⟩ (us++ds) (vs++dvs) Q E hr I.IK (hb s us I.iD hl) r2 h) fun r s' hq=>?_);cases r with
 |error e=>exact hx pins σ H s e s' I hq
 |ok fl=>
  cases fl with
  |ret u=>exact I.after hq
  |next=>exact False.elim hq
  |brk=>exact False.elim hq
  |cont=>exact False.elim hq
theorem GD(F:bz X.prog X.w X.K X.mg X.base CX k f fd ps sp)(hr:cT k X.A)(hg:Gl X x)(hm:X.mg x=some (.ref f))(hk:PySem.W.keepIn X.K (.ref f)=true)(hb:Binds X.K fd ps ds)(hd:Vals dvs ds)(hx:Passes CX X E)
 (ha:PA X (e::es) t) (hdb:(x==("__debug__":Str))=false:=by decide) (he:starEach (e::es) X.env=(false,eval e X.env)::starEach es X.env:=by rfl) (hpl:(backTo pos (starEach es X.env)).any (·.1)=false:=by rfl):
 PE X (.Call (.Name x p) (e::es) [] pos) (Gf sp dvs E t):=by
 intro pins s σ H Q I h;refine wpAny_Call_Name_kw (z8 I hg hm ?_ hdb);refine PySem.W.callWith_K (h₀:=X.base) I.ok.mod.Dh hk (bQ (ha pos pins s σ H _ I h) fun us s1 ⟨vs,H1,I1,r,q⟩=>⟨I1.iD,?_⟩) he hpl;exact C5 F hr hb hd hx I1 r q
theorem HY{pl:Sem Bool}(he:PE X o ta)(c:m7 X.K C)(hm:Meth X.K C m f)(F:bz X.prog X.w X.K X.mg X.base CX k f fd ps sp)(hr:cT k X.A)(hb:Binds X.K fd ps ds)(hd:Vals dvs ds)(hx:Passes CX X E)(ha:PA X (e::es) t)
 (hst:starEach (e::es) X.env=(false,eval e X.env)::starEach es X.env:=by rfl) (hpl:(backTo pos (starEach es X.env)).any (·.1)=false:=by rfl)
 (ht:eval (.Call (.Attribute o m apos) (e::es) [] pos) X.env=(do
   let ov <-eval o X.env
   standAt apos.atName
   let(f,first) <-holding [ov] (getMethod ov m pl)
   callWith pos f first (backTo pos (starEach (e::es) X.env)) (backToKw pos (keywordEach [] X.env))):=by rfl):
 PE X (.Call (.Attribute o m apos) (e::es) [] pos) (Gv C m sp dvs E ta t):=by
 intro pins s σ H Q I h;refine PySem.W.methodCall_KW (pl:=pl) (bQ (he pins s σ H _ I h) fun u s1 ⟨x,H1,I1,rx,a,dx,fs,ex,ea,l,q⟩=>?_) ht;subst ex;obtain rfl:u=Value.ref a:=rx;refine BI I1 ea c hm l ?_;refine PySem.W.callWith_K (first:=[.ref a]) (h₀:=X.base) I.ok.mod.Dh hm.kp (bQ (ha pos pins s1 σ H1 _ I1 q) fun us s2 ⟨vs,H2,I2,r,q2⟩=>⟨I2.iD,?_⟩) hst hpl;exact C5 (us:= .ref a::us) (vs:= .ref a::vs) F hr hb hd hx I2 (.cons rfl r) q2
structure Mk(K:PySem.W.Frag)(C f:Addr):Prop where
 makes:PySem.W.makesIn K C=true
 init:PySem.W.findIn K (.ref C) "__init__"=some (some (.ref f))
 fn:PySem.W.isFn K (.ref f)=true
 kp:PySem.W.keepIn K (.ref C)=true
theorem Ft{pins:List (Addr×Obj)}{σ:St}{H:Hp}{s:Shared}{Q:VK}{us:List Value}{vs:List V}(M:Mk X.K C f)(F:bz X.prog X.w X.K X.mg X.base CX k f fd ps sp)(hr:cT (k+1) X.A)(hb:Binds X.K fd ps ds)(hd:Vals dvs ds)
 (hx:Passes CX X E) (I:Inv X pins σ H s) (r:Vals vs us)
 (h:∀x dx,H x=none->H dx=none->dx≠x->sp (.ref x::(vs++dvs)) (upd (upd H dx (.own x)) x (.ins C dx [])) (fun v H2=>v= .aL/\Q (.ref x) H2) E):
 wpAny (model X.prog X.w) X.A (call (.ref C) us) (EP X pins σ Q) X.xe s:=by
 have hq:=h (s.heap.objs.size+1) s.heap.objs.size (I.aJ.fresh (Nat.le_succ _)) (I.aJ.fresh (Nat.le_refl _)) (Nat.ne_of_lt (Nat.lt_succ_self _));have I2:=Inv.made (C:=C) I;have r2:Vals (V.ref (s.heap.objs.size+1)::(vs++dvs)) (Value.ref (s.heap.objs.size+1)::(us++ds)):= .cons rfl (r.append hd)
 have hl:(Value.ref (s.heap.objs.size+1)::us++ds).length=ps.length:=by
  have e:=r2.length;rw[F.len _ _ _ _ hq]at e;exact e.symm
 refine wpAny_call (Fm (f:=f) I.iD M.makes M.init (beq_iff_eq.mp M.fn) (codeAny_mono (F.run _ X.stack _ _ ⟨Value.ref (s.heap.objs.size+1)::us,[]⟩ (Value.ref (s.heap.objs.size+1)::(us++ds)) _ _ E (hr.make C us [])
  (I2.IK.make C us []) (hb _ (Value.ref (s.heap.objs.size+1)::us) I2.iD hl) r2 hq) fun r s' hq'=>?_))
 cases r with
 |error e=>exact hx pins σ _ _ e s' I2 hq'
 |ok fl=>
  cases fl with
  |ret u=>
   obtain⟨v,H',I3,rv,ev,q3⟩:=I2.after hq';subst ev;exact⟨rv,⟨V.ref (s.heap.objs.size+1),H',I3,rfl,q3⟩⟩
  |next=>exact False.elim hq'
  |brk=>exact False.elim hq'
  |cont=>exact False.elim hq'
theorem Hg(M:Mk X.K C f)(F:bz X.prog X.w X.K X.mg X.base CX k f fd ps sp)(hr:cT (k+1) X.A)(hg:Gl X x)(hm:X.mg x=some (.ref C))(hb:Binds X.K fd ps ds)(hd:Vals dvs ds)(hx:Passes CX X E)
 (ha:PA X (e::es) t) (hdb:(x==("__debug__":Str))=false:=by decide) (he:starEach (e::es) X.env=(false,eval e X.env)::starEach es X.env:=by rfl) (hpl:(backTo pos (starEach es X.env)).any (·.1)=false:=by rfl):
 PE X (.Call (.Name x p) (e::es) [] pos) (FX C sp dvs E t):=by
 intro pins s σ H Q I h;refine wpAny_Call_Name_kw (z8 I hg hm ?_ hdb);refine PySem.W.callWith_K (h₀:=X.base) I.ok.mod.Dh M.kp (bQ (ha pos pins s σ H _ I h) fun us s1 ⟨vs,H1,I1,r,q⟩=>⟨I1.iD,?_⟩) he hpl;exact Ft M F hr hb hd hx I1 r q
end
section
variable {X:Cx}{CX:sP}{k:Nat}{f C:Addr}{fd:FuncData}{ps ks:List Str}{sp:Sp}{E:XK}{x m:Str}{p pos apos kpos:Pos}{e o:Expr}{es:List Expr}{kws:List Keyword}{te ta:TE}{t tk:TA}{nm:Option Str}
variable {g:List Value->List Value->List Value}{gV:List V->List V->List V}
end
structure aU(N P:List Str)(sc:Scope):Prop where
 kind:sc.kind= .function
 co:sc.isCoroutine=false
 gen:sc.isGenerator=false
 nd:N.Nodup
 pre:N.take P.length=P
 par:∀x∈P,sc.names.lookup x=some .local\/sc.names.lookup x=some .cell
 IL:∀y∈sc.names,y.2≠ .free
theorem wX{kindOf:Str->Option NameKind}{x:Str}:∀ {binds:List (Str×Value)} {m:Str->Option Value},(∀v,(x,v)∉binds)->bindL kindOf binds m x=m x
 | [],_,_=>rfl
 |(n,v)::r,m,h=>by
  unfold bindL;rw[wX fun w hw=>h w (List.mem_cons_of_mem _ hw)];split
  . have:x≠n:=by rintro rfl;exact h v List.mem_cons_self
    simp[this]
  . rfl
theorem xa{kindOf:Str->Option NameKind}{x:Str}:∀ {binds:List (Str×Value)} {m:Str->Option Value},(∀v,(x,v)∉binds)->bindC kindOf binds m x=m x
 | [],_,_=>rfl
 |(n,v)::r,m,h=>by
  unfold bindC;rw[xa fun w hw=>h w (List.mem_cons_of_mem _ hw)];split
  . rfl
  . have:x≠n:=by rintro rfl;exact h v List.mem_cons_self
    simp[this]
theorem wJ{kindOf:Str->Option NameKind}{x:Str}{v:Value}:∀ {P:List Str} {vs:List Value} {i:Nat} {m:Str->Option Value},P.Nodup->P[i]?=some x->vs[i]?=some v->kindOf x=some .local->
 bindL kindOf (P.zip vs) m x=some v
 | [],_,_,_,_,h,_,_=>by simp at h
 |_::_,[],_,_,_,_,h,_=>by simp at h
 |p::P,w::vs,0,m,nd,h1,h2,hk=>by
  simp at h1 h2;subst h1;subst h2;show bindL kindOf ((p,w)::P.zip vs) m p=_;unfold bindL;rw[wX fun v hv=>(List.nodup_cons.mp nd).1 (List.of_mem_zip hv).1,if_pos hk];simp
 |p::P,w::vs,i+1,m,nd,h1,h2,hk=>by
  show bindL kindOf ((p,w)::P.zip vs) m x=_;unfold bindL;exact wJ (i:=i) (List.nodup_cons.mp nd).2 (by simpa using h1) (by simpa using h2) hk
theorem w6{kindOf:Str->Option NameKind}{x:Str}{v:Value}:∀ {P:List Str} {vs:List Value} {i:Nat} {m:Str->Option Value},P.Nodup->P[i]?=some x->vs[i]?=some v->kindOf x≠some .local->
 bindC kindOf (P.zip vs) m x=some v
 | [],_,_,_,_,h,_,_=>by simp at h
 |_::_,[],_,_,_,_,h,_=>by simp at h
 |p::P,w::vs,0,m,nd,h1,h2,hk=>by
  simp at h1 h2;subst h1;subst h2;show bindC kindOf ((p,w)::P.zip vs) m p=_;unfold bindC;rw[xa fun v hv=>(List.nodup_cons.mp nd).1 (List.of_mem_zip hv).1,if_neg hk];simp
 |p::P,w::vs,i+1,m,nd,h1,h2,hk=>by
  show bindC kindOf ((p,w)::P.zip vs) m x=_;unfold bindC;exact w6 (i:=i) (List.nodup_cons.mp nd).2 (by simpa using h1) (by simpa using h2) hk
def start(N:List Str)(vs:List V):St:=vs.map some++List.replicate (N.length-vs.length) none
def pR(CX:sP)(P:Program)(w:World)(K:PySem.W.Frag)(mg:Str->Option Value)(base:Heap)(N:List Str)(qual:Str)(scope:Scope)(f:Addr)(cd:Value)(A:Around)(outer:List Env)(s:Shared)(H:Hp)(E:XK):Cx where
 prog:=P
 w:=w
 K:=K
 mg:=mg
 base:=base
 A:=A.deeper (envOfC qual scope s.heap.objs.size f cd)
 N:=N
 s₀:=s
 H₀:=H
 env:=envOfC qual scope s.heap.objs.size f cd
 outer:=outer
 stack:=envOfC qual scope s.heap.objs.size f cd::outer
 ex:=[]
 calm:=true
 fn:=fun _=>true
 pn:=[]
 xe:=fun e s'=>wpAny (model P w) (A.deeper (envOfC qual scope s.heap.objs.size f cd)) (leaving (envOfC qual scope s.heap.objs.size f cd) e) (fun _ s''=>CX outer H s E e s'') (fun e' s''=>CX outer H s E e' s'') s'
theorem yL{sc:Scope}{n:Nat}{x:Str}(h:sc.names.lookup x=some .cell):∃c,(cellsFrom n sc.names []).lookup x=some c:=by
 have q:=PySem.W.cellsFrom_some sc.names n [] (.inl h);exact Option.isSome_iff_exists.mp q
theorem DQ{CX:sP}{P:Program}{w:World}{K:PySem.W.Frag}{mg:Str->Option Value}{base:Heap}{N ps:List Str}{qual:Str}{scope:Scope}{f:Addr}{cd:Value}{A:Around}{outer:List Env}{s s1:Shared}{H:Hp}{E:XK}{us:List Value}{vs:List V}
 (S:aU N ps scope) (hd:A.handled=none) (e0:ug P w K mg base A outer s H) (hl:vs.length=ps.length) (r:Vals vs us)
 (x:InCallC s s.heap.objs.size (bindL (envOfC qual scope s.heap.objs.size f cd).kindOf (ps.zip us) fun _=>none) (cellsFrom (s.heap.objs.size+1) scope.names []) (bindC (envOfC qual scope s.heap.objs.size f cd).kindOf (ps.zip us) fun _=>none) s1):
 Inv (pR CX P w K mg base N qual scope f cd A outer s H E) [] (start N vs) H s1:=by
 have hpl:ps.length<=N.length:=by have:=congrArg List.length S.pre;rw[List.length_take]at this;omega
 obtain⟨h1,tk,rfl,hk⟩:=x.done;have noA:∀b:Addr,b∉(pR CX P w K mg base N qual scope f cd A outer s H E).ex:=fun b z=>absurd (show b∈([]:List Addr)from z) (by simp)
 refine⟨⟨e0.mod,S.kind,rfl,rfl,Nat.le_refl _,fun y z c h1 h2=>?_,fun y hy=>?_,fun y c _ h=>?_,fun _=>hd,Around.frames_deeper e0.frames,.inr ⟨rfl,rfl⟩,fun b z=>absurd z (noA b),e0.bs,e0.qP,fun b _ _=>noA b,fun b z=>absurd z (noA b),e0.kj,e0.uD,e0.gt⟩,
  rfl,e0.bare,Un.kept hk,⟨_,x.toInCall.ns,fun i y v h1 h2 h3=>?_⟩,fun y c h=>⟨_,x.cell y c h⟩,e0.aJ.fresh (Nat.le_refl _),fun y c h=>?_,fun p hp=>absurd (show p∈([]:List (Addr×Obj))from hp) (by simp),e0.aJ.kept hk,?_⟩
 . exact name_of_addr x.apart (PySem.mem_of_lookup h1) (PySem.mem_of_lookup h2)
 . have hy:scope.names.lookup y=some .cell\/scope.names.lookup y=some .free:=hy;rcases hy with hy|hy
   . exact yL hy
   . exact absurd rfl (S.IL _ (PySem.mem_of_lookup hy))
 . exact Nat.le_of_lt (x.above y c (PySem.mem_of_lookup h))
 . have hi:i<vs.length:=by
    unfold start at h2;by_cases hi:i<vs.length
    . exact hi
    . rw[List.getElem?_append_right (by simpa using hi)]at h2;rw[List.getElem?_replicate]at h2;split at h2<;>cases h2
   have ha:vs[i]?=some v:=by
    unfold start at h2;rw[List.getElem?_append_left (by simpa using hi),List.getElem?_map]at h2;cases e:vs[i]? with
    |none=>rw[e]at h2;cases h2
    |some a=>rw[e]at h2;cases h2;rfl
   obtain⟨u,hu,rv⟩:=r.get ha
   have hp:ps[i]?=some y:=by
    rw[<-S.pre,List.getElem?_take_of_lt (by omega)];exact h1
   have ndP:ps.Nodup:=by rw[<-S.pre];exact S.nd.sublist (List.take_sublist _ _)
   refine⟨u,rv,?_⟩;rcases S.par y (List.mem_of_getElem? hp)with k|k
   . exact .inl ⟨k,wJ ndP hp hu k⟩
   . obtain⟨c,e⟩:=yL (n:=s.heap.objs.size+1) k;refine .inr ⟨.inl k,c,e,?_⟩;have q:=x.cell y c e;rw[w6 ndP hp hu (by show scope.names.lookup y≠_;rw[k];decide)]at q;exact q
 . exact e0.aJ.fresh (Nat.le_of_lt (x.above y c (PySem.mem_of_lookup h)))
 . unfold start;show _=N.length;rw[List.length_append,List.length_map,List.length_replicate];omega
theorem F3{CX:sP}{P:Program}{w:World}{K:PySem.W.Frag}{mg:Str->Option Value}{base:Heap}{k:Nat}{f:Addr}{name qual:Str}{params:Arguments}{body:List Stmt}{scope:Scope}{dV kV doc pm cdv ct oc:Value}{an od:Option Addr}
 {osl:Array (Option Value)} {N ps:List Str} {sp:Sp} (lk:K.lookup f=some ⟨oc,od,.func (PySem.W.fnOf name qual params body scope dV kV doc pm an cdv ct),osl⟩) (hcd:PySem.W.codeIn K cdv qual=true) (S:aU N ps scope)
 (len:∀vs H Q E,sp vs H Q E->vs.length=ps.length)
 (hbody:∀(A:Around) (outer:List Env) (s:Shared) (H:Hp) (vs:List V) (Q:VK) (E:XK),cT k (A.deeper (envOfC qual scope s.heap.objs.size f cdv))->sp vs H Q E->
   ∃t,gM (pR CX P w K mg base N qual scope f cdv A outer s H E) body t/\t {nx:=fun _ H'=>Q .aL H',rt:=Q} (start N vs) H):
 bz P w K mg base CX (k+1) f (PySem.W.fnOf name qual params body scope dV kV doc pm an cdv ct) ps sp:=by
 refine⟨len,fun A outer s H args us vs Q E hr e0 hb r hsp=>?_⟩;have hl:=len _ _ _ _ hsp;have KX:K.In s.heap:=e0.mod.Dh.keeps fun b o e=>(e0.bs b o e).1;have lim:s.heap.NoLimit:=e0.mod.nolimit.keeps fun b o e=>(e0.bs b o e).1
 have hkind:∀y∈ps.zip us,scope.names.lookup y.1=some .local\/(scope.names.lookup y.1=some .cell/\((cellsFrom (s.heap.objs.size+1) scope.names []).lookup y.1).isSome=true):=fun⟨n,v⟩ hy=>by
  rcases S.par n (List.of_mem_zip hy).1 with q|q
  . exact .inl q
  . exact .inr ⟨q,PySem.W.cellsFrom_some _ _ _ (.inl q)⟩
 refine codeAny_call_function hr.depth (KX _ _ lk) rfl S.co S.gen rfl (PySem.W.codeRec_of KX hcd) (hb _ _ _ _ ?_);refine wpAny_newFunctionEnv_cells S.kind hkind fun env he s1 x=>?_;subst he;refine⟨lim.keeps x.toInCall.keep,codeAny_func ?_⟩;obtain⟨t,ht,hq⟩:=hbody A outer s H vs Q E (hr.deeper _) hsp;have I:Inv (pR CX P w K mg base N qual scope f cdv A outer s H E) [] (start N vs) H s1:=DQ S hr.hd e0 hl r x;refine wpAny_mono (ht [] s1 (start N vs) H _ I hq) (fun fl s' hs=>?_) fun e s' hs=>hs
 have fin:∀ {σ':St} {H':Hp} {v:V} {u:Value},Inv (pR CX P w K mg base N qual scope f cdv A outer s H E) [] σ' H' s'->RelV v u->Q v H'->CE outer P w H s Q u s':=
  fun{σ' H' v u} J rv q=>⟨v,H',J.os,J.bare,J.base,J.aJ,rv,q⟩
 cases fl with
 |ret u=>
  obtain⟨v,σ',H',J,rv,q⟩:=hs;exact fin J rv q
 |next=>
  obtain⟨σ',H',J,q⟩:=hs;exact fin (v:=V.aL) (u:=Value.none) J rfl q
 |brk=>
  obtain⟨_,_,_,q⟩:=hs;exact False.elim q
 |cont=>
  obtain⟨_,_,_,q⟩:=hs;exact False.elim q
section
variable {X:Cx}{x:Str}{p pos:Pos}{e:Expr}{es:List Expr}{t:TA}{id T:String}{r:List V->Hp->VK->Prop}
def JY(r:List V->Hp->VK->Prop)(t:TA):TE:=fun σ H Q=>t σ H fun vs H1=>r vs H1 Q
theorem Fe(hc:bp X (.builtin id) r)(hg:Gl X x)(hm:X.mg x=none)(hv:bootBuiltins x=some (.builtin id))(ha:PA X (e::es) t)(hn:x≠"__name__":=by decide)(hdb:(x==("__debug__":Str))=false:=by decide)
 (he:starEach (e::es) X.env=(false,eval e X.env)::starEach es X.env:=by rfl) (hpl:(backTo pos (starEach es X.env)).any (·.1)=false:=by rfl):PE X (.Call (.Name x p) (e::es) [] pos) (JY r t):=by
 intro pins s σ H Q I h;refine wpAny_Call_Name_kw (lI I hg hm hv ?_ hn hdb);exact PyProof.Rows.callWith_builtin1 (bQ (ha pos pins s σ H _ I h) fun us s1 ⟨vs,H1,I1,r1,q1⟩=>hc pins s1 σ H1 vs us Q I1 r1 q1) he hpl
theorem Cn(hc:bp X (.type T) r)(hg:Gl X x)(hm:X.mg x=none)(hv:bootBuiltins x=some (.type T))(ha:PA X (e::es) t)(hn:x≠"__name__":=by decide)(hdb:(x==("__debug__":Str))=false:=by decide)
 (he:starEach (e::es) X.env=(false,eval e X.env)::starEach es X.env:=by rfl) (hpl:(backTo pos (starEach es X.env)).any (·.1)=false:=by rfl):PE X (.Call (.Name x p) (e::es) [] pos) (JY r t):=by
 intro pins s σ H Q I h;refine wpAny_Call_Name_kw (lI I hg hm hv ?_ hn hdb);exact PyProof.Rows.callWith_type1 (bQ (ha pos pins s σ H _ I h) fun us s1 ⟨vs,H1,I1,r1,q1⟩=>hc pins s1 σ H1 vs us Q I1 r1 q1) he hpl
end
end L2
namespace HT
open PySem PyProof.Rows
section
open PySem.SeqAt
open PySem.AutoSeq1 (wpAny_loadPart')
open PySem.MeetsSeq PySem.MeetsSeq2 PySem.MeetsSeq3
end
section
variable {prog:Program}{w:World}{A:Around}{E:Value->Shared->Prop}{s:Shared}
theorem Hf{t b:Addr}{vs ws:List Value}{Q:Value->Shared->Prop}(ht:IsTup s.heap t vs.toArray)(hb:IsTup s.heap b ws.toArray)(hv:vs≠ [])
 (h1:ws=[]->Q (.ref t) s) (h2:ws≠ []->Q (.ref s.heap.objs.size) {s with heap:=s.heap.push {cls:= .type "tuple",data:= .seq (vs++ws).toArray}})
 (hsz:vs.length+ws.length<=sizeLine):wpAny (model prog w) A (binaryOp .Add (.ref t) (.ref b)) Q E s:=by
 obtain⟨⟨cls,dd,data,sl⟩,ho,hc,n,hd⟩:=id ht;obtain⟨⟨cls2,dd2,data2,sl2⟩,ho2,hc2,n2,hd2⟩:=id hb;simp only at hc hd hc2 hd2;subst hc hd hc2 hd2;have e:vs.toArray++ws.toArray=(vs++ws).toArray:=by simp
 by_cases hw:ws=[]
 . exact concat_meets ⟨_,ho,rfl⟩ ⟨_,ho2,rfl⟩ noFill_tuple_add seq_tuple_add PySem.F.slot_tuple_add PySem.F.entry_tuple_add (PySem.F.args_tuple_add_2 _ _)
    (tuple_addW1 t b vs.toArray ws.toArray n n2 dd dd2 sl sl2 (by simpa using hv) (by simp[hw])) ⟨ho,ho2,h1 hw⟩
 . refine concat_meets ⟨_,ho,rfl⟩ ⟨_,ho2,rfl⟩ noFill_tuple_add seq_tuple_add PySem.F.slot_tuple_add PySem.F.entry_tuple_add (PySem.F.args_tuple_add_2 _ _)
    (tuple_addW2 t b vs.toArray ws.toArray n n2 dd dd2 sl sl2 (by simpa using hv) (by simpa using hw) (by rw[List.size_toArray,List.size_toArray];exact hsz)) ⟨ho,ho2,?_⟩
   rw[e];exact h2 hw
def bU(n d:Nat):Option Int->Nat
 |none=>d
 |some v=>if v<0 then(v+(n:Int)).toNat else min v.toNat n
theorem td(n d:Nat):bU n d none=d:=rfl
theorem vO(n d k:Nat):bU n d (some (k:Int))=min k n:=by
 show(if(k:Int)<0 then((k:Int)+(n:Int)).toNat else min (k:Int).toNat n)=min k n;rw[if_neg (by omega),Int.toNat_natCast]
theorem Ki(n d:Nat)(hd:d<=n)(o:Option Int):bU n d o<=n:=by
 cases o with
 |none=>exact hd
 |some v=>
  show(if v<0 then(v+(n:Int)).toNat else min v.toNat n)<=n;by_cases hv:v<0
  . rw[if_pos hv];omega
  . rw[if_neg hv];exact Nat.min_le_right _ _
theorem Aj(v:Int)(n d:Nat):(if v<0 then max (v+(n:Int)) 0 else min v (n:Int))=((bU n d (some v):Nat):Int):=by
 show(if v<0 then max (v+(n:Int)) 0 else min v (n:Int))=(((if v<0 then(v+(n:Int)).toNat else min v.toNat n):Nat):Int)
 by_cases hv:v<0
 . simp only[if_pos hv];omega
 . simp only[if_neg hv];omega
theorem Bm(lo hi:Option Int)(n:Nat):Builtin.Slice.sliceAdjust lo hi 1 (n:Int)=(((bU n 0 lo:Nat):Int),((bU n n hi:Nat):Int)):=by
 have h1:¬((1:Int)<0):=by omega
 unfold Builtin.Slice.sliceAdjust;simp only[h1,if_false];refine Prod.ext ?_ ?_
 . cases lo with
   |none=>rfl
   |some v=>exact Aj v n 0
 . cases hi with
   |none=>rfl
   |some v=>exact Aj v n n
theorem By(i j:Nat):Builtin.Slice.slicePlaces (i:Int) (j:Int) 1=j-i:=by
 unfold Builtin.Slice.slicePlaces;have h1:(1:Int)>0:=by omega
 simp only[h1,if_true,Int.ediv_one];split<;>omega
theorem vb{v:Value}{o:Option Int}{Q:Option Int->Shared->Prop}(p:IsPart v o)(h:Q o s):wpAny (model prog w) A (Builtin.Slice.slicePartIndex v) Q E s:=by
 cases p with
 |none=>exact slicePart_none h
 |int i t=>exact slicePart_int h
theorem m9{sl:Addr}{vl vu:Value}{lo hi:Option Int}{n:Nat}{Q:Int×Int×Nat->Shared->Prop}(hs:s.heap.IsSliceOf sl vl vu .none)(pl:IsPart vl lo)(pu:IsPart vu hi)
 (h:Q (((bU n 0 lo:Nat):Int),1,bU n n hi-bU n 0 lo) s):wpAny (model prog w) A (Builtin.Slice.sliceApplied (.ref sl) (pure (n:Int))) Q E s:=by
 obtain⟨os,hos,hcs,hds⟩:=id hs;unfold Builtin.Slice.sliceApplied Builtin.Slice.sliceFields;refine wpAny_bind (wpAny_bind (wpAny_field hos hds (x:=vl) rfl (wpAny_bind (wpAny_field hos hds (x:=vu) rfl (wpAny_bind (wpAny_field hos hds (x:= .none) rfl (wpAny_pure ?_)))))));refine wpAny_bind (slicePart_none ?_);show wpAny _ _ (if((1:Int)==0)=true then _ else _) _ _ s;rw[if_neg (by decide)];refine wpAny_bind (vb pl (wpAny_bind (vb pu (wpAny_bind (wpAny_pure ?_)))));show wpAny _ _ (match Builtin.Slice.sliceAdjust lo hi 1 (n:Int)with|(lo,hi)=>pure (lo,(1:Int),Builtin.Slice.slicePlaces lo hi 1)) _ _ s;rw[Bm lo hi n];show wpAny _ _ (pure (((bU n 0 lo:Nat):Int),(1:Int),Builtin.Slice.slicePlaces ((bU n 0 lo:Nat):Int) ((bU n n hi:Nat):Int) 1)) _ _ s;rw[By];exact wpAny_pure h
theorem Fq(xs:Array Value)(i k:Nat):((List.range k).filterMap fun(m:Nat)=>xs[((i:Int)+(m:Int)*1).toNat]?).toArray=((xs.toList.drop i).take k).toArray:=by
 have e:(fun(m:Nat)=>xs[((i:Int)+(m:Int)*1).toNat]?)=fun m=>xs[i+m]?:=by
  funext m;have:((i:Int)+(m:Int)*1).toNat=i+m:=by omega
  rw[this]
 rw[e];have:=pick_run xs i k;rw[List.filterMap_map]at this;have e2:((fun x=>xs[x]?)∘fun x=>i+x)=fun m=>xs[i+m]?:=rfl;rw[e2]at this;rw[this]
theorem sf{t sl:Addr}{items:Array Value}{vl vu:Value}{lo hi:Option Int}{Q:Value->Shared->Prop}(ht:IsTup s.heap t items)(hs:s.heap.IsSliceOf sl vl vu .none)(pl:IsPart vl lo)(pu:IsPart vu hi)
 (hw:¬(bU items.size 0 lo=0/\bU items.size items.size hi=items.size))
 (h:Q (.ref s.heap.objs.size) {s with heap:=s.heap.push {cls:= .type "tuple",data:= .seq ((items.toList.drop (bU items.size 0 lo)).take (bU items.size items.size hi-bU items.size 0 lo)).toArray}})
 (hsz:items.size<=sizeLine):wpAny (model prog w) A (getItem (.ref t) (.ref sl)) Q E s:=by
 have htake:sizeOk (.seq ((items.toList.drop (bU items.size 0 lo)).take (bU items.size items.size hi-bU items.size 0 lo)).toArray):=by
  show((items.toList.drop (bU items.size 0 lo)).take (bU items.size items.size hi-bU items.size 0 lo)).toArray.size<=sizeLine;rw[List.size_toArray,List.length_take,List.length_drop,Array.length_toList];omega
 have hj:bU items.size items.size hi<=items.size:=Ki _ _ (Nat.le_refl _) hi;obtain⟨os,hos,hcs,hds⟩:=id hs;have hTs:s.TypeIs (.ref sl) "slice":=⟨os,hos,hcs⟩
 unfold getItem;try with_reducible refine wpAny_holding ?_
 first|refine wpAny_bind (wpAny_pure ?_)|skip
 refine wpAny_bind (wpAny_sequenceKey ht.typeIs (by decide) ?_)
 refine wpAny_bind (wpAny_callSpecial?_slot (name:=Str.ofString "__getitem__") ht.typeIs PyProof.Rows.slot_tuple_getitem
  (wpAny_call_entry PyProof.Rows.slot_tuple_getitem ht.typeIs entry_tuple_getitem ?_ (args_tuple_getitem _ _)))
 show wpAny _ _ (Builtin.Tuple.tupleItemsOf (.ref t) >>= _) _ _ s;refine wpAny_bind (tupleItemsOf_ ht ?_);refine wpAny_bind (wpAny_typeOf hTs ?_);rw[if_pos (by decide)];refine wpAny_bind (m9 hs pl pu ?_)
 have hno:¬((((bU items.size 0 lo:Nat):Int)==0&&(1:Int)==1&&(bU items.size items.size hi-bU items.size 0 lo)==items.size)=true):=by
  intro q;rw[Bool.and_eq_true,Bool.and_eq_true]at q;have q1:((bU items.size 0 lo:Nat):Int)=0:=eq_of_beq q.1.1;have q2:bU items.size items.size hi-bU items.size 0 lo=items.size:=eq_of_beq q.2;exact hw ⟨by omega,by omega⟩
 show wpAny _ _ (if(((bU items.size 0 lo:Nat):Int)==0&&(1:Int)==1&&(bU items.size items.size hi-bU items.size 0 lo)==items.size)=true then _ else _) _ _ s;rw[if_neg hno,Fq]
 first
  |exact wpAny_bind (m:=Builtin.Tuple.tupleExact _) (wpAny_newObj_type (wpAny_pure ⟨_,rfl,wpAny_pure h⟩) htake)
  |exact wpAny_bind (m:=Builtin.Tuple.tupleExact _) (wpAny_newObj_type (wpAny_bind (wpAny_pure (wpAny_pure ⟨_,rfl,wpAny_pure h⟩))) htake)
  |exact wpAny_bind (wpAny_bind (m:=Builtin.Tuple.tupleExact _) (wpAny_newObj_type (wpAny_pure (wpAny_pure ⟨_,rfl,wpAny_pure h⟩)) htake))
  |exact wpAny_bind (wpAny_bind (m:=Builtin.Tuple.tupleExact _) (wpAny_newObj_type (wpAny_pure ⟨_,rfl,wpAny_pure h⟩) htake))
end
end HT
namespace L2
open PySem PySem.Spec PyProof.Rows
abbrev TO:=St->Hp->(Option Int->Hp->Prop)->Prop
def PO(X:Cx)(e:Option Expr)(t:TO):Prop:=
 ∀(pins:List (Addr×Obj)) (s:Shared) (σ:St) (H:Hp) (Q:Option Int->Hp->Prop),Inv X pins σ H s->t σ H Q->
  wpAny (model X.prog X.w) X.A (evalPart e X.env) (fun u s'=>∃o H',Inv X pins σ H' s'/\IsPart u o/\Q o H') X.xe s
def H_:TO:=fun _ H Q=>Q none H
def Ml(t:TE):TO:=fun σ H Q=>t σ H fun x H1=>∃i,x= .int i/\Q (some i) H1
section
variable {X:Cx}{e:Expr}{te:TE}{lo hi:Option Expr}{tl th:TO}{pos p2:Pos}
theorem G8:PO X none H_:=by
 intro pins s σ H Q I h;rw[evalPart_none];exact wpAny_pure ⟨none,H,I,.none,h⟩
theorem HU(h:PE X e te):PO X (some e) (Ml te):=by
 intro pins s σ H Q I hw;rw[evalPart_some];refine bQ (h pins s σ H _ I hw) fun u s1 ⟨x,H1,I1,r1,q1⟩=>?_;obtain⟨i,rfl,q⟩:=q1;obtain⟨t,rfl⟩:=r1;exact⟨some i,H1,I1,.int i t,q⟩
def CW(X:Cx)(r:V->Option Int->Option Int->Hp->VK->Prop):Prop:=
 ∀(pins:List (Addr×Obj)) (s:Shared) (σ:St) (H:Hp) (x:V) (v vl vu:Value) (lo hi:Option Int) (sl:Addr) (Q:VK),Inv X pins σ H s->RelV x v->s.heap.IsSliceOf sl vl vu .none->IsPart vl lo->IsPart vu hi->r x lo hi H Q->
  ∃T id,typeLookup (.type T) "__getitem__"=pure (some (.builtin id))/\s.TypeIs v T/\wpAny (model X.prog X.w) X.A (getItem v (.ref sl)) (EP X pins σ Q) X.xe s
def Ob(r:V->Option Int->Option Int->Hp->VK->Prop)(te:TE)(tl th:TO):TE:=fun σ H Q=>te σ H fun x H1=>tl σ H1 fun l H2=>th σ H2 fun u H3=>r x l u H3 Q
theorem ES{r:V->Option Int->Option Int->Hp->VK->Prop}(hr:CW X r)(he:PE X e te)(hl:PO X lo tl)(hu:PO X hi th):PE X (.Subscript e (.Slice lo hi none p2) pos) (Ob r te tl th):=by
 intro pins s σ H Q I h;refine Subscript_ (bQ (he pins s σ H _ I h) fun v s1 ⟨x,H1,I1,r1,q1⟩=>?_);refine wpAny_Slice (bQ (hl pins s1 σ H1 _ I1 q1) fun vl s2 ⟨l,H2,I2,pl,q2⟩=>bQ (hu pins s2 σ H2 _ I2 q2) fun vu s3 ⟨u,H3,I3,pu,q3⟩=>?_);rw[evalPart_none];refine wpAny_pure ?_;have I4:Inv X pins σ H3 {s3 with heap:=s3.heap.push {cls:= .type "slice",data:= .fields #[vl,vu,.none]}}:=I3.kept (t':=s3.toks) fun b ob q=>Heap.get?_push_of_some _ q;obtain⟨T,id,hT,ht,hg⟩:=hr pins {s3 with heap:=s3.heap.push {cls:= .type "slice",data:= .fields #[vl,vu,.none]}} σ H3 x v vl vu l u s3.heap.objs.size Q I4 r1 (Heap.IsSliceOf.new ..) pl pu q3;show wpAny (model X.prog X.w) X.A (subscriptTail e (.Slice lo hi none p2) v (.ref s3.heap.objs.size)) (EP X pins σ Q) X.xe {s3 with heap:=s3.heap.push {cls:= .type "slice",data:= .fields #[vl,vu,.none]}};exact tail_any (ops:=[.ref s3.heap.objs.size,v]) ht hT hg (by with_unfolding_all rfl)
def pJ(xs:List V)(lo hi:Option Int):List V:=(xs.drop (HT.bU xs.length 0 lo)).take (HT.bU xs.length xs.length hi-HT.bU xs.length 0 lo)
theorem sD(xs:List V)(lo hi:Option Int):(pJ xs lo hi).length<=xs.length:=by
 unfold pJ;rw[List.length_take,List.length_drop];omega
def NR(K:PySem.W.Frag):V->Option Int->Option Int->Hp->VK->Prop:=fun x lo hi H Q=>∃a xs,x= .ref a/\i3 K H a xs/\
 ¬(HT.bU xs.length 0 lo=0/\HT.bU xs.length xs.length hi=xs.length)/\∀p,H p=none->Q (.ref p) (upd H p (.tup (pJ xs lo hi)))
theorem Jy:CW X (NR X.K):=by
 intro pins s σ H x v vl vu lo hi sl Q I rx hs pl pu h;obtain⟨a,xs,rfl,hx,hw,q⟩:=h;cases rx;obtain⟨its,r,ht,hz⟩:=I.tuple hx;have hlen:its.toArray.size=xs.length:=by rw[List.size_toArray];exact r.length.symm
 refine⟨"tuple",_,PyProof.Rows.slot_tuple_getitem.lookup,ht.typeIs,?_⟩;refine HT.sf ht hs pl pu (by rw[hlen];exact hw) ?_ (by rw[hlen];exact hz);rw[hlen];refine⟨.ref s.heap.objs.size,_,I.laid (t':=s.toks) (o:= .tup (pJ xs lo hi)) (fun b ob q=>Heap.get?_push_of_some _ q) (Nat.le_refl _) ?_,rfl,q _ (I.aJ.fresh (Nat.le_refl _))⟩;exact⟨Nat.le_trans (sD xs lo hi) hz,_,(r.drop (HT.bU xs.length 0 lo)).take (HT.bU xs.length xs.length hi-HT.bU xs.length 0 lo),IsTup.new _ _⟩
def Lm(K:PySem.W.Frag):R2:=fun x y H Q=>∃a b xs ys,x= .ref a/\y= .ref b/\i3 K H a xs/\i3 K H b ys/\xs≠ []/\xs.length+ys.length<=sizeLine/\
 (ys=[]->Q (.ref a) H)/\(ys≠ []->∀p,H p=none->Q (.ref p) (upd H p (.tup (xs++ys))))
theorem Vals.rK{xs:List V}{us:List Value}(r:Vals xs us):us=[]↔xs=[]:=by
 cases r with
 |nil=>simp
 |cons _ _=>simp
theorem GF:bS X (binaryOp .Add) (Lm X.K):=by
 intro pins s σ H x y v u Q I rx ry h;obtain⟨a,b,xs,ys,rfl,rfl,ha,hb,hx,hz,q1,q2⟩:=h;cases rx;cases ry;obtain⟨its,r1,p1,_⟩:=I.tuple ha;obtain⟨its2,r2,p2,_⟩:=I.tuple hb;refine HT.Hf p1 p2 (fun z=>hx (r1.rK.mp z)) (fun z=>⟨.ref a,H,I,rfl,q1 (r2.rK.mp z)⟩) (fun z=>?_) (by rw[<-r1.length,<-r2.length];exact hz);refine⟨.ref s.heap.objs.size,_,I.laid (t':=s.toks) (o:= .tup (xs++ys)) (fun b ob q=>Heap.get?_push_of_some _ q) (Nat.le_refl _) ?_,rfl,q2 (fun w=>z (r2.rK.mpr w)) _ (I.aJ.fresh (Nat.le_refl _))⟩;exact⟨by rw[List.length_append];exact hz,_,r1.append r2,IsTup.new _ _⟩
end
def mh(n:Nat)(i:Int):Option Nat:=if 0<=i then(if i<n then some i.toNat else none)else if-(n:Int)<=i then some (i+n).toNat else none
def e9{α:Type}(xs:List α)(i:Int):Option α:=(mh xs.length i).bind fun j=>xs[j]?
theorem AH{n:Nat}{i:Int}{j:Nat}(h:mh n i=some j):seqIndex? i n=some j/\j<n/\ -(n:Int)<=i/\i<n:=by
 unfold mh at h;by_cases h0:0<=i
 . rw[if_pos h0]at h;by_cases h1:i<n
   . rw[if_pos h1]at h;have e:i.toNat=j:=Option.some.inj h;exact⟨by rw[seqIndex_of h0 h1,e],by omega,by omega,h1⟩
   . rw[if_neg h1]at h;cases h
 . rw[if_neg h0]at h;by_cases h1: -(n:Int)<=i
   . rw[if_pos h1]at h;have e:(i+n).toNat=j:=Option.some.inj h;exact⟨by rw[seqIndex_neg (by omega) h1,e],by omega,h1,by omega⟩
   . rw[if_neg h1]at h;cases h
theorem vm{α:Type}{xs:List α}{i:Int}{v:α}(h:e9 xs i=some v):∃j,seqIndex? i xs.length=some j/\xs[j]?=some v/\j<xs.length/\ -(xs.length:Int)<=i/\i<xs.length:=by
 unfold e9 at h;cases e:mh xs.length i with
 |none=>rw[e]at h;cases h
 |some j=>
  rw[e]at h;obtain⟨h1,h2,h3,h4⟩:=AH e;exact⟨j,h1,h,h2,h3,h4⟩
theorem jP{α:Type}{xs:List α}{j:Nat}{v:α}(h:xs[j]?=some v):e9 xs (j:Int)=some v:=by
 have hj:j<xs.length:=(List.getElem?_eq_some_iff.mp h).1
 have e:mh xs.length (j:Int)=some j:=by
  unfold mh;rw[if_pos (by omega),if_pos (by omega)];simp
 unfold e9;rw[e];exact h
def rN(b:Expr):Prop:=∀o i,subscripted b false o i=operate [o,i] (getItem o i)
def Gm(X:Cx)(r:R2):Prop:=
 ∀(value slice:Expr) (pins:List (Addr×Obj)) (s:Shared) (σ:St) (H:Hp) (x y:V) (v u:Value) (Q:VK),Inv X pins σ H s->RelV x v->RelV y u->r x y H Q->
  subscripted slice false v u=operate [v,u] (getItem v u)->wpAny (model X.prog X.w) X.A (subscriptTail value slice v u) (EP X pins σ Q) X.xe s
def NW(X:Cx)(id:String)(r:V->List V->Hp->VK->Prop):Prop:=
 ∀(pins:List (Addr×Obj)) (s:Shared) (σ:St) (H:Hp) (x:V) (xs:List V) (v:Value) (us:List Value) (Q:VK),Inv X pins σ H s->RelV x v->Vals xs us->r x xs H Q->
  wpAny (model X.prog X.w) X.A (call (.builtin id) (v::us)) (EP X pins σ Q) X.xe s
section
variable {X:Cx}{a b:Expr}{ta tb:TE}{pos:Pos}
theorem Lc{r:R2}(hr:Gm X r)(ha:PE X a ta)(hb:PE X b tb)(hs:rN b):PE X (.Subscript a b pos) (D2 r ta tb):=by
 intro pins s σ H Q I h;exact Subscript_ (Fz ha hb I h fun v u s2 x y H2 I2 rx ry q=>hr a b pins s2 σ H2 x y v u Q I2 rx ry q (hs _ _))
def Nk(K:PySem.W.Frag):R2:=fun x y H Q=>∃p xs i v,x= .ref p/\y= .int i/\mf K H p xs/\e9 xs i=some v/\Q v H
def NA(K:PySem.W.Frag):R2:=fun x y H Q=>∃p xs i v,x= .ref p/\y= .int i/\i3 K H p xs/\e9 xs i=some v/\Q v H
theorem Az:Gm X (Nk X.K):=by
 intro value slice pins s σ H x y v u Q I rx ry h hs;obtain⟨p,xs,i,z,rfl,rfl,hq,he,q⟩:=h;cases rx;obtain⟨t,rfl⟩:=ry;obtain⟨its,r,pl,hz⟩:=I.list hq;obtain⟨j,h1,h2,h3,h4,h5⟩:=vm he;obtain⟨w,ew,rw'⟩:=r.get h2;have hl:=r.length;have hn:=qL;have fin:EP X pins σ Q w s:=⟨z,H,I,rw',q⟩
 by_cases h0:0<=i
 . have hj:i.toNat=j:=by
    rw[seqIndex_of h0 h5]at h1;exact Option.some.inj h1
   exact item_listR pl.isList h0 (by omega) (by rw[hj];simpa using ew) fin hs
 . have hj:(i+(its.toArray.size:Int)).toNat=j:=by
    rw[seqIndex_neg (by omega) h4]at h1;rw[List.size_toArray,<-hl];exact Option.some.inj h1
   exact subscriptTail_builtinR (x:=w) pl.isList.typeIs slot_list_getitem.lookup
    (wpAny_getItem_list_neg (Q:=fun r s'=>r=w/\EP X pins σ Q r s') pl.isList (by omega) (by rw[List.size_toArray]<;>omega) (by omega) (by rw[hj];simpa using ew) ⟨rfl,fin⟩) hs
theorem KP:Gm X (NA X.K):=by
 intro value slice pins s σ H x y v u Q I rx ry h hs;obtain⟨p,xs,i,z,rfl,rfl,hq,he,q⟩:=h;cases rx;obtain⟨t,rfl⟩:=ry;obtain⟨its,r,pl,hz⟩:=I.tuple hq;obtain⟨j,h1,h2,h3,h4,h5⟩:=vm he;obtain⟨w,ew,rw'⟩:=r.get h2;have hl:=r.length;have hn:=qL;have fin:EP X pins σ Q w s:=⟨z,H,I,rw',q⟩
 exact subscriptTail_builtinR (x:=w) pl.typeIs slot_tuple_getitem.lookup
  (getItem_tuple (j:=j) (Q:=fun r s'=>r=w/\EP X pins σ Q r s') pl (by omega) (by omega) (by rw[List.size_toArray,<-hl];exact h1) (by simpa using ew) ⟨rfl,fin⟩) hs
theorem Cb(its:List Value)(n j:Nat)(u:Value):Obj.mapSeq (·.setIfInBounds j u) {cls:= .type "list",data:= .seq its.toArray n}= {cls:= .type "list",data:= .seq (its.set j u).toArray n}:=by
 simp[Obj.mapSeq]
theorem Inv.lst{pins:List (Addr×Obj)}{σ:St}{H:Hp}{s:Shared}{p:Addr}{xs:List V}(I:Inv X pins σ H s)(h:H p=some (.lst xs)):
 ∃(its:List Value) (n:Nat),Vals xs its/\s.heap.get? p=some {cls:= .type "list",data:= .seq its.toArray n}/\xs.length<=sizeLine:=by
 obtain⟨z,its,n,r,e⟩:=I.aJ p _ h;exact⟨its,n,r,e,z⟩
theorem Inv.KH{pins:List (Addr×Obj)}{σ:St}{H:Hp}{s:Shared}{p:Addr}{xs ys:List V}{its its':List Value}{n n':Nat}{f:Obj->Obj}(I:Inv X pins σ H s)(h:H p=some (.lst xs))
 (ho:s.heap.get? p=some {cls:= .type "list",data:= .seq its.toArray n}) (hf:f {cls:= .type "list",data:= .seq its.toArray n}= {cls:= .type "list",data:= .seq its'.toArray n'}) (r:Vals ys its') (hz:ys.length<=sizeLine) (t:Nat):
 Inv X pins σ (upd H p (.lst ys)) {s with heap:=s.heap.update p f,toks:=t}:=by
 have e:(s.heap.update p f).get? p=some {cls:= .type "list",data:= .seq its'.toArray n'}:=by
  rw[Heap.get?_update_self f ho (by rw[hf]<;>rfl),hf]
 refine I.write (x:=p) (e:=p) (by rw[h];trivial) (.inl rfl) (fun b u hb q=>(Heap.get?_update_other _ _ (Ne.symm hb)).trans q) ⟨_,e⟩ ?_;exact⟨hz,its',n',r,e⟩
def x5:V->V->V->Hp->(Hp->Prop)->Prop:=fun o i v H Q=>∃p xs k j,o= .ref p/\i= .int k/\H p=some (.lst xs)/\mh xs.length k=some j/\Q (upd H p (.lst (xs.set j v)))
theorem set_list:Kz X x5:=by
 intro pins s σ H o i v ov iv u Q I ro ri rv h;obtain⟨p,xs,k,j,rfl,rfl,hp,hj,q⟩:=h;cases ro;obtain⟨t,rfl⟩:=ri;obtain⟨its,n,r,ho,hz⟩:=I.lst hp;obtain⟨h1,h2,h3,h4⟩:=AH hj;have hl:=r.length;have hn:=qL
 have I':Inv X pins σ (upd H p (.lst (xs.set j v))) {s with heap:=s.heap.update p (Obj.mapSeq (·.setIfInBounds j u))}:=
  I.KH hp ho (Cb its n j u) (r.set rv j) (by rw[List.length_set];exact hz) s.toks
 by_cases h0:0<=k
 . have hk:k.toNat=j:=by
    rw[seqIndex_of h0 h4]at h1;exact Option.some.inj h1
   exact PySem.W.ki_setAt ho h0 (by omega) (by rw[List.size_toArray,<-hl];exact h4) (by rw[hk];exact⟨_,I',q⟩)
 . have hk:(k+(its.toArray.size:Int)).toNat=j:=by
    rw[seqIndex_neg (by omega) h3]at h1;rw[List.size_toArray,<-hl];exact Option.some.inj h1
   exact PySem.W.ki_setBack ho (by omega) (by rw[List.size_toArray,<-hl];exact h3) (by omega) (by rw[hk];exact⟨_,I',q⟩)
theorem yS(lo hi:Option Int)(n:Nat):(sliceBounds lo hi none n).1=((HT.bU n 0 lo:Nat):Int)/\(sliceBounds lo hi none n).2.1=((HT.bU n n hi:Nat):Int)/\(sliceBounds lo hi none n).2.2=1:=by
 refine⟨?_,?_,rfl⟩
 . cases lo with
   |none=>simp[sliceBounds,HT.bU]
   |some i=>
    simp only[sliceBounds,HT.bU,Option.getD_none,show(1:Int)>0 by decide,if_true];by_cases h:i<0
    . simp only[h,if_true]<;>omega
    . simp only[h,if_false]<;>omega
 . cases hi with
   |none=>simp[sliceBounds,HT.bU]
   |some i=>
    simp only[sliceBounds,HT.bU,Option.getD_none,show(1:Int)>0 by decide,if_true];by_cases h:i<0
    . simp only[h,if_true]<;>omega
    . simp only[h,if_false]<;>omega
theorem xi(its:List Value)(lo hi:Option Int):slicePick its.toArray lo hi none=((its.drop (HT.bU its.length 0 lo)).take (HT.bU its.length its.length hi-HT.bU its.length 0 lo)).toArray:=by
 obtain⟨h1,h2,h3⟩:=yS lo hi its.toArray.size;unfold slicePick;rw[h1,h2,h3];simp only[sliceRange_one,pick_run,List.size_toArray]<;>rfl
def M1(K:PySem.W.Frag):V->Option Int->Option Int->Hp->VK->Prop:=fun x lo hi H Q=>∃a xs,x= .ref a/\mf K H a xs/\∀p,H p=none->Q (.ref p) (upd H p (.lst (pJ xs lo hi)))
theorem z9:CW X (M1 X.K):=by
 intro pins s σ H x v vl vu lo hi sl Q I rx hs pl pu h;obtain⟨a,xs,rfl,hx,q⟩:=h;cases rx;obtain⟨its,r,ht,hz⟩:=I.list hx;have hlen:=r.length;refine⟨"list",_,slot_list_getitem.lookup,ht.isList.typeIs,?_⟩;refine wpAny_getItem_list_slice ht.isList hs pl pu .none (by simp) ?_ (by rw[List.size_toArray]<;>omega);rw[xi,<-hlen];refine⟨.ref s.heap.objs.size,_,I.laid (t':=s.toks) (o:= .lst (pJ xs lo hi)) (fun b ob q=>Heap.get?_push_of_some _ q) (Nat.le_refl _) ?_,rfl,q _ (I.aJ.fresh (Nat.le_refl _))⟩;exact⟨Nat.le_trans (sD xs lo hi) hz,_,0,(r.drop (HT.bU xs.length 0 lo)).take (HT.bU xs.length xs.length hi-HT.bU xs.length 0 lo),Heap.get?_push_size _ rfl⟩
theorem zp:bp X (.builtin "len") (fun xs H Q=>∃p ys,xs=[.ref p]/\(mf X.K H p ys\/i3 X.K H p ys)/\Q (.int ys.length) H):=by
 intro pins s σ H xs us Q I r h;obtain⟨p,ys,rfl,hq,q⟩:=h;obtain⟨u,rfl,rx⟩:=vals1 r;cases rx;have hn:=qL;rcases hq with hq|hq
 . obtain⟨its,r',pl,hz⟩:=I.list hq;have hlen:=r'.length;exact Calls.call_len_list pl.isList (by simp only[List.size_toArray]<;>omega) ⟨.int ys.length,H,I.tok _,⟨s.toks+1,by rw[List.size_toArray,hlen]⟩,q⟩
 . obtain⟨its,r',pl,hz⟩:=I.tuple hq;have hlen:=r'.length;exact len_tuple pl (by simp only[List.size_toArray]<;>omega) ⟨.int ys.length,H,I.tok _,⟨s.toks+1,by rw[List.size_toArray,hlen]⟩,q⟩
theorem x_:bp X (.builtin "len") (fun xs H Q=>∃z,xs=[.str z]/\z.length<=sizeLine/\Q (.int z.length) H):=by
 intro pins s σ H xs us Q I r h;obtain⟨z,rfl,hz,q⟩:=h;obtain⟨u,rfl,t,rfl⟩:=vals1 r;have hn:=qL;exact len_str (by omega) ⟨.int z.length,H,I.tok _,⟨_,rfl⟩,q⟩
theorem rj:bp X (.type "list") (fun xs H Q=>∃p ys,xs=[.ref p]/\(mf X.K H p ys\/i3 X.K H p ys)/\∀l,H l=none->Q (.ref l) (upd H l (.lst ys))):=by
 intro pins s σ H xs us Q I r h;obtain⟨p,ys,rfl,hq,q⟩:=h;obtain⟨u,rfl,rx⟩:=vals1 r;cases rx
 have fin:∀(its:List Value),Vals ys its->ys.length<=sizeLine->∀(h':Heap) (c':Nat),(∀b o',s.heap.get? b=some o'->h'.get? b=some o')->
  h'.get? s.heap.objs.size=some {cls:= .type "list",dict:=none,data:= .seq its.toArray c',slots:= #[]}->EP X pins σ Q (.ref s.heap.objs.size) {s with heap:=h'}:=fun its r' hz h' c' kp e=>
  ⟨.ref s.heap.objs.size,_,I.laid (t':=s.toks) kp (Nat.le_refl _) (show dB X.prog X.w _ h' _ (.lst ys)from⟨hz,its,c',r',e⟩),rfl,q _ (I.aJ.fresh (Nat.le_refl _))⟩
 rcases hq with hq|hq
 . obtain⟨its,r',pl,hz⟩:=I.list hq;have hlen:=r'.length;obtain⟨o,ho,hc,n,hd⟩:=pl.isList;exact call_list_seq p (.inl rfl) ho hc hd (fun h' c' kp e=>fin its r' hz h' c' kp e) (by simp only[List.size_toArray]<;>omega)
 . obtain⟨its,r',pl,hz⟩:=I.tuple hq;have hlen:=r'.length;obtain⟨o,ho,hc,n,hd⟩:=pl;exact call_list_seq p (.inr rfl) ho hc hd (fun h' c' kp e=>fin its r' hz h' c' kp e) (by simp only[List.size_toArray]<;>omega)
theorem xn:bp X (.type "tuple") (fun xs H Q=>∃p ys,xs=[.ref p]/\((mf X.K H p ys/\∀l,H l=none->Q (.ref l) (upd H l (.tup ys)))\/(i3 X.K H p ys/\Q (.ref p) H))):=by
 intro pins s σ H xs us Q I r h;obtain⟨p,ys,rfl,h⟩:=h;obtain⟨u,rfl,rx⟩:=vals1 r;cases rx;rcases h with⟨hq,q⟩|⟨hq,q⟩
 . obtain⟨its,r',pl,hz⟩:=I.list hq;have hlen:=r'.length;refine call_tuple_list pl.isList (fun h' kp=>?_) (by simp only[List.size_toArray]<;>omega);have I1:Inv X pins σ H {s with heap:=h'}:=I.kept (t':=s.toks) kp
   have I2:Inv X pins σ (upd H h'.objs.size (.tup ys)) {s with heap:=h'.push {cls:= .type "tuple",data:= .seq its.toArray}}:=
    I1.laid (t':=s.toks) (fun b o e=>Heap.get?_push_of_some _ e) (Nat.le_refl _) (show dB X.prog X.w _ _ _ (.tup ys)from⟨hz,its,r',IsTup.new _ _⟩)
   exact⟨.ref h'.objs.size,_,I2,rfl,q _ (I1.aJ.fresh (Nat.le_refl _))⟩
 . obtain⟨its,r',pl,hz⟩:=I.tuple hq;exact call_tuple_same pl ⟨.ref p,H,I,rfl,q⟩
variable {o e:Expr}{es:List Expr}{to:TE}{t:TA}{name:Str}{apos cpos:Pos}{T id:String}{r:V->List V->Hp->VK->Prop}
/-xs.append(e),list.index on a module's tuple .. are NW facts of 06m-/
end
def NY(X:Cx)(id:String)(r:V->List V->Hp->VK->Prop):Prop:=
 ∀(pins:List (Addr×Obj)) (s:Shared) (σ:St) (H:Hp) (x:V) (xs:List V) (v:Value) (us:List Value) (Q:VK),Inv X pins σ H s->RelV x v->Vals xs us->r x xs H Q->
  wpAny (model X.prog X.w) X.A (call (.builtin id) (v::us)) (EP X pins σ Q) X.xe s
theorem Vals.one:∀ {x:V} {us:List Value},Vals [x] us->∃u,us=[u]/\RelV x u
 |_,_,.cons r .nil=>⟨_,rfl,r⟩
theorem Vals.rep{xs:List V}{us:List Value}(h:Vals xs us):∀k:Nat,Vals (List.replicate k xs).flatten (List.replicate k us).flatten
 |0=> .nil
 |k+1=>by
  rw[List.replicate_succ,List.replicate_succ,List.flatten_cons,List.flatten_cons];exact Vals.append h (Vals.rep h k)
theorem foldl_rep(its:List Value):∀(k:Nat) (acc:List Value),
 List.foldl (fun x1 x2=>x1++x2) acc.toArray (List.replicate k its.toArray)=(acc++(List.replicate k its).flatten).toArray
 |0,acc=>by simp
 |k+1,acc=>by
  have e:acc.toArray++its.toArray=(acc++its).toArray:=by simp
  have e2:(acc++its)++(List.replicate k its).flatten=acc++(List.replicate (k+1) its).flatten:=by
   rw[List.replicate_succ,List.flatten_cons,List.append_assoc]
  rw[<-e2,<-foldl_rep its k (acc++its),<-e,List.replicate_succ,List.foldl_cons]
section
variable {X:Cx}{pins:List (Addr×Obj)}{σ:St}{H:Hp}{s:Shared}{l b:Addr}{xs ys zs:List V}
theorem Inv.Nb{its its':List Value}{n:Nat}{f:Array Value->Array Value}{t':Nat}(I:Inv X pins σ H s)(hH:H l=some (.lst xs))
 (e:s.heap.get? l=some {cls:= .type "list",data:= .seq its.toArray n}) (hf:f its.toArray=its'.toArray) (hv:Vals ys its') (hz:ys.length<=sizeLine):
 Inv X pins σ (upd H l (.lst ys)) {s with heap:=s.heap.update l (Obj.mapSeq f),toks:=t'}:=by
 have q:=PySem.IsL.update e f;rw[hf]at q;refine I.write (x:=l) (e:=l) (by rw[hH];exact trivial) (.inl rfl) (fun b' u hb hu=>(Heap.get?_update_other s.heap (Obj.mapSeq f) (Ne.symm hb)).trans hu) ⟨_,q⟩ ?_;exact⟨hz,its',_,hv,q⟩
theorem Inv.Ej{its:List Value}{t':Nat}(I:Inv X pins σ H s)(hv:Vals ys its)(hz:ys.length<=sizeLine):
 Inv X pins σ (upd H s.heap.objs.size (.lst ys)) {s with heap:=s.heap.push {cls:= .type "list",data:= .seq its.toArray},toks:=t'}:=
 I.laid (fun _ _ q=>Heap.get?_push_of_some _ q) (Nat.le_refl _) ⟨hz,its,0,hv,Heap.get?_push_size _ rfl⟩
theorem Inv.fresh(I:Inv X pins σ H s):H s.heap.objs.size=none:=I.aJ.fresh (Nat.le_refl _)
theorem Inv.Ng(I:Inv X pins σ H s)(hH:H l=some (.lst xs)):xs.length<=sizeLine/\∃(its:List Value) (n:Nat),Vals xs its/\xs.length=its.length/\s.heap.get? l=some {cls:= .type "list",data:= .seq its.toArray n}:=by
 obtain⟨z,its,n,r,e⟩:=I.aJ l _ hH;exact⟨z,its,n,r,r.length,e⟩
theorem Ep{n:Nat}(h:n<=sizeLine):Builtin.List.listTooLong n=false:=by
 unfold Builtin.List.listTooLong;exact decide_eq_false (by omega)
end
section
variable {X:Cx}
def GU:V->List V->Hp->VK->Prop:=fun x vs H Q=>∃l xs y,x= .ref l/\vs=[y]/\H l=some (.lst xs)/\xs.length<sizeLine/\Q .aL (upd H l (.lst (xs++[y])))
theorem D7:NY X "list.append" GU:=by
 intro pins s σ H x vs v us Q I rx rv h;obtain⟨l,xs,y,rfl,rfl,hH,hz,q⟩:=h;cases rx;obtain⟨u,rfl,ru⟩:=rv.one;obtain⟨z,its,n,r,hl,e⟩:=I.Ng hH;refine call_meets F.slot_list_append ⟨_,e,rfl⟩ F.entry_list_append (F.args_list_append_2 _ _) (PySem.list_append l its.toArray n u (by rw[List.size_toArray];omega)) ⟨e,?_⟩;refine⟨.aL,_,I.Nb (its':=its++[u]) hH e (by simp) (r.append (.cons ru .nil)) ?_,rfl,q⟩;rw[List.length_append,List.length_singleton];omega
theorem len_rep{α:Type}(xs:List α)(k:Nat):(List.replicate k xs).flatten.length=k*xs.length:=by
 induction k with
 |zero=>simp
 |succ k ih=>rw[List.replicate_succ,List.flatten_cons,List.length_append,ih,Nat.succ_mul,Nat.add_comm]
end
section
variable {prog:Program}{w:World}{A:Around}{E:Value->Shared->Prop}{s:Shared}
set_option maxRecDepth 100000 in
end
section
variable {X:Cx}
end
end L2
namespace Att
open PySem PySem.W PySem.Calls PyProof.Rows
theorem um{P:Params}{h:Heap}:∀(ns:List Int) (vs:List Value),WellAll P h vs (ns.map WData.int)->IntsAre vs ns:=by
 intro ns;induction ns with
 |nil=>
  intro vs w;rw[List.map_nil]at w;cases w;exact .nil
 |cons n ns ih=>
  intro vs w;rw[List.map_cons]at w;cases w with
  |cons a b=>
   cases a;exact .cons _ _ (ih _ b)
theorem DR{l:OpenLaw}{n:Nat}(hn:l.most=some n){P:Params}{h:Heap}{args:List WData}{vals:List Value}
 (hpre:l.row.toRowW.claim.pre args=true) (hwl:WellAll P h vals args):
 ∃a vs ns,vals=[Value.ref a]/\args=[WData.list (ns.map WData.int)]/\h.get? a=some {cls:= .type "list",data:= .seq vs.toArray}/\IntsAre vs ns/\ns.length<=n:=by
 have hsh:WShape.hasAll [] args [.list .int]=true:=(pre_splitW hpre).1;have hc:l.pre.holds [] {args:=args}=true:=(pre_splitW hpre).2;obtain⟨d,r,rfl,h1,h2⟩:=hasAllW_cons hsh;obtain rfl:=hasAllW_nil h2;obtain⟨xs,rfl,h3⟩:=hasW_list h1;obtain⟨ns,rfl⟩:=items_int h3
 have hlen:ns.length<=n:=by
  unfold OpenLaw.pre at hc
  have h4:(WTm.not (.lt (.lit (.int (n:Int))) (.len (.arg 0)))).holds [] {args:=[.list (ns.map .int)]}=true:=by
   have h4:=(holds_andW hc).1;rw[hn]at h4;exact h4
  have h5:=condW_of h4 (w_not (w_lt w_lit (w_len_list (w_arg rfl))));rw[List.length_map]at h5;refine Nat.le_of_not_lt fun q=>?_;have q':(n:Int)<((ns.length:Nat):Int):=by omega
  first
   |(rw[decide_eq_true q']at h5;exact absurd h5 (by decide))
   |(simp at h5;omega)
 cases hwl with
 |cons w1 w2=>
  cases w2;cases w1 with
  |list ho hall=>exact⟨_,_,ns,rfl,rfl,ho,um ns _ hall,hlen⟩
theorem Cu(l:OpenLaw)(args:List WData):l.row.toRowW.claim.post args (.bool true) args=true:=
 postW_of (r:=l.row.toRowW) (X:=(true==true))
  (show WShape.has [] (.bool true) .bool=true by first|rfl|decide|simp[WShape.has,WShape.arms,WShape.armsAll])
  (show(WTm.eq .res (.lit (.bool true))).value [] {args:=args,res:=some (.bool true),after:=args}=some (.bool (true==true))from w_eq_bool (w_res rfl) w_lit) rfl
theorem zE{l:OpenLaw}{n:Nat}{q:Program}{loose:List Str}{XP:(Str->Option Value)->Heap->Prop}{YP:World->Heap->Prop}{d:DefRec}
 (hn:l.most=some n) (hdf:d.params.defaults=[])
 (call:∀(w:World) (s₀ s₁:Shared) (mg mb:Str->Option Value) (fa:Addr) (o:Obj) (pm cd doc:Value) (a:Addr) (vs:List Value) (ns:List Int),
   Ground q loose [] XP w s₀ mg mb s₁.heap->YP w s₁.heap->
   s₁.heap.get? fa=some o->o.data= .func (docDef d.name d.params d.body d.scope pm cd doc)->s₁.heap.CodeRec cd d.name->mg d.name=some (.ref fa)->
   s₁.heap.get? a=some {cls:= .type "list",data:= .seq vs.toArray}->IntsAre vs ns->ns.length<=n->s₁.gens= #[]->
   codeAny (model l.prog w) callerA (.call (.ref fa) ⟨[.ref a],[]⟩) (fun r s'=>r= .ok (.ret (.bool true))/\OldK s₁.heap s'.heap/\s'.os=s₁.os/\AllBare s'.gens) s₁):
 WalkO q loose XP YP l.row.toRowW d [] (fun f vs=>PySem.call f vs):=by
 intro w s₀ s₁ mg mb G Y fa o pm cd doc dV kV ho hd hcd hD hmg hg args vals as hpre hlay hrd hwl hlo;obtain rfl:dV= .none:=Dflts.none hD hdf;obtain rfl:kV= .none:=Dflts.noKw hD;obtain⟨a,vs,ns,rfl,rfl,hobj,hints,hlen⟩:=DR hn hpre hwl;refine enter_call (codeAny_mono (call w s₀ s₁ mg mb fa o pm cd doc a vs ns G Y ho (fd_plain hd) hcd hmg hobj hints hlen hg) fun r s' hq=>?_);obtain⟨rfl,h2,h3,h4⟩:=hq;exact⟨.inl ⟨.bool true,.bool true,[],rfl,fun _=>rfl,.bool true,Cu l _,fun _=>⟨List.Pairwise.nil,fun _ hm=>(nomatch hm)⟩⟩,h2,h3,h4⟩
section
variable {prog:Program}{w:World}{A:Around}{E:Value->Shared->Prop}{s:Shared}{K:Frag}
end
end Att
namespace L2
open PySem PySem.Spec PyProof.Rows
theorem lB:∀ {vs:List Value} {ns:List Int},IntsAre vs ns->Vals (ns.map V.int) vs
 |_,_,.nil=> .nil
 |_,_,.cons n t h=> .cons ⟨t,rfl⟩ (lB h)
end L2
/-THE LAST THEOREM (shape;LID,My.*are yours):
 My.Adr:a structure of the addresses that your layer names (classes,functions);My.Txt K t:a structure (Prop) of the equations over K;
 My.txt_mk:{K} {implicit addresses ..} (e1:nsIn K mainGlobals "law"=some (some (.ref f))) (e2:K.lookup f=some ⟨oc,od,.func (fnOf "law" "law" params body scope dV kV doc pm an cdv ct),sl⟩) (e3:codeIn K cdv "law"=true) .. :∃t,My.Txt K t
set_option maxRecDepth 100000 in
set_option maxHeartbeats 0 in
(the tactic k_is has no namespace:write k_is)-/
namespace L2
open PySem PySem.Spec PyProof.Rows
def inClass(s:Stmt)(j:Nat):Stmt:=match s with
 | .ClassDef _ _ _ body _ _ _ _ _ _ _=>body.getD j (.Pass ⟨0,0,0,0⟩)
 |_=> .Pass ⟨0,0,0,0⟩
def jj(s:Stmt):Arguments:=match s with
 | .FunctionDef _ a _ _ _ _ _ _ _ _=>a
 |_=>{posonlyargs:=[],args:=[],vararg:=none,kwonlyargs:=[],kw_defaults:=[],kwarg:=none,defaults:=[]}
def fQ(s:Stmt):List Stmt:=match s with
 | .FunctionDef _ _ b _ _ _ _ _ _ _=>b
 |_=>[]
def ai(s:Stmt):Scope:=match s with
 | .FunctionDef _ _ _ _ _ _ sc _ _ _=>sc
 |_=>{kind:= .function,names:=[],isGenerator:=false,isCoroutine:=false}
abbrev cG:sP:=fun _ _ _ _ _ _=>False
abbrev E0:XK:=fun _ _ _=>False
theorem Bz{X:Cx}:Passes cG X E0:=fun _ _ _ _ _ _ _ h=>h.elim
structure nE(K:PySem.W.Frag)(x qual:Str)(st:Stmt)(f:Addr)(fd:FuncData):Prop where
 ex:∃(oc:Value) (od:Option Addr) (kV doc pm:Value) (an:Option Addr) (cdv ct:Value) (osl:Array (Option Value)),
  fd=PySem.W.fnOf x qual (jj st) (fQ st) (ai st) .none kV doc pm an cdv ct/\K.lookup f=some ⟨oc,od,.func fd,osl⟩/\PySem.W.codeIn K cdv qual=true
 kp:PySem.W.keepIn K (.ref f)=true
section
variable {P:Program}{w:World}{K:PySem.W.Frag}{mg:Str->Option Value}{base:Heap}
theorem nE.ok{x qual:Str}{st:Stmt}{f:Addr}{fd:FuncData}{N ps:List Str}{k:Nat}{sp:Sp}(F:nE K x qual st f fd)(S:aU N ps (ai st))(len:∀vs H Q E,sp vs H Q E->vs.length=ps.length)
 (hbody:∀(cdv:Value) (A:Around) (outer:List Env) (s:Shared) (H:Hp) (vs:List V) (Q:VK) (E:XK),cT k (A.deeper (envOfC qual (ai st) s.heap.objs.size f cdv))->sp vs H Q E->
   ∃t,gM (pR cG P w K mg base N qual (ai st) f cdv A outer s H E).uv (fQ st) t/\t {nx:=fun _ H'=>Q .aL H',rt:=Q} (start N vs) H):bz P w K mg base cG (k+1) f fd ps sp:=by
 obtain⟨oc,od,kV,doc,pm,an,cdv,ct,osl,rfl,lk,hcd⟩:=F.ex;refine F3 lk hcd S len fun A outer s H vs Q E hr hsp=>?_;obtain⟨t,h,q⟩:=hbody cdv A outer s H vs Q E hr hsp;exact⟨t,h.uv,q⟩
theorem nE.binds{x qual:Str}{st:Stmt}{f:Addr}{fd:FuncData}{ps:List Str}(F:nE K x qual st f fd)
 (h:∀(kV doc pm:Value) (an:Option Addr) (cdv ct:Value) (us:List Value),us.length=ps.length->bindArgs (PySem.W.fnOf x qual (jj st) (fQ st) (ai st) .none kV doc pm an cdv ct) ⟨us,[]⟩=pure (ps.zip us)):Binds K fd ps []:=by
 obtain⟨oc,od,kV,doc,pm,an,cdv,ct,osl,rfl,lk,hcd⟩:=F.ex;exact .all (h kV doc pm an cdv ct)
theorem DF{x qual:Str}{st:Stmt}{f:Addr}{oc:Value}{od an:Option Addr}{osl:Array (Option Value)}{kV doc pm cdv ct:Value}(l:K.lookup f=some ⟨oc,od,.func (PySem.W.fnOf x qual (jj st) (fQ st) (ai st) .none kV doc pm an cdv ct),osl⟩)
 (c:PySem.W.codeIn K cdv qual=true) (k:PySem.W.keepIn K (.ref f)=true):nE K x qual st f (PySem.W.fnOf x qual (jj st) (fQ st) (ai st) .none kV doc pm an cdv ct):=⟨⟨oc,od,kV,doc,pm,an,cdv,ct,osl,rfl,l,c⟩,k⟩
end
section
variable {X:Cx}
end
theorem fi{A B:Prop}(h:A):if true=true then A else B:=by
 rw[if_pos rfl];exact h
def Fs(H H':Hp):Prop:=∀b o,H b=some o->H' b=some o
end L2
set_option maxHeartbeats 4000000
namespace Hd
open PySem PySem.W PySem.Calls PyProof.Rows
noncomputable def bt (P:Params):BT:=(.node (boot_o_0 P) (.node (boot_o_1 P) (.node (boot_o_3 P) (.node (boot_o_7 P) .nil .nil) .nil) (.node (boot_o_5 P) (.node (boot_o_9 P) .nil .nil) .nil)) (.node (boot_o_2 P) (.node (boot_o_4 P) (.node (boot_o_8 P) .nil .nil) .nil) (.node (boot_o_6 P) (.node (boot_o_10 P) .nil .nil) .nil)))
theorem Jj(P:Params):absHeap (bt P) 11 (boot_heap P).life=boot_heap P:=by kernel_rfl
noncomputable def run (p:Program) (w:World) (n:Nat) (ann:Option Value):Nat->SharedT->Thread->Option SharedT
 |0,_,_=>none
 |k+1,s,t=>match through t with
  |true=>some s
  |false=>match Fast.tw6613529449190102663 n ann t with
   |false=>none
   |true=>match Fast.tw10156331382660048174 (Fast.tw11892475500146522536 Fast.tw14364793385576792824) p w s t with
    |some (s',t')=>run p w n ann k s' t'
    |none=>none
theorem Ds{p:Program}{w:World}{n:Nat}{ann:Option Value}:∀ {k:Nat} {s s':SharedT} {t:Thread},run p w n ann k s t=some s'->topRun treeTable p w n ann k s.abs t=some s'.abs
 |0,_,_,_,h=>by cases h
 |k+1,s,s',t,h=>by
  unfold run at h;unfold topRun;cases he:through t with
  |true=>rw[he]at h;cases h;rfl
  |false=>
   rw[he]at h;rw[<-Fast.te6613529449190102663,<-Fast.te10156331382660048174,<-Fast.te11892475500146522536,<-Fast.te14364793385576792824]at h;cases hk:stepOk n ann t with
   |false=>simp only[hk]at h;cases h
   |true=>
    simp only[hk]at h;cases hs:stepT (denote treeTable) p w s t with
    |none=>rw[hs]at h;cases h
    |some r=>obtain⟨s2,t2⟩:=r;rw[hs]at h;rw[stepT_spec hs];exact Ds h
noncomputable def b0 (w:World) (os:OsState):SharedT:=⟨bt w.params,11,(boot_heap w.params).life,⟨[]⟩,boot_drawn,boot_toks,os⟩
theorem Je(w:World)(os:OsState):(b0 w os).abs=⟨boot_heap w.params,⟨[]⟩,boot_drawn,boot_toks,os⟩:=by
 unfold b0 SharedT.abs;dsimp only;rw[Jj]
theorem left{p q:Program}{loose:List Str}{α:Type}{Yf:Shared->α}{Ya:World->α}{N:Nat}
 (e:opening p=plainProg p.main.scope.names) (f:∀s,fenceModules? p s=some s) (hN:Nat.ble 600 N=true)
 (h:∀(w:World) (os:OsState),(run p w 11 (some (.ref 6)) N (b0 w os) (topStub p)).bind (fun s=>match staticsOk (importedModules p.main.body) (boot_heap w.params) s.abs.heap&&namesBound p s.abs.heap&&gensDone s.abs&&laidKept (boot_heap w.params) s.abs.heap with
   |true=>some (Fast.tw4187177175401517315 q loose (importedModules p.main.body) (fun _=>true) true s.abs,Yf s.abs)
   |false=>none)=some (openGood q loose,Ya w)):LeftO p q loose (fun _=>true) Yf Ya N:=fun w=>by
 obtain⟨⟨hp,gs,d,k,os⟩,e1,e2⟩:=Option.map_eq_some_iff.mp (boot_open e hN f w);obtain⟨rfl,rfl,rfl,rfl⟩:hp=boot_heap w.params/\gs=⟨[]⟩/\d=boot_drawn/\k=boot_toks:=by simpa using e2
 obtain⟨s,r1,r2⟩:=Option.bind_eq_some_iff.mp (h w os);have r3:=Ds r1;rw[Je]at r3;rw[<-Fast.te4187177175401517315]at r2;unfold openEnds;rw[e1];show(topFrom treeTable p w N _).map _=_;unfold topFrom;rw[show((boot_heap w.params).isNs mainGlobals&&(⟨[]⟩:Array GenState).size==0)=true from by kernel_rfl];dsimp only;rw[show(boot_heap w.params).objs.size=11 from by kernel_rfl,show(boot_heap w.params).nsMap mainGlobals "__annotations__"=some (.ref 6)from by kernel_rfl,r3];show((match staticsOk (importedModules p.main.body) (boot_heap w.params) s.abs.heap&&namesBound p s.abs.heap&&gensDone s.abs&&laidKept (boot_heap w.params) s.abs.heap with|true=>some s.abs|false=>none):Option Shared).map _=_;cases z:(staticsOk (importedModules p.main.body) (boot_heap w.params) s.abs.heap&&namesBound p s.abs.heap&&gensDone s.abs&&laidKept (boot_heap w.params) s.abs.heap)with
 |false=>rw[z]at r2;cases r2
 |true=>rw[z]at r2;exact r2
def fo(st:Stmt)(x q:Str)(pm cd:Value):Obj:=⟨.type "function",none,.func (fnOf x q (L2.jj st) (L2.fQ st) (L2.ai st) .none .none .none pm none cd .none),#[]⟩
abbrev e(x:Str)(t:Nat)(v:Value):Str×Nat×Value:=(x,t,v)
abbrev k(a:Addr)(o:Obj):Addr×Obj:=(a,o)
def no(P:Params)(n:Nat)(l:List (Str×Nat×Value)):Obj:=⟨.type "dict",none,.dict (l.map fun e=>⟨PyData.keyHash P e.1,.str e.1 e.2.1,e.2.2⟩).toArray n,#[]⟩
def fd(st:Stmt)(x q:Str)(pm:Value)(c:Addr):FuncData:=fnOf x q (L2.jj st) (L2.fQ st) (L2.ai st) .none .none .none pm none (.ref c) .none
def fq(st:Stmt)(x q:Str)(pm:Value)(c:Addr):Obj:=⟨.type "function",none,.func (fd st x q pm c),#[]⟩
def co(x q:Str)(t:Nat)(line argc:Int)(a b:Addr)(u v:Value)(d:Addr)(i:Int)(z:Nat):Obj:=⟨.type "code",none,.fields #[.str x t,.str q (t+1),.str "/claim/cut.py" (t+2),.int line 0,.int argc 0,.int 0 0,.int 0 0,.int 3 0,.ref a,.bool true,.int 181 0,.ref b,.none,u,v,.ref d,.int i 0,.int line 0,.str "/claim/cut.py" z],#[]⟩
end Hd
namespace Row
open PySem L2
open PySem.Spec hiding items?
open PyProof.Rows hiding St
def top(i:Nat):Stmt:=PySem.Challenge.pw_latticeworks_k63_spaces_shared.main.body.getD i (.Pass ⟨0,0,0,0⟩)
abbrev PW:Program:=PySem.Challenge.pw_latticeworks_k63_spaces_shared
abbrev iL:Stmt:=top 1
abbrev kR:Stmt:=top 2
abbrev kQ:Stmt:=top 3
abbrev iR:Stmt:=top 4
abbrev jK:Stmt:=top 5
abbrev ff:Stmt:=top 6
abbrev gZ:Stmt:=top 7
abbrev gc:Stmt:=top 8
abbrev fO:Stmt:=top 9
abbrev jO:Stmt:=top 11
abbrev dY:Stmt:=top 12
abbrev ie:Stmt:=top 13
abbrev iV:Stmt:=top 14
abbrev cO:Stmt:=inClass (top 15) 0
abbrev gG:Stmt:=inClass (top 15) 1
abbrev eQ:Stmt:=inClass (top 15) 2
abbrev dN:Stmt:=inClass (top 15) 3
abbrev cX:Stmt:=inClass (top 15) 4
abbrev ft:Stmt:=inClass (top 15) 5
abbrev dJ:Stmt:=inClass (top 15) 6
abbrev jn:Stmt:=top 16
abbrev mY:Stmt:=top 18
abbrev jH:Stmt:=top 19
abbrev dW:Stmt:=top 20
abbrev jX:Stmt:=top 21
abbrev kI:Stmt:=top 22
abbrev ji:Stmt:=top 24
abbrev jf:Stmt:=top 25
abbrev gK:Stmt:=top 26
abbrev gW:Stmt:=top 27
abbrev ia:Stmt:=top 28
abbrev f_:Stmt:=top 29
abbrev kO:Stmt:=top 30
abbrev e_:Stmt:=top 31
abbrev eR:Stmt:=top 32
abbrev jR:Stmt:=top 33
abbrev gO:Stmt:=top 34
abbrev jU:Stmt:=top 35
abbrev eA:Stmt:=top 36
abbrev fy:Stmt:=top 37
abbrev la:Stmt:=top 38
def gF:Value:=(.str "latticeworks.rows" 187)
def eS:Value:=(.str "latticeworks.standing" 251)
def nI:Value:=(.str "latticeworks.spaces" 381)
def dv:Value:=(.str "law_latticeworks_k63_spaces_shared" 419)
def KX(P:Params):PySem.W.Frag:=[Hd.k 3 (Hd.no P 44 [Hd.e "__name__" 165 (.str "law_latticeworks_k63_spaces_shared" 419),Hd.e "__doc__" 166 .none,Hd.e "__package__" 167 .none,Hd.e "__loader__" 168 (.builtin "__main__.__loader__#opaque"),Hd.e "__spec__" 169 .none,Hd.e "__annotations__" 170 (.ref 6),Hd.e "__builtins__" 171 (.ref 4),Hd.e "__file__" 173 (.str "/claim/cut.py" 172),Hd.e "__cached__" 174 .none,Hd.e "as_rows" 194 (.ref 19),Hd.e "added" 200 (.ref 24),Hd.e "sum_by" 212 (.ref 31),Hd.e "product" 218 (.ref 36),Hd.e "column" 224 (.ref 41),Hd.e "turned_over" 230 (.ref 46),Hd.e "unit_row" 236 (.ref 51),Hd.e "unit_rows" 242 (.ref 56),Hd.e "nought_rows" 250 (.ref 63),Hd.e "lead_of" 261 (.ref 70),Hd.e "nearest_quotient" 269 (.ref 77),Hd.e "exchanged" 279 (.ref 84),Hd.e "negated" 285 (.ref 89),Hd.e "Bench" 369 (.ref 144),Hd.e "standing" 380 (.ref 155),Hd.e "space" 390 (.ref 162),Hd.e "paired" 396 (.ref 167),Hd.e "behind_noughts" 402 (.ref 172),Hd.e "doubled" 410 (.ref 179),Hd.e "shared" 418 (.ref 186),Hd.e "_law_hand" 428 (.ref 193),Hd.e "_law_draw" 440 (.ref 200),Hd.e "_law_number" 448 (.ref 207),Hd.e "_law_rows" 454 (.ref 212),Hd.e "_law_width" 461 (.ref 219),Hd.e "_law_falls" 467 (.ref 224),Hd.e "_law_in" 475 (.ref 231),Hd.e "_law_stands" 481 (.ref 236),Hd.e "_law_is_space" 487 (.ref 241),Hd.e "_law_sum" 500 (.ref 248),Hd.e "_law_two" 506 (.ref 253),Hd.e "_law_met" 515 (.ref 260),Hd.e "_law_times_met" 521 (.ref 265),Hd.e "_law_listed" 527 (.ref 270),Hd.e "law" 533 (.ref 275)]),
 Hd.k 18 (Hd.co "as_rows" "as_rows" 189 2 1 15 16 .none .none 17 192 193),
 Hd.k 19 (Hd.fq iL "as_rows" "as_rows" gF 18),
 Hd.k 23 (Hd.co "added" "added" 195 4 3 20 21 .none .none 22 198 199),
 Hd.k 24 (Hd.fq kR "added" "added" gF 23),
 Hd.k 30 (Hd.co "sum_by" "sum_by" 201 6 3 25 26 (.ref 27) (.ref 28) 29 210 211),
 Hd.k 31 (Hd.fq kQ "sum_by" "sum_by" gF 30),
 Hd.k 35 (Hd.co "product" "product" 213 11 2 32 33 .none .none 34 216 217),
 Hd.k 36 (Hd.fq iR "product" "product" gF 35),
 Hd.k 40 (Hd.co "column" "column" 219 14 2 37 38 .none .none 39 222 223),
 Hd.k 41 (Hd.fq jK "column" "column" gF 40),
 Hd.k 45 (Hd.co "turned_over" "turned_over" 225 16 2 42 43 .none .none 44 228 229),
 Hd.k 46 (Hd.fq ff "turned_over" "turned_over" gF 45),
 Hd.k 50 (Hd.co "unit_row" "unit_row" 231 18 2 47 48 .none .none 49 234 235),
 Hd.k 51 (Hd.fq gZ "unit_row" "unit_row" gF 50),
 Hd.k 55 (Hd.co "unit_rows" "unit_rows" 237 20 1 52 53 .none .none 54 240 241),
 Hd.k 56 (Hd.fq gc "unit_rows" "unit_rows" gF 55),
 Hd.k 62 (Hd.co "nought_rows" "nought_rows" 243 22 2 57 58 (.ref 59) (.ref 60) 61 248 249),
 Hd.k 63 (Hd.fq fO "nought_rows" "nought_rows" gF 62),
 Hd.k 69 (Hd.co "lead_of" "lead_of" 253 25 1 64 65 (.ref 66) (.ref 67) 68 259 260),
 Hd.k 70 (Hd.fq jO "lead_of" "lead_of" eS 69),
 Hd.k 76 (Hd.co "nearest_quotient" "nearest_quotient" 262 30 2 71 72 (.ref 73) (.ref 74) 75 267 268),
 Hd.k 77 (Hd.fq dY "nearest_quotient" "nearest_quotient" eS 76),
 Hd.k 83 (Hd.co "exchanged" "exchanged" 270 32 3 78 79 (.ref 80) (.ref 81) 82 277 278),
 Hd.k 84 (Hd.fq ie "exchanged" "exchanged" eS 83),
 Hd.k 88 (Hd.co "negated" "negated" 280 37 1 85 86 .none .none 87 283 284),
 Hd.k 89 (Hd.fq iV "negated" "negated" eS 88),
 Hd.k 100 (Hd.co "__init__" "Bench.__init__" 298 41 2 97 98 .none .none 99 301 302),
 Hd.k 101 (Hd.fq cO "__init__" "Bench.__init__" eS 100),
 Hd.k 107 (Hd.co "take" "Bench.take" 304 46 4 102 103 (.ref 104) (.ref 105) 106 311 312),
 Hd.k 108 (Hd.fq gG "take" "Bench.take" eS 107),
 Hd.k 114 (Hd.co "exchange" "Bench.exchange" 314 51 3 109 110 (.ref 111) (.ref 112) 113 320 321),
 Hd.k 115 (Hd.fq eQ "exchange" "Bench.exchange" eS 114),
 Hd.k 121 (Hd.co "change_sign" "Bench.change_sign" 323 56 2 116 117 (.ref 118) (.ref 119) 120 328 329),
 Hd.k 122 (Hd.fq dN "change_sign" "Bench.change_sign" eS 121),
 Hd.k 126 (Hd.co "live_rows" "Bench.live_rows" 331 61 3 123 124 .none .none 125 334 335),
 Hd.k 127 (Hd.fq cX "live_rows" "Bench.live_rows" eS 126),
 Hd.k 133 (Hd.co "gather" "Bench.gather" 337 65 3 128 129 (.ref 130) (.ref 131) 132 346 347),
 Hd.k 134 (Hd.fq ft "gather" "Bench.gather" eS 133),
 Hd.k 140 (Hd.co "lower_above" "Bench.lower_above" 349 79 3 135 136 (.ref 137) (.ref 138) 139 356 357),
 Hd.k 141 (Hd.fq dJ "lower_above" "Bench.lower_above" eS 140),
 Hd.k 143 (Hd.no P 4 [Hd.e "__module__" 293 (.str "latticeworks.standing" 251),Hd.e "__firstlineno__" 297 (.int (39) 296),Hd.e "__init__" 303 (.ref 101),Hd.e "take" 313 (.ref 108),Hd.e "exchange" 322 (.ref 115),Hd.e "change_sign" 330 (.ref 122),Hd.e "live_rows" 336 (.ref 127),Hd.e "gather" 348 (.ref 134),Hd.e "lower_above" 358 (.ref 141),Hd.e "__static_attributes__" 362 (.ref 142),Hd.e "__dict__" 364 (.ref 145),Hd.e "__weakref__" 366 (.ref 146),Hd.e "__doc__" 367 .none]),
 Hd.k 144 (⟨(.type "type"),none,.cls {name:="Bench",bases:=[(.type "object")],mro:=[(.ref 144),(.type "object")],ns:=143,qualname:="Bench",hasDict:=true,subclasses:=[],abstract:=false,hasDel:=false},#[none,none,(some (.str "Bench" 286)),(some (.str "Bench" 294)),(some (.builtin "object.__new__")),(some (.bool true))]⟩),
 Hd.k 154 (Hd.co "standing" "standing" 370 82 1 149 150 (.ref 151) (.ref 152) 153 378 379),
 Hd.k 155 (Hd.fq jn "standing" "standing" eS 154),
 Hd.k 161 (Hd.co "space" "space" 383 92 2 156 157 (.ref 158) (.ref 159) 160 388 389),
 Hd.k 162 (Hd.fq mY "space" "space" nI 161),
 Hd.k 166 (Hd.co "paired" "paired" 391 94 2 163 164 .none .none 165 394 395),
 Hd.k 167 (Hd.fq jH "paired" "paired" nI 166),
 Hd.k 171 (Hd.co "behind_noughts" "behind_noughts" 397 96 2 168 169 .none .none 170 400 401),
 Hd.k 172 (Hd.fq dW "behind_noughts" "behind_noughts" nI 171),
 Hd.k 178 (Hd.co "doubled" "doubled" 403 100 2 173 174 (.ref 175) (.ref 176) 177 408 409),
 Hd.k 179 (Hd.fq jX "doubled" "doubled" nI 178),
 Hd.k 185 (Hd.co "shared" "shared" 411 102 2 180 181 (.ref 182) (.ref 183) 184 416 417),
 Hd.k 186 (Hd.fq kI "shared" "shared" nI 185),
 Hd.k 192 (Hd.co "_law_hand" "_law_hand" 421 105 1 187 188 (.ref 189) (.ref 190) 191 426 427),
 Hd.k 193 (Hd.fq ji "_law_hand" "_law_hand" dv 192),
 Hd.k 199 (Hd.co "_law_draw" "_law_draw" 429 108 2 194 195 (.ref 196) (.ref 197) 198 438 439),
 Hd.k 200 (Hd.fq jf "_law_draw" "_law_draw" dv 199),
 Hd.k 206 (Hd.co "_law_number" "_law_number" 441 121 2 201 202 (.ref 203) (.ref 204) 205 446 447),
 Hd.k 207 (Hd.fq gK "_law_number" "_law_number" dv 206),
 Hd.k 211 (Hd.co "_law_rows" "_law_rows" 449 127 3 208 209 .none .none 210 452 453),
 Hd.k 212 (Hd.fq gW "_law_rows" "_law_rows" dv 211),
 Hd.k 218 (Hd.co "_law_width" "_law_width" 455 132 1 213 214 (.ref 215) (.ref 216) 217 459 460),
 Hd.k 219 (Hd.fq ia "_law_width" "_law_width" dv 218),
 Hd.k 223 (Hd.co "_law_falls" "_law_falls" 462 136 2 220 221 .none .none 222 465 466),
 Hd.k 224 (Hd.fq f_ "_law_falls" "_law_falls" dv 223),
 Hd.k 230 (Hd.co "_law_in" "_law_in" 468 144 2 225 226 (.ref 227) (.ref 228) 229 473 474),
 Hd.k 231 (Hd.fq kO "_law_in" "_law_in" dv 230),
 Hd.k 235 (Hd.co "_law_stands" "_law_stands" 476 146 1 232 233 .none .none 234 479 480),
 Hd.k 236 (Hd.fq e_ "_law_stands" "_law_stands" dv 235),
 Hd.k 240 (Hd.co "_law_is_space" "_law_is_space" 482 156 2 237 238 .none .none 239 485 486),
 Hd.k 241 (Hd.fq eR "_law_is_space" "_law_is_space" dv 240),
 Hd.k 247 (Hd.co "_law_sum" "_law_sum" 488 167 3 242 243 (.ref 244) (.ref 245) 246 498 499),
 Hd.k 248 (Hd.fq jR "_law_sum" "_law_sum" dv 247),
 Hd.k 252 (Hd.co "_law_two" "_law_two" 501 173 3 249 250 .none .none 251 504 505),
 Hd.k 253 (Hd.fq gO "_law_two" "_law_two" dv 252),
 Hd.k 259 (Hd.co "_law_met" "_law_met" 507 184 3 254 255 (.ref 256) (.ref 257) 258 513 514),
 Hd.k 260 (Hd.fq jU "_law_met" "_law_met" dv 259),
 Hd.k 264 (Hd.co "_law_times_met" "_law_times_met" 516 186 3 261 262 .none .none 263 519 520),
 Hd.k 265 (Hd.fq eA "_law_times_met" "_law_times_met" dv 264),
 Hd.k 269 (Hd.co "_law_listed" "_law_listed" 522 192 1 266 267 .none .none 268 525 526),
 Hd.k 270 (Hd.fq fy "_law_listed" "_law_listed" dv 269),
 Hd.k 274 (Hd.co "law" "law" 528 194 1 271 272 .none .none 273 531 532),
 Hd.k 275 (Hd.fq la "law" "law" dv 274)]
def KA:List Addr:=[3,18,19,23,24,30,31,35,36,40,41,45,46,50,51,55,56,62,63,69,70,76,77,83,84,88,89,100,101,107,108,114,115,121,122,126,127,133,134,140,141,143,144,154,155,161,162,166,167,171,172,178,179,185,186,192,193,199,200,206,207,211,212,218,219,223,224,230,231,235,236,240,241,247,248,252,253,259,260,264,265,269,270,274,275]
set_option maxHeartbeats 0 in
theorem left:PySem.W.LeftO PW (PySem.W.view PW [1,2,3,4,5,6,7,8,9,11,12,13,14,15,16,18,19,20,21,22,24,25,26,27,28,29,30,31,32,33,34,35,36,37,38]) [] (fun _=>true) (PySem.W.kmHook Row.KX Row.KA (fun _=>rfl) [124]).obs (PySem.W.kmHook Row.KX Row.KA (fun _=>rfl) [124]).val 2966:=
 Hd.left (by kernel_rfl) (fun s=>by kernel_rfl) rfl fun w os=>by kernel_rfl
end Row
namespace L3
open PySem PySem.Spec PyProof.Rows L2
section
variable {prog:Program}{w:World}{A:Around}{R:Result->Shared->Prop}{s:Shared}
theorem zT{elt target iter:Expr}{ifs:List Expr}{scope:Scope}{pos:Pos}{it acc:Value}{env:Env}(I:Nat->Shared->Prop)
 (turn:∀n s,I n s->wpAny (model prog w) A (pyNext it) (fun r s₁=>match r with
   |none=>R (.ok .next) s₁
   |some v=>wpAny (model prog w) A (letOwnedTupleGo target it v) (fun _ s₀=>wpAny (model prog w) A (assign target env v) (fun _ s₂=>
     wpAny (model prog w) A (forIn ifs true fun c r=>if r=true then do let ok <-isTrue c env (eval c env);pure (ForInStep.yield ok)else pure (ForInStep.yield r)) (fun ok s₃=>
      if ok=true then wpAny (model prog w) A (eval elt env) (fun x s₄=>
       wpAny (model prog w) A (call (.builtin "list.append") [acc,x]) (fun _ s₅=>∃m,m<n/\I m s₅) (fun _ _=>False) s₄) (fun _ _=>False) s₃
      else∃m,m<n/\I m s₃) (fun _ _=>False) s₂) (fun _ _=>False) s₀) (fun _ _=>False) s₁) (fun _ _=>False) s)
 (n:Nat) (h:I n s):
 codeAny (model prog w) A (.compLoop (.ListComp elt [⟨target,iter,ifs,0⟩] scope pos) 0 it acc env) R s:=by
 refine codeAny_loop rfl I (fun n s hI=>?_) n h;show wpAny _ A ((compTurn (.ListComp elt [⟨target,iter,ifs,0⟩] scope pos) 0 it acc env).onRaise (fun x=>do noteFrame x env;theTreesLotGoes x)) _ _ s;refine wpAny_noted ?_;rw[compTurn_list];refine wpAny_bind (wpAny_standAt (wpAny_bind (wpAny_mono (turn n s hI) (fun r s₁ h₁=>?_) fun _ _ h'=>h'.elim)));cases r with
 |none=>exact wpAny_pure h₁
 |some v=>
  refine wpAny_bind (wpAny_mono h₁ (fun _ s₀ h₀=>?_) fun _ _ h'=>h'.elim);refine wpAny_bind (wpAny_mono h₀ (fun _ s₂ h₂=>wpAny_bind (wpAny_mono h₂ (fun ok s₃ h₃=>?_) fun _ _ h'=>h'.elim)) fun _ _ h'=>h'.elim);cases ok with
  |false=>exact wpAny_pure ⟨rfl,h₃⟩
  |true=>
   exact wpAny_bind (wpAny_bind (wpAny_mono h₃ (fun x s₄ h₄=>wpAny_bind (wpAny_mono h₄ (fun _ s₅ h₅=>wpAny_pure (wpAny_pure ⟨rfl,h₅⟩)) fun _ _ h'=>h'.elim)) fun _ _ h'=>h'.elim))
end
def de(cells:List (Str×Addr)):List (Str×NameKind)->List (Str×Addr)->List (Str×Addr)
 | [],acc=>acc
 |(n,k)::r,acc=>if k== .free then(match cells.lookup n with|some c=>de cells r ((n,c)::acc)|none=>de cells r acc)else de cells r acc
theorem cR{cells:List (Str×Addr)}:∀(names:List (Str×NameKind)) (acc:List (Str×Addr)),(∀x c,acc.lookup x=some c->cells.lookup x=some c)->
 ∀x c,(de cells names acc).lookup x=some c->cells.lookup x=some c
 | [],acc,h,x,c,e=>h x c e
 |(n,k)::r,acc,h,x,c,e=>by
  unfold de at e;split at e
  . split at e
    . rename_i d q;refine cR r _ (fun y b e'=>?_) x c e;rw[List.lookup_cons]at e';split at e'
      . rename_i z;cases e';have z':y=n:=by simpa using z
        rw[z'];exact q
      . exact h y b e'
    . exact cR r _ h x c e
  . exact cR r _ h x c e
theorem iM{cells:List (Str×Addr)}{x:Str}:∀(names:List (Str×NameKind)) (acc:List (Str×Addr)),(∃c,cells.lookup x=some c)->((x,NameKind.free)∈names\/∃c,acc.lookup x=some c)->
 ∃c,(de cells names acc).lookup x=some c
 | [],acc,_,h=>by
   rcases h with h|h
   . simp at h
   . exact h
 |(n,k)::r,acc,hc,h=>by
  unfold de;split
  . rename_i hk;split
    . rename_i d q;refine iM r _ hc ?_;rcases h with h|⟨c,h⟩
      . rcases List.mem_cons.mp h with e|e
        . cases e;exact .inr ⟨d,by simp[List.lookup_cons]⟩
        . exact .inl e
      . refine .inr ?_;rw[List.lookup_cons];split
        . exact⟨_,rfl⟩
        . exact⟨c,h⟩
    . rename_i q;refine iM r _ hc ?_;rcases h with h|h
      . rcases List.mem_cons.mp h with e|e
        . cases e;obtain⟨c,hc⟩:=hc;rw[hc]at q;cases q
        . exact .inl e
      . exact .inr h
  . rename_i hk;refine iM r _ hc ?_;rcases h with h|h
    . rcases List.mem_cons.mp h with e|e
      . cases e;exact absurd rfl hk
      . exact .inl e
    . exact .inr h
theorem l7{scope:Scope}{env:Env}(h:∀x∈scope.names,x.2= .free->∃c,env.cells.lookup x.1=some c):closureFor scope env=pure (de env.cells scope.names []):=by
 have key:∀(names:List (Str×NameKind)) (acc:List (Str×Addr)),(∀x∈names,x.2= .free->∃c,env.cells.lookup x.1=some c)->
  (forIn names acc (fun(x:Str×NameKind) (cs:List (Str×Addr))=>if(x.2==NameKind.free)=true then(do let a <-cellOf env x.1;pure (ForInStep.yield ((x.1,a)::cs)):Sem (ForInStep (List (Str×Addr))))else pure (ForInStep.yield cs)))=(pure (de env.cells names acc):Sem (List (Str×Addr))):=by
  intro names;induction names with
  |nil=>intro acc _;rfl
  |cons p r ih=>
   intro acc hh;obtain⟨n,k⟩:=p;rw[List.forIn_cons];have ih':=ih;by_cases hk:(k==NameKind.free)=true
   . obtain⟨c,e⟩:=hh (n,k) List.mem_cons_self (by simpa using hk);simp only[hk,if_true]
     have e1:cellOf env n=pure c:=by
      unfold cellOf;rw[e]
     rw[e1];simp only[pure_bind];rw[ih _ fun x hx=>hh x (List.mem_cons_of_mem _ hx)];conv=>rhs;unfold de
     simp only[hk,if_true];rw[show env.cells.lookup n=some c from e]
   . have hk':(k==NameKind.free)=false:=by simpa using hk
     simp only[hk',Bool.false_eq_true,if_false,pure_bind];rw[ih _ fun x hx=>hh x (List.mem_cons_of_mem _ hx)];conv=>rhs;unfold de
     simp only[hk',Bool.false_eq_true,if_false]
 unfold closureFor;have:=key scope.names [] h;rw[bind_pure]
 first
  |exact this
  |(simp only[bind_pure]at this⊢;exact this)
end L3
namespace L3
open PySem PySem.Spec L2
open PyProof.Rows hiding St
theorem jd(env:Env):∀(names:List (Str×NameKind)) (x:Str),
 (names.map fun(n,k)=>if(k==NameKind.free&&env.scope.kind== .function&&env.kindOf n==some .cell)then(n,NameKind.cell)else(n,k)).lookup x=
   (names.lookup x).map fun k=>if(k==NameKind.free&&env.scope.kind== .function&&env.kindOf x==some .cell)then NameKind.cell else k
 | [],_=>rfl
 |(n,k)::r,x=>by
  show List.lookup x ((if(k==NameKind.free&&env.scope.kind== .function&&env.kindOf n==some .cell)=true then(n,NameKind.cell)else(n,k))::_)=_;cases hx:x==n with
  |true=>
   have e:x=n:=by simpa using hx
   subst e;by_cases hc:(k==NameKind.free&&env.scope.kind== .function&&env.kindOf x==some .cell)=true
   . rw[if_pos hc];simp only[List.lookup_cons,beq_self_eq_true,Option.map_some];rw[if_pos hc]
   . rw[if_neg hc];simp only[List.lookup_cons,beq_self_eq_true,Option.map_some];rw[if_neg hc]
  |false=>
   by_cases hc:(k==NameKind.free&&env.scope.kind== .function&&env.kindOf n==some .cell)=true
   . rw[if_pos hc];simp only[List.lookup_cons,hx];exact jd env r x
   . rw[if_neg hc];simp only[List.lookup_cons,hx];exact jd env r x
theorem yM{env:Env}{scope:Scope}{x:Str}(h:scope.names.lookup x=some .free):(relabel scope env).names.lookup x=some .cell\/(relabel scope env).names.lookup x=some .free:=by
 have e:(relabel scope env).names.lookup x=_:=jd env scope.names x;rw[e,h];simp only[Option.map_some];split
 . exact .inl rfl
 . exact .inr rfl
theorem yi{env:Env}{scope:Scope}{x:Str}(h:(relabel scope env).names.lookup x=some .cell\/(relabel scope env).names.lookup x=some .free):(x,NameKind.free)∈scope.names\/scope.names.lookup x=some .cell:=by
 have e:(relabel scope env).names.lookup x=_:=jd env scope.names x;rw[e]at h;cases q:scope.names.lookup x with
 |none=>rw[q]at h;rcases h with h|h<;>cases h
 |some k=>
  rw[q]at h;simp only[Option.map_some]at h;have m:=PySem.mem_of_lookup q;by_cases hc:(k==NameKind.free&&env.scope.kind== .function&&env.kindOf x==some .cell)=true
  . have:k= .free:=by
     simp only[Bool.and_eq_true]at hc;simpa using hc.1.1
    subst this;exact .inl m
  . rw[if_neg hc]at h;rcases h with h|h
    . cases h;exact .inr rfl
    . cases h;exact .inl m
theorem fW:∀(names:List (Str×NameKind)) (L:Nat) (acc:List (Str×Addr)),cellsFrom L names acc=cellsFrom L names []++acc
 | [],_,_=>rfl
 |(n,k)::r,L,acc=>by
  unfold cellsFrom;by_cases hk:(k==NameKind.cell)=true
  . rw[if_pos hk,if_pos hk,fW r (L+1) ((n,L)::acc),fW r (L+1) [(n,L)],List.append_assoc];rfl
  . rw[if_neg hk,if_neg hk];exact fW r L acc
theorem qO:∀ {names:List (Str×NameKind)} {L:Nat} {x:Str} {c:Addr},(x,c)∈cellsFrom L names []->(x,NameKind.cell)∈names
 | [],_,_,_,h=>by unfold cellsFrom at h;cases h
 |(n,k)::r,L,x,c,h=>by
  unfold cellsFrom at h;by_cases hk:(k==NameKind.cell)=true
  . rw[if_pos hk,fW]at h;have hk':k= .cell:=by simpa using hk
    subst hk';rcases List.mem_append.mp h with h|h
    . exact List.mem_cons_of_mem _ (qO h)
    . have:(x,c)=(n,L):=by simpa using h
      cases this;exact List.mem_cons_self
  . rw[if_neg hk]at h;exact List.mem_cons_of_mem _ (qO h)
theorem pw:∀ {l1 l2:List (Str×Addr)} {x:Str} {c:Addr},(l1++l2).lookup x=some c->l1.lookup x=some c\/(l1.lookup x=none/\l2.lookup x=some c)
 | [],_,_,_,h=> .inr ⟨rfl,h⟩
 |(n,d)::l1,l2,x,c,h=>by
  rw[List.cons_append,List.lookup_cons]at h;rw[List.lookup_cons];cases hx:x==n with
  |true=>rw[hx]at h;exact .inl h
  |false=>rw[hx]at h;exact pw h
theorem sS:∀ {l1 l2:List (Str×Addr)} {x:Str},l1.lookup x=none->(l1++l2).lookup x=l2.lookup x
 | [],_,_,_=>rfl
 |(n,d)::l1,l2,x,h=>by
  rw[List.lookup_cons]at h;rw[List.cons_append,List.lookup_cons];cases hx:x==n with
  |true=>rw[hx]at h;cases h
  |false=>rw[hx]at h;exact sS h
def lD(scope:Scope)(C:Addr)(cl:List (Str×Addr)):List (Str×Addr):=cellsFrom (C+1) scope.names cl
theorem iN{scope:Scope}{C:Addr}{cl:List (Str×Addr)}{x:Str}{c:Addr}(h:(lD scope C cl).lookup x=some c):(x,c)∈cellsFrom (C+1) scope.names []\/cl.lookup x=some c:=by
 unfold lD at h;rw[fW]at h;rcases pw h with h|h
 . exact .inl (PySem.mem_of_lookup h)
 . exact .inr h.2
theorem IS(names:List (Str×NameKind))(h:Heap){C:Addr}(e:h.objs.size=C+1):CellsOk (pushCells h names) (C+1) (cellsFrom (C+1) names []):=by
 have:=cellsFrom_ok names h (C+1) [] ⟨fun _ _ hm=>(nomatch hm),List.Pairwise.nil⟩ (by rw[e];exact Nat.le_refl _);rw[e]at this;exact this
theorem nc{names:List (Str×NameKind)}{C:Addr}{x:Str}{c:Addr}:∀ {L:Nat},C<=L->(x,c)∈cellsFrom L names []->C<=c:=by
 induction names with
 |nil=>intro L _ h;unfold cellsFrom at h;cases h
 |cons p r ih=>
  obtain⟨n,k⟩:=p;intro L hL h;unfold cellsFrom at h;by_cases hk:(k==NameKind.cell)=true
  . rw[if_pos hk,fW]at h;rcases List.mem_append.mp h with h|h
    . exact ih (Nat.le_trans hL (Nat.le_succ L)) h
    . have:(x,c)=(n,L):=by simpa using h
      cases this;exact hL
  . rw[if_neg hk]at h;exact ih hL h
theorem own_apart{names:List (Str×NameKind)}{x y:Str}{c:Addr}:∀ {L:Nat},(x,c)∈cellsFrom L names []->(y,c)∈cellsFrom L names []->x=y:=by
 induction names with
 |nil=>intro L h;unfold cellsFrom at h;cases h
 |cons p r ih=>
  obtain⟨n,k⟩:=p;intro L h1 h2;unfold cellsFrom at h1 h2;by_cases hk:(k==NameKind.cell)=true
  . rw[if_pos hk,fW]at h1 h2;rcases List.mem_append.mp h1 with g1|g1<;>rcases List.mem_append.mp h2 with g2|g2
    . exact ih g1 g2
    . have e2:(y,c)=(n,L):=by simpa using g2
      have ec:c=L:=(Prod.mk.inj e2).2;have:=nc (C:=L+1) (Nat.le_refl _) g1;rw[ec]at this;exact absurd this (Nat.not_succ_le_self _)
    . have e1:(x,c)=(n,L):=by simpa using g1
      have ec:c=L:=(Prod.mk.inj e1).2;have:=nc (C:=L+1) (Nat.le_refl _) g2;rw[ec]at this;exact absurd this (Nat.not_succ_le_self _)
    . have e1:(x,c)=(n,L):=by simpa using g1
      have e2:(y,c)=(n,L):=by simpa using g2
      exact(Prod.mk.inj e1).1.trans (Prod.mk.inj e2).1.symm
  . rw[if_neg hk]at h1 h2;exact ih h1 h2
theorem ue{M:Model}{A:Around}{E:Value->Shared->Prop}{s:Shared}{scope:Scope}{globals:Addr}{cl:List (Str×Addr)}{qual:Str}{env:Env}{Q:Env->Shared->Prop}
 (hQ:Q (newEnv scope s.heap.objs.size globals (lD scope s.heap.objs.size cl) qual none .none (some env) builtinsNs) {s with heap:=pushCells (s.heap.push {cls:= .type "dict",data:= .dict #[]}) scope.names}):
 wpAny M A (newFunctionEnv scope globals cl [] qual none .none (some env)) Q E s:=by
 simp only[newFunctionEnv,Option.isSome_some,if_true];refine wpAny_bind (wpAny_alloc ?_);refine wpAny_bind (wpAny_layCells _ (fun name kind cells=>by cases hkc:kind==NameKind.cell<;>simp[hkc]) _ _ _ _ ?_);rw[show({s with heap:=s.heap.push {cls:= .type "dict",data:= .dict #[]}}:Shared).heap.objs.size=s.heap.objs.size+1 from Heap.size_push ..];rw[List.forIn_nil];exact wpAny_bind (wpAny_pure (wpAny_pure hQ))
structure bj(X:Cx)(scope:Scope)(Nc:List Str)(fr:List (Option Nat)):Prop where
 kind:scope.kind= .function
 cells:∀x∈scope.names,x.2= .cell->scope.names.lookup x.1=some .cell
 names:∀x∈scope.names,x.2= .local->scope.names.lookup x.1=some .local
 free:∀x∈scope.names,x.2= .free->X.env.kindOf x.1=some .cell\/X.env.kindOf x.1=some .free
 len:fr.length=Nc.length
 map:∀(i j:Nat) (x:Str),Nc[i]?=some x->fr[i]?=some (some j)->X.N[j]?=some x/\scope.names.lookup x=some .free/\(X.env.kindOf x=some .cell\/X.env.kindOf x=some .free)
def σC(fr:List (Option Nat))(σ:St):St:=fr.map fun o=>o.bind fun j=>(σ[j]?).join
def fx(X:Cx)(scope:Scope)(Nc:List Str)(C:Addr)(s:Shared)(H:Hp)(ex:List Addr):Cx:=
 {X with N:=Nc,s₀:=s,H₀:=H,env:=compEnvC scope (lD scope C (de X.env.cells scope.names [])) C X.env,outer:=X.stack,stack:=X.stack,ex:=ex,fn:=fun x=>scope.names.lookup x==some .cell,pn:=[],xe:=fun _ _=>False}
def uS(wi:TI)(fr:List (Option Nat))(g:TG)(c:TT)(te:TE):TE:=fun σ H Q=>wi σ H fun J H1=>∀l,H1 l=none->
 ∃W:Nat->Nat->L2.St->Hp->Prop,(∃m,W 0 m (σC fr σ) (upd H1 l (.lst [])))/\∀i m σ H,W i m σ H->
  (J.stop i H/\Q (.ref l) H)\/(J.go i H/\∃N:L2.St->Hp->Prop,(∀σ' H',N σ' H'->∃m',m'<m/\W (i+1) m' σ' H')/\∀x H',J.oX i H x H'->
    g x σ H' fun σ2 H2=>c σ2 H2 fun b H3=>if b=true then te σ2 H3 fun y H4=>∃ys,H4 l=some (.lst ys)/\ys.length<sizeLine/\N σ2 (upd H4 l (.lst (ys++[y])))else N σ2 H3)
def qw(X:Cx)(ifs:List Expr)(t:TT):Prop:=
 ∀(pins:List (Addr×Obj)) (s:Shared) (σ:St) (H:Hp) (Q:Bool->Hp->Prop),Inv X pins σ H s->t σ H Q->
  wpAny (model X.prog X.w) X.A (forIn ifs true fun c r=>if r=true then do let ok <-isTrue c X.env (eval c X.env);pure (ForInStep.yield ok)else pure (ForInStep.yield r)) (TP X pins σ Q) X.xe s
def KW:TT:=fun _ H Q=>Q true H
theorem GK{X:Cx}:qw X [] KW:=fun _ _ _ H _ I h=>wpAny_tests_nil ⟨H,I,h⟩
theorem G9{X:Cx}{c:Expr}{t:TT}(h:PT X c t):qw X [c] t:=fun pins s σ H Q I q=>wpAny_tests_one (h pins s σ H Q I q)
section
variable {X:Cx}{scope:Scope}{Nc:List Str}{fr:List (Option Nat)}{pins:List (Addr×Obj)}{σ:St}{H:Hp}{s:Shared}
theorem Kg{C:Addr}{fp:List Addr}(S:bj X scope Nc fr)(I:Inv X pins σ H s)(hC:C=s.heap.objs.size)(hf:∀b∈fp,kv X pins H b)(hlt:∀b∈fp,b<s.heap.objs.size)(hnc:∀b∈fp,∀x c,X.env.cells.lookup x=some c->c≠b):
 (fx X scope Nc C s H fp).Ok where
 mod:=I.ok.mod
 kind:=S.kind
 glob:=I.ok.glob
 blt:=I.ok.blt
 above:=Nat.le_of_eq hC.symm
 inj:=fun x y c h1 h2=>by
  have low:∀ {z},(de X.env.cells scope.names []).lookup z=some c->c<s.heap.objs.size:=fun{z} hz=>by
   obtain⟨v,q⟩:=I.cell z c (cR _ [] (fun _ _ e=>by cases e) z c hz);exact q.lt
  rcases iN h1 with h1|h1<;>rcases iN h2 with h2|h2
  . exact own_apart h1 h2
  . have a:=nc (C:=C+1) (Nat.le_refl _) h1;have b:c<C:=by rw[hC];exact low h2
    exact absurd a (Nat.not_le_of_gt (Nat.lt_succ_of_lt b))
  . have a:=nc (C:=C+1) (Nat.le_refl _) h2;have b:c<C:=by rw[hC];exact low h1
    exact absurd a (Nat.not_le_of_gt (Nat.lt_succ_of_lt b))
  . exact I.ok.inj x y c (cR _ [] (fun _ _ e=>by cases e) x c h1) (cR _ [] (fun _ _ e=>by cases e) y c h2)
 has:=fun x hx=>by
  rcases yi hx with m|m
  . obtain⟨c,e⟩:=iM scope.names [] (I.ok.has x (S.free _ m rfl)) (.inl m);exact Option.isSome_iff_exists.mp (PySem.W.cellsFrom_some _ _ _ (.inr (by rw[e];rfl)))
  . exact Option.isSome_iff_exists.mp (PySem.W.cellsFrom_some _ _ _ (.inl m))
 yw:=fun x c hf h=>by
  have hl:scope.names.lookup x=some .cell:=by
   have:(scope.names.lookup x==some .cell)=true:=hf;simpa using this
  obtain⟨c',e⟩:=Option.isSome_iff_exists.mp (PySem.W.cellsFrom_some (x:=x) scope.names (C+1) [] (.inl hl))
  have h':(cellsFrom (C+1) scope.names []++de X.env.cells scope.names []).lookup x=some c:=by
   rw[<-fW];exact h
  rcases pw h' with q|q
  . have:=nc (C:=C+1) (Nat.le_refl _) (PySem.mem_of_lookup q);show s.heap.objs.size<=c;rw[<-hC];exact Nat.le_of_succ_le this
  . rw[q.1]at e;cases e
 hd:=I.ok.hd
 frames:=I.ok.frames
 zW:= .inl rfl
 CB:=fun b hb=>⟨by rw[show(fx X scope Nc C s H fp).env.locals=s.heap.objs.size from hC];exact Nat.ne_of_lt (hlt b hb),fun x c h=>by
  rcases iN h with h|h
  . have a:=nc (C:=C+1) (Nat.le_refl _) h;have b':b<C:=by rw[hC];exact hlt b hb
    exact Nat.ne_of_gt (Nat.lt_of_lt_of_le b' (Nat.le_of_succ_le a))
  . exact hnc b hb x c (cR _ [] (fun _ _ e=>by cases e) x c h)⟩
 bs:=I.bs
 qP:=Nat.le_trans I.ok.qP I.sz
 tX:=fun b o e hb=>by
  have hn:=(hf b hb).2.2.2.1;rcases hn with hn|hn
  . exact I.ok.tX b o e hn
  . exact absurd (Heap.lt_size (I.ok.bs b o e).1) (Nat.not_lt.mpr hn)
 tG:=fun b hb z=>by
  have q:=I.yo b z;rcases List.mem_cons.mp q with q|q
  . exact(hf b hb).2.1 q
  . exact(hf b hb).2.2.1 q
 kj:=I.stack
 uD:=fun b hb=>I.vB b hb
 gt:=I.ok.gt
theorem Ao{i:Nat}{v:V}(h:(σC fr σ)[i]?=some (some v)):∃j,fr[i]?=some (some j)/\σ[j]?=some (some v):=by
 unfold σC at h;rw[List.getElem?_map]at h;cases q:fr[i]? with
 |none=>rw[q]at h;cases h
 |some o=>
  rw[q]at h;cases o with
  |none=>simp at h
  |some j=>
   simp only[Option.map_some,Option.some.injEq,Option.bind_some]at h;refine⟨j,rfl,?_⟩;cases r:σ[j]? with
   |none=>rw[r]at h;cases h
   |some u=>rw[r]at h;simp at h;rw[h]
theorem EK{s':Shared}{h':Heap}{C:Addr}{fp:List Addr}{t':Nat}(S:bj X scope Nc fr)(I:Inv X pins σ H s)(hC:C=s.heap.objs.size)(ok:(fx X scope Nc C s H fp).Ok)(hfr:∀b∈fp,H b=none)
 (k:∀b o,s.heap.get? b=some o->h'.get? b=some o) (hn:h'.Ns C (fun _=>none)) (hcs:∀x c,(x,c)∈cellsFrom (C+1) scope.names []->h'.IsCell c none):Inv (fx X scope Nc C s H fp) [] (σC fr σ) H {s with heap:=h',toks:=t'} where
 ok:=ok
 os:=rfl
 bare:=I.bare
 base:=Un.kept k
 loc:=⟨_,hn,fun i x v h1 h2 h3=>by
  obtain⟨j,q1,q2⟩:=Ao h2;obtain⟨n1,n2,n3⟩:=S.map i j x h1 q1;obtain⟨m,hm,hl⟩:=I.loc
  have vis:yU X.env.scope x:=by
   rcases n3 with z|z
   . exact .inr (.inl z)
   . exact .inr (.inr z)
  obtain⟨u,r,lk⟩:=hl j x v n1 q2 vis;refine⟨u,r,?_⟩;rcases lk with⟨z,_⟩|⟨z,c,e,ic⟩
  . rcases n3 with y|y
    . rw[y]at z;cases z
    . rw[y]at z;cases z
  . refine .inr ⟨yM n2,?_⟩;obtain⟨c',e'⟩:=iM scope.names [] ⟨c,e⟩ (.inl (PySem.mem_of_lookup n2));have e2:=cR _ [] (fun _ _ e=>by cases e) x c' e';rw[e]at e2;cases e2;refine⟨c,?_,ic.keeps k⟩;show(lD scope C (de X.env.cells scope.names [])).lookup x=some c;unfold lD;rw[fW,sS ?_]
    . exact e'
    . cases q:(cellsFrom (C+1) scope.names []).lookup x with
      |none=>rfl
      |some c2=>
       have:=S.cells _ (qO (PySem.mem_of_lookup q)) rfl;rw[n2]at this;cases this⟩
 cell:=fun x c h=>by
  rcases iN h with h|h
  . exact⟨_,hcs x c h⟩
  obtain⟨v,q⟩:=I.cell x c (cR _ [] (fun _ _ e=>by cases e) x c h);exact⟨v,q.keeps k⟩
 free:=by show H C=none;rw[hC];exact I.aJ.fresh (Nat.le_refl _)
 iI:=fun x c h=>by
  rcases iN h with h|h
  . have a:=nc (C:=C+1) (Nat.le_refl _) h;exact I.aJ.fresh (by rw[<-hC];exact Nat.le_of_succ_le a)
  . exact I.iI x c (cR _ [] (fun _ _ e=>by cases e) x c h)
 pin:=fun p hp=>by cases hp
 aJ:=I.aJ.kept k
 len:=by unfold σC;rw[List.length_map];exact S.len
theorem Inv.forget{C:Addr}{h':Heap}(I:Inv X pins σ H s)(f:kv X pins H C)(hs:Heap.SameBut C s.heap h'):Inv X pins σ H {s with heap:=h'}:=by
 refine I.AS (s':={s with heap:=h'}) (ch:=[C]) rfl ?_ ?_ I.bare fun b hb=>?_
 . have ne:∀b,b∉[C]->b≠C:=fun b hb z=>hb (by simp[z]);exact{keep:=fun b o q _ _ hx=>(hs.2 b (ne b hx)).trans q,slot:=fun b o q _ _ hx=>⟨o.slots,(hs.2 b (ne b hx)).trans q⟩,free:=fun b o q n _=>n,there:=fun b o q hx=>⟨o,(hs.2 b (ne b hx)).trans q⟩,oM:=fun _ _ e=>e,nK:=fun _ _ _ e=>e,nj:=fun b ps e=>⟨#[],by rw[e];simp⟩}
 . intro a o q;have na:∀b u,H b=some u->b≠C:=fun b u q z=>by rw[z,f.1]at q;cases q
   refine(I.aJ a o q).oA (fun b u hb e=>?_) (fun _ q=>q) fun _ _ q=>q;rw[hs.2 b ?_]
   . exact e
   . rcases hb with rfl|hb
     . exact na _ _ q
     . exact na _ _ hb
 . have:b=C:=by simpa using hb
   subst this;exact⟨f.2.2.2.1,f.2.1,f.2.2.2.2.1,f.2.2.2.2.2⟩
theorem uT{elt tg iter:Expr}{ifs:List Expr}{wi:TI}{g:TG}{c:TT}{te:TE}{pos:Pos}{Q:VK}{RR:Value->Addr->Result->Shared->Prop}(hx:X.xe=fun _ _=>False)(hc:X.calm=true)(S:bj X scope Nc fr)(hi:PI X tg iter wi)
 (hg:∀C s H ex,PG (fx X scope Nc C s H ex) tg g) (ht:∀C s H ex,qw (fx X scope Nc C s H ex) ifs c) (he:∀C s H ex,PE (fx X scope Nc C s H ex) elt te) (I:Inv X pins σ H s) (h:uS wi fr g c te σ H Q)
 (fin:∀(l C:Addr) (s6:Shared) (H5:Hp) (m:Str->Option Value),s6.heap.Ns C m->kv X pins H5 C->Inv X pins σ H5 s6->Q (.ref l) H5->RR (.ref l) C (.ok .next) s6):
 wpAny (model X.prog X.w) X.A (eval iter X.env) (fun x s₁=>wpAny (model X.prog X.w) X.A (pyIter x) (fun it s₂=>wpAny (model X.prog X.w) X.A (newList []) (fun acc s₃=>
  wpAny (model X.prog X.w) X.A (newFunctionEnv scope X.env.globals (de X.env.cells scope.names []) [] X.env.qual none .none (some X.env)) (fun cenv s₄=>
   codeAny (model X.prog X.w) X.A (.compStart (.ListComp elt [⟨tg,iter,ifs,0⟩] scope pos) 0 it acc {cenv with scope:=relabel scope X.env}) (RR acc cenv.locals) s₄) X.xe s₃) X.xe s₂) X.xe s₁) X.xe s:=by
 refine bQ (hi pins s σ H _ I h) fun v s1 h1=>bQ h1 fun itv s2 h2=>?_;obtain⟨it,fp,tn,J,H2,e,I2,T,st2,f2,hR⟩:=h2;subst e;refine wpAny_newList ?_ (Nat.zero_le _);have I3:=I2.Ej (t':=s2.toks) (its:=[]) (ys:=[]) .nil (Nat.zero_le _);generalize e3:({s2 with heap:=s2.heap.push {cls:= .type "list",data:= .seq ([]:List Value).toArray}}:Shared)=s3;have I3:Inv X pins σ (upd H2 s2.heap.objs.size (.lst [])) s3:=by rw[<-e3];exact I3
 have ml:s2.heap.objs.size<s3.heap.objs.size:=by rw[<-e3];show _<(s2.heap.push _).objs.size;rw[Heap.size_push];omega
 have k3:∀b o,s2.heap.get? b=some o->s3.heap.get? b=some o:=fun b o q=>by rw[<-e3];exact Heap.get?_push_of_some _ q
 obtain⟨W,⟨m0,w0⟩,turn⟩:=hR s2.heap.objs.size (I2.aJ.fresh (Nat.le_refl _));refine ue ?_;have hn:(pushCells (s3.heap.push {cls:= .type "dict",data:= .dict #[]}) scope.names).Ns s3.heap.objs.size (fun _=>none):=(Heap.Ns.new s3.heap (.type "dict")).keeps (pushCells_keeps _ _);have hcs:∀x c,(x,c)∈cellsFrom (s3.heap.objs.size+1) scope.names []->(pushCells (s3.heap.push {cls:= .type "dict",data:= .dict #[]}) scope.names).IsCell c none:=fun x c h=>((IS scope.names _ (Heap.size_push ..)).empty x c h).1;have k4:∀b o,s3.heap.get? b=some o->(pushCells (s3.heap.push {cls:= .type "dict",data:= .dict #[]}) scope.names).get? b=some o:=fun b o q=>pushCells_keeps _ _ b o (Heap.get?_push_of_some _ q);generalize(pushCells (s3.heap.push {cls:= .type "dict",data:= .dict #[]}) scope.names)=h' at hn hcs k4⊢;have hobj:∀b∈fp,∃o,s2.heap.get? b=some o/\∀v,o.data≠ .cell v:=T.obj _ _ st2;have hlt2:∀b∈fp,b<s3.heap.objs.size:=fun b hb=>let⟨o,q,_⟩:=hobj b hb;Heap.lt_size (k3 b o q)
 have hnl:∀b∈fp,b≠s2.heap.objs.size:=fun b hb=>by
  obtain⟨o,q,_⟩:=hobj b hb;exact Nat.ne_of_lt (Heap.lt_size q)
 have f3:∀b∈fp,kv X pins (upd H2 s2.heap.objs.size (.lst [])) b:=fun b hb=>⟨by rw[ay (hnl b hb)];exact(f2 b hb).1,(f2 b hb).2⟩
 have ok:=Kg (C:=s3.heap.objs.size) (fp:=fp) S I3 rfl f3 hlt2 fun b hb=>(f2 b hb).2.2.2.2.1
 have I4:Inv (fx X scope Nc s3.heap.objs.size s3 (upd H2 s2.heap.objs.size (.lst [])) fp) [] (σC fr σ) (upd H2 s2.heap.objs.size (.lst [])) {s3 with heap:=h',toks:=s3.toks}:=
  EK (s':=s3) S I3 rfl ok (fun b hb=>(f3 b hb).1) k4 hn hcs
 have st4:tn 0 h':=T.keep _ _ _ st2 fun b _ o q=>k4 b o (k3 b o q);generalize hXc:fx X scope Nc s3.heap.objs.size s3 (upd H2 s2.heap.objs.size (.lst [])) fp=Xc at I4;have hgc:PG Xc tg g:=by rw[<-hXc];exact hg _ _ _ _
 have htc:qw Xc ifs c:=by rw[<-hXc];exact ht _ _ _ _
 have hec:PE Xc elt te:=by rw[<-hXc];exact he _ _ _ _
 have xP:Xc.prog=X.prog:=by rw[<-hXc];rfl
 have xW:Xc.w=X.w:=by rw[<-hXc];rfl
 have xK:Xc.K=X.K:=by rw[<-hXc];rfl
 have xc:Xc.calm=true:=by rw[<-hXc];exact hc
 have xA:Xc.A=X.A:=by rw[<-hXc];rfl
 have xE:Xc.env=compEnvC scope (lD scope s3.heap.objs.size (de X.env.cells scope.names [])) s3.heap.objs.size X.env:=by rw[<-hXc];rfl
 have xx:Xc.xe=fun _ _=>False:=by rw[<-hXc];rfl
 have fpc:∀ {H':Hp},(∀b∈fp,H' b=none)->∀b∈fp,kv Xc [] H' b:=fun{H'} hn b hb=>by
  rw[<-hXc];refine⟨hn b hb,Nat.ne_of_lt (hlt2 b hb),ok.tG b hb,.inl hb,(ok.CB b hb).2,fun p hp=>by cases hp⟩
 have loop:codeAny (model X.prog X.w) X.A (.compLoop (.ListComp elt [⟨tg,iter,ifs,0⟩] scope pos) 0 (.ref it) (.ref s2.heap.objs.size) (compEnvC scope (lD scope s3.heap.objs.size (de X.env.cells scope.names [])) s3.heap.objs.size X.env))
  (RR (.ref s2.heap.objs.size) s3.heap.objs.size) {s3 with heap:=h',toks:=s3.toks}:=by
  refine zT (fun n s'=>∃i σ' H',Inv Xc [] σ' H' s'/\tn i s'.heap/\(∀b∈fp,H' b=none)/\W i n σ' H') ?_ m0 ⟨0,_,_,I4,st4,fun b hb=>(f3 b hb).1,w0⟩;rintro n s5 ⟨i,σ5,H5,I5,st5,fr5,w5⟩;rcases turn i n σ5 H5 w5 with⟨stop,qn⟩|⟨go,N,hN,step⟩
  . have q:=T.done Xc xP xW xK xc i [] s5 σ5 H5 (fun _ _=>False) I5 (fpc fr5) st5 stop;rw[xA]at q;refine bQ q fun r s6 ⟨hr,I6⟩=>?_;subst hr;obtain⟨m,hm,_⟩:=I6.loc;rw[xE]at hm;have free6:H5 s3.heap.objs.size=none:=by have:=I6.free;rw[xE]at this;exact this
    have un6:Un (oZ X.stack) fp (upd H2 s2.heap.objs.size (.lst [])) H5 s3.heap s6.heap:=by have:=I6.base;rw[<-hXc]at this;exact this
    have os6:s6.os=s3.os:=by have:=I6.os;rw[<-hXc]at this;exact this
    have hok6:g9 X.prog X.w H5 s6.heap:=by have:=I6.aJ;rw[xP,xW]at this;exact this
    have J:=I3.AS (s':=s6) (ch:=fp) os6 un6 hok6 I6.bare fun b hb=>⟨(f3 b hb).2.2.2.1,(f3 b hb).2.1,(f3 b hb).2.2.2.2.1,(f3 b hb).2.2.2.2.2⟩
    exact fin _ _ s6 H5 m hm (I3.vx (Nat.le_refl _) free6) J qn
  . have q:=T.item Xc xP xW xK xc i [] s5 σ5 H5 (fun _ _=>False) I5 (fpc fr5) st5 go;rw[xA]at q;refine bQ q fun r s6 ⟨u,hr,h6⟩=>?_;subst hr;refine bQ h6 fun _ s7 ⟨x,H7,I7,r7,y7,st7,fr7⟩=>?_;have I7':=I7.pinned (fpc fr7) (T.obj _ _ st7);have q8:=hgc _ s7 σ5 H7 x u _ I7' r7 (step x H7 y7);rw[xP,xW,xA,xE,xx]at q8;refine bQ q8 fun _ s8 ⟨σ8,H8,I8,q8⟩=>?_;have q9:=htc _ s8 σ8 H8 _ I8 q8;rw[xP,xW,xA,xE,xx]at q9;refine bQ q9 fun b s9 ⟨H9,I9,q9⟩=>?_
    have again:∀ {H':Hp} {s':Shared},Inv Xc ([]++rq fp s7.heap) σ8 H' s'->N σ8 H'->∃m,m<n/\∃i σ' H',Inv Xc [] σ' H' s'/\tn i s'.heap/\(∀b∈fp,H' b=none)/\W i m σ' H':=fun{H' s'} J nn=>by
     obtain⟨m',hm,w7⟩:=hN σ8 H' nn;refine⟨m',hm,i+1,σ8,H',J.gR,T.keep _ _ _ st7 fun b hb o e=>(J.pin (b,o) (List.mem_append_right _ (List.mem_append_right _ (mK hb e)))).1,fun b hb=>?_,w7⟩;obtain⟨o,e,d⟩:=T.obj _ _ st7 b hb;exact(J.pin (b,o) (List.mem_append_right _ (List.mem_append_right _ (mK hb e)))).2.1
    cases b with
    |false=>exact again I9 q9
    |true=>
     have qe:=hec _ s9 σ8 H9 _ I9 q9;rw[xP,xW,xA,xE,xx]at qe;refine bQ qe fun y s10 ⟨vy,H10,I10,ry,ys,hy,hlt,qN⟩=>?_;have qa:=D7 (X:=Xc) _ s10 σ8 H10 (.ref s2.heap.objs.size) [vy] (.ref s2.heap.objs.size) [y] (fun _ H'=>N σ8 H') I10 rfl (.cons ry .nil) ⟨_,ys,vy,rfl,rfl,hy,hlt,qN⟩;rw[xP,xW,xA,xx]at qa;exact bQ qa fun _ s11 ⟨_,H11,I11,_,q11⟩=>again I11 q11
 refine codeAny_compStart_list ?_ ?_
 . exact loop
 . exact T.self _ 0 _ _ _ st4 loop
theorem Ap{elt tg iter:Expr}{ifs:List Expr}{wi:TI}{g:TG}{c:TT}{te:TE}{pos:Pos}(hx:X.xe=fun _ _=>False)(hc:X.calm=true)(S:bj X scope Nc fr)(hi:PI X tg iter wi)
 (hg:∀C s H ex,PG (fx X scope Nc C s H ex) tg g) (ht:∀C s H ex,qw (fx X scope Nc C s H ex) ifs c) (he:∀C s H ex,PE (fx X scope Nc C s H ex) elt te)
 (hs:∀x,foldedSetIterable iter X.env x=pure x:=by intro _;rfl):PE X (.ListComp elt [⟨tg,iter,ifs,0⟩] scope pos) (uS wi fr g c te):=by
 intro pins s σ H Q I h;rw[eval_ListComp];have hcl:closureFor scope X.env=pure (de X.env.cells scope.names []):=l7 fun x hx hk=>I.ok.has x.1 (S.free x hx hk);refine wpAny_comprehension_free rfl hs hcl S.kind S.names ?_;exact uT (RR:=fun acc C=>compPost (model X.prog X.w) X.A X.xe none (EP X pins σ Q) acc C) hx hc S hi hg ht he I h fun l C s6 H5 m hm f J q=>⟨m,hm,fun h'' hs''=>⟨.ref l,H5,Inv.forget J f hs'',rfl,q⟩⟩
theorem Ie{elt tg iter:Expr}{ifs:List Expr}{wi:TI}{g:TG}{c:TT}{te:TE}{pos pos' spos:Pos}{i:Nat}{x:Str}(hx:X.xe=fun _ _=>False)(hc:X.calm=true)(S:bj X scope Nc fr)(hi:PI X tg iter wi)
 (hg:∀C s H ex,PG (fx X scope Nc C s H ex) tg g) (ht:∀C s H ex,qw (fx X scope Nc C s H ex) ifs c) (he:∀C s H ex,PE (fx X scope Nc C s H ex) elt te) (hN:X.N.Nodup) (hni:X.N[i]?=some x) (hl:Loc X.env.scope x) (hf:X.fn x=true\/X.env.scope.names.lookup x=some .local)
 (hsw:swapsWith (.ListComp elt [⟨tg,iter,ifs,0⟩] scope pos) (some (.Name x pos')) spos.line X.env=pure true)
 (hs:∀x,foldedSetIterable iter X.env x=pure x:=by intro _;rfl):PS X (.Assign [.Name x pos'] (.ListComp elt [⟨tg,iter,ifs,0⟩] scope pos) spos) (oQ (uS wi fr g c te) (mD i)):=by
 intro pins s σ H D I h;have hcl:closureFor scope X.env=pure (de X.env.cells scope.names []):=l7 fun x hx hk=>I.ok.has x.1 (S.free x hx hk);rw[exec_Assign_Name_used _ _ _ _ hsw];refine wpAny_bind (wpAny_standAt (wpAny_bind ?_));show wpAny _ X.A (do let _ <-comprehension (.ListComp elt [⟨tg,iter,ifs,0⟩] scope pos) scope X.env _ (newList []) false (eval iter X.env) (some (assign (.Name x pos') X.env))) _ _ s
 refine wpAny_bind (wpAny_mono (wpAny_comprehension_free (use:=some (assign (.Name x pos') X.env)) (Q:=fun _ s'=>SP X pins D .next s') rfl hs hcl S.kind S.names
  (uT (RR:=fun acc C=>compPost (model X.prog X.w) X.A X.xe (some (assign (.Name x pos') X.env)) (fun _ s'=>SP X pins D .next s') acc C) hx hc S hi hg ht he I h fun l C s6 H5 m hm f J q=>?_)) (fun _ s' hq=>wpAny_pure (wpAny_pure hq)) fun _ _ e=>e)
 show wpAny _ X.A (assign (.Name x pos') X.env (.ref l)) _ _ _;refine wpAny_assign_Name (wD J hN hni hl (show RelV (.ref l) (.ref l)from rfl) (fun s7 J7 hch=>?_) hf);obtain⟨a,hsame,ha⟩:=hch
 have hCa:C≠a:=by
  rcases ha with rfl|ha
  . exact f.2.1
  . exact fun z=>f.2.2.2.2.1 x a ha z.symm
 refine⟨m,hm.sameBut hsame hCa,fun h'' hs''=>⟨σ.set i (some (.ref l)),H5,Inv.forget J7 f hs'',q⟩⟩
end
inductive D where
 |aL|bl (b:Bool)|int (i:Int)|str (x:Str)|ty (n:String)|ref (n:Nat)|lst (xs:List D)|tup (xs:List D)
inductive Cell where
 |lst (xs:List D)|ins (C:Addr) (fs:List (Str×D))|dead
  |tab (P:Addr) (pos:Pos) (qual:Str) (b:Bool)
abbrev af:=List Cell
abbrev cv:=List (Option D)
mutual
def Rep(α:List (Option Addr))(H:Hp):D->V->Prop
 | .aL,v=>v= .aL
 | .bl b,v=>v= .bl b
 | .int i,v=>v= .int i
 | .str x,v=>v= .str x
 | .ty n,v=>v= .ty n
 | .ref n,v=>α[n]?=some none\/∃a,α[n]?=some (some a)/\v= .ref a
 | .lst xs,v=>∃a vs,v= .ref a/\some a∉α/\Rd H a (.lst vs)/\aH α H xs vs
 | .tup xs,v=>∃a vs,v= .ref a/\some a∉α/\H a=some (.tup vs)/\aH α H xs vs
def aH(α:List (Option Addr))(H:Hp):List D->List V->Prop
 | [],vs=>vs=[]
 |d::ds,vs=>∃v r,vs=v::r/\Rep α H d v/\aH α H ds r
end
theorem bw{α:List (Option Addr)}{H:Hp}:∀ {ds:List D} {vs:List V},aH α H ds vs↔Paired (Rep α H) ds vs
 | [],vs=>by
   unfold aH;constructor
   . rintro rfl;exact .nil
   . intro h;cases h;rfl
 |d::ds,vs=>by
  unfold aH;constructor
  . rintro⟨v,r,rfl,h1,h2⟩;exact .cons h1 (bw.mp h2)
  . intro h;cases h with|cons h1 h2=>exact⟨_,_,rfl,h1,bw.mpr h2⟩
section
variable {α:List (Option Addr)}{H:Hp}
theorem aH.length{ds:List D}{vs:List V}(h:aH α H ds vs):ds.length=vs.length:=Paired.length (bw.mp h)
theorem u0{A B:Type}{F:A->B->Prop}:∀ {xs:List A} {ys:List B} {i:Nat} {x:A},Paired F xs ys->xs[i]?=some x->∃y,ys[i]?=some y/\F x y
 |_,_,_,_,.nil,e=>by simp at e
 |_,_,0,_,.cons r _,e=>by simp at e;subst e;exact⟨_,rfl,r⟩
 |_,_,i+1,x,.cons _ t,e=>by
  obtain⟨u,h1,h2⟩:=u0 (i:=i) (x:=x) t (by simpa using e);exact⟨u,by simpa using h1,h2⟩
theorem g6{A B:Type}{F:A->B->Prop}:∀ {xs xs':List A} {ys ys':List B},Paired F xs ys->Paired F xs' ys'->Paired F (xs++xs') (ys++ys')
 |_,_,_,_,.nil,s=>s
 |_,_,_,_,.cons r t,s=> .cons r (g6 t s)
theorem sJ{A B:Type}{F:A->B->Prop}:∀ {xs:List A} {ys:List B} (n:Nat),Paired F xs ys->Paired F (xs.take n) (ys.take n)
 |_,_,0,_=> .nil
 |_,_,_+1,.nil=> .nil
 |_,_,n+1,.cons r t=> .cons r (sJ n t)
theorem sM{A B:Type}{F:A->B->Prop}:∀ {xs:List A} {ys:List B} (n:Nat),Paired F xs ys->Paired F (xs.drop n) (ys.drop n)
 |_,_,0,r=>r
 |_,_,_+1,.nil=> .nil
 |_,_,n+1,.cons _ t=>sM n t
theorem uu{A B:Type}{F:A->B->Prop}{x:A}{y:B}(r:F x y):∀ {xs:List A} {ys:List B} (i:Nat),Paired F xs ys->Paired F (xs.set i x) (ys.set i y)
 |_,_,_,.nil=> .nil
 |_,_,0,.cons _ t=> .cons r t
 |_,_,i+1,.cons q t=> .cons q (uu r i t)
theorem k6{A B:Type}{F:A->B->Prop}{xs:List A}{ys:List B}(h:Paired F xs ys):∀k:Nat,Paired F (List.replicate k xs).flatten (List.replicate k ys).flatten
 |0=> .nil
 |k+1=>by
  rw[List.replicate_succ,List.replicate_succ,List.flatten_cons,List.flatten_cons];exact g6 h (k6 h k)
theorem aH.get{ds:List D}{vs:List V}{i:Nat}{d:D}(h:aH α H ds vs)(e:ds[i]?=some d):∃v,vs[i]?=some v/\Rep α H d v:=u0 (bw.mp h) e
end
structure Step(α:List (Option Addr))(H:Hp)(α':List (Option Addr))(H':Hp):Prop where
 ext:∀b o,some b∉α->H b=some o->H' b=some o
 pre:∀(n:Nat) (x:Option Addr),α[n]?=some x->α'[n]?=some x\/α'[n]?=some none
 new:∀b,some b∈α'->some b∉α->H b=none
theorem Step.refl{α:List (Option Addr)}{H:Hp}:Step α H α H:=⟨fun _ _ _ h=>h,fun _ _ h=> .inl h,fun _ h n=>absurd h n⟩
theorem Step.trans{α α1 α2:List (Option Addr)}{H H1 H2:Hp}(a:Step α H α1 H1)(b:Step α1 H1 α2 H2):Step α H α2 H2 where
 ext:=fun c o hc e=>b.ext c o (fun z=>by rw[a.new c z hc]at e;cases e) (a.ext c o hc e)
 pre:=fun n x e=>by
  rcases a.pre n x e with h|h
  . exact b.pre n x h
  . rcases b.pre n none h with h'|h'
    . exact .inr h'
    . exact .inr h'
 new:=fun c hc n=>by
  by_cases h1:some c∈α1
  . exact a.new c h1 n
  . have:=b.new c hc h1;cases q:H c with
    |none=>rfl
    |some o=>rw[a.ext c o n q]at this;cases this
theorem Step.laid{α:List (Option Addr)}{H:Hp}{p:Addr}{o:HO}(h:H p=none):Step α H α (upd H p o):=
 ⟨fun b u _ e=>by rw[ay (dD e h)];exact e,fun _ _ h=> .inl h,fun _ h n=>absurd h n⟩
theorem Step.cell{α:List (Option Addr)}{H:Hp}{p:Addr}{o:HO}(h:H p=none):Step α H (α++[some p]) (upd H p o):=
 ⟨fun b u _ e=>by rw[ay (dD e h)];exact e,fun n x e=> .inl (by rw[List.getElem?_append_left (List.getElem?_eq_some_iff.mp e).1];exact e),fun b hb n=>by
  rcases List.mem_append.mp hb with z|z
  . exact absurd z n
  . have:b=p:=by simpa using z
    subst this;exact h⟩
theorem Step.write{α:List (Option Addr)}{H:Hp}{p:Addr}{o:HO}(h:some p∈α):Step α H α (upd H p o):=
 ⟨fun b u n e=>by rw[ay (fun z=>by subst z;exact n h)];exact e,fun _ _ h=> .inl h,fun _ h n=>absurd h n⟩
mutual
theorem Rep.step{α α':List (Option Addr)}{H H':Hp}(s:Step α H α' H'):∀ {d:D} {v:V},Rep α H d v->Rep α' H' d v
 | .aL,_,h=>by unfold Rep at h⊢;exact h
 | .bl _,_,h=>by unfold Rep at h⊢;exact h
 | .int _,_,h=>by unfold Rep at h⊢;exact h
 | .str _,_,h=>by unfold Rep at h⊢;exact h
 | .ty _,_,h=>by unfold Rep at h⊢;exact h
 | .ref n,_,h=>by
   unfold Rep at h⊢;rcases h with h|⟨a,e,r⟩
   . rcases s.pre _ _ h with z|z<;>exact .inl z
   . rcases s.pre _ _ e with z|z
     . exact .inr ⟨a,z,r⟩
     . exact .inl z
 | .lst xs,_,h=>by
   unfold Rep at h⊢;obtain⟨a,vs,e,n,r,q⟩:=h;refine⟨a,vs,e,fun z=>?_,?_,aH.step s q⟩
   . have:=s.new a z n;rcases r with r|⟨o,r⟩<;>(rw[this]at r;cases r)
   . rcases r with r|⟨o,r⟩
     . exact .inl (s.ext _ _ n r)
     . exact .inr ⟨o,s.ext _ _ n r⟩
 | .tup xs,_,h=>by
   unfold Rep at h⊢;obtain⟨a,vs,e,n,r,q⟩:=h;exact⟨a,vs,e,(fun z=>by rw[s.new a z n]at r;exact nomatch r),s.ext _ _ n r,aH.step s q⟩
theorem aH.step{α α':List (Option Addr)}{H H':Hp}(s:Step α H α' H'):∀ {ds:List D} {vs:List V},aH α H ds vs->aH α' H' ds vs
 | [],_,h=>by unfold aH at h⊢;exact h
 |d::ds,_,h=>by
  unfold aH at h⊢;obtain⟨v,r,e,h1,h2⟩:=h;exact⟨v,r,e,Rep.step s h1,aH.step s h2⟩
end
structure cf(G F H:Hp):Prop where
 eq:∀b,H b=(G b).or (F b)
 yB:∀b o,G b=some o->F b=none
section
variable {G F H:Hp}
theorem cf.get(P:cf G F H){b:Addr}{o:HO}(h:G b=some o):H b=some o:=by rw[P.eq b,h];rfl
theorem cf.same(P:cf G F H):Fs G H:=fun _ _ h=>P.get h
theorem cf.none(P:cf G F H){b:Addr}(h:H b=none):G b=none/\F b=none:=by
 have e:=P.eq b;rw[h]at e;cases q:G b with
 |none=>rw[q]at e;exact⟨rfl,e.symm⟩
 |some o=>rw[q]at e;cases e
theorem cf.frame(P:cf G F H){b:Addr}{o:HO}(h:F b=some o):H b=some o/\G b=Option.none:=by
 have hn:G b=Option.none:=by
  cases q:G b with
  |none=>rfl
  |some u=>rw[P.yB b u q]at h;cases h
 exact⟨by rw[P.eq b,hn,h];rfl,hn⟩
theorem cf.laid(P:cf G F H){p:Addr}{o:HO}(h:H p=Option.none):cf (upd G p o) F (upd H p o):=by
 obtain⟨h1,h2⟩:=P.none h;refine⟨fun b=>?_,fun b u e=>?_⟩
 . by_cases hb:b=p
   . subst hb;rw[a6,a6];rfl
   . rw[ay hb,ay hb];exact P.eq b
 . by_cases hb:b=p
   . subst hb;exact h2
   . rw[ay hb]at e;exact P.yB b u e
theorem cf.write(P:cf G F H){p:Addr}{o o':HO}(h:G p=some o):cf (upd G p o') F (upd H p o'):=by
 refine⟨fun b=>?_,fun b u e=>?_⟩
 . by_cases hb:b=p
   . subst hb;rw[a6,a6];rfl
   . rw[ay hb,ay hb];exact P.eq b
 . by_cases hb:b=p
   . subst hb;exact P.yB b o h
   . rw[ay hb]at e;exact P.yB b u e
theorem cf.hide(P:cf G F H){p:Addr}{o:HO}(h:H p=Option.none):cf G (upd F p o) (upd H p o):=by
 obtain⟨h1,h2⟩:=P.none h;refine⟨fun b=>?_,fun b u e=>?_⟩
 . by_cases hb:b=p
   . subst hb;rw[a6,a6,h1];rfl
   . rw[ay hb,ay hb];exact P.eq b
 . by_cases hb:b=p
   . subst hb;rw[h1]at e;cases e
   . rw[ay hb];exact P.yB b u e
theorem cf.Oi(P:cf G F H){p:Addr}{o o':HO}(h:F p=some o):cf G (upd F p o') (upd H p o'):=by
 have h1:=(P.frame h).2;refine⟨fun b=>?_,fun b u e=>?_⟩
 . by_cases hb:b=p
   . subst hb;rw[a6,a6,h1];rfl
   . rw[ay hb,ay hb];exact P.eq b
 . by_cases hb:b=p
   . subst hb;rw[h1]at e;cases e
   . rw[ay hb];exact P.yB b u e
theorem cf.show{p:Addr}{o:HO}(P:cf G (upd F p o) H)(h:F p=Option.none):cf (upd G p o) F H:=by
 have h1:=(P.frame (b:=p) a6)
 refine⟨fun b=>?_,fun b u e=>?_⟩
 . by_cases hb:b=p
   . subst hb;rw[a6,h1.1];rfl
   . rw[ay hb,P.eq b,ay hb]
 . by_cases hb:b=p
   . subst hb;exact h
   . rw[ay hb]at e;have:=P.yB b u e;rw[ay hb]at this;exact this
end
mutual
theorem Rep.mono{α:List (Option Addr)}{G H:Hp}(s:Fs G H):∀ {d:D} {v:V},Rep α G d v->Rep α H d v
 | .aL,_,h=>by unfold Rep at h⊢;exact h
 | .bl _,_,h=>by unfold Rep at h⊢;exact h
 | .int _,_,h=>by unfold Rep at h⊢;exact h
 | .str _,_,h=>by unfold Rep at h⊢;exact h
 | .ty _,_,h=>by unfold Rep at h⊢;exact h
 | .ref n,_,h=>by unfold Rep at h⊢;exact h
 | .lst xs,_,h=>by
   unfold Rep at h⊢;obtain⟨a,vs,e,n,r,q⟩:=h;refine⟨a,vs,e,n,?_,aH.mono s q⟩;rcases r with r|⟨o,r⟩
   . exact .inl (s _ _ r)
   . exact .inr ⟨o,s _ _ r⟩
 | .tup xs,_,h=>by
   unfold Rep at h⊢;obtain⟨a,vs,e,n,r,q⟩:=h;exact⟨a,vs,e,n,s _ _ r,aH.mono s q⟩
theorem aH.mono{α:List (Option Addr)}{G H:Hp}(s:Fs G H):∀ {ds:List D} {vs:List V},aH α G ds vs->aH α H ds vs
 | [],_,h=>by unfold aH at h⊢;exact h
 |d::ds,_,h=>by
  unfold aH at h⊢;obtain⟨v,r,e,h1,h2⟩:=h;exact⟨v,r,e,Rep.mono s h1,aH.mono s h2⟩
end
def jE(α:List (Option Addr))(H:Hp):List (Str×D)->List (Str×V)->Prop:=Paired fun p q=>p.1=q.1/\Rep α H p.2 q.2
def j9(α:List (Option Addr))(H:Hp)(a:Addr):Cell->Prop
 | .lst xs=>∃vs,H a=some (.lst vs)/\aH α H xs vs
 | .ins C fs=>∃dx vs,H a=some (.ins C dx vs)/\jE α H fs vs
 | .dead=>False
 | .tab P pos qual b=>a=P/\∃ps:Array Value,H a=some (.jT ps)/\TriplesOk ps.toList/\
    ((b=false/\codeAmong pos ps.toList=none)\/(b=true/\∃c o vs t,codeAmong pos ps.toList=some (.ref c)/\some c∉α/\H c=some (.gh o (.own c))/\o.data= .fields vs/\vs[1]?=some (.str qual t)))
structure aS(α:List (Option Addr))(st:af)(H:Hp):Prop where
 len:α.length=st.length
 nd:∀(i j:Nat) (a:Addr),α[i]?=some (some a)->α[j]?=some (some a)->i=j
 at':∀(n:Nat) (c:Cell),st[n]?=some c->(c= .dead/\α[n]?=some none)\/∃a,α[n]?=some (some a)/\j9 α H a c
theorem jE.step{α α':List (Option Addr)}{H H':Hp}(s:Step α H α' H'){ds:List (Str×D)}{vs:List (Str×V)}(h:jE α H ds vs):jE α' H' ds vs:=Paired.EG h fun _ _ z=>⟨z.1,z.2.step s⟩
theorem j9.same{α α':List (Option Addr)}{H H':Hp}{a:Addr}{c:Cell}(s:Step α H α' H')(e:H' a=H a)(h:j9 α H a c):j9 α' H' a c:=by
 cases c with
 |lst xs=>obtain⟨vs,h1,h2⟩:=h;exact⟨vs,e.trans h1,h2.step s⟩
 |ins C fs=>obtain⟨dx,vs,h1,h2⟩:=h;exact⟨dx,vs,e.trans h1,h2.step s⟩
 |dead=>exact h.elim
 |tab P pos qual b=>
  obtain⟨z,ps,h1,h2,h3⟩:=h;refine⟨z,ps,e.trans h1,h2,?_⟩;rcases h3 with h3|⟨hb,c,o,vs,t,q1,q2,q3,q4⟩
  . exact .inl h3
  . exact .inr ⟨hb,c,o,vs,t,q1,(fun y=>by rw[s.new c y q2]at q3;cases q3),s.ext c _ q2 q3,q4⟩
theorem j9.some{α:List (Option Addr)}{H:Hp}{a:Addr}{c:Cell}(h:j9 α H a c):∃o,H a=some o:=by
 cases c with
 |lst xs=>obtain⟨vs,h1,h2⟩:=h;exact⟨_,h1⟩
 |ins C fs=>obtain⟨dx,vs,h1,h2⟩:=h;exact⟨_,h1⟩
 |dead=>exact h.elim
 |tab P pos qual b=>obtain⟨_,ps,h1,_⟩:=h;exact⟨_,h1⟩
theorem e8{α:List (Option Addr)}{H:Hp}{n:Nat}{v:V}{a:Addr}(e:α[n]?=Option.some (Option.some a))(r:Rep α H (.ref n) v):v= .ref a:=by
 unfold Rep at r;rcases r with r|⟨b,eb,rfl⟩
 . rw[e]at r;cases r
 . rw[e]at eb;cases eb;rfl
section
variable {α:List (Option Addr)}{st:af}{H:Hp}
theorem aS.mT(S:aS α st H){n:Nat}{xs:List D}(e:st[n]?=Option.some (.lst xs)):∃a,α[n]?=Option.some (Option.some a)/\∃vs,H a=Option.some (.lst vs)/\aH α H xs vs:=by
 rcases S.at' n _ e with⟨z,_⟩|z
 . cases z
 . exact z
theorem aS.AY(S:aS α st H){n:Nat}{C:Addr}{fs:List (Str×D)}(e:st[n]?=Option.some (.ins C fs)):∃a,α[n]?=Option.some (Option.some a)/\∃dx vs,H a=Option.some (.ins C dx vs)/\jE α H fs vs:=by
 rcases S.at' n _ e with⟨z,_⟩|z
 . cases z
 . exact z
theorem aS.mem(S:aS α st H){a:Addr}(h:Option.some a∈α):∃(n:Nat) (c:Cell),α[n]?=Option.some (Option.some a)/\st[n]?=Option.some c/\j9 α H a c:=by
 obtain⟨n,hn,e⟩:=List.mem_iff_getElem.mp h;have hl:n<st.length:=by rw[<-S.len];exact hn
 have e':α[n]?=Option.some (Option.some a):=by rw[List.getElem?_eq_getElem hn,e]
 rcases S.at' n st[n] (by simp[hl])with⟨_,q⟩|⟨a',q,ca⟩
 . rw[e']at q;cases q
 . rw[e']at q;cases q;exact⟨n,_,e',by simp[hl],ca⟩
theorem aS.j5(S:aS α st H){p:Addr}(h:H p=none):Option.some p∉α:=fun z=>by
 obtain⟨n,c,_,_,ca⟩:=S.mem z;obtain⟨o,e⟩:=ca.some;rw[h]at e;cases e
theorem aS.laid(S:aS α st H){p:Addr}{o:HO}(h:H p=none):aS α st (upd H p o):=
 ⟨S.len,S.nd,fun n c e=>by
  rcases S.at' n c e with z|⟨a,q,ca⟩
  . exact .inl z
  . exact .inr ⟨a,q,ca.same (Step.laid h) (ay (by obtain⟨u,z⟩:=ca.some;exact dD z h))⟩⟩
theorem aS.cell(S:aS α st H){p:Addr}{o:HO}{c:Cell}(h:H p=none)(hc:j9 (α++[Option.some p]) (upd H p o) p c):aS (α++[Option.some p]) (st++[c]) (upd H p o) where
 len:=by rw[List.length_append,List.length_append,S.len];rfl
 nd:=fun i j a ei ej=>by
  have key:∀(i:Nat) (a:Addr),(α++[Option.some p])[i]?=Option.some (Option.some a)->(i<α.length/\α[i]?=Option.some (Option.some a))\/(i=α.length/\a=p):=by
   intro i a e;by_cases hi:i<α.length
   . rw[List.getElem?_append_left hi]at e;exact .inl ⟨hi,e⟩
   . rw[List.getElem?_append_right (Nat.le_of_not_lt hi)]at e
     have h0:i-α.length=0:=by
      cases q:i-α.length with
      |zero=>rfl
      |succ k=>rw[q]at e;simp at e
     rw[h0]at e;have:p=a:=by simpa using e
     exact .inr ⟨by omega,this.symm⟩
  rcases key i a ei with⟨h1,e1⟩|⟨h1,e1⟩<;>rcases key j a ej with⟨h2,e2⟩|⟨h2,e2⟩
  . exact S.nd i j a e1 e2
  . subst e2;exact absurd (List.mem_of_getElem? e1) (S.j5 h)
  . subst e1;exact absurd (List.mem_of_getElem? e2) (S.j5 h)
  . omega
 at':=fun n d e=>by
  by_cases hn:n<st.length
  . rw[List.getElem?_append_left hn]at e;have hl:n<α.length:=by rw[S.len];exact hn
    rcases S.at' n d e with⟨z,q⟩|⟨a,q,ca⟩
    . exact .inl ⟨z,by rw[List.getElem?_append_left hl];exact q⟩
    . exact .inr ⟨a,by rw[List.getElem?_append_left hl];exact q,ca.same (Step.cell h) (ay (by obtain⟨u,z⟩:=ca.some;exact dD z h))⟩
  . rw[List.getElem?_append_right (Nat.le_of_not_lt hn)]at e
    have h0:n-st.length=0:=by
     cases q:n-st.length with
     |zero=>rfl
     |succ k=>rw[q]at e;simp at e
    rw[h0]at e;have hd:c=d:=by simpa using e
    subst hd;refine .inr ⟨p,?_,hc⟩;rw[List.getElem?_append_right (by rw[S.len];exact Nat.le_of_not_lt hn),S.len,h0];rfl
theorem aS.write(S:aS α st H){p:Addr}{o:HO}{c:Cell}{n:Nat}(e:α[n]?=Option.some (Option.some p))(hc:j9 α (upd H p o) p c):aS α (st.set n c) (upd H p o) where
 len:=by rw[List.length_set];exact S.len
 nd:=S.nd
 at':=fun m d q=>by
  have hp:Option.some p∈α:=List.mem_of_getElem? e;by_cases hm:m=n
  . subst hm
    have hl:m<st.length:=by
     have:=(List.getElem?_eq_some_iff.mp q).1;rw[List.length_set]at this;exact this
    rw[List.getElem?_set_self hl]at q;cases q;exact .inr ⟨p,e,hc⟩
  . rw[List.getElem?_set_ne (Ne.symm hm)]at q;rcases S.at' m d q with z|⟨a,r,ca⟩
    . exact .inl z
    . refine .inr ⟨a,r,ca.same (Step.write hp) (ay fun z=>?_)⟩;subst z;exact hm (S.nd m n _ r e)
end
abbrev DK:=D->af->Prop
abbrev DE:=cv->af->DK->Prop
abbrev DT:=cv->af->(Bool->af->Prop)->Prop
abbrev DA:=cv->af->(List D->af->Prop)->Prop
structure og where
 nx:cv->af->Prop
 rt:DK
 bk:cv->af->Prop:=fun _ _=>False
 ct:cv->af->Prop:=fun _ _=>False
abbrev DS:=og->cv->af->Prop
structure d_(α:List (Option Addr))(H:Hp)(σd:cv)(σ:L2.St):Prop where
 len:σd.length=σ.length
 at':∀(i:Nat) (d:D),σd[i]?=some (some d)->∃v,σ[i]?=some (some v)/\Rep α H d v
theorem d_.step{α α':List (Option Addr)}{H H':Hp}{σd:cv}{σ:L2.St}(s:Step α H α' H')(h:d_ α H σd σ):d_ α' H' σd σ:=
 ⟨h.len,fun i d e=>let⟨v,q,r⟩:=h.at' i d e;⟨v,q,r.step s⟩⟩
theorem d_.set{α:List (Option Addr)}{H:Hp}{σd:cv}{σ:L2.St}(h:d_ α H σd σ)(i:Nat){d:D}{v:V}(r:Rep α H d v):d_ α H (σd.set i (some d)) (σ.set i (some v)):=by
 refine⟨by rw[List.length_set,List.length_set,h.len],fun j e q=>?_⟩;have hl:=h.len;by_cases hj:j=i
 . subst hj
   have hlt:j<σd.length:=by
    have:=(List.getElem?_eq_some_iff.mp q).1;rw[List.length_set]at this;exact this
   rw[List.getElem?_set_self hlt]at q;cases q;exact⟨v,List.getElem?_set_self (by omega),r⟩
 . rw[List.getElem?_set_ne (Ne.symm hj)]at q;rw[List.getElem?_set_ne (Ne.symm hj)];exact h.at' j e q
def LK(α:List (Option Addr))(G F:Hp)(K:DK)(Q:VK):Prop:=∀d st',K d st'->∀α' G' H' v,Step α G α' G'->cf G' F H'->aS α' st' G'->Rep α' G' d v->Q v H'
def FI(α:List (Option Addr))(G F:Hp)(K:Bool->af->Prop)(Q:Bool->Hp->Prop):Prop:=∀b st',K b st'->∀α' G' H',Step α G α' G'->cf G' F H'->aS α' st' G'->Q b H'
def N7(α:List (Option Addr))(G F:Hp)(K:List D->af->Prop)(Q:List V->Hp->Prop):Prop:=∀ds st',K ds st'->∀α' G' H' vs,Step α G α' G'->cf G' F H'->aS α' st' G'->aH α' G' ds vs->Q vs H'
inductive MP(t:DE)(σ:L2.St)(H:Hp)(Q:VK):Prop
 |mk (α:List (Option Addr)) (σd:cv) (st:af) (K:DK) (G F:Hp) (P:cf G F H) (R:d_ α G σd σ) (S:aS α st G) (h:t σd st K) (k:LK α G F K Q):MP t σ H Q
def LE(t:DE):TE:=MP t
inductive MK(t:DT)(σ:L2.St)(H:Hp)(Q:Bool->Hp->Prop):Prop
 |mk (α:List (Option Addr)) (σd:cv) (st:af) (K:Bool->af->Prop) (G F:Hp) (P:cf G F H) (R:d_ α G σd σ) (S:aS α st G) (h:t σd st K) (k:FI α G F K Q):MK t σ H Q
def LT(t:DT):TT:=MK t
inductive ML(t:DA)(σ:L2.St)(H:Hp)(Q:List V->Hp->Prop):Prop
 |mk (α:List (Option Addr)) (σd:cv) (st:af) (K:List D->af->Prop) (G F:Hp) (P:cf G F H) (R:d_ α G σd σ) (S:aS α st G) (h:t σd st K) (k:N7 α G F K Q):ML t σ H Q
def LA(t:DA):TA:=ML t
theorem LK.here{α:List (Option Addr)}{G F H:Hp}{K:DK}{Q:VK}(h:LK α G F K Q)(P:cf G F H){d:D}{st:af}{v:V}(k:K d st)(S:aS α st G)(r:Rep α G d v):Q v H:=h d st k α G H v Step.refl P S r
theorem LK.at{α α1:List (Option Addr)}{G F G1:Hp}{K:DK}{Q:VK}(h:LK α G F K Q)(s:Step α G α1 G1):LK α1 G1 F K Q:=fun d st' k α' G' H' v s' P S r=>h d st' k α' G' H' v (s.trans s') P S r
theorem FI.at{α α1:List (Option Addr)}{G F G1:Hp}{K:Bool->af->Prop}{Q:Bool->Hp->Prop}(h:FI α G F K Q)(s:Step α G α1 G1):FI α1 G1 F K Q:=fun d st' k α' G' H' s' P S=>h d st' k α' G' H' (s.trans s') P S
section
variable {X:Cx}{a b c e:Expr}{es:List Expr}{ta tb tc te:DE}{pos:Pos}
theorem PE.imp{t t':TE}(h:PE X e t)(f:∀σ H Q,t' σ H Q->t σ H Q):PE X e t':=fun pins s σ H Q I q=>h pins s σ H Q I (f σ H Q q)
theorem PT.imp{t t':TT}(h:PT X e t)(f:∀σ H Q,t' σ H Q->t σ H Q):PT X e t':=fun pins s σ H Q I q=>h pins s σ H Q I (f σ H Q q)
theorem PW.imp{t t':TT}(h:PW X e t)(f:∀σ H Q,t' σ H Q->t σ H Q):PW X e t':=fun w pins s σ H Q I q=>h w pins s σ H Q I (f σ H Q q)
theorem PA.imp{t t':TA}(h:PA X es t)(f:∀σ H Q,t' σ H Q->t σ H Q):PA X es t':=fun p pins s σ H Q I q=>h p pins s σ H Q I (f σ H Q q)
def ab(i:Nat):DE:=fun σ st K=>match σ[i]? with|some (some d)=>K d st|_=>False
def dC(d:D):DE:=fun _ st K=>K d st
theorem MC{i:Nat}{x:Str}(h:PE X (.Name x pos) (Kc i)):PE X (.Name x pos) (LE (ab i)):=PE.imp h fun σ H Q ⟨α,σd,st,K,G,F,P,R,S,t,k⟩=>by
 unfold ab at t;split at t
 . rename_i d q;obtain⟨v,e,r⟩:=R.at' i d q;exact⟨v,e,k.here P t S r⟩
 . exact t.elim
theorem rZ{v:V}{d:D}(h:PE X e (tC v))(r:∀α H,Rep α H d v):PE X e (LE (dC d)):=PE.imp h fun σ H Q ⟨α,σd,st,K,G,F,P,R,S,t,k⟩=>k.here P t S (r α G)
theorem Mb{i:Int}{j:Nat}:PE X (.Constant (.int i) j pos) (LE (dC (.int i))):=rZ JM fun _ _=>by unfold Rep;rfl
theorem NJ{i:Bool}{j:Nat}:PE X (.Constant (.bool i) j pos) (LE (dC (.bl i))):=rZ Lg fun _ _=>by unfold Rep;rfl
theorem Ls{j:Nat}:PE X (.Constant .none j pos) (LE (dC .aL)):=rZ J0 fun _ _=>by unfold Rep;rfl
abbrev dc:=D->D->af->DK->Prop
abbrev yN:=D->af->DK->Prop
abbrev eV:=List D->af->DK->Prop
inductive MS(r:dc)(x y:V)(H:Hp)(Q:VK):Prop
 |mk (α:List (Option Addr)) (d e:D) (st:af) (K:DK) (G F:Hp) (P:cf G F H) (rx:Rep α G d x) (ry:Rep α G e y) (S:aS α st G) (h:r d e st K) (k:LK α G F K Q):MS r x y H Q
def LR(r:dc):R2:=MS r
inductive Kd(r:yN)(x:V)(H:Hp)(Q:VK):Prop
 |mk (α:List (Option Addr)) (d:D) (st:af) (K:DK) (G F:Hp) (P:cf G F H) (rx:Rep α G d x) (S:aS α st G) (h:r d st K) (k:LK α G F K Q):Kd r x H Q
def FZ(r:yN):V->Hp->VK->Prop:=Kd r
inductive Ju(r:eV)(xs:List V)(H:Hp)(Q:VK):Prop
 |mk (α:List (Option Addr)) (ds:List D) (st:af) (K:DK) (G F:Hp) (P:cf G F H) (rx:aH α G ds xs) (S:aS α st G) (h:r ds st K) (k:LK α G F K Q):Ju r xs H Q
def fB(r:eV):List V->Hp->VK->Prop:=Ju r
def aq(r:dc)(ta tb:DE):DE:=fun σ st K=>ta σ st fun x st1=>tb σ st1 fun y st2=>r x y st2 K
def pd(r:yN)(ta:DE):DE:=fun σ st K=>ta σ st fun x st1=>r x st1 K
theorem LE.op{r:dc}{σ:L2.St}{H:Hp}{Q:VK}(h:LE (aq r ta tb) σ H Q):D2 (LR r) (LE ta) (LE tb) σ H Q:=by
 obtain⟨α,σd,st,K,G,F,P,R,S,t,k⟩:=h;refine⟨α,σd,st,_,G,F,P,R,S,t,fun d st1 q α1 G1 H1 v s1 P1 S1 r1=>?_⟩;refine⟨α1,σd,st1,_,G1,F,P1,R.step s1,S1,q,fun d2 st2 q2 α2 G2 H2 v2 s2 P2 S2 r2=>?_⟩;exact⟨α2,d,d2,st2,K,G2,F,P2,r1.step s2,r2,S2,q2,(k.at s1).at s2⟩
theorem LE.un{r:yN}{σ:L2.St}{H:Hp}{Q:VK}(h:LE (pd r ta) σ H Q):MF (FZ r) (LE ta) σ H Q:=by
 obtain⟨α,σd,st,K,G,F,P,R,S,t,k⟩:=h;refine⟨α,σd,st,_,G,F,P,R,S,t,fun d st1 q α1 G1 H1 v s1 P1 S1 r1=>?_⟩;exact⟨α1,d,st1,K,G1,F,P1,r1,S1,q,k.at s1⟩
theorem Np{op:Operator}{r:dc}(ho:bS X (binaryOp op) (LR r))(ha:PE X a (LE ta))(hb:PE X b (LE tb)):PE X (.BinOp a op b pos) (LE (aq r ta tb)):=PE.imp (KY ho ha hb) fun _ _ _ h=>LE.op h
theorem NK{op:UnaryOp}{r:yN}(ho:Ad X (unaryOp op) (FZ r))(ha:PE X a (LE ta)):PE X (.UnaryOp op a pos) (LE (pd r ta)):=PE.imp (KR ho ha) fun _ _ _ h=>LE.un h
theorem Md{op:CmpOp}{r:dc}(ho:bS X (compareOp op) (LR r))(ha:PE X a (LE ta))(hb:PE X b (LE tb))(hm:behindInMarks op b=false:=by first|exact bI _|rfl):PE X (.Compare a [op] [b] pos) (LE (aq r ta tb)):=PE.imp (GS ho ha hb hm) fun _ _ _ h=>LE.op h
def a8(t:DE):DT:=fun σ st K=>t σ st fun d st1=>match d with| .bl b=>K b st1|_=>False
theorem LT.test{σ:L2.St}{H:Hp}{Q:Bool->Hp->Prop}(h:LT (a8 te) σ H Q):LE te σ H fun x H'=>∃k,x= .bl k/\Q k H':=by
 obtain⟨α,σd,st,K,G,F,P,R,S,t,k⟩:=h;refine⟨α,σd,st,_,G,F,P,R,S,t,fun d st1 q α1 G1 H1 v s1 P1 S1 r1=>?_⟩;cases d with
 |bl b=>
  unfold Rep at r1;exact⟨b,r1,k b st1 q α1 G1 H1 s1 P1 S1⟩
 |_=>exact q.elim
theorem Ks{op:CmpOp}{r:dc}(ho:bS X (compareOp op) (LR r))(ha:PE X a (LE ta))(hb:PE X b (LE tb))(hm:behindInMarks op b=false:=by first|exact bI _|rfl):PT X (.Compare a [op] [b] pos) (LT (a8 (aq r ta tb))):=PT.imp (Ib ho ha hb hm) fun σ H Q h=>by
 have q:=LT.test h;exact LE.op (Q:=fun x H'=>∃k,x= .bl k/\Q k H') q
theorem Jo(he:PE X e (LE te))(hv:∀whole,isTrue e X.env whole=(do let v <-whole;standAt e.pos;holding [v] (truthy v)):=by intro _;rfl):PT X e (LT (a8 te)):=PT.imp (Jt he hv) fun σ H Q h=>LT.test h
def iH(t:DT):DT:=fun σ st K=>t σ st fun b st1=>K (!b) st1
def oj(t u:DT):DT:=fun σ st K=>t σ st fun b st1=>if b=true then u σ st1 K else K false st1
def kX(t u:DT):DT:=fun σ st K=>t σ st fun b st1=>if b=true then K true st1 else u σ st1 K
theorem IF{t:DT}(ha:PT X a (LT t)):PT X (.UnaryOp .Not a pos) (LT (iH t)):=PT.imp (IH ha) fun σ H Q ⟨α,σd,st,K,G,F,P,R,S,t,k⟩=>
 ⟨α,σd,st,_,G,F,P,R,S,t,fun b st1 q α1 G1 H1 s1 P1 S1=>k _ st1 q α1 G1 H1 s1 P1 S1⟩
theorem LT.and{t u:DT}{σ:L2.St}{H:Hp}{Q:Bool->Hp->Prop}(h:LT (oj t u) σ H Q):Jf (LT t) (LT u) σ H Q:=by
 obtain⟨α,σd,st,K,G,F,P,R,S,t,k⟩:=h;refine⟨α,σd,st,_,G,F,P,R,S,t,fun b st1 q α1 G1 H1 s1 P1 S1=>?_⟩;cases b with
 |true=>exact⟨α1,σd,st1,K,G1,F,P1,R.step s1,S1,q,k.at s1⟩
 |false=>exact k _ st1 q α1 G1 H1 s1 P1 S1
theorem LT.or{t u:DT}{σ:L2.St}{H:Hp}{Q:Bool->Hp->Prop}(h:LT (kX t u) σ H Q):MR (LT t) (LT u) σ H Q:=by
 obtain⟨α,σd,st,K,G,F,P,R,S,t,k⟩:=h;refine⟨α,σd,st,_,G,F,P,R,S,t,fun b st1 q α1 G1 H1 s1 P1 S1=>?_⟩;cases b with
 |false=>exact⟨α1,σd,st1,K,G1,F,P1,R.step s1,S1,q,k.at s1⟩
 |true=>exact k _ st1 q α1 G1 H1 s1 P1 S1
theorem HH{t:DT}(ha:PT X a (LT t)):PW X (.BoolOp .And [a] pos) (LT t):=pw_and1 ha
theorem Ij{t:DT}(ha:PT X a (LT t)):PW X (.BoolOp .Or [a] pos) (LT t):=pw_or1 ha
theorem Jz{t u:DT}(ha:PT X a (LT t))(hb:PW X (.BoolOp .And (b::es) pos) (LT u)):PW X (.BoolOp .And (a::b::es) pos) (LT (oj t u)):=PW.imp (pw_and ha hb) fun _ _ _ h=>LT.and h
theorem Le{t u:DT}(ha:PT X a (LT t))(hb:PW X (.BoolOp .Or (b::es) pos) (LT u)):PW X (.BoolOp .Or (a::b::es) pos) (LT (kX t u)):=PW.imp (pw_or ha hb) fun _ _ _ h=>LT.or h
def ur(ta tb:DE):DE:=fun σ st K=>ta σ st fun d st1=>match d with| .bl b=>if b=true then tb σ st1 K else K (.bl false) st1|_=>False
def Et(ta tb:DE):DE:=fun σ st K=>ta σ st fun d st1=>match d with| .bl b=>if b=true then K (.bl true) st1 else tb σ st1 K|_=>False
def uy(t:DT):DE:=fun σ st K=>t σ st fun b st1=>K (.bl (!b)) st1
theorem Lh{op:BoolOp}(ha:PE X a (LE ta)):PE X (.BoolOp op [a] pos) (LE ta):=II ha
theorem Lo(ha:PE X a (LE ta))(hb:PE X (.BoolOp .And (b::es) pos) (LE tb)):PE X (.BoolOp .And (a::b::es) pos) (LE (ur ta tb)):=PE.imp (Kx ha hb) fun σ H Q ⟨α,σd,st,K,G,F,P,R,S,t,k⟩=>by
 refine⟨α,σd,st,_,G,F,P,R,S,t,fun d st1 q α1 G1 H1 v s1 P1 S1 r1=>?_⟩;cases d with
 |bl b=>
  unfold Rep at r1;refine⟨b,r1,?_⟩;cases b with
  |true=>exact⟨α1,σd,st1,K,G1,F,P1,R.step s1,S1,q,k.at s1⟩
  |false=>exact k _ st1 q α1 G1 H1 _ s1 P1 S1 (by unfold Rep;rfl)
 |_=>exact q.elim
theorem Nd(ha:PE X a (LE ta))(hb:PE X (.BoolOp .Or (b::es) pos) (LE tb)):PE X (.BoolOp .Or (a::b::es) pos) (LE (Et ta tb)):=PE.imp (L7 ha hb) fun σ H Q ⟨α,σd,st,K,G,F,P,R,S,t,k⟩=>by
 refine⟨α,σd,st,_,G,F,P,R,S,t,fun d st1 q α1 G1 H1 v s1 P1 S1 r1=>?_⟩;cases d with
 |bl b=>
  unfold Rep at r1;refine⟨b,r1,?_⟩;cases b with
  |false=>exact⟨α1,σd,st1,K,G1,F,P1,R.step s1,S1,q,k.at s1⟩
  |true=>exact k _ st1 q α1 G1 H1 _ s1 P1 S1 (by unfold Rep;rfl)
 |_=>exact q.elim
theorem Me(ha:PE X a (LE ta)):PE X (.UnaryOp .Not a pos) (LE (uy (a8 ta))):=PE.imp (JU ha) fun σ H Q ⟨α,σd,st,K,G,F,P,R,S,t,k⟩=>by
 refine⟨α,σd,st,_,G,F,P,R,S,t,fun d st1 q α1 G1 H1 v s1 P1 S1 r1=>?_⟩;cases d with
 |bl b=>
  unfold Rep at r1;exact⟨b,r1,k _ st1 q α1 G1 H1 _ s1 P1 S1 (by unfold Rep;rfl)⟩
 |_=>exact q.elim
def Gu(t:DT)(ta tb:DE):DE:=fun σ st K=>t σ st fun b st1=>if b=true then ta σ st1 K else tb σ st1 K
theorem LX{t:DT}(hc:PT X c (LT t))(ha:PE X a (LE ta))(hb:PE X b (LE tb)):PE X (.IfExp c a b pos) (LE (Gu t ta tb)):=PE.imp (EB hc ha hb) fun σ H Q ⟨α,σd,st,K,G,F,P,R,S,t,k⟩=>by
 refine⟨α,σd,st,_,G,F,P,R,S,t,fun b st1 q α1 G1 H1 s1 P1 S1=>?_⟩;cases b with
 |true=>exact⟨α1,σd,st1,K,G1,F,P1,R.step s1,S1,q,k.at s1⟩
 |false=>exact⟨α1,σd,st1,K,G1,F,P1,R.step s1,S1,q,k.at s1⟩
def ak:DA:=fun _ st K=>K [] st
def ae(ta:DE)(tr:DA):DA:=fun σ st K=>ta σ st fun x st1=>tr σ st1 fun xs st2=>K (x::xs) st2
theorem D1:PA X [] (LA ak):=PA.imp JR fun σ H Q ⟨α,σd,st,K,G,F,P,R,S,t,k⟩=>k [] st t α G H [] Step.refl P S (by unfold aH;rfl)
theorem Ae{tr:DA}(ha:PE X e (LE te))(hr:PA X es (LA tr))(hs:starEach (e::es) X.env=(false,eval e X.env)::starEach es X.env:=by rfl):PA X (e::es) (LA (ae te tr)):=PA.imp (He ha hr hs) fun σ H Q ⟨α,σd,st,K,G,F,P,R,S,t,k⟩=>by
 refine⟨α,σd,st,_,G,F,P,R,S,t,fun d st1 q α1 G1 H1 v s1 P1 S1 r1=>?_⟩;refine⟨α1,σd,st1,_,G1,F,P1,R.step s1,S1,q,fun ds st2 q2 α2 G2 H2 vs s2 P2 S2 r2=>?_⟩;exact k _ st2 q2 α2 G2 H2 (v::vs) (s1.trans s2) P2 S2 (by unfold aH;exact⟨v,vs,rfl,r1.step s2,r2⟩)
def gL(t:DA):DE:=fun σ st K=>t σ st fun ds st1=>ds.length<=sizeLine/\K (.tup ds) st1
def oG(t:DA):DE:=fun σ st K=>t σ st fun ds st1=>ds.length<=sizeLine/\K (.lst ds) st1
def EF(t:DA):DE:=fun σ st K=>t σ st fun ds st1=>ds.length<=sizeLine/\K (.ref st1.length) (st1++[.lst ds])
theorem LK.tup{α:List (Option Addr)}{G F H:Hp}{K:DK}{Q:VK}{ds:List D}{vs:List V}{st:af}{p:Addr}(k:LK α G F K Q)(P:cf G F H)(q:K (.tup ds) st)(S:aS α st G)(r:aH α G ds vs)(hp:H p=none):Q (.ref p) (upd H p (.tup vs)):=
 have hg:=(P.none hp).1
 k _ st q α _ _ _ (Step.laid hg) (P.laid hp) (S.laid hg) (by unfold Rep;exact⟨p,vs,rfl,S.j5 hg,a6,r.step (Step.laid hg)⟩)
theorem LK.lst{α:List (Option Addr)}{G F H:Hp}{K:DK}{Q:VK}{ds:List D}{vs:List V}{st:af}{p:Addr}(k:LK α G F K Q)(P:cf G F H)(q:K (.lst ds) st)(S:aS α st G)(r:aH α G ds vs)(hp:H p=none):Q (.ref p) (upd H p (.lst vs)):=
 have hg:=(P.none hp).1
 k _ st q α _ _ _ (Step.laid hg) (P.laid hp) (S.laid hg) (by unfold Rep;exact⟨p,vs,rfl,S.j5 hg,.of a6,r.step (Step.laid hg)⟩)
theorem LK.new{α:List (Option Addr)}{G F H:Hp}{K:DK}{Q:VK}{ds:List D}{vs:List V}{st:af}{p:Addr}(k:LK α G F K Q)(P:cf G F H)(q:K (.ref st.length) (st++[.lst ds]))(S:aS α st G)(r:aH α G ds vs)(hp:H p=none):Q (.ref p) (upd H p (.lst vs)):=
 have hg:=(P.none hp).1
 k _ _ q (α++[some p]) _ _ _ (Step.cell hg) (P.laid hp) (S.cell hg ⟨vs,a6,r.step (Step.cell hg)⟩) (by
  unfold Rep;refine .inr ⟨p,?_,rfl⟩;rw[List.getElem?_append_right (by rw[S.len];exact Nat.le_refl _),S.len,Nat.sub_self];rfl)
theorem Lw{n:Nat}{t:DA}(h:PA X es (LA t)):PE X (.Tuple es n pos) (LE (gL t)):=PE.imp (Kf h) fun σ H Q ⟨α,σd,st,K,G,F,P,R,S,t,k⟩=>
 ⟨α,σd,st,_,G,F,P,R,S,t,fun ds st1 q α1 G1 H1 vs s1 P1 S1 r1=>⟨by rw[<-r1.length];exact q.1,fun p hp=>(k.at s1).tup P1 q.2 S1 r1 hp⟩⟩
theorem KU{t:DA}(h:PA X es (LA t)):PE X (.List es pos) (LE (oG t)):=PE.imp (CG h) fun σ H Q ⟨α,σd,st,K,G,F,P,R,S,t,k⟩=>
 ⟨α,σd,st,_,G,F,P,R,S,t,fun ds st1 q α1 G1 H1 vs s1 P1 S1 r1=>⟨by rw[<-r1.length];exact q.1,fun p hp=>(k.at s1).lst P1 q.2 S1 r1 hp⟩⟩
theorem Mw{t:DA}(h:PA X es (LA t)):PE X (.List es pos) (LE (EF t)):=PE.imp (CG h) fun σ H Q ⟨α,σd,st,K,G,F,P,R,S,t,k⟩=>
 ⟨α,σd,st,_,G,F,P,R,S,t,fun ds st1 q α1 G1 H1 vs s1 P1 S1 r1=>⟨by rw[<-r1.length];exact q.1,fun p hp=>(k.at s1).new P1 q.2 S1 r1 hp⟩⟩
abbrev cE:=List D->af->DK->Prop
inductive Im(T:cE)(vs:List V)(H:Hp)(Q:VK):Prop
 |mk (α:List (Option Addr)) (ds:List D) (st:af) (K:DK) (G F:Hp) (P:cf G F H) (rx:aH α G ds vs) (S:aS α st G) (h:T ds st K) (k:LK α G F K Q):Im T vs H Q
def cL(S:cE):Sp:=fun vs H Q _=>Im S vs H Q
def aK(S:cE)(t:DA):DE:=fun σ st K=>t σ st fun ds st1=>S ds st1 K
theorem LE.call{S:cE}{t:DA}{σ:L2.St}{H:Hp}{Q:VK}(h:LE (aK S t) σ H Q):Gf (cL S) [] E0 (LA t) σ H Q:=by
 obtain⟨α,σd,st,K,G,F,P,R,S,t,k⟩:=h;refine⟨α,σd,st,_,G,F,P,R,S,t,fun ds st1 q α1 G1 H1 vs s1 P1 S1 r1=>?_⟩;try dsimp only
 rw[List.append_nil];exact⟨α1,ds,st1,K,G1,F,P1,r1,S1,q,k.at s1⟩
theorem Jl{S:cE}{k:Nat}{f:Addr}{fd:FuncData}{ps:List Str}{x:Str}{p:Pos}{t:DA}(F:bz X.prog X.w X.K X.mg X.base cG k f fd ps (cL S))(hr:cT k X.A)(hg:Gl X x)(hm:X.mg x=some (.ref f))(hk:PySem.W.keepIn X.K (.ref f)=true)(hb:Binds X.K fd ps [])
 (ha:PA X (e::es) (LA t)) (hdb:(x==("__debug__":Str))=false:=by decide) (he:starEach (e::es) X.env=(false,eval e X.env)::starEach es X.env:=by rfl) (hpl:(backTo pos (starEach es X.env)).any (·.1)=false:=by rfl):
 PE X (.Call (.Name x p) (e::es) [] pos) (LE (aK S t)):=PE.imp (GD F hr hg hm hk hb .nil Bz ha hdb he hpl) fun _ _ _ h=>LE.call h
def bM(r:eV)(t:DA):DE:=fun σ st K=>t σ st fun ds st1=>r ds st1 K
theorem LE.cb{r:eV}{t:DA}{σ:L2.St}{H:Hp}{Q:VK}(h:LE (bM r t) σ H Q):JY (fB r) (LA t) σ H Q:=by
 obtain⟨α,σd,st,K,G,F,P,R,S,t,k⟩:=h;refine⟨α,σd,st,_,G,F,P,R,S,t,fun ds st1 q α1 G1 H1 vs s1 P1 S1 r1=>?_⟩;exact⟨α1,ds,st1,K,G1,F,P1,r1,S1,q,k.at s1⟩
end
section
variable {X:Cx}
theorem bS.imp{f:Value->Value->Sem Value}{r r':R2}(h:bS X f r)(k:∀x y H Q,r' x y H Q->r x y H Q):bS X f r':=fun pins s σ H x y v u Q I rx ry q=>h pins s σ H x y v u Q I rx ry (k x y H Q q)
theorem bp.imp{f:Value}{r r':List V->Hp->VK->Prop}(h:bp X f r)(k:∀xs H Q,r' xs H Q->r xs H Q):bp X f r':=fun pins s σ H xs us Q I rs q=>h pins s σ H xs us Q I rs (k xs H Q q)
def sx(C:Int->Int->Prop)(g:Int->Int->D):dc:=fun x y st K=>match x,y with| .int i,.int j=>C i j/\K (g i j) st|_,_=>False
theorem j4{f:Value->Value->Sem Value}{C:Int->Int->Prop}{g:Int->Int->D}{g':Int->Int->V}(hg:∀i j α H,Rep α H (g i j) (g' i j))(h:bS X f (rI C g')):bS X f (LR (sx C g)):=bS.imp h fun x y H Q ⟨α,d,e,st,K,G,F',P,r1,r2,S,q,k⟩=>by
 cases d<;>cases e<;>first
  |exact q.elim
  |(unfold Rep at r1 r2;exact⟨_,_,r1,r2,q.1,k.here P q.2 S (hg _ _ _ _)⟩)
abbrev T2:Int->Int->Prop:=fun _ _=>True
theorem uP{g:Int->Int->V}{f:Value->Value->Sem Value}(h:bS X f (ux g)):bS X f (rI T2 g):=bS.imp h fun x y H Q ⟨i,j,e1,e2,_,q⟩=>⟨i,j,e1,e2,q⟩
abbrev F8:dc:=sx T2 fun i j=> .int (i-j)
abbrev Eb:dc:=sx (fun _ j=>j≠0/\j.natAbs.log2<9000) fun i j=> .int (i.fdiv j)
abbrev Gg:dc:=sx (fun _ j=>j≠0) fun i j=> .int (i.fmod j)
abbrev FO:dc:=sx E1 fun i j=> .int (i^j.toNat)
abbrev Ku:dc:=sx T2 fun i j=> .bl (decide (i<j))
abbrev Ko:dc:=sx T2 fun i j=> .bl (decide (i<=j))
abbrev Iv:dc:=sx T2 fun i j=> .bl (decide (j<i))
abbrev KD:dc:=sx T2 fun i j=> .bl (decide (j<=i))
theorem KQ:bS X (binaryOp .Sub) (LR F8):=j4 (fun _ _ _ _=>by unfold Rep;rfl) (uP Kb)
theorem IA:bS X (binaryOp .FloorDiv) (LR Eb):=j4 (fun _ _ _ _=>by unfold Rep;rfl) (Gj fun i j _ _ _ _ _ hc q=>floordiv_int hc.1 q (.inl (PyProof.noPylong_of_log2 hc.2)))
theorem LV:bS X (binaryOp .Mod) (LR Gg):=j4 (fun _ _ _ _=>by unfold Rep;rfl) GN
theorem LF:bS X (binaryOp .Pow) (LR FO):=j4 (fun _ _ _ _=>by unfold Rep;rfl) Jg
theorem Nl:bS X (compareOp .Lt) (LR Ku):=j4 (fun _ _ _ _=>by unfold Rep;rfl) (uP K5)
theorem Nx:bS X (compareOp .LtE) (LR Ko):=j4 (fun _ _ _ _=>by unfold Rep;rfl) (uP Mu)
theorem Ni:bS X (compareOp .Gt) (LR Iv):=j4 (fun _ _ _ _=>by unfold Rep;rfl) (uP Mh)
theorem NB:bS X (compareOp .GtE) (LR KD):=j4 (fun _ _ _ _=>by unfold Rep;rfl) (uP L5)
def FH:yN:=fun x st K=>match x with| .int i=>K (.int (-i)) st|_=>False
theorem Lx:Ad X (unaryOp .USub) (FZ FH):=fun pins s σ H x v Q I rx ⟨α,d,st,K,G,F',P,r,S,q,k⟩=>by
 cases d<;>first
  |exact q.elim
  |(unfold Rep at r;exact IU pins s σ H x v Q I rx ⟨_,r,k.here P q S (by unfold Rep;rfl)⟩)
theorem Inv.vV{pins:List (Addr×Obj)}{σ:L2.St}{H:Hp}{s:Shared}{l:Addr}{xs:List V}(I:Inv X pins σ H s)(h:Rd H l (.lst xs)):
 xs.length<=sizeLine/\∃(its:List Value) (n:Nat),Vals xs its/\xs.length=its.length/\s.heap.get? l=some {cls:= .type "list",data:= .seq its.toArray n}:=by
 obtain⟨z,its,n,r,e⟩:=h.ok I.aJ;exact⟨z,its,n,r,r.length,e⟩
theorem gj{G F H:Hp}(P:cf G F H){a:Addr}{u:HO}(h:Rd G a u):Rd H a u:=by
 rcases h with h|⟨o,h⟩
 . exact .inl (P.get h)
 . exact .inr ⟨o,P.get h⟩
theorem GO:bS X (binaryOp .Add) (fun x y H Q=>∃l b xs zs,x= .ref l/\y= .ref b/\Rd H l (.lst xs)/\Rd H b (.lst zs)/\xs.length+zs.length<=sizeLine/\∀p,H p=none->Q (.ref p) (upd H p (.lst (xs++zs)))):=by
 intro pins s σ H x y v u Q I rx ry h;obtain⟨l,b,xs,zs,rfl,rfl,hH,hB,hz,q⟩:=h;cases rx;cases ry;obtain⟨z,its,n,r,hl,e⟩:=Inv.vV I hH;obtain⟨z2,its2,n2,r2,hl2,e2⟩:=Inv.vV I hB;refine PySem.P.add_list e e2 ?_ (by rw[List.size_toArray,List.size_toArray];omega);have ea:its.toArray++its2.toArray=(its++its2).toArray:=by simp
 rw[ea];exact⟨.ref _,_,I.Ej (t':=s.toks) (r.append r2) (by rw[List.length_append];omega),rfl,q _ I.fresh⟩
theorem An:bS X (binaryOp .Mult) (fun x y H Q=>∃l k xs,x= .ref l/\y= .int k/\Rd H l (.lst xs)/\ -(2^63)<=k/\k<2^63/\xs.length*k.toNat<=sizeLine/\
 ∀p,H p=none->Q (.ref p) (upd H p (.lst (List.replicate k.toNat xs).flatten))):=by
 intro pins s σ H x y v u Q I rx ry h;obtain⟨l,k,xs,rfl,rfl,hH,h1,h2,hz,q⟩:=h;cases rx;obtain⟨t,rfl⟩:=ry;obtain⟨z,its,n,r,hl,e⟩:=Inv.vV I hH;have hlen:its.toArray.size*k.toNat<=sizeLine:=by rw[List.size_toArray,<-hl];exact hz
 have hcap:¬its.toArray.size*k.toNat>(2^63-1)/8:=by
  have:(sizeLine:Nat)<=(2^63-1)/8:=by decide
  omega
 have hfit:¬(!Builtin.List.listFitsIndex k)=true:=by
  rw[fitsIndex_both h1 h2];exact Bool.false_ne_true
 have hlong:¬Builtin.List.listTooLong (its.toArray.size*k.toNat)=true:=by
  rw[Ep hlen];exact Bool.false_ne_true
 have hnew:List.foldl (fun x1 x2=>x1++x2) #[] (List.replicate (if its.toArray.isEmpty=true then 0 else k.toNat) its.toArray)=(List.replicate k.toNat its).flatten.toArray:=by
  have f0:∀m:Nat,List.foldl (fun x1 x2=>x1++x2) #[] (List.replicate m its.toArray)=(List.replicate m its).flatten.toArray:=fun m=>by
   have:=foldl_rep its m [];rw[List.nil_append]at this;exact this
  rw[f0];cases its with
  |nil=>simp
  |cons a r'=>rw[if_neg (by simp)]
 refine wpAny_binaryOp_repeat_ref (T:="list") (U:="int") (by decide) ⟨_,e,rfl⟩ (fun s'=>typeIs_int s' k t) noFill_list_mul F.fills_int_mul F.slot_int_rmul repeat_list F.slot_int_index.lookup
  (call_meets F.slot_int_rmul (typeIs_int s k t) F.entry_int_rmul (F.args_int_rmul_2 _ _) (int___rmul___int_list k t l its.toArray n)
    ⟨e,rfl,⟨_,e,rfl⟩,call_meets F.slot_list_mul ⟨_,e,rfl⟩ F.entry_list_mul (F.args_list_mul_2 _ _) (AutoListH.list___mul___list_int_3 l its.toArray n k t hfit hcap hlong) ⟨e,?_⟩⟩)
 rw[hnew];exact⟨.ref _,_,I.Ej (t':=s.toks) (r.rep k.toNat) (by rw[len_rep,Nat.mul_comm];exact hz),rfl,q _ I.fresh⟩
theorem Ff:bS X (binaryOp .Add) (fun x y H Q=>∃a b xs ys,x= .ref a/\y= .ref b/\H a=some (.tup xs)/\H b=some (.tup ys)/\xs.length+ys.length<=sizeLine/\
 (xs=[]->Q (.ref b) H)/\(xs≠ []->ys=[]->Q (.ref a) H)/\(xs≠ []->ys≠ []->∀p,H p=none->Q (.ref p) (upd H p (.tup (xs++ys))))):=by
 intro pins s σ H x y v u Q I rx ry h;obtain⟨a,b,xs,ys,rfl,rfl,ha,hb,hz,q0,q1,q2⟩:=h;by_cases hx:xs=[]
 . cases rx;cases ry;obtain⟨its,r1,p1,_⟩:=I.tuple (.of ha);obtain⟨its2,r2,p2,_⟩:=I.tuple (.of hb);obtain⟨⟨cls,dd,data,sl⟩,ho,hc,n,hd⟩:=id p1;obtain⟨⟨cls2,dd2,data2,sl2⟩,ho2,hc2,n2,hd2⟩:=id p2;simp only at hc hd hc2 hd2;subst hc hd hc2 hd2;have hi:its=[]:=(L2.Vals.rK r1).mpr hx
   exact concat_meets ⟨_,ho,rfl⟩ ⟨_,ho2,rfl⟩ noFill_tuple_add seq_tuple_add PySem.F.slot_tuple_add PySem.F.entry_tuple_add (PySem.F.args_tuple_add_2 _ _)
    (tuple_addW0 a b its.toArray its2.toArray n n2 dd dd2 sl sl2 (by simp[hi])) ⟨ho,ho2,⟨.ref b,H,I,rfl,q0 hx⟩⟩
 . exact GF pins s σ H _ _ v u Q I rx ry ⟨a,b,xs,ys,rfl,rfl,.of ha,.of hb,hx,hz,q1 hx,q2 hx⟩
theorem vi:fillsNumberSlot (.type "tuple") "mul"=pure false:=
 PySem.fillsNumberSlot_seq (id:="tuple.__mul__") (r:=some (.builtin "tuple.__rmul__")) F.slot_tuple_mul.lookup (by decide+kernel) F.slot_tuple_rmul.lookup (by decide+kernel)
theorem B0:seqRepeat? (.type "tuple")=pure (some (.builtin "tuple.__mul__")):=by
 unfold seqRepeat?;rw[PySem.seqSlot_of (T:="tuple") (name:="__mul__") (id:="tuple.__mul__") F.slot_tuple_mul.lookup (by decide+kernel),PySem.seqSlot_of (T:="tuple") (name:="__rmul__") (id:="tuple.__rmul__") F.slot_tuple_rmul.lookup (by decide+kernel)];rfl
theorem yc(a:Int)(t:Tok)(l:Addr)(its:Array Value)(n:Nat)(dd:Option Addr)(sl:Array (Option Value)):Meets (Builtin.«int.__rmul__» ⟨[.int a t,.ref l],[]⟩) (fun _ R s=>s.heap.get? l=some {cls:= .type "tuple",dict:=dd,data:= .seq its n,slots:=sl}/\R (.ok (.ret Value.notImplemented)) s):=
 .of_wp fun P w A R s h=>by
  obtain⟨hp,g,d,tk,os⟩:=s;obtain⟨hl,h⟩:=h
  wp_walk
  exact⟨_,rfl,h⟩
theorem x9(l:Addr)(its:Array Value)(n:Nat)(dd:Option Addr)(sl:Array (Option Value))(x:Int)(u:Tok)(h0:(decide (x< -(2^63))||decide (x>=2^63))=false)(h1:(its.isEmpty||x==1)=true):
 Meets (Builtin.«tuple.__mul__» ⟨[.ref l,.int x u],[]⟩) (fun _ R s=>s.heap.get? l=some {cls:= .type "tuple",dict:=dd,data:= .seq its n,slots:=sl}/\R (.ok (.ret (.ref l))) s):=
 .of_wp fun P w A R s h=>by
  obtain⟨hp,g,d,tk,os⟩:=s;obtain⟨hl,h⟩:=h
  wp_walk
  refine wpAny_ite_false (by rw[h0];rfl) ?_
  wp_walk
  exact⟨_,rfl,h⟩
theorem yQ(l:Addr)(its:Array Value)(n:Nat)(dd:Option Addr)(sl:Array (Option Value))(x:Int)(u:Tok)(h0:(decide (x< -(2^63))||decide (x>=2^63))=false)(h1:(its.isEmpty||x==1)=false)(h2:(decide (x<=0)||its.isEmpty)=true):
 Meets (Builtin.«tuple.__mul__» ⟨[.ref l,.int x u],[]⟩) (fun _ R s=>s.heap.get? l=some {cls:= .type "tuple",dict:=dd,data:= .seq its n,slots:=sl}/\R (.ok (.ret (.ref s.heap.objs.size))) {s with heap:=s.heap.push {cls:= .type "tuple",data:= .seq #[]}}):=
 .of_wp fun P w A R s h=>by
  obtain⟨hp,g,d,tk,os⟩:=s;obtain⟨hl,h⟩:=h
  wp_walk
  refine wpAny_ite_false (by rw[h0];rfl) ?_
  wp_walk
  exact⟨_,rfl,h⟩
theorem zk(l:Addr)(its:Array Value)(n:Nat)(dd:Option Addr)(sl:Array (Option Value))(x:Int)(u:Tok)(h0:(decide (x< -(2^63))||decide (x>=2^63))=false)(h1:(its.isEmpty||x==1)=false)(h2:(decide (x<=0)||its.isEmpty)=false)(h3:¬((its.size:Int)*x>(2^63-1)/8))(h4:Builtin.Tuple.tupleTooMany (its.size*x)=false)
 (hz:(List.foldl (fun x1 x2=>x1++x2) #[] (List.replicate x.toNat its)).size<=sizeLine):
 Meets (Builtin.«tuple.__mul__» ⟨[.ref l,.int x u],[]⟩) (fun _ R s=>s.heap.get? l=some {cls:= .type "tuple",dict:=dd,data:= .seq its n,slots:=sl}/\R (.ok (.ret (.ref s.heap.objs.size))) {s with heap:=s.heap.push {cls:= .type "tuple",data:= .seq (List.foldl (fun x1 x2=>x1++x2) #[] (List.replicate x.toNat its))}}):=
 .of_wp fun P w A R s h=>by
  obtain⟨hp,g,d,tk,os⟩:=s;obtain⟨hl,h⟩:=h
  wp_walk
  refine wpAny_ite_false (by rw[h0];rfl) ?_
  wp_walk
  refine wpAny_ite_false (decide_eq_false h3) ?_
  wp_walk
  exact⟨_,rfl,h⟩
theorem HL:bS X (binaryOp .Mult) (fun x y H Q=>∃l k xs,x= .ref l/\y= .int k/\H l=some (.tup xs)/\ -(2^63)<=k/\k<2^63/\xs.length*k.toNat<=sizeLine/\
 ((xs=[]\/k=1)->Q (.ref l) H)/\(¬(xs=[]\/k=1)->∀p,H p=none->Q (.ref p) (upd H p (.tup (List.replicate k.toNat xs).flatten)))):=by
 intro pins s σ H x y v u Q I rx ry h;obtain⟨l,k,xs,rfl,rfl,hH,h1,h2,hz,q1,q2⟩:=h;cases rx;obtain⟨t,rfl⟩:=ry;obtain⟨its,r,p1,_⟩:=I.tuple (.of hH);obtain⟨⟨cls,dd,data,sl⟩,ho,hc,n,hd⟩:=id p1;simp only at hc hd;subst hc hd;have hl:xs.length=its.length:=r.length
 have f0:(decide (k< -(2^63))||decide (k>=2^63))=false:=by
  rw[decide_eq_false (by omega),decide_eq_false (by omega)];rfl
 refine wpAny_binaryOp_repeat_ref (T:="tuple") (U:="int") (by decide) ⟨_,ho,rfl⟩ (fun s'=>typeIs_int s' k t) vi F.fills_int_mul F.slot_int_rmul B0 F.slot_int_index.lookup
  (call_meets F.slot_int_rmul (typeIs_int s k t) F.entry_int_rmul (F.args_int_rmul_2 _ _) (yc k t l its.toArray n dd sl) ⟨ho,rfl,⟨_,ho,rfl⟩,?_⟩)
 by_cases hs:xs=[]\/k=1
 . have f1:(its.toArray.isEmpty||k==1)=true:=by
    rcases hs with z|z
    . have:its=[]:=List.length_eq_zero_iff.mp (by rw[<-hl,z];rfl);rw[this];rfl
    . rw[z];simp
   exact call_meets F.slot_tuple_mul ⟨_,ho,rfl⟩ F.entry_tuple_mul (F.args_tuple_mul_2 _ _) (x9 l its.toArray n dd sl k t f0 f1) ⟨ho,⟨.ref l,H,I,rfl,q1 hs⟩⟩
 . have hne:its≠ []:=fun z=>hs (.inl (List.length_eq_zero_iff.mp (by rw[hl,z];rfl)));have hk1:k≠1:=fun z=>hs (.inr z);have e1:its.toArray.isEmpty=false:=by simpa using hne
   have f1:(its.toArray.isEmpty||k==1)=false:=by rw[e1];simpa using hk1
   have new:∀(us:List Value) (ys:List V),Vals ys us->ys.length<=sizeLine->Inv X pins σ (upd H s.heap.objs.size (.tup ys)) {s with heap:=s.heap.push {cls:= .type "tuple",data:= .seq us.toArray}}:=fun us ys hv hy=>
    I.laid (t':=s.toks) (fun _ _ q=>Heap.get?_push_of_some _ q) (Nat.le_refl _) ⟨hy,us,hv,⟨_,Heap.get?_push_size _ rfl,rfl,_,rfl⟩⟩
   by_cases h0:k<=0
   . have f2:(decide (k<=0)||its.toArray.isEmpty)=true:=by rw[decide_eq_true h0];rfl
     refine call_meets F.slot_tuple_mul ⟨_,ho,rfl⟩ F.entry_tuple_mul (F.args_tuple_mul_2 _ _) (yQ l its.toArray n dd sl k t f0 f1 f2) ⟨ho,?_⟩;have ez:k.toNat=0:=by omega
     rw[ez]at q2;exact⟨.ref _,_,new [] [] .nil (Nat.zero_le _),rfl,q2 hs _ I.fresh⟩
   . have f2:(decide (k<=0)||its.toArray.isEmpty)=false:=by rw[decide_eq_false h0,e1];rfl
     have hk:(k.toNat:Int)=k:=by omega
     have hlen:its.toArray.size*k.toNat<=sizeLine:=by rw[List.size_toArray,<-hl];exact hz
     have hsz:((its.toArray.size:Nat):Int)*k<=(sizeLine:Int):=by
      rw[<-hk]
      exact_mod_cast hlen
     have f3:¬(((its.toArray.size:Nat):Int)*k>(2^63-1)/8):=by
      have:((sizeLine:Nat):Int)<=(2^63-1)/8:=by decide
      omega
     have f4:Builtin.Tuple.tupleTooMany (((its.toArray.size:Nat):Int)*k)=false:=by
      unfold Builtin.Tuple.tupleTooMany;exact decide_eq_false (by omega)
     have hnew:List.foldl (fun x1 x2=>x1++x2) #[] (List.replicate k.toNat its.toArray)=(List.replicate k.toNat its).flatten.toArray:=by
      have:=foldl_rep its k.toNat [];rw[List.nil_append]at this;exact this
     have hfl:(List.replicate k.toNat its).flatten.length=its.length*k.toNat:=by rw[len_rep,Nat.mul_comm]
     refine call_meets F.slot_tuple_mul ⟨_,ho,rfl⟩ F.entry_tuple_mul (F.args_tuple_mul_2 _ _) (zk l its.toArray n dd sl k t f0 f1 f2 f3 f4 (by rw[hnew,List.size_toArray,hfl];exact hlen)) ⟨ho,?_⟩;rw[hnew];exact⟨.ref _,_,new _ _ (r.rep k.toNat) (by rw[len_rep,Nat.mul_comm];exact hz),rfl,q2 hs _ I.fresh⟩
def F5:dc:=fun x y st K=>match x,y with
 | .int i,.int j=>K (.int (i+j)) st
 | .tup xs,.tup ys=>xs.length+ys.length<=sizeLine/\K (.tup (xs++ys)) st
 | .lst xs,.lst ys=>xs.length+ys.length<=sizeLine/\K (.lst (xs++ys)) st
 | .str x,.str y=>x.length+y.length<=sizeLine/\K (.str (x++y)) st
 |_,_=>False
theorem LW:bS X (binaryOp .Add) (LR F5):=fun pins s σ H x y v u Q I rx ry ⟨α,d,e,st,K,G,F',P,r1,r2,S,q,k⟩=>by
 cases d<;>cases e<;>try exact q.elim
 . unfold Rep at r1 r2;exact Iy pins s σ H x y v u Q I rx ry ⟨_,_,r1,r2,k.here P q S (by unfold Rep;rfl)⟩
 . unfold Rep at r1 r2;exact Bd pins s σ H x y v u Q I rx ry ⟨_,_,r1,r2,q.1,k.here P q.2 S (by unfold Rep;rfl)⟩
 . unfold Rep at r1 r2;obtain⟨a,vs,rfl,na,ha,ra⟩:=r1;obtain⟨b,ws,rfl,nb,hb,rb⟩:=r2;refine GO pins s σ H _ _ v u Q I rx ry ⟨a,b,vs,ws,rfl,rfl,gj P ha,gj P hb,by rw[<-ra.length,<-rb.length];exact q.1,fun p hp=>?_⟩;exact k.lst P q.2 S (bw.mpr (g6 (bw.mp ra) (bw.mp rb))) hp
 . rename_i xs ys;unfold Rep at r1 r2;obtain⟨a,vs,rfl,na,ha,ra⟩:=r1;obtain⟨b,ws,rfl,nb,hb,rb⟩:=r2;have hl1:=ra.length;have hl2:=rb.length;refine Ff pins s σ H _ _ v u Q I rx ry ⟨a,b,vs,ws,rfl,rfl,P.get ha,P.get hb,by rw[<-hl1,<-hl2];exact q.1,fun z=>?_,fun _ z=>?_,fun _ _ p hp=>?_⟩
   . refine k.here P q.2 S ?_;unfold Rep;have:xs=[]:=by rw[z]at hl1;exact List.length_eq_zero_iff.mp hl1
     subst this;exact⟨b,ws,rfl,nb,hb,rb⟩
   . refine k.here P q.2 S ?_;unfold Rep;have:ys=[]:=by rw[z]at hl2;exact List.length_eq_zero_iff.mp hl2
     subst this;rw[List.append_nil];exact⟨a,vs,rfl,na,ha,ra⟩
   . exact k.tup P q.2 S (bw.mpr (g6 (bw.mp ra) (bw.mp rb))) hp
def FN:dc:=fun x y st K=>match x,y with
 | .int i,.int j=>IntMulOk i j/\K (.int (i*j)) st
 | .lst xs,.int k=>(-(2^63)<=k/\k<2^63/\xs.length*k.toNat<=sizeLine)/\K (.lst (List.replicate k.toNat xs).flatten) st
 | .tup xs,.int k=>(-(2^63)<=k/\k<2^63/\xs.length*k.toNat<=sizeLine)/\K (.tup (List.replicate k.toNat xs).flatten) st
 |_,_=>False
theorem Ll:bS X (binaryOp .Mult) (LR FN):=fun pins s σ H x y v u Q I rx ry ⟨α,d,e,st,K,G,F',P,r1,r2,S,q,k⟩=>by
 cases d<;>cases e<;>try exact q.elim
 . unfold Rep at r1 r2;have h:bS X (binaryOp .Mult) (rI IntMulOk fun i j=> .int (i*j)):=Gj fun _ _ _ _ _ _ _ hc q=>mul_int q hc;exact h pins s σ H x y v u Q I rx ry ⟨_,_,r1,r2,q.1,k.here P q.2 S (by unfold Rep;rfl)⟩
 . unfold Rep at r1 r2;obtain⟨a,vs,rfl,na,ha,ra⟩:=r1;refine An pins s σ H _ _ v u Q I rx ry ⟨a,_,vs,rfl,r2,gj P ha,q.1.1,q.1.2.1,by rw[<-ra.length];exact q.1.2.2,fun p hp=>?_⟩;exact k.lst P q.2 S (bw.mpr (k6 (bw.mp ra) _)) hp
 . rename_i xs m;have r1':=r1;unfold Rep at r1 r2;obtain⟨a,vs,rfl,na,ha,ra⟩:=r1;refine HL pins s σ H _ _ v u Q I rx ry ⟨a,_,vs,rfl,r2,P.get ha,q.1.1,q.1.2.1,by rw[<-ra.length];exact q.1.2.2,fun hs=>?_,fun _ p hp=>k.tup P q.2 S (bw.mpr (k6 (bw.mp ra) _)) hp⟩
   have e:(List.replicate m.toNat xs).flatten=xs:=by
    rcases hs with z|z
    . have:xs=[]:=List.length_eq_zero_iff.mp (by rw[ra.length,z];rfl);rw[this];simp
    . rw[z];simp
   have q2:=q.2;rw[e]at q2;exact k.here P q2 S r1'
def live(st:af):D->Bool
 | .ref n=>(match st[n]? with|some (.lst _)=>true|some (.ins _ _)=>true|_=>false)
 |_=>true
def pv:dc:=fun x y st K=>match y with
 | .int i=>(match x with
   | .lst xs=>(match e9 xs i with|some d=>K d st|none=>False)
   | .tup xs=>(match e9 xs i with|some d=>K d st|none=>False)
   | .ref n=>(match st[n]? with|some (.lst xs)=>(match e9 xs i with|some d=>K d st|none=>False)|_=>False)
   |_=>False)
 |_=>False
theorem aH.e9{α:List (Option Addr)}{H:Hp}{ds:List D}{vs:List V}{i:Int}{d:D}(h:aH α H ds vs)(e:L2.e9 ds i=some d):∃v,L2.e9 vs i=some v/\Rep α H d v:=by
 unfold L2.e9 at e⊢;rw[<-h.length];cases q:mh ds.length i with
 |none=>rw[q]at e;cases e
 |some j=>rw[q]at e;exact h.get e
theorem Nm:Gm X (LR pv):=fun value slice pins s σ H x y v u Q I rx ry ⟨α,d,e,st,K,G,F',P,r1,r2,S,q,k⟩ hs=>by
 cases e<;>try exact q.elim
 unfold Rep at r2;cases d<;>try exact q.elim
 . rename_i i n;unfold pv at q;simp only at q;split at q
   . split at q
     . rename_i xs e1 _ d' e2;obtain⟨a,ea,vs,hv,rv⟩:=S.mT e1;have r1':=e8 ea r1;subst r1';obtain⟨z,ez,rz⟩:=rv.e9 e2;exact Az value slice pins s σ H _ _ v u Q I rx ry ⟨a,vs,_,z,rfl,r2,.of (P.get hv),ez,k.here P q S rz⟩ hs
     . exact q.elim
   . exact q.elim
 . unfold pv at q;simp only at q;split at q
   . rename_i xs d' e2;unfold Rep at r1;obtain⟨a,vs,rfl,na,ha,ra⟩:=r1;obtain⟨z,ez,rz⟩:=ra.e9 e2;exact Az value slice pins s σ H _ _ v u Q I rx ry ⟨a,vs,_,z,rfl,r2,.inl (gj P ha),ez,k.here P q S rz⟩ hs
   . exact q.elim
 . unfold pv at q;simp only at q;split at q
   . rename_i xs d' e2;unfold Rep at r1;obtain⟨a,vs,rfl,na,ha,ra⟩:=r1;obtain⟨z,ez,rz⟩:=ra.e9 e2;exact KP value slice pins s σ H _ _ v u Q I rx ry ⟨a,vs,_,z,rfl,r2,.of (P.get ha),ez,k.here P q S rz⟩ hs
   . exact q.elim
theorem NG{a b:Expr}{ta tb:DE}{pos:Pos}(ha:PE X a (LE ta))(hb:PE X b (LE tb))(hs:rN b:=by intro _ _;rfl):PE X (.Subscript a b pos) (LE (aq pv ta tb)):=PE.imp (Lc Nm ha hb hs) fun _ _ _ h=>LE.op h
def items?(st:af):D->Option (List D)
 | .lst xs=>some xs
 | .tup xs=>some xs
 | .ref n=>(match st[n]? with|some (.lst xs)=>some xs|_=>none)
 |_=>none
@[simp] theorem MZ(st:af)(xs:List D):items? st (.lst xs)=some xs:=rfl
@[simp] theorem MD(st:af)(xs:List D):items? st (.tup xs)=some xs:=rfl
@[simp] theorem items_int(st:af)(i:Int):items? st (.int i)=none:=rfl
@[simp] theorem NM(st:af)(i:Bool):items? st (.bl i)=none:=rfl
@[simp] theorem items_str(st:af)(i:Str):items? st (.str i)=none:=rfl
@[simp] theorem MN(st:af):items? st .aL=none:=rfl
theorem aF{st:af}{n:Nat}{xs:List D}(h:st[n]?=some (.lst xs)):items? st (.ref n)=some xs:=by unfold items?;simp only[h]
theorem nS{α:List (Option Addr)}{H:Hp}{st:af}{d:D}{v:V}{xs:List D}(S:aS α st H)(r:Rep α H d v)(e:items? st d=some xs):
 ∃p vs,v= .ref p/\aH α H xs vs/\(Rd H p (.lst vs)\/H p=some (.tup vs)):=by
 cases d<;>try(cases e;done)
 . unfold items? at e;simp only at e;split at e
   . rename_i ys q;cases e;obtain⟨a,ea,vs,h1,h2⟩:=S.mT q;have r':=e8 ea r;subst r';exact⟨a,vs,rfl,h2,.inl (.of h1)⟩
   . cases e
 . cases e;unfold Rep at r;obtain⟨a,vs,rfl,_,h1,h2⟩:=r;exact⟨a,vs,rfl,h2,.inl h1⟩
 . cases e;unfold Rep at r;obtain⟨a,vs,rfl,_,h1,h2⟩:=r;exact⟨a,vs,rfl,h2,.inr h1⟩
theorem AM{K:PySem.W.Frag}{G F H:Hp}(P:cf G F H){p:Addr}{vs:List V}(h:Rd G p (.lst vs)\/G p=some (.tup vs)):mf K H p vs\/i3 K H p vs:=h.elim (fun z=> .inl (.inl (gj P z))) fun z=> .inr (.of (P.get z))
theorem iE{α:List (Option Addr)}{H:Hp}{ds:List D}{xs:List V}{d:D}(r:aH α H ds xs)(e:ds=[d]):∃v,xs=[v]/\Rep α H d v:=by
 subst e;unfold aH at r;obtain⟨v,q,rfl,h1,h2⟩:=r;unfold aH at h2;subst h2;exact⟨v,rfl,h1⟩
theorem pz{α:List (Option Addr)}{H:Hp}{ds:List D}{xs:List V}{d e:D}(r:aH α H ds xs)(q:ds=[d,e]):∃v u,xs=[v,u]/\Rep α H d v/\Rep α H e u:=by
 subst q;unfold aH at r;obtain⟨v,q,rfl,h1,h2⟩:=r;obtain⟨u,rfl,h3⟩:=iE h2 rfl;exact⟨v,u,rfl,h1,h3⟩
def xw:eV:=fun ds st K=>match ds with
 | [.str x]=>x.length<=sizeLine/\K (.int x.length) st
 | [d]=>(match items? st d with|some xs=>K (.int xs.length) st|none=>False)
 |_=>False
theorem Lf:bp X (.builtin "len") (fB xw):=fun pins s σ H xs us Q I rs ⟨α,ds,st,K,G,F',P,r,S,q,k⟩=>by
 unfold xw at q;split at q
 . rename_i x;obtain⟨v,rfl,r1⟩:=iE r rfl;unfold Rep at r1;subst r1;exact x_ pins s σ H _ us Q I rs ⟨x,rfl,q.1,k.here P q.2 S (by unfold Rep;rfl)⟩
 . rename_i d _;split at q
   . rename_i ys e;obtain⟨v,rfl,r1⟩:=iE r rfl;obtain⟨p,vs,rfl,r2,h⟩:=nS S r1 e;refine zp pins s σ H _ us Q I rs ⟨p,vs,rfl,AM P h,k.here P q S (by unfold Rep;rw[r2.length])⟩
   . exact q.elim
 . exact q.elim
def MU(g:Int->Int):eV:=fun ds st K=>match ds with| [.int i]=>K (.int (g i)) st|_=>False
abbrev A3:eV:=MU fun i=>if i<0 then-i else i
theorem MB:bp X (.builtin "abs") (fB A3):=bp.imp ED fun xs H Q ⟨α,ds,st,K,G,F',P,r,S,q,k⟩=>by
 unfold A3 MU at q;split at q
 . obtain⟨v,rfl,r1⟩:=iE r rfl;unfold Rep at r1;subst r1;exact⟨_,rfl,k.here P q S (by unfold Rep;rfl)⟩
 . exact q.elim
def Bc(g:Int->Int->Int):eV:=fun ds st K=>match ds with| [.int i,.int j]=>K (.int (g i j)) st|_=>False
abbrev BJ:eV:=Bc fun i j=>if j>i then j else i
abbrev AR:eV:=Bc fun i j=>if j<i then j else i
theorem Lr(hc:X.calm=true):bp X (.builtin "max") (fB BJ):=bp.imp (DC hc) fun xs H Q ⟨α,ds,st,K,G,F',P,r,S,q,k⟩=>by
 unfold BJ Bc at q;split at q
 . obtain⟨v,u,rfl,r1,r2⟩:=pz r rfl;unfold Rep at r1 r2;subst r1 r2;exact⟨_,_,rfl,k.here P q S (by unfold Rep;rfl)⟩
 . exact q.elim
theorem K7(hc:X.calm=true):bp X (.builtin "min") (fB AR):=bp.imp (DX hc) fun xs H Q ⟨α,ds,st,K,G,F',P,r,S,q,k⟩=>by
 unfold AR Bc at q;split at q
 . obtain⟨v,u,rfl,r1,r2⟩:=pz r rfl;unfold Rep at r1 r2;subst r1 r2;exact⟨_,_,rfl,k.here P q S (by unfold Rep;rfl)⟩
 . exact q.elim
def Bi:eV:=fun ds st K=>match ds with| [.int i]=>K (.int i) st| [.bl b]=>K (.int (if b then 1 else 0)) st|_=>False
theorem L9:bp X (.type "int") (fB Bi):=bp.imp CJ fun xs H Q ⟨α,ds,st,K,G,F',P,r,S,q,k⟩=>by
 unfold Bi at q;split at q
 . obtain⟨v,rfl,r1⟩:=iE r rfl;unfold Rep at r1;subst r1;exact .inl ⟨_,rfl,k.here P q S (by unfold Rep;rfl)⟩
 . obtain⟨v,rfl,r1⟩:=iE r rfl;unfold Rep at r1;subst r1;exact .inr ⟨_,rfl,k.here P q S (by unfold Rep;rfl)⟩
 . exact q.elim
def rT:eV:=fun ds st K=>match ds with| [d]=>(match items? st d with|some xs=>K (.tup xs) st|none=>False)|_=>False
theorem Hw:bp X (.type "tuple") (fB rT):=bp.imp xn fun xs H Q ⟨α,ds,st,K,G,F',P,r,S,q,k⟩=>by
 unfold rT at q;split at q
 . rename_i d;split at q
   . rename_i ys e;obtain⟨v,rfl,r1⟩:=iE r rfl;cases d with
     |tup zs=>
      cases e;have r0:=r1;unfold Rep at r1;obtain⟨a,vs,rfl,na,h1,h2⟩:=r1;exact⟨a,vs,rfl,.inr ⟨.of (P.get h1),k.here P q S r0⟩⟩
     |_=>
      obtain⟨p,vs,rfl,r2,h⟩:=nS S r1 e;refine⟨p,vs,rfl,?_⟩;rcases h with h|h
      . exact .inl ⟨.inl (gj P h),fun l hl=>k.tup P q S r2 hl⟩
      . first
         |(cases e;done)
         |(exfalso
           unfold items? at e;simp only at e
           first
            |(split at e
              . rename_i z;obtain⟨a,ea,vs',h1,h2⟩:=S.mT z;have e':=e8 ea r1;cases e';rw[h]at h1;cases h1
              . cases e)
            |(unfold Rep at r1
              obtain⟨a,vs',e',_,h1,_⟩:=r1;cases e';rcases h1 with h1|⟨o,h1⟩<;>(rw[h]at h1;cases h1)))
   . exact q.elim
 . exact q.elim
def u6:eV:=fun ds st K=>match ds with| [d]=>(match items? st d with|some xs=>K (.lst xs) st|none=>False)|_=>False
theorem Jp:bp X (.type "list") (fB u6):=bp.imp rj fun xs H Q ⟨α,ds,st,K,G,F',P,r,S,q,k⟩=>by
 unfold u6 at q;split at q
 . split at q
   . rename_i ys e;obtain⟨v,rfl,r1⟩:=iE r rfl;obtain⟨p,vs,rfl,r2,h⟩:=nS S r1 e;exact⟨p,vs,rfl,AM P h,fun l hl=>k.lst P q S r2 hl⟩
   . exact q.elim
 . exact q.elim
def r_:eV:=fun ds st K=>match ds with| [d]=>(match items? st d with|some xs=>K (.ref st.length) (st++[.lst xs])|none=>False)|_=>False
theorem HR:bp X (.type "list") (fB r_):=bp.imp rj fun xs H Q ⟨α,ds,st,K,G,F',P,r,S,q,k⟩=>by
 unfold r_ at q;split at q
 . split at q
   . rename_i ys e;obtain⟨v,rfl,r1⟩:=iE r rfl;obtain⟨p,vs,rfl,r2,h⟩:=nS S r1 e;exact⟨p,vs,rfl,AM P h,fun l hl=>k.new P q S r2 hl⟩
   . exact q.elim
 . exact q.elim
def ju:List D->Option (List Bool)
 | []=>some []
 | .bl b::r=>(ju r).map (b:: ·)
 |_::_=>none
def k9:List D->Option (List Int)
 | []=>some []
 | .int b::r=>(k9 r).map (b:: ·)
 |_::_=>none
theorem uU{α:List (Option Addr)}{H:Hp}:∀ {ds:List D} {vs:List V} {bs:List Bool},aH α H ds vs->ju ds=some bs->vs=bs.map V.bl
 | [],vs,bs,r,e=>by
   unfold aH at r;cases e;exact r
 |d::ds,vs,bs,r,e=>by
  unfold aH at r;obtain⟨v,q,rfl,h1,h2⟩:=r;cases d<;>try(cases e;done)
  unfold ju at e;cases z:ju ds with
  |none=>rw[z]at e;cases e
  |some cs=>
   rw[z]at e;cases e;unfold Rep at h1;rw[h1,uU h2 z];rfl
theorem qF{α:List (Option Addr)}{H:Hp}:∀ {ds:List D} {vs:List V} {bs:List Int},aH α H ds vs->k9 ds=some bs->vs=bs.map V.int
 | [],vs,bs,r,e=>by
   unfold aH at r;cases e;exact r
 |d::ds,vs,bs,r,e=>by
  unfold aH at r;obtain⟨v,q,rfl,h1,h2⟩:=r;cases d<;>try(cases e;done)
  unfold k9 at e;cases z:k9 ds with
  |none=>rw[z]at e;cases e
  |some cs=>
   rw[z]at e;cases e;unfold Rep at h1;rw[h1,qF h2 z];rfl
theorem uW:∀ {bs:List Bool} {us:List Value},Vals (bs.map V.bl) us->us=bs.map Value.bool
 | [],_,.nil=>rfl
 |b::bs,_,.cons h t=>by
  have h:_=Value.bool b:=h;rw[h,uW t];rfl
def xD:eV:=fun ds st K=>match ds with| [.lst xs]=>(match ju xs with|some bs=>K (.bl (bs.all id)) st|none=>False)|_=>False
theorem range_all{α:Type}(l:List α)(f:α->Bool)(tr:Nat->Bool)(h:∀i x,l[i]?=some x->tr i=f x):(List.range l.length).all tr=l.all f:=by
 induction l generalizing tr with
 |nil=>rfl
 |cons a l ih=>
  rw[List.length_cons,List.range_succ_eq_map,List.all_cons,List.all_cons,List.all_map,h 0 a rfl];congr 1;exact ih (tr∘Nat.succ) fun i x e=>h (i+1) x (by simpa using e)
theorem Ms(hc:X.calm=true):bp X (.builtin "all") (fB xD):=fun pins s σ H xs us Q I rs ⟨α,ds,st,K,G,F',P,r,S,q,k⟩=>by
 unfold xD at q;split at q
 . rename_i ys;split at q
   . rename_i bs e;obtain⟨v,rfl,r1⟩:=iE r rfl;unfold Rep at r1;obtain⟨a,vs,rfl,na,h1,h2⟩:=r1;obtain⟨u,rfl,ru⟩:=vals1 rs;cases ru;have hv:=uU h2 e;subst hv;obtain⟨z,its,n,rv,hl,eo⟩:=Inv.vV I (gj P h1);have hits:=uW rv;subst hits;have isL:s.heap.IsList a (bs.map Value.bool).toArray:=⟨_,eo,rfl,n,rfl⟩
     refine call_all_walk (wpAny_pyIter_list isL ?_);have hne:a≠s.heap.objs.size:=Nat.ne_of_lt (Heap.lt_size eo);refine⟨s.heap.objs.size,_,_,_,_,_,fun i=>(bs[i]?).getD true,rfl,Walks.list (A:=X.A.in1) (I.ok.hd hc) _ a hne (bs.map Value.bool).toArray,⟨⟨_,Heap.get?_push_size _ rfl,rfl,rfl⟩,⟨_,Heap.get?_push_of_some _ eo,rfl,n,rfl⟩⟩,?_,?_⟩
     . intro i w s' Q' E' hP hQ;rw[List.getElem?_toArray,List.getElem?_map]at hP;cases zb:bs[i]? with
       |none=>rw[zb]at hP;cases hP
       |some b=>
        rw[zb]at hP;cases hP;simp only[zb]at hQ;exact wpAny_truthy_bool hQ
     . intro h' tk hk
       have kp:∀b o,s.heap.get? b=some o->h'.get? b=some o:=fun b o q=>hk b o (by
        intro hb;have:b=s.heap.objs.size:=by simpa using hb
        exact absurd (Heap.lt_size q) (by rw[this];exact Nat.lt_irrefl _)) (Heap.get?_push_of_some _ q)
       have ea:(List.range (bs.map Value.bool).toArray.size).all (fun i=>(bs[i]?).getD true)=bs.all id:=by
        rw[List.size_toArray,List.length_map];exact range_all bs id _ fun i x e=>by rw[e];rfl
       rw[ea];exact⟨.bl (bs.all id),H,I.kept (t':=tk) kp,rfl,k.here P q S (by unfold Rep;rfl)⟩
   . exact q.elim
 . exact q.elim
def jo(st:af):D->Option String
 | .aL=>some "NoneType"
 | .bl _=>some "bool"
 | .int _=>some "int"
 | .str _=>some "str"
 | .lst _=>some "list"
 | .tup _=>some "tuple"
 | .ref n=>(match st[n]? with|some (.lst _)=>some "list"|_=>none)
 | .ty _=>none
@[simp] theorem NX(st:af)(xs:List D):jo st (.lst xs)=some "list":=rfl
@[simp] theorem N9(st:af)(xs:List D):jo st (.tup xs)=some "tuple":=rfl
@[simp] theorem ty_int(st:af)(i:Int):jo st (.int i)=some "int":=rfl
@[simp] theorem Oq(st:af)(i:Bool):jo st (.bl i)=some "bool":=rfl
@[simp] theorem ty_str(st:af)(i:Str):jo st (.str i)=some "str":=rfl
@[simp] theorem N_(st:af):jo st .aL=some "NoneType":=rfl
def uc(t c:String):Bool:=t==c||(t=="bool"&&c=="int")
theorem yT{α:List (Option Addr)}{H:Hp}{st:af}{K:PySem.W.Frag}{d:D}{v:V}{t:String}(S:aS α st H)(r:Rep α H d v)(e:jo st d=some t):js K H v (.type t):=by
 cases d<;>unfold jo at e<;>try(cases e;done)
 . unfold Rep at r;cases e;subst r;exact .aL
 . unfold Rep at r;cases e;subst r;exact .bl _
 . unfold Rep at r;cases e;subst r;exact .int _
 . unfold Rep at r;cases e;subst r;exact .str _
 . simp only at e;split at e
   . rename_i z;cases e;obtain⟨a,ea,vs',h1,h2⟩:=S.mT z;have r':=e8 ea r;subst r';exact .lst h1
   . cases e
 . cases e;unfold Rep at r;obtain⟨a,vs,rfl,na,h1,h2⟩:=r;rcases h1 with h1|⟨o,h1⟩
   . exact .lst h1
   . exact .gh h1
 . cases e;unfold Rep at r;obtain⟨a,vs,rfl,na,h1,h2⟩:=r;exact .tup h1
theorem zU{G F H:Hp}{K:PySem.W.Frag}(P:cf G F H){x:V}{t:Value}(h:js K G x t):js K H x t:=by
 cases h with
 |aL=>exact .aL
 |bl x=>exact .bl x
 |int x=>exact .int x
 |str x=>exact .str x
 |s_ x=>exact .s_ x
 |lst e=>exact .lst (P.get e)
 |gh e=>exact .gh (P.get e)
 |tup e=>exact .tup (P.get e)
 |dK e=>exact .dK (P.get e)
 |dT e=>exact .dT (P.get e)
 |ins e a b c d f=>exact .ins (P.get e) a b c d f
def rJ:List String:=["NoneType","bool","int","str","list","tuple"]
def mV:List String:=["bool","int","str","list","tuple"]
theorem Am(K:PySem.W.Frag){t c:String}(ht:t∈rJ)(hc:c∈mV):PySem.W.kitOne K (.type t) (.type c)=some (uc t c):=by
 simp only[rJ,mV,List.mem_cons,List.not_mem_nil,or_false]at ht hc;rcases ht with rfl|rfl|rfl|rfl|rfl|rfl<;>rcases hc with rfl|rfl|rfl|rfl|rfl<;>with_unfolding_all rfl
theorem yO{st:af}{d:D}{t:String}(e:jo st d=some t):t∈rJ:=by
 cases d<;>unfold jo at e<;>first
  |(cases e;done)
  |(cases e;decide)
  |(simp only at e;split at e<;>cases e;decide)
theorem kitx_of{pins:List (Addr×Obj)}{σ:L2.St}{H:Hp}{s:Shared}{x:V}{u:Value}{t:String}(I:Inv X pins σ H s)(rx:RelV x u)(ty:js X.K H x (.type t)):
 ∃Hh:Heap->Prop,PySem.W.KitX X.K u (.type t) Hh/\Hh s.heap/\u≠ .builtin "__main__.__loader__#opaque":=by
 cases ty with
 |aL=>cases (show u=Value.none from rx);exact⟨_,PySem.W.kitx_none,True.intro,fun z=>nomatch z⟩
 |bl y=>cases (show u=Value.bool y from rx);exact⟨_,PySem.W.kitx_bool,True.intro,fun z=>nomatch z⟩
 |int i=>obtain⟨t,q⟩:=(show∃t,u=Value.int i t from rx);cases q;exact⟨_,PySem.W.kitx_int,True.intro,fun z=>nomatch z⟩
 |str y=>obtain⟨t,q⟩:=(show∃t,u=Value.str y t from rx);cases q;exact⟨_,PySem.W.kitx_str,True.intro,fun z=>nomatch z⟩
 |s_ y=>obtain⟨t,q⟩:=(show∃t,u=Value.float y t from rx);cases q;exact⟨_,PySem.W.kitx_float,True.intro,fun z=>nomatch z⟩
 | @lst a xs ea=>
   cases (show u=Value.ref a from rx);obtain⟨_,_,n,_,h1⟩:=(show dB X.prog X.w H s.heap a (.lst xs)from I.aJ a _ ea)
   exact⟨_,PySem.W.kitx_list,⟨_,h1,rfl⟩,fun z=>nomatch z⟩
 | @gh a ob xs ea=>
   cases (show u=Value.ref a from rx);obtain⟨_,_,_,n,_,h1⟩:=(show dB X.prog X.w H s.heap a (.gh ob (.lst xs))from I.aJ a _ ea)
   exact⟨_,PySem.W.kitx_list,⟨_,h1,rfl⟩,fun z=>nomatch z⟩
 | @tup a xs ea=>
   cases (show u=Value.ref a from rx);obtain⟨_,_,_,p⟩:=(show dB X.prog X.w H s.heap a (.tup xs)from I.aJ a _ ea)
   obtain⟨o,h1,h2,_⟩:=p;exact⟨_,PySem.W.kitx_tuple,⟨o,h1,h2⟩,fun z=>nomatch z⟩
 | @dK a kvs ea=>
   cases (show u=Value.ref a from rx);obtain⟨_,_,vs,_,p⟩:=(show dB X.prog X.w H s.heap a (.dK kvs)from I.aJ a _ ea)
   obtain⟨o,es,ep,h1,h2,_⟩:=p;exact⟨_,PySem.W.kitx_dict,⟨o,h1,h2.1⟩,fun z=>nomatch z⟩
 | @dT a kvs ea=>
   cases (show u=Value.ref a from rx);obtain⟨_,_,xs,_,o,es,ep,h1,h2,_⟩:=(show dB X.prog X.w H s.heap a (.dT kvs)from I.aJ a _ ea)
   exact⟨_,PySem.W.kitx_dict,⟨o,h1,h2.1⟩,fun z=>nomatch z⟩
def oS:List D->Option (List String)
 | []=>some []
 | .ty b::r=>(oS r).map (b:: ·)
 |_::_=>none
theorem zi{α:List (Option Addr)}{H:Hp}:∀ {ds:List D} {vs:List V} {bs:List String},aH α H ds vs->oS ds=some bs->vs=bs.map V.ty
 | [],vs,bs,r,e=>by
   unfold aH at r;cases e;exact r
 |d::ds,vs,bs,r,e=>by
  unfold aH at r;obtain⟨v,q,rfl,h1,h2⟩:=r;cases d<;>try(cases e;done)
  unfold oS at e;cases z:oS ds with
  |none=>rw[z]at e;cases e
  |some cs=>
   rw[z]at e;cases e;unfold Rep at h1;rw[h1,zi h2 z];rfl
theorem zq:∀ {bs:List String} {us:List Value},Vals (bs.map V.ty) us->us=bs.map Value.type
 | [],_,.nil=>rfl
 |b::bs,_,.cons h t=>by
  have h:_=Value.type b:=h;rw[h,zq t];rfl
theorem Af(K:PySem.W.Frag){t:String}(ht:t∈rJ):∀cs:List String,(∀c∈cs,c∈mV)->PySem.W.kitAny K (.type t) (cs.map Value.type)=some (cs.any (uc t))
 | [],_=>rfl
 |c::cs,h=>by
  show(match PySem.W.kitOne K (.type t) (.type c)with|some true=>some true|some false=>PySem.W.kitAny K (.type t) (cs.map Value.type)|none=>none)=_;rw[Am K ht (h c List.mem_cons_self),List.any_cons];cases uc t c with
  |true=>rfl
  |false=>exact Af K ht cs fun c hc=>h c (List.mem_cons_of_mem _ hc)
def xU:eV:=fun ds st K=>match ds with
 | [d,.ty c]=>(match jo st d with|some t=>c∈mV/\K (.bl (uc t c)) st|none=>False)
 | [d,.tup cs]=>(match jo st d,oS cs with|some t,some cl=>(∀c∈cl,c∈mV)/\K (.bl (cl.any (uc t))) st|_,_=>False)
 |_=>False
theorem Mv:bp X (.builtin "isinstance") (fB xU):=fun pins s σ H xs us Q I rs ⟨α,ds,st,K,G,F',P,r,S,q,k⟩=>by
 unfold xU at q;split at q
 . rename_i d c;split at q
   . rename_i t e;obtain⟨v,v2,rfl,r1,r2⟩:=pz r rfl;obtain⟨u,u2,rfl,ru,ru2⟩:=vals2 rs;unfold Rep at r2;subst r2;cases (show u2=Value.type c from ru2);exact Eh I ru (zU P (yT S r1 e)) (Am _ (yO e) q.1) fun tk=>⟨.bl (uc t c),H,I.tok tk,rfl,k.here P q.2 S (by unfold Rep;rfl)⟩
   . exact q.elim
 . rename_i d cs;split at q
   . rename_i t cl e ec;obtain⟨v,v2,rfl,r1,r2⟩:=pz r rfl;obtain⟨u,u2,rfl,ru,ru2⟩:=vals2 rs;unfold Rep at r2;obtain⟨a,vs,rfl,na,h1,h2⟩:=r2;cases (show u2=Value.ref a from ru2);have hv:=zi h2 ec;subst hv;obtain⟨Hh,Z,hh,hne⟩:=kitx_of I ru (zU P (yT S r1 e));obtain⟨its,r',pl,hz⟩:=I.tuple (i3.of (P.get h1));have hi:=zq r';subst hi;obtain⟨⟨cls,dd,data,sl⟩,ho,hc,n,hd⟩:=pl;simp only at hc hd;subst hc hd;exact PySem.W.kia_tup Z I.iD hh ho (Af _ (yO e) cl q.1) hne fun tk=>⟨.bl _,H,I.tok tk,rfl,k.here P q.2 S (by unfold Rep;rfl)⟩
   . exact q.elim
 . exact q.elim
end
end L3
namespace L3
open PySem PySem.Spec L2 PySem.SeqAt
open PyProof.Rows hiding St
mutual
def cN:D->D->Bool
 | .aL,.aL=>true
 | .bl a,.bl b=>a==b
 | .bl a,.int b=>(if a then 1 else 0)==b
 | .int a,.bl b=>a==(if b then 1 else 0)
 | .int a,.int b=>a==b
 | .str a,.str b=>a==b
 | .lst xs,.lst ys=>kF xs ys
 | .tup xs,.tup ys=>kF xs ys
 |_,_=>false
def kF:List D->List D->Bool
 | [],[]=>true
 |x::xs,y::ys=>cN x y&&kF xs ys
 |_,_=>false
end
def pl:Nat->D->Bool
 |_,.aL=>true
 |_,.bl _=>true
 |_,.int _=>true
 |_,.str _=>true
 |n+1,.lst xs=>xs.all (pl n)
 |n+1,.tup xs=>xs.all (pl n)
 |_,_=>false
mutual
theorem nt:∀(n:Nat) (d:D),pl n d=true->cN d d=true
 |_,.aL,_=>rfl
 |_,.bl _,_=>by simp[cN]
 |_,.int _,_=>by simp[cN]
 |_,.str _,_=>by simp[cN]
 |n+1,.lst xs,h=>by unfold cN;exact rh n xs (by unfold pl at h;exact h)
 |n+1,.tup xs,h=>by unfold cN;exact rh n xs (by unfold pl at h;exact h)
 |0,.lst xs,h=>by cases h
 |0,.tup xs,h=>by cases h
 |_,.ref _,h=>by unfold pl at h;cases h
 |_,.ty _,h=>by unfold pl at h;cases h
theorem rh:∀(n:Nat) (xs:List D),xs.all (pl n)=true->kF xs xs=true
 |_,[],_=>by unfold kF;rfl
 |n,x::xs,h=>by
  rw[List.all_cons,Bool.and_eq_true]at h;unfold kF;rw[nt n x h.1,rh n xs h.2];rfl
end
mutual
theorem Rep.inj{α:List (Option Addr)}{H:Hp}:∀ {d e:D} {v:V} (n:Nat),pl n d=true->pl n e=true->Rep α H d v->Rep α H e v->d=e
 | .aL,e,v,n,_,he,h1,h2=>by
   unfold Rep at h1;subst h1;cases e<;>first|(unfold pl at he;cases he;done)|(unfold Rep at h2;cases h2;rfl)|(unfold Rep at h2;cases h2;done)|(unfold Rep at h2;obtain⟨_,_,h2,_⟩:=h2;cases h2)|rfl|(cases h2;done)|(obtain⟨_,_,h2,_⟩:=h2;cases h2)|(obtain⟨_,_,h2⟩:=h2;cases h2)
 | .bl b,e,v,n,_,he,h1,h2=>by
   unfold Rep at h1;subst h1;cases e<;>first|(unfold pl at he;cases he;done)|(unfold Rep at h2;cases h2;rfl)|(unfold Rep at h2;cases h2;done)|(unfold Rep at h2;obtain⟨_,_,h2,_⟩:=h2;cases h2)|(cases h2;rfl)|(cases h2;done)|(obtain⟨_,_,h2,_⟩:=h2;cases h2)|(obtain⟨_,_,h2⟩:=h2;cases h2)
 | .int b,e,v,n,_,he,h1,h2=>by
   unfold Rep at h1;subst h1;cases e<;>first|(unfold pl at he;cases he;done)|(unfold Rep at h2;cases h2;rfl)|(unfold Rep at h2;cases h2;done)|(unfold Rep at h2;obtain⟨_,_,h2,_⟩:=h2;cases h2)|(cases h2;rfl)|(cases h2;done)|(obtain⟨_,_,h2,_⟩:=h2;cases h2)|(obtain⟨_,_,h2⟩:=h2;cases h2)
 | .str b,e,v,n,_,he,h1,h2=>by
   unfold Rep at h1;subst h1;cases e<;>first|(unfold pl at he;cases he;done)|(unfold Rep at h2;cases h2;rfl)|(unfold Rep at h2;cases h2;done)|(unfold Rep at h2;obtain⟨_,_,h2,_⟩:=h2;cases h2)|(cases h2;rfl)|(cases h2;done)|(obtain⟨_,_,h2,_⟩:=h2;cases h2)|(obtain⟨_,_,h2⟩:=h2;cases h2)
 | .ty b,e,v,n,hd,he,h1,h2=>by unfold pl at hd;cases hd
 | .ref b,e,v,n,hd,he,h1,h2=>by unfold pl at hd;cases hd
 | .lst xs,e,v,0,hd,he,h1,h2=>by cases hd
 | .tup xs,e,v,0,hd,he,h1,h2=>by cases hd
 | .lst xs,e,v,n+1,hd,he,h1,h2=>by
   unfold Rep at h1;obtain⟨a,vs,rfl,na,ha,ra⟩:=h1;cases e<;>unfold Rep at h2<;>try(cases h2;done)
   . unfold pl at he;cases he
   . obtain⟨a',vs',e',na',ha',ra'⟩:=h2;cases e'
     have:vs=vs':=by
      rcases ha with ha|⟨o,ha⟩<;>rcases ha' with ha'|⟨o',ha'⟩<;>(rw[ha]at ha';first|(cases ha';rfl)|(cases ha';done))
     subst this;rw[aH.inj n (by unfold pl at hd;exact hd) (by unfold pl at he;exact he) ra ra']
   . obtain⟨a',vs',e',na',ha',ra'⟩:=h2;cases e';rcases ha with ha|⟨o,ha⟩<;>(rw[ha]at ha';cases ha')
 | .tup xs,e,v,n+1,hd,he,h1,h2=>by
   unfold Rep at h1;obtain⟨a,vs,rfl,na,ha,ra⟩:=h1;cases e<;>unfold Rep at h2<;>try(cases h2;done)
   . unfold pl at he;cases he
   . obtain⟨a',vs',e',na',ha',ra'⟩:=h2;cases e';rcases ha' with ha'|⟨o,ha'⟩<;>(rw[ha]at ha';cases ha')
   . obtain⟨a',vs',e',na',ha',ra'⟩:=h2;cases e';rw[ha]at ha';cases ha';rw[aH.inj n (by unfold pl at hd;exact hd) (by unfold pl at he;exact he) ra ra']
theorem aH.inj{α:List (Option Addr)}{H:Hp}:∀ {ds es:List D} {vs:List V} (n:Nat),ds.all (pl n)=true->es.all (pl n)=true->aH α H ds vs->aH α H es vs->ds=es
 | [],es,vs,n,_,_,h1,h2=>by
   unfold aH at h1;subst h1;cases es with
   |nil=>rfl
   |cons e es=>unfold aH at h2;obtain⟨_,_,h,_⟩:=h2;cases h
 |d::ds,es,vs,n,hd,he,h1,h2=>by
  unfold aH at h1;obtain⟨v,r,rfl,r1,r2⟩:=h1;cases es with
  |nil=>unfold aH at h2;cases h2
  |cons e es=>
   unfold aH at h2;obtain⟨v',r',h,q1,q2⟩:=h2;cases h;rw[List.all_cons,Bool.and_eq_true]at hd he;rw[Rep.inj n hd.1 he.1 r1 q1,aH.inj n hd.2 he.2 r2 q2]
end
theorem nC:∀ {xs ys:List D},xs.length≠ys.length->kF xs ys=false
 | [],[],h=>absurd rfl h
 | [],_::_,_=>by unfold kF;rfl
 |_::_,[],_=>by unfold kF;rfl
 |x::xs,y::ys,h=>by
  unfold kF;rw[nC (by simpa using h),Bool.and_false]
theorem nM:∀ {xs ys:List D},xs.length=ys.length->kF xs ys=(List.range xs.length).all fun j=>cN (xs.getD j .aL) (ys.getD j .aL)
 | [],[],_=>by unfold kF;rfl
 | [],_::_,h=>by cases h
 |_::_,[],h=>by cases h
 |x::xs,y::ys,h=>by
  unfold kF;rw[List.length_cons,List.range_succ_eq_map,List.all_cons,List.all_map,nM (by simpa using h)];rfl
section
variable {X:Cx}{pins:List (Addr×Obj)}{σ:L2.St}{H:Hp}{s:Shared}{α:List (Option Addr)}
theorem jQ{xs:List D}{vs:List V}{its:List Value}(r:aH α H xs vs)(v:Vals vs its)(j:Nat)(hj:j<its.length):∃x,xs[j]?=some (xs.getD j .aL)/\Rep α H (xs.getD j .aL) x/\RelV x its[j]:=by
 have h1:=r.length;have h2:=v.length;have hx:j<xs.length:=by omega
 have e:xs[j]?=some (xs.getD j .aL):=by rw[List.getElem?_eq_getElem hx,List.getD_eq_getElem?_getD,List.getElem?_eq_getElem hx];rfl
 obtain⟨x,q,rr⟩:=r.get e;obtain⟨u,q2,rv⟩:=v.get q;rw[List.getElem?_eq_getElem hj]at q2;cases q2;exact⟨x,e,rr,rv⟩
theorem iS{xs:List D}{n:Nat}(h:xs.all (pl n)=true)(j:Nat):pl n (xs.getD j .aL)=true:=by
 rw[List.getD_eq_getElem?_getD];cases e:xs[j]? with
 |none=>cases n<;>rfl
 |some d=>exact List.all_eq_true.mp h d (List.mem_of_getElem? e)
def wa:D->Bool
 | .aL=>true
 | .bl _=>true
 | .int _=>true
 | .str _=>true
 |_=>false
theorem Aw{A:Around}{d e:D}{x y:V}{u v:Value}(hd:wa d=true)(he:wa e=true)(rd:Rep α H d x)(re:Rep α H e y)(rx:RelV x u)(ry:RelV y v):RcAt A s u v (cN d e)/\EqAt A s u v (cN d e):=by
 cases d<;>cases e<;>try(first|(cases hd;done)|(cases he;done))
 all_goals(unfold Rep at rd re;subst rd re)
 all_goals(first|(obtain⟨t,rfl⟩:=rx;obtain⟨t',rfl⟩:=ry)|(obtain⟨t,rfl⟩:=rx;cases ry)|(cases rx;obtain⟨t,rfl⟩:=ry)|(cases rx;cases ry))
 all_goals unfold cN
 . exact⟨RcAt.none_none,EqAt.same _⟩
 . exact⟨RcAt.none_bool _,EqAt.none_bool _⟩
 . exact⟨RcAt.none_int _ _,EqAt.none_int _ _⟩
 . exact⟨RcAt.none_str _ _,EqAt.none_str _ _⟩
 . exact⟨RcAt.bool_none _,EqAt.bool_none _⟩
 . exact⟨RcAt.bool_bool _ _,EqAt.bool_bool _ _⟩
 . exact⟨RcAt.bool_int _ _ _,EqAt.bool_int _ _ _⟩
 . exact⟨RcAt.bool_str _ _ _,EqAt.bool_str _ _ _⟩
 . exact⟨RcAt.int_none _ _,EqAt.int_none _ _⟩
 . exact⟨RcAt.int_bool _ _ _,EqAt.int_bool _ _ _⟩
 . exact⟨RcAt.int_int _ _ _ _,EqAt.int_int _ _ _ _⟩
 . exact⟨RcAt.int_str _ _ _ _,EqAt.int_str _ _ _ _⟩
 . exact⟨RcAt.str_none _ _,EqAt.str_none _ _⟩
 . exact⟨RcAt.str_bool _ _ _,EqAt.str_bool _ _ _⟩
 . exact⟨RcAt.str_int _ _ _ _,EqAt.str_int _ _ _ _⟩
 . exact⟨RcAt.str_str _ _ _ _,EqAt.str_str _ _ _ _⟩
theorem lst_is(I:Inv X pins σ H s){xs:List D}{x:V}{u:Value}(r:Rep α H (.lst xs) x)(rx:RelV x u):∃a vs its,u= .ref a/\aH α H xs vs/\Vals vs its/\s.heap.IsList a its.toArray:=by
 unfold Rep at r;obtain⟨a,vs,rfl,na,ha,ra⟩:=r;cases rx;obtain⟨z,its,n,rv,hl,eo⟩:=Inv.vV I ha;exact⟨a,vs,its,rfl,ra,rv,⟨_,eo,rfl,n,rfl⟩⟩
theorem tup_is(I:Inv X pins σ H s){xs:List D}{x:V}{u:Value}(r:Rep α H (.tup xs) x)(rx:RelV x u):∃a vs its,u= .ref a/\aH α H xs vs/\Vals vs its/\s.heap.IsTuple a its.toArray:=by
 unfold Rep at r;obtain⟨a,vs,rfl,na,ha,ra⟩:=r;cases rx;obtain⟨its,r',p,hz⟩:=I.tuple (i3.of ha);exact⟨a,vs,its,rfl,ra,r',p⟩
theorem wK(I:Inv X pins σ H s){A:Around}{xs:List D}{e:D}{x y:V}{u v:Value}(he:wa e=true)(rd:Rep α H (.lst xs) x)(re:Rep α H e y)(rx:RelV x u)(ry:RelV y v)(hu:A.units<cLine):
 (RcAt A s u v (cN (.lst xs) e)/\EqAt A s u v (cN (.lst xs) e))/\RcAt A s v u (cN e (.lst xs))/\EqAt A s v u (cN e (.lst xs)):=by
 obtain⟨a,vs,its,rfl,_,_,hl⟩:=lst_is I rd rx;cases e<;>try(cases he;done)
 all_goals(unfold Rep at re;subst re)
 all_goals(first|(obtain⟨t,rfl⟩:=ry)|(cases ry))
 all_goals unfold cN
 . exact⟨⟨RcAt.list_none hl hu,EqAt.list_none hl hu⟩,RcAt.none_list hl hu,EqAt.none_list hl hu⟩
 . exact⟨⟨RcAt.list_bool _ hl hu,EqAt.list_bool _ hl hu⟩,RcAt.bool_list _ hl hu,EqAt.bool_list _ hl hu⟩
 . exact⟨⟨RcAt.list_int _ _ hl hu,EqAt.list_int _ _ hl hu⟩,RcAt.int_list _ _ hl hu,EqAt.int_list _ _ hl hu⟩
 . exact⟨⟨RcAt.list_str _ _ hl hu,EqAt.list_str _ _ hl hu⟩,RcAt.str_list _ _ hl hu,EqAt.str_list _ _ hl hu⟩
theorem wY(I:Inv X pins σ H s){A:Around}{xs:List D}{e:D}{x y:V}{u v:Value}(he:wa e=true)(rd:Rep α H (.tup xs) x)(re:Rep α H e y)(rx:RelV x u)(ry:RelV y v)(hu:A.units<cLine):
 (RcAt A s u v (cN (.tup xs) e)/\EqAt A s u v (cN (.tup xs) e))/\RcAt A s v u (cN e (.tup xs))/\EqAt A s v u (cN e (.tup xs)):=by
 obtain⟨a,vs,its,rfl,_,_,hl⟩:=tup_is I rd rx;cases e<;>try(cases he;done)
 all_goals(unfold Rep at re;subst re)
 all_goals(first|(obtain⟨t,rfl⟩:=ry)|(cases ry))
 all_goals unfold cN
 . exact⟨⟨RcAt.tuple_none hl hu,EqAt.tuple_none hl hu⟩,RcAt.none_tuple hl hu,EqAt.none_tuple hl hu⟩
 . exact⟨⟨RcAt.tuple_bool _ hl hu,EqAt.tuple_bool _ hl hu⟩,RcAt.bool_tuple _ hl hu,EqAt.bool_tuple _ hl hu⟩
 . exact⟨⟨RcAt.tuple_int _ _ hl hu,EqAt.tuple_int _ _ hl hu⟩,RcAt.int_tuple _ _ hl hu,EqAt.int_tuple _ _ hl hu⟩
 . exact⟨⟨RcAt.tuple_str _ _ hl hu,EqAt.tuple_str _ _ hl hu⟩,RcAt.str_tuple _ _ hl hu,EqAt.str_tuple _ _ hl hu⟩
theorem AK{A:Around}{n:Nat}{d e:D}{x y:V}{a b:Addr}(hd:pl n d=true)(he:pl n e=true)(rd:Rep α H d x)(re:Rep α H e y)(rx:RelV x (.ref a))(ry:RelV y (.ref b))(h:RcAt A s (.ref a) (.ref b) (cN d e)):
 RcAt A s (.ref a) (.ref b) (cN d e)/\EqAt A s (.ref a) (.ref b) (cN d e):=by
 refine⟨h,?_⟩;by_cases hab:a=b
 . subst hab;have hx:x=y:=RelV.inj rx ry;subst hx;have:=Rep.inj n hd he rd re;subst this;rw[nt n d hd];exact EqAt.same _
 . exact EqAt.of_refs hab h
theorem BO(I:Inv X pins σ H s):∀(n:Nat) (A:Around) (d e:D) (x y:V) (u v:Value),pl n d=true->pl n e=true->Rep α H d x->Rep α H e y->RelV x u->RelV y v->A.units+n<cLine->
 RcAt A s u v (cN d e)/\EqAt A s u v (cN d e):=by
 intro n;induction n with
 |zero=>
  intro A d e x y u v hd he rd re rx ry hu;refine Aw ?_ ?_ rd re rx ry
  . cases d<;>first|rfl|(cases hd)
  . cases e<;>first|rfl|(cases he)
 |succ n ih=>
  intro A d e x y u v hd he rd re rx ry hu;have hu0:A.units<cLine:=by omega
  have hin:A.in1.units+n<cLine:=by rw[Around.in1_units];omega
  cases d<;>try(cases hd;done)
  case lst xs=>
   cases e<;>try(cases he;done)
   case lst ys=>
    have rd0:=rd;have re0:=re;have rx0:=rx;have ry0:=ry;obtain⟨a,vs,its,rfl,r1,v1,l1⟩:=lst_is I rd rx;obtain⟨b,ws,jts,rfl,r2,v2,l2⟩:=lst_is I re ry;have e1:=r1.length;have e2:=v1.length;have e3:=r2.length;have e4:=v2.length;refine AK hd he rd0 re0 rx0 ry0 ?_;unfold cN;by_cases hlen:xs.length=ys.length
    . rw[nM hlen];have hsz:its.toArray.size=jts.toArray.size:=by simp only[List.size_toArray];omega
      have hx:xs.length=its.toArray.size:=by simp only[List.size_toArray];omega
      rw[hx];refine RcAt.lists l1 l2 hsz hu0 fun j h1 h2=>?_;have h1':j<its.length:=by simpa using h1
      have h2':j<jts.length:=by simpa using h2
      obtain⟨p,_,q1,q2⟩:=jQ r1 v1 j h1';obtain⟨p',_,q1',q2'⟩:=jQ r2 v2 j h2';exact(ih A.in1 _ _ p p' _ _ (iS (by unfold pl at hd;exact hd) j) (iS (by unfold pl at he;exact he) j) q1 q1' (by simpa using q2) (by simpa using q2') hin).2
    . rw[nC hlen];exact RcAt.lists_lengths l1 l2 (by simp only[List.size_toArray,bne_iff_ne,ne_eq];omega) hu0
   case tup ys=>
    obtain⟨a,vs,its,rfl,r1,v1,l1⟩:=lst_is I rd rx;obtain⟨b,ws,jts,rfl,r2,v2,l2⟩:=tup_is I re ry;unfold cN;exact⟨RcAt.list_tuple l1 l2 hu0,EqAt.list_tuple l1 l2 hu0⟩
   all_goals exact(wK I rfl rd re rx ry hu0).1
  case tup xs=>
   cases e<;>try(cases he;done)
   case tup ys=>
    have rd0:=rd;have re0:=re;have rx0:=rx;have ry0:=ry;obtain⟨a,vs,its,rfl,r1,v1,l1⟩:=tup_is I rd rx;obtain⟨b,ws,jts,rfl,r2,v2,l2⟩:=tup_is I re ry;have e1:=r1.length;have e2:=v1.length;have e3:=r2.length;have e4:=v2.length;refine AK hd he rd0 re0 rx0 ry0 ?_;unfold cN
    have key:=RcAt.tuples (e:=fun j=>cN (xs.getD j .aL) (ys.getD j .aL)) l1 l2 hu0 fun j h1 h2=>by
     have h1':j<its.length:=by simpa using h1
     have h2':j<jts.length:=by simpa using h2
     obtain⟨p,_,q1,q2⟩:=jQ r1 v1 j h1';obtain⟨p',_,q1',q2'⟩:=jQ r2 v2 j h2';exact(ih A.in1 _ _ p p' _ _ (iS (by unfold pl at hd;exact hd) j) (iS (by unfold pl at he;exact he) j) q1 q1' (by simpa using q2) (by simpa using q2') hin).2
    by_cases hlen:xs.length=ys.length
    . rw[nM hlen];have hsz:its.toArray.size=jts.toArray.size:=by simp only[List.size_toArray];omega
      have hx:xs.length=its.toArray.size:=by simp only[List.size_toArray];omega
      rw[hsz,Nat.min_self,beq_self_eq_true,Bool.and_true,<-hsz,<-hx]at key;exact key
    . rw[nC hlen];have hne:(its.toArray.size==jts.toArray.size)=false:=by simp only[List.size_toArray,beq_eq_false_iff_ne,ne_eq];omega
      rw[hne,Bool.and_false]at key;exact key
   case lst ys=>
    obtain⟨a,vs,its,rfl,r1,v1,l1⟩:=tup_is I rd rx;obtain⟨b,ws,jts,rfl,r2,v2,l2⟩:=lst_is I re ry;unfold cN;exact⟨RcAt.tuple_list l1 l2 hu0,EqAt.tuple_list l1 l2 hu0⟩
   all_goals exact(wY I rfl rd re rx ry hu0).1
  all_goals
   cases e<;>try(cases he;done)
   case lst ys=>exact(wK I rfl re rd ry rx hu0).2
   case tup ys=>exact(wY I rfl re rd ry rx hu0).2
   all_goals exact Aw rfl rfl rd re rx ry
def J9:dc:=fun x y st K=>pl 40 x=true/\pl 40 y=true/\K (.bl (cN x y)) st
theorem NI{k:Nat}(hr:cT k X.A):bS X (compareOp .Eq) (LR J9):=fun pins s σ H x y v u Q I rx ry ⟨α,d,e,st,K,G,F',P,r1,r2,S,q,k⟩=>by
 have hu:=hr.units;exact(BO I 40 X.A d e x y v u q.1 q.2.1 (r1.mono P.same) (r2.mono P.same) rx ry (by omega)).1 _ _ _ _ ⟨.bl (cN d e),H,I,rfl,k.here P q.2.2 S (by unfold Rep;rfl)⟩
def Ky:dc:=fun x y st K=>match x,y with
 | .int i,.int j=>K (.bl (!decide (i=j))) st
 | .bl i,.bl j=>K (.bl (!decide (i=j))) st
 | .str i,.str j=>K (.bl (!decide (i=j))) st
 |_,_=>False
theorem NH:bS X (compareOp .NotEq) (LR Ky):=bS.imp LL fun x y H Q ⟨α,d,e,st,K,G,F',P,r1,r2,S,q,k⟩=>by
 cases d<;>cases e<;>try exact q.elim
 all_goals(unfold Rep at r1 r2;subst r1 r2)
 . exact⟨rfl,k.here P q S (by unfold Rep;congr 2;exact decide_eq_decide.mpr ⟨fun h=>by cases h;rfl,fun h=>by rw[h]⟩)⟩
 . exact⟨rfl,k.here P q S (by unfold Rep;congr 2;exact decide_eq_decide.mpr ⟨fun h=>by cases h;rfl,fun h=>by rw[h]⟩)⟩
 . exact⟨rfl,k.here P q S (by unfold Rep;congr 2;exact decide_eq_decide.mpr ⟨fun h=>by cases h;rfl,fun h=>by rw[h]⟩)⟩
end
end L3
namespace L3
open PySem PySem.Spec L2
open PyProof.Rows hiding St
def LC(α:List (Option Addr))(G F:Hp)(K:cv->af->Prop)(Q:L2.St->Hp->Prop):Prop:=∀σd' st',K σd' st'->∀α' G' H' σ',Step α G α' G'->cf G' F H'->d_ α' G' σd' σ'->aS α' st' G'->Q σ' H'
structure xQ(α:List (Option Addr))(G F:Hp)(DD:og)(D:Ends):Prop where
 nx:LC α G F DD.nx D.nx
 rt:LK α G F DD.rt D.rt
 bk:LC α G F DD.bk D.bk
 ct:LC α G F DD.ct D.ct
inductive MW(t:DS)(D:Ends)(σ:L2.St)(H:Hp):Prop
 |mk (α:List (Option Addr)) (σd:cv) (st:af) (DD:og) (G F:Hp) (P:cf G F H) (R:d_ α G σd σ) (S:aS α st G) (h:t DD σd st) (k:xQ α G F DD D):MW t D σ H
def LS(t:DS):TS:=MW t
theorem LC.at{α α1:List (Option Addr)}{G F G1:Hp}{K:cv->af->Prop}{Q:L2.St->Hp->Prop}(h:LC α G F K Q)(s:Step α G α1 G1):LC α1 G1 F K Q:=fun d st' k α' G' H' v s' P R S=>h d st' k α' G' H' v (s.trans s') P R S
theorem LC.here{α:List (Option Addr)}{G F H:Hp}{K:cv->af->Prop}{Q:L2.St->Hp->Prop}(h:LC α G F K Q)(P:cf G F H){σd:cv}{st:af}{σ:L2.St}(k:K σd st)(R:d_ α G σd σ)(S:aS α st G):Q σ H:=h σd st k α G H σ Step.refl P R S
theorem xQ.at{α α1:List (Option Addr)}{G F G1:Hp}{DD:og}{D:Ends}(h:xQ α G F DD D)(s:Step α G α1 G1):xQ α1 G1 F DD D:=⟨h.nx.at s,h.rt.at s,h.bk.at s,h.ct.at s⟩
section
variable {X:Cx}{a b c e o i:Expr}{es:List Expr}{ta tb tc te:DE}{pos:Pos}{st:Stmt}{sts:List Stmt}{t u:DS}
theorem PS.imp{t t':TS}(h:PS X st t)(f:∀D σ H,t' D σ H->t D σ H):PS X st t':=fun pins s σ H D I q=>h pins s σ H D I (f D σ H q)
theorem gM.imp{t t':TS}(h:gM X sts t)(f:∀D σ H,t' D σ H->t D σ H):gM X sts t':=fun pins s σ H D I q=>h pins s σ H D I (f D σ H q)
def c6:DS:=fun D σ st=>D.nx σ st
def aQ(t u:DS):DS:=fun D σ st=>t {D with nx:=u D} σ st
theorem HN:gM X [] (LS c6):=gM.imp GP fun D σ H ⟨α,σd,st,DD,G,F,P,R,S,t,k⟩=>k.nx.here P t R S
theorem HD(h:PS X st (LS t)):gM X [st] (LS t):=HP h
theorem E4(h:PS X st (LS t))(h2:gM X sts (LS u)):gM X (st::sts) (LS (aQ t u)):=gM.imp (Fp h h2) fun D σ H ⟨α,σd,st,DD,G,F,P,R,S,t,k⟩=>
 ⟨α,σd,st,_,G,F,P,R,S,t,fun σd' st' q α' G' H' σ' s' P' R' S'=>⟨α',σd',st',DD,G',F,P',R',S',q,k.at s'⟩,k.rt,k.bk,k.ct⟩
def bE(te:DE):DS:=fun D σ st=>te σ st D.rt
theorem KI(h:PE X e (LE te)):PS X (.Return (some e) pos) (LS (bE te)):=PS.imp (J6 h) fun D σ H ⟨α,σd,st,DD,G,F,P,R,S,t,k⟩=>⟨α,σd,st,_,G,F,P,R,S,t,k.rt⟩
def nX(te:DE):DS:=fun D σ st=>te σ st fun _ st1=>D.nx σ st1
theorem GH(h:PE X e (LE te))(hs:swapsWith e none pos.line X.env=pure false:=by rfl):PS X (.Expr e pos) (LS (nX te)):=PS.imp (H0 h hs) fun D σ H ⟨α,σd,st,DD,G,F,P,R,S,t,k⟩=>
 ⟨α,σd,st,_,G,F,P,R,S,t,fun d st1 q α1 G1 H1 v s1 P1 S1 r1=>(k.nx.at s1).here P1 q (R.step s1) S1⟩
def d9(c:DT)(t u:DS):DS:=fun D σ st=>c σ st fun b st1=>if b=true then t D σ st1 else u D σ st1
theorem Mz{x y:List Stmt}{tc:DT}(hc:PT X c (LT tc))(ha:gM X x (LS t))(hb:gM X y (LS u)):PS X (.If c x y pos) (LS (d9 tc t u)):=PS.imp (Mg hc ha hb) fun D σ H ⟨α,σd,st,DD,G,F,P,R,S,t,k⟩=>by
 refine⟨α,σd,st,_,G,F,P,R,S,t,fun b st1 q α1 G1 H1 s1 P1 S1=>?_⟩;cases b with
 |true=>exact⟨α1,σd,st1,DD,G1,F,P1,R.step s1,S1,q,k.at s1⟩
 |false=>exact⟨α1,σd,st1,DD,G1,F,P1,R.step s1,S1,q,k.at s1⟩
abbrev fM:=D->cv->Option cv
def bH(i:Nat):fM:=fun d σ=>some (σ.set i (some d))
def jb(i j:Nat):fM:=fun d σ=>match d with| .tup [x,y]=>some ((σ.set i (some x)).set j (some y))|_=>none
inductive ME(t:fM)(v:V)(σ:L2.St)(H:Hp)(Q:L2.St->Hp->Prop):Prop
 |mk (α:List (Option Addr)) (σd:cv) (st:af) (d:D) (K:cv->af->Prop) (G F:Hp) (P:cf G F H) (R:d_ α G σd σ) (S:aS α st G) (r:Rep α G d v) (h:∃σ',t d σd=some σ'/\K σ' st) (k:LC α G F K Q):ME t v σ H Q
def LG(t:fM):TG:=ME t
theorem PG.imp{tg:Expr}{t t':TG}(h:PG X tg t)(f:∀v σ H Q,t' v σ H Q->t v σ H Q):PG X tg t':=fun pins s σ H v u Q I r q=>h pins s σ H v u Q I r (f v σ H Q q)
theorem HE{tg:Expr}{i:Nat}(h:PG X tg (mD i)):PG X tg (LG (bH i)):=PG.imp h fun v σ H Q ⟨α,σd,st,d,K,G,F,P,R,S,r,⟨σ',e,q⟩,k⟩=>by
 cases e;exact k.here P q (R.set i r) S
theorem Iq{tg:Expr}{i j:Nat}(h:PG X tg (Kq X.K 2 (Bf (mD i) (Bf (mD j) Jv)))):PG X tg (LG (jb i j)):=PG.imp h fun v σ H Q ⟨α,σd,st,d,K,G,F,P,R,S,r,⟨σ',e,q⟩,k⟩=>by
 unfold jb at e;split at e
 . rename_i x y;cases e;unfold Rep at r;obtain⟨a,vs,rfl,na,h1,h2⟩:=r;obtain⟨v1,v2,rfl,r1,r2⟩:=pz h2 rfl;exact⟨a,_,rfl,.of (P.get h1),rfl,v1,_,rfl,v2,_,rfl,rfl,k.here P q ((R.set i r1).set j r2) S⟩
 . cases e
def cx(i:Nat)(te:DE):DS:=fun D σ st=>te σ st fun d st1=>D.nx (σ.set i (some d)) st1
theorem Kp{i:Nat}(h:PS X st (oQ (LE te) (mD i))):PS X st (LS (cx i te)):=PS.imp h fun D σ H ⟨α,σd,st,DD,G,F,P,R,S,t,k⟩=>
 ⟨α,σd,st,_,G,F,P,R,S,t,fun d st1 q α1 G1 H1 v s1 P1 S1 r1=>(k.nx.at s1).here P1 q ((R.step s1).set i r1) S1⟩
def AZ(tg:fM)(te:DE):DS:=fun D σ st=>te σ st fun d st1=>∃σ',tg d σ=some σ'/\D.nx σ' st1
theorem IC{tg:fM}(h:PS X st (oQ (LE te) (LG tg))):PS X st (LS (AZ tg te)):=PS.imp h fun D σ H ⟨α,σd,st,DD,G,F,P,R,S,t,k⟩=>
 ⟨α,σd,st,_,G,F,P,R,S,t,fun d st1 q α1 G1 H1 v s1 P1 S1 r1=>⟨α1,σd,st1,d,DD.nx,G1,F,P1,R.step s1,S1,r1,q,k.nx.at s1⟩⟩
def AV(i:Nat)(r:dc)(te:DE):DS:=fun D σ st=>match σ[i]? with|some (some x)=>te σ st fun y st1=>r x y st1 fun z st2=>D.nx (σ.set i (some z)) st2|_=>False
def zA(f:Int->Int->Int):dc:=fun x y st K=>match x,y with| .int i,.int j=>K (.int (f i j)) st|_,_=>False
theorem Jb{i:Nat}{f:Int->Int->Int}(h:PS X st (IP i (LE te) (IX f))):PS X st (LS (AV i (zA f) te)):=PS.imp h fun D σ H ⟨α,σd,st,DD,G,F,P,R,S,t,k⟩=>by
 unfold AV at t;split at t
 . rename_i x e;obtain⟨v,ev,rv⟩:=R.at' i x e;refine⟨v,ev,α,σd,st,_,G,F,P,R,S,t,fun y st1 q α1 G1 H1 w s1 P1 S1 r1=>?_⟩;cases x<;>cases y<;>try exact q.elim
   have rv':=rv;unfold Rep at rv r1;exact⟨_,_,rv,r1,(k.nx.at s1).here P1 q ((R.step s1).set i (by unfold Rep;rfl)) S1⟩
 . exact t.elim
def Cd(x y d:D)(st:af)(K:af->Prop):Prop:=match x,y with
 | .ref n,.int k=>(match st[n]? with
   |some (.lst xs)=>(match mh xs.length k with|some j=>K (st.set n (.lst (xs.set j d)))|none=>False)
   |_=>False)
 |_,_=>False
def IQ(to ti te:DE):DS:=fun D σ st=>te σ st fun d st1=>to σ st1 fun x st2=>ti σ st2 fun y st3=>Cd x y d st3 fun st4=>D.nx σ st4
theorem E9{to ti:DE}(h:PS X st (oQ (LE te) (BB (LE to) (LE ti) x5))):PS X st (LS (IQ to ti te)):=PS.imp h fun D σ H ⟨α,σd,st,DD,G,F,P,R,S,t,k⟩=>by
 refine⟨α,σd,st,_,G,F,P,R,S,t,fun d st1 q α1 G1 H1 v s1 P1 S1 r1=>?_⟩;refine⟨α1,σd,st1,_,G1,F,P1,R.step s1,S1,q,fun x st2 q2 α2 G2 H2 v2 s2 P2 S2 r2=>?_⟩;refine⟨α2,σd,st2,_,G2,F,P2,(R.step s1).step s2,S2,q2,fun y st3 q3 α3 G3 H3 v3 s3 P3 S3 r3=>?_⟩;cases x<;>cases y<;>try exact q3.elim
 rename_i n kk;unfold Cd at q3;simp only at q3;split at q3
 . rename_i xs e;split at q3
   . rename_i j ej;obtain⟨p,ep,vs,hv,rv⟩:=S3.mT e;have r2':=e8 ep (r2.step s3);subst r2';unfold Rep at r3;have hm:some p∈α3:=List.mem_of_getElem? ep;have rd:=(r1.step s2).step s3;refine⟨p,vs,kk,j,rfl,r3,P3.get hv,by rw[<-rv.length];exact ej,?_⟩;refine(((k.nx.at s1).at s2).at s3) σd _ q3 α3 (upd G3 p (.lst (vs.set j v))) _ σ (Step.write hm) (P3.write hv) ((((R.step s1).step s2).step s3).step (Step.write hm)) ?_;exact S3.write ep ⟨vs.set j v,a6,(bw.mpr (uu rd j (bw.mp rv))).step (Step.write hm)⟩
   . exact q3.elim
 . exact q3.elim
def qy(c:DT)(tb:DS):DS:=fun D σ st=>∃W:Nat->cv->af->Prop,(∃m,W m σ st)/\∀m σ st,W m σ st->
 c σ st fun b st1=>if b=true then tb {D with nx:=fun σ' st'=>∃m',m'<m/\W m' σ' st',ct:=fun σ' st'=>∃m',m'<m/\W m' σ' st',bk:=D.nx} σ st1 else D.nx σ st1
theorem Fw{tc:DT}(h:PS X st (CY (LT tc) (LS t))):PS X st (LS (qy tc t)):=PS.imp h fun D σ H ⟨α,σd,st,DD,G,F,P,R,S,⟨W,⟨m0,w0⟩,turn⟩,k⟩=>by
 refine⟨fun m σ' H'=>∃α' σd' st' G',Step α G α' G'/\cf G' F H'/\d_ α' G' σd' σ'/\aS α' st' G'/\W m σd' st',⟨m0,α,σd,st,G,Step.refl,P,R,S,w0⟩,?_⟩;rintro m σ1 H1 ⟨α1,σd1,st1,G1,s1,P1,R1,S1,w1⟩;refine⟨α1,σd1,st1,_,G1,F,P1,R1,S1,turn m σd1 st1 w1,fun b st2 q α2 G2 H2 s2 P2 S2=>?_⟩;cases b with
 |false=>exact((k.nx.at s1).at s2).here P2 q (R1.step s2) S2
 |true=>
  refine⟨fun σ' H'=>∃m',m'<m/\∃α' σd' st' G',Step α G α' G'/\cf G' F H'/\d_ α' G' σd' σ'/\aS α' st' G'/\W m' σd' st',fun σ' H' z=>z,?_⟩;refine⟨α2,σd1,st2,_,G2,F,P2,R1.step s2,S2,q,?_⟩;refine⟨?_,(k.rt.at s1).at s2,(k.nx.at s1).at s2,?_⟩
  . rintro σd3 st3 ⟨m',hm,w3⟩ α3 G3 H3 σ3 s3 P3 R3 S3;exact⟨m',hm,α3,σd3,st3,G3,(s1.trans s2).trans s3,P3,R3,S3,w3⟩
  . rintro σd3 st3 ⟨m',hm,w3⟩ α3 G3 H3 σ3 s3 P3 R3 S3;exact⟨m',hm,α3,σd3,st3,G3,(s1.trans s2).trans s3,P3,R3,S3,w3⟩
abbrev DI:=cv->af->(List D->(af->Prop)->af->Prop)->Prop
structure vS(J:It)(α:List (Option Addr))(G:Hp)(ok:af->Prop)(xs:List D):Prop where
 stop:∀(n:Nat) α' G' F' H' st',Step α G α' G'->cf G' F' H'->aS α' st' G'->ok st'->xs.length<=n->J.stop n H'
 go:∀(n:Nat) d α' G' F' H' st',Step α G α' G'->cf G' F' H'->aS α' st' G'->ok st'->xs[n]?=some d->J.go n H'
 oX:∀(n:Nat) d α' G' F' H' st' x H'',Step α G α' G'->cf G' F' H'->aS α' st' G'->ok st'->xs[n]?=some d->J.oX n H' x H''->∃G'',Step α' G' α' G''/\cf G'' F' H''/\aS α' st' G''/\Rep α' G'' d x
def LI(t:DI):TI:=fun σ H R=>∃α σd st K G F,cf G F H/\d_ α G σd σ/\aS α st G/\t σd st K/\∀xs ok st1,K xs ok st1->∀J α1 G1 H1,Step α G α1 G1->cf G1 F H1->aS α1 st1 G1->vS J α1 G1 ok xs->R J H1
def zl(d:D)(st1:af)(K:List D->(af->Prop)->af->Prop):Prop:=match d with
 | .lst xs=>K xs (fun _=>True) st1
 | .tup xs=>K xs (fun _=>True) st1
 | .ref n=>(match st1[n]? with|some (.lst xs)=>K xs (fun st'=>st'[n]?=some (.lst xs)) st1|_=>False)
 |_=>False
def KZ(t:DE):DI:=fun σ st K=>t σ st fun d st1=>zl d st1 K
theorem AJ{K:PySem.W.Frag}{a:Addr}{α:List (Option Addr)}{G:Hp}{ok:af->Prop}{xs:List D}
 (h:∀α' G' st',Step α G α' G'->aS α' st' G'->ok st'->∃vs,Rd G' a (.lst vs)/\aH α' G' xs vs):vS (Iz K a) α G ok xs where
 stop:=fun n α' G' F' H' st' s P S o hn=>by
  obtain⟨vs,h1,h2⟩:=h α' G' st' s S o;exact⟨vs,.inl (gj P h1),by rw[<-h2.length];exact hn⟩
 go:=fun n d α' G' F' H' st' s P S o hn=>by
  obtain⟨vs,h1,h2⟩:=h α' G' st' s S o;obtain⟨v,e,_⟩:=h2.get hn;exact⟨vs,v,.inl (gj P h1),e⟩
 oX:=fun n d α' G' F' H' st' x H'' s P S o hn y=>by
  obtain⟨vs,h1,h2⟩:=h α' G' st' s S o;obtain⟨v,e,r⟩:=h2.get hn;obtain⟨rfl,y⟩:=y;have:=y vs (.inl (gj P h1));rw[e]at this;cases this;exact⟨G',Step.refl,P,S,r⟩
theorem Ji{K:PySem.W.Frag}{a:Addr}{α:List (Option Addr)}{G:Hp}{ok:af->Prop}{xs:List D}
 (h:∀α' G' st',Step α G α' G'->aS α' st' G'->ok st'->∃vs,G' a=some (.tup vs)/\aH α' G' xs vs):vS (Ik K a) α G ok xs where
 stop:=fun n α' G' F' H' st' s P S o hn=>by
  obtain⟨vs,h1,h2⟩:=h α' G' st' s S o;exact⟨vs,.of (P.get h1),by rw[<-h2.length];exact hn⟩
 go:=fun n d α' G' F' H' st' s P S o hn=>by
  obtain⟨vs,h1,h2⟩:=h α' G' st' s S o;obtain⟨v,e,_⟩:=h2.get hn;exact⟨vs,v,.of (P.get h1),e⟩
 oX:=fun n d α' G' F' H' st' x H'' s P S o hn y=>by
  obtain⟨vs,h1,h2⟩:=h α' G' st' s S o;obtain⟨v,e,r⟩:=h2.get hn;obtain⟨rfl,y⟩:=y;have:=y vs (.of (P.get h1));rw[e]at this;cases this;exact⟨G',Step.refl,P,S,r⟩
theorem Es{α α':List (Option Addr)}{G G':Hp}{a:Addr}{vs:List V}{xs:List D}(s:Step α G α' G')(na:some a∉α)(h1:Rd G a (.lst vs))(h2:aH α G xs vs):Rd G' a (.lst vs)/\aH α' G' xs vs:=by
 refine⟨?_,h2.step s⟩;rcases h1 with h|⟨o,h⟩
 . exact .inl (s.ext _ _ na h)
 . exact .inr ⟨o,s.ext _ _ na h⟩
theorem Kn{l tg:Expr}{tl:DE}(hl:PE X l (LE tl)):PI X tg l (LI (KZ tl)):=by
 intro pins s σ H R I h;obtain⟨α,σd,st,K,G,F,P,RS,S,t,k⟩:=h;refine bQ (hl pins s σ H (fun x H1=>∃d α1 G1 st1,Step α G α1 G1/\cf G1 F H1/\aS α1 st1 G1/\Rep α1 G1 d x/\zl d st1 K) I ⟨α,σd,st,_,G,F,P,RS,S,t,fun d st1 q α1 G1 H1 v s1 P1 S1 r1=>⟨d,α1,G1,st1,s1,P1,S1,r1,q⟩⟩) fun v s1 ⟨x,H1,I1,rx,d,α1,G1,st1,s1',P1,S1,r1,q⟩=>?_;unfold zl at q
 have viaL:∀ {a:Addr} {vs:List V},x= .ref a->Rd H1 a (.lst vs)->R (Iz X.K a) H1->wpAny (model X.prog X.w) X.A (pyIter v) (F0 X pins σ tg R) X.xe s1:=by
  intro a vs ex hr hR;subst ex;cases rx;obtain⟨its,rv,p,hz⟩:=I1.list (.inl hr);refine wpAny_pyIter_list p.isList ?_;refine⟨s1.heap.objs.size,[s1.heap.objs.size],_,_,H1,rfl,I1.kept (t':=s1.toks) fun b o e=>Heap.get?_push_of_some _ e,DV a _,⟨_,Heap.get?_push_size _ rfl,rfl,rfl⟩,fun b hb=>?_,hR⟩;have e:b=s1.heap.objs.size:=by simpa using hb
  subst e;exact I1.vx (Nat.le_refl _) (I1.aJ.fresh (Nat.le_refl _))
 have viaT:∀ {a:Addr} {vs:List V},x= .ref a->H1 a=some (.tup vs)->R (Ik X.K a) H1->wpAny (model X.prog X.w) X.A (pyIter v) (F0 X pins σ tg R) X.xe s1:=by
  intro a vs ex hr hR;subst ex;cases rx;obtain⟨its,rv,p,hz⟩:=I1.tuple (i3.of hr);refine wpAny_pyIter_tuple (show s1.heap.IsTuple a its.toArray from p) ?_;refine⟨s1.heap.objs.size,[s1.heap.objs.size],_,_,H1,rfl,I1.kept (t':=s1.toks) fun b o e=>Heap.get?_push_of_some _ e,BU a _,⟨_,Heap.get?_push_size _ rfl,rfl,rfl⟩,fun b hb=>?_,hR⟩;have e:b=s1.heap.objs.size:=by simpa using hb
  subst e;exact I1.vx (Nat.le_refl _) (I1.aJ.fresh (Nat.le_refl _))
 cases d<;>try exact q.elim
 . rename_i n;simp only at q;split at q
   . rename_i xs e;obtain⟨a,ea,vs,h1,h2⟩:=S1.mT e;have r1':=e8 ea r1;subst r1';refine viaL rfl (gj P1 (.of h1)) (k _ _ st1 q _ α1 G1 H1 s1' P1 S1 (AJ fun α' G' st' s S o=>?_));obtain⟨b,eb,ws,g1,g2⟩:=S.mT o
     have hb:b=a:=by
      rcases s.pre _ _ ea with z|z<;>(rw[z]at eb;cases eb)
      rfl
     subst hb;exact⟨ws,.of g1,g2⟩
   . exact q.elim
 . unfold Rep at r1;obtain⟨a,vs,rfl,na,ha,ra⟩:=r1;exact viaL rfl (gj P1 ha) (k _ _ st1 q _ α1 G1 H1 s1' P1 S1 (AJ fun α' G' st' s S o=>⟨vs,Es s na ha ra⟩))
 . unfold Rep at r1;obtain⟨a,vs,rfl,na,ha,ra⟩:=r1;exact viaT rfl (P1.get ha) (k _ _ st1 q _ α1 G1 H1 s1' P1 S1 (Ji fun α' G' st' s S o=>⟨vs,s.ext _ _ na ha,ra.step s⟩))
def dP(lo:Int)(n:Nat):List D:=(List.range n).map fun(k:Nat)=>D.int (lo+(k:Int))
theorem uG{lo:Int}{n k:Nat}:(dP lo n)[k]?=if k<n then some (.int (lo+(k:Int)))else none:=by
 unfold dP;rw[List.getElem?_map];by_cases h:k<n
 . rw[List.getElem?_range h,if_pos h];rfl
 . rw[List.getElem?_eq_none (by simpa using h),if_neg h];rfl
theorem cJ{lo:Int}{n:Nat}:(dP lo n).length=n:=by unfold dP;simp
theorem yj{α:List (Option Addr)}{G:Hp}{lo:Int}{n:Nat}:vS (vW lo n) α G (fun _=>True) (dP lo n) where
 stop:=fun m α' G' F' H' st' s P S o hn=>by rw[cJ]at hn;exact hn
 go:=fun m d α' G' F' H' st' s P S o hn=>by
  rw[uG]at hn;split at hn
  . assumption
  . cases hn
 oX:=fun m d α' G' F' H' st' x H'' s P S o hn y=>by
  obtain⟨rfl,rfl⟩:=y;rw[uG]at hn;split at hn
  . cases hn;exact⟨G',Step.refl,P,S,by unfold Rep;rfl⟩
  . cases hn
theorem PI.imp{tg iter:Expr}{t t':TI}(h:PI X tg iter t)(f:∀σ H R,t' σ H R->t σ H R):PI X tg iter t':=fun pins s σ H R I q=>h pins s σ H R I (f σ H R q)
def F6(ds:List D)(st1:af)(K:List D->(af->Prop)->af->Prop):Prop:=match ds with
 | [.int j]=>(-(2^62)<=j/\j<2^62)/\K (dP 0 j.toNat) (fun _=>True) st1
 |_=>False
def Gw(ds:List D)(st1:af)(K:List D->(af->Prop)->af->Prop):Prop:=match ds with
 | [.int i,.int j]=>(-(2^62)<=i/\i<2^62/\ -(2^62)<=j/\j<2^62)/\K (dP i (j-i).toNat) (fun _=>True) st1
 |_=>False
def GG(t:DA):DI:=fun σ st K=>t σ st fun ds st1=>F6 ds st1 K
def Hr(t:DA):DI:=fun σ st K=>t σ st fun ds st1=>Gw ds st1 K
theorem Dj{tg iter:Expr}{t:DA}(h:PI X tg iter (Ba (LA t))):PI X tg iter (LI (GG t)):=PI.imp h fun σ H R ⟨α,σd,st,K,G,F,P,RS,S,t,k⟩=>by
 refine⟨α,σd,st,_,G,F,P,RS,S,t,fun ds st1 q α1 G1 H1 vs s1 P1 S1 r1=>?_⟩;match ds,q,r1 with
 | [.int j],q,r1=>
   obtain⟨v,rfl,r2⟩:=iE r1 rfl;unfold Rep at r2;subst r2;exact⟨j,rfl,q.1.1,q.1.2,k _ _ st1 q.2 _ α1 G1 H1 s1 P1 S1 yj⟩
theorem Cg{tg iter:Expr}{t:DA}(h:PI X tg iter (A4 (LA t))):PI X tg iter (LI (Hr t)):=PI.imp h fun σ H R ⟨α,σd,st,K,G,F,P,RS,S,t,k⟩=>by
 refine⟨α,σd,st,_,G,F,P,RS,S,t,fun ds st1 q α1 G1 H1 vs s1 P1 S1 r1=>?_⟩;match ds,q,r1 with
 | [.int i,.int j],q,r1=>
   obtain⟨v,u,rfl,r2,r3⟩:=pz r1 rfl;unfold Rep at r2 r3;subst r2 r3;exact⟨i,j,rfl,q.1,k _ _ st1 q.2 _ α1 G1 H1 s1 P1 S1 yj⟩
def i4(tg:fM)(body:DS)(ok:af->Prop)(E:og):List D->cv->af->Prop
 | [],σ,st=>ok st/\E.nx σ st
 |x::xs,σ,st=>ok st/\∃σ1,tg x σ=some σ1/\body {E with nx:=i4 tg body ok E xs,ct:=i4 tg body ok E xs,bk:=E.nx} σ1 st
def iZ(src:DI)(tg:fM)(body:DS):DS:=fun D σ st=>src σ st fun xs ok st1=>i4 tg body ok D xs σ st1
theorem Jm{src:DI}{tg:fM}(h:PS X st (JN (LI src) (LG tg) (LS t))):PS X st (LS (iZ src tg t)):=PS.imp h fun D σ H ⟨α,σd,st,DD,G,F,P,R,S,tt,k⟩=>by
 refine⟨α,σd,st,_,G,F,P,R,S,tt,fun xs ok st1 q J α1 G1 H1 s1 P1 S1 it=>?_⟩;refine⟨fun i m σ' H'=>∃α' σd' st' G',Step α1 G1 α' G'/\cf G' F H'/\d_ α' G' σd' σ'/\aS α' st' G'/\i4 tg t ok DD (xs.drop i) σd' st'/\m=xs.length-i,⟨xs.length,α1,σd,st1,G1,Step.refl,P1,R.step s1,S1,q,rfl⟩,?_⟩;rintro i m σ2 H2 ⟨α2,σd2,st2,G2,s2,P2,R2,S2,q2,rfl⟩;cases e:xs[i]? with
 |none=>
  have hl:xs.length<=i:=List.getElem?_eq_none_iff.mp e;rw[List.drop_eq_nil_of_le hl]at q2;unfold i4 at q2;exact .inl ⟨it.stop i α2 G2 F H2 st2 s2 P2 S2 q2.1 hl,((k.nx.at s1).at s2).here P2 q2.2 R2 S2⟩
 |some d=>
  have hl:i<xs.length:=(List.getElem?_eq_some_iff.mp e).1
  have ed:xs.drop i=d::xs.drop (i+1):=by
   rw[List.drop_eq_getElem_cons hl];congr 1;rw[List.getElem?_eq_getElem hl]at e;exact Option.some.inj e
  rw[ed]at q2;unfold i4 at q2;obtain⟨aJ,σ3,e3,q3⟩:=q2;refine .inr ⟨it.go i d α2 G2 F H2 st2 s2 P2 S2 aJ e,fun σ' H'=>∃α' σd' st' G',Step α1 G1 α' G'/\cf G' F H'/\d_ α' G' σd' σ'/\aS α' st' G'/\i4 tg t ok DD (xs.drop (i+1)) σd' st',?_,?_⟩
  . rintro σ' H' ⟨α',σd',st',G',z1,z2,z3,z4,z5⟩;exact⟨xs.length-(i+1),by omega,α',σd',st',G',z1,z2,z3,z4,z5,rfl⟩
  . intro x H' y;obtain⟨G3,s3,P3,S3,r3⟩:=it.oX i d α2 G2 F H2 st2 x H' s2 P2 S2 aJ e y;refine⟨α2,σd2,st2,d,fun σ' st'=>σ'=σ3/\st'=st2,G3,F,P3,R2.step s3,S3,r3,⟨σ3,e3,rfl,rfl⟩,?_⟩;rintro σ' st' ⟨rfl,rfl⟩ α4 G4 H4 σ4 s4 P4 R4 S4;have s24:=(s2.trans s3).trans s4;refine⟨α4,σ',st',_,G4,F,P4,R4,S4,q3,?_,((k.rt.at s1).at s24),(k.nx.at s1).at s24,?_⟩
    . intro σd5 st5 q5 α5 G5 H5 σ5 s5 P5 R5 S5;exact⟨α5,σd5,st5,G5,s24.trans s5,P5,R5,S5,q5⟩
    . intro σd5 st5 q5 α5 G5 H5 σ5 s5 P5 R5 S5;exact⟨α5,σd5,st5,G5,s24.trans s5,P5,R5,S5,q5⟩
end
def gH(fr:List (Option Nat))(σ:cv):cv:=fr.map fun o=>o.bind fun j=>(σ[j]?).join
theorem d_.comp{α:List (Option Addr)}{G:Hp}{σd:cv}{σ:L2.St}{fr:List (Option Nat)}(h:d_ α G σd σ):d_ α G (gH fr σd) (σC fr σ):=by
 refine⟨by unfold gH σC;simp,fun i d e=>?_⟩;unfold gH at e;rw[List.getElem?_map]at e;cases q:fr[i]? with
 |none=>rw[q]at e;cases e
 |some o=>
  rw[q]at e;cases o with
  |none=>simp at e
  |some j=>
   simp only[Option.map_some,Option.some.injEq,Option.bind_some]at e
   have ej:σd[j]?=some (some d):=by
    cases r:σd[j]? with
    |none=>rw[r]at e;cases e
    |some u=>rw[r]at e;simp at e;rw[e]
   obtain⟨v,ev,rv⟩:=h.at' j d ej;refine⟨v,?_,rv⟩;unfold σC;rw[List.getElem?_map,q];simp[ev]
def cQ(tg:fM)(c:DT)(te:DE)(ok:af->Prop)(σc:cv):List D->List D->af->(List D->af->Prop)->Prop
 | [],acc,st,K=>ok st/\K acc st
 |x::xs,acc,st,K=>ok st/\∃σ2,tg x σc=some σ2/\c σ2 st fun b st1=>if b=true then te σ2 st1 fun y st2=>cQ tg c te ok σc xs (acc++[y]) st2 K else cQ tg c te ok σc xs acc st1 K
def cZ(src:DI)(fr:List (Option Nat))(tg:fM)(c:DT)(te:DE):DE:=fun σ st K=>src σ st fun xs ok st1=>xs.length<=sizeLine/\cQ tg c te ok (gH fr σ) xs [] st1 fun ys st2=>K (.lst ys) st2
def qU(src:DI)(fr:List (Option Nat))(tg:fM)(c:DT)(te:DE):DE:=fun σ st K=>src σ st fun xs ok st1=>xs.length<=sizeLine/\cQ tg c te ok (gH fr σ) xs [] st1 fun ys st2=>K (.ref st2.length) (st2++[.lst ys])
def cH:DT:=fun _ st K=>K true st
def sO(fr:List (Option Nat))(tg:fM):Prop:=∀(σ:cv) (d:D) (σ2:cv),tg d (gH fr σ)=some σ2->σ2.length=(gH fr σ).length/\∀(i:Nat) (e:D),(gH fr σ)[i]?=some (some e)->σ2[i]?=some (some e)
theorem qt{fr:List (Option Nat)}{σ:cv}{k:Nat}(h:fr[k]?=some none){e:D}(q:(gH fr σ)[k]?=some (some e)):False:=by
 unfold gH at q;rw[List.getElem?_map,h]at q;simp at q
theorem b_{fr:List (Option Nat)}{k:Nat}(h:fr[k]?=some none:=by rfl):sO fr (bH k):=fun σ d σ2 e=>by
 cases e;refine⟨List.length_set,fun i x q=>?_⟩;by_cases hi:i=k
 . subst hi;exact(qt h q).elim
 . rw[List.getElem?_set_ne (Ne.symm hi)];exact q
theorem Ag{fr:List (Option Nat)}{k j:Nat}(h:fr[k]?=some none:=by rfl)(h':fr[j]?=some none:=by rfl):sO fr (jb k j):=fun σ d σ2 e=>by
 unfold jb at e;split at e
 . cases e;refine⟨by rw[List.length_set,List.length_set],fun i x q=>?_⟩;by_cases hi:i=k
   . subst hi;exact(qt h q).elim
   . by_cases hj:i=j
     . subst hj;exact(qt h' q).elim
     . rw[List.getElem?_set_ne (Ne.symm hj),List.getElem?_set_ne (Ne.symm hi)];exact q
 . cases e
section
variable {X:Cx}
theorem IJ{c:Expr}{t:DT}(h:PT X c (LT t)):qw X [c] (LT t):=G9 h
theorem En:qw X [] (LT cH):=fun pins s σ H Q I ⟨α,σd,st,K,G,F,P,R,S,t,k⟩=>GK pins s σ H Q I (k true st t α G H Step.refl P S)
theorem LE.comp{src:DI}{fr:List (Option Nat)}{tg:fM}{c:DT}{te:DE}(fit:sO fr tg){σ:L2.St}{H:Hp}{Q:VK}{α:List (Option Addr)}{σd:cv}{st:af}{KE:List D->af->Prop}{G F:Hp}(P:cf G F H)(R:d_ α G σd σ)(S:aS α st G)
 (t:src σd st fun xs ok st1=>xs.length<=sizeLine/\cQ tg c te ok (gH fr σd) xs [] st1 KE)
 (fin:∀ys st2 α2 G2 H2 l vs,KE ys st2->Step α G α2 G2->cf G2 (upd F l (.lst vs)) H2->F l=none->aS α2 st2 G2->aH α2 G2 ys vs->Q (.ref l) H2):
 uS (LI src) fr (LG tg) (LT c) (LE te) σ H Q:=by
 refine⟨α,σd,st,_,G,F,P,R,S,t,fun xs ok st1 q J α1 G1 H1 s1 P1 S1 it l hl=>?_⟩;obtain⟨hsz,q⟩:=q;obtain⟨hG,hF⟩:=P1.none hl
 refine⟨fun i m σ' H'=>∃α' st' G' acc vs,Step α1 G1 α' G'/\cf G' (upd F l (.lst vs)) H'/\d_ α' G' (gH fr σd) σ'/\aS α' st' G'/\aH α' G' acc vs/\acc.length<=i/\i<=xs.length/\cQ tg c te ok (gH fr σd) (xs.drop i) acc st' KE/\m=xs.length-i,
  ⟨xs.length,α1,st1,G1,[],[],Step.refl,P1.hide hl,(R.step s1).comp,S1,by unfold aH;rfl,Nat.le_refl _,Nat.zero_le _,q,rfl⟩,?_⟩
 rintro i m σ2 H2 ⟨α2,st2,G2,acc,vs,s2,P2,R2,S2,ra,hacc,hi,q2,rfl⟩;cases e:xs[i]? with
 |none=>
  have hl2:xs.length<=i:=List.getElem?_eq_none_iff.mp e;rw[List.drop_eq_nil_of_le hl2]at q2;unfold cQ at q2;exact .inl ⟨it.stop i α2 G2 _ H2 st2 s2 P2 S2 q2.1 hl2,fin acc st2 α2 G2 H2 l vs q2.2 (s1.trans s2) P2 hF S2 ra⟩
 |some d=>
  have hl2:i<xs.length:=(List.getElem?_eq_some_iff.mp e).1
  have ed:xs.drop i=d::xs.drop (i+1):=by
   rw[List.drop_eq_getElem_cons hl2];congr 1;rw[List.getElem?_eq_getElem hl2]at e;exact Option.some.inj e
  rw[ed]at q2;unfold cQ at q2;obtain⟨aJ,σ3,e3,q3⟩:=q2;refine .inr ⟨it.go i d α2 G2 _ H2 st2 s2 P2 S2 aJ e,fun σ' H'=>∃α' st' G' acc vs,Step α1 G1 α' G'/\cf G' (upd F l (.lst vs)) H'/\d_ α' G' (gH fr σd) σ'/\aS α' st' G'/\aH α' G' acc vs/\acc.length<=i+1/\cQ tg c te ok (gH fr σd) (xs.drop (i+1)) acc st' KE,?_,?_⟩
  . rintro σ' H' ⟨α',st',G',acc',vs',z1,z2,z3,z4,z5,z6,z7⟩;exact⟨xs.length-(i+1),by omega,α',st',G',acc',vs',z1,z2,z3,z4,z5,z6,hl2,z7,rfl⟩
  . intro x H' y;obtain⟨G3,s3,P3,S3,r3⟩:=it.oX i d α2 G2 _ H2 st2 x H' s2 P2 S2 aJ e y;refine⟨α2,gH fr σd,st2,d,fun σ' st'=>σ'=σ3/\st'=st2,G3,_,P3,R2.step s3,S3,r3,⟨σ3,e3,rfl,rfl⟩,?_⟩;rintro σ' st' ⟨rfl,rfl⟩ α4 G4 H4 σ4 s4 P4 R4 S4;have s24:=(s2.trans s3).trans s4;have Rc:d_ α4 G4 (gH fr σd) σ4:=⟨by rw[<-(fit σd d σ' e3).1];exact R4.len,fun j z hz=>R4.at' j z ((fit σd d σ' e3).2 j z hz)⟩
    refine⟨α4,σ',st',_,G4,_,P4,R4,S4,q3,fun b st5 q5 α5 G5 H5 s5 P5 S5=>?_⟩;cases b with
    |false=>exact⟨α5,st5,G5,acc,vs,s24.trans s5,P5,Rc.step s5,S5,((ra.step s3).step s4).step s5,by omega,q5⟩
    |true=>
     refine⟨α5,σ',st5,_,G5,_,P5,R4.step s5,S5,q5,fun z st6 q6 α6 G6 H6 v6 s6 P6 S6 r6=>?_⟩;have hr:=(((ra.step s3).step s4).step s5).step s6;refine⟨vs,(P6.frame a6).1,by rw[<-hr.length];omega,α6,st6,G6,acc++[z],vs++[v6],(s24.trans s5).trans s6,?_,(Rc.step s5).step s6,S6,bw.mpr (g6 (bw.mp hr) (.cons r6 .nil)),by rw[List.length_append,List.length_singleton];omega,q6⟩;have:=P6.Oi (p:=l) (o':= .lst (vs++[v6])) a6;rw[HV]at this;exact this
theorem JL{scope:Scope}{Nc:List Str}{elt tg iter:Expr}{ifs:List Expr}{pos:Pos}{src:DI}{fr:List (Option Nat)}{dtg:fM}{c:DT}{te:DE}(S:bj X scope Nc fr)(hi:PI X tg iter (LI src))
 (hg:∀C s H ex,PG (fx X scope Nc C s H ex) tg (LG dtg)) (ht:∀C s H ex,qw (fx X scope Nc C s H ex) ifs (LT c)) (he:∀C s H ex,PE (fx X scope Nc C s H ex) elt (LE te)) (fit:sO fr dtg)
 (hx:X.xe=fun _ _=>False:=by rfl) (hc:X.calm=true:=by rfl) (hs:∀x,foldedSetIterable iter X.env x=pure x:=by intro _;rfl):PE X (.ListComp elt [⟨tg,iter,ifs,0⟩] scope pos) (LE (cZ src fr dtg c te)):=
 PE.imp (Ap hx hc S hi hg ht he hs) fun σ H Q ⟨α,σd,st,K,G,F,P,R,S,t,k⟩=>LE.comp fit P R S t fun ys st2 α2 G2 H2 l vs q s2 P2 hl S2 r=>by
  have hg:G2 l=none:=(P2.frame a6).2;refine k _ st2 q α2 (upd G2 l (.lst vs)) H2 (.ref l) (s2.trans (Step.laid hg)) (P2.show hl) (S2.laid hg) ?_;unfold Rep;exact⟨l,vs,rfl,S2.j5 hg,.of a6,r.step (Step.laid hg)⟩
theorem G_{scope:Scope}{Nc:List Str}{elt tg iter:Expr}{ifs:List Expr}{pos:Pos}{src:DI}{fr:List (Option Nat)}{dtg:fM}{c:DT}{te:DE}(S:bj X scope Nc fr)(hi:PI X tg iter (LI src))
 (hg:∀C s H ex,PG (fx X scope Nc C s H ex) tg (LG dtg)) (ht:∀C s H ex,qw (fx X scope Nc C s H ex) ifs (LT c)) (he:∀C s H ex,PE (fx X scope Nc C s H ex) elt (LE te)) (fit:sO fr dtg)
 (hx:X.xe=fun _ _=>False:=by rfl) (hc:X.calm=true:=by rfl) (hs:∀x,foldedSetIterable iter X.env x=pure x:=by intro _;rfl):PE X (.ListComp elt [⟨tg,iter,ifs,0⟩] scope pos) (LE (qU src fr dtg c te)):=
 PE.imp (Ap hx hc S hi hg ht he hs) fun σ H Q ⟨α,σd,st,K,G,F,P,R,S,t,k⟩=>LE.comp fit P R S t fun ys st2 α2 G2 H2 l vs q s2 P2 hl S2 r=>by
  have hg:G2 l=none:=(P2.frame a6).2;refine k _ _ q (α2++[some l]) (upd G2 l (.lst vs)) H2 (.ref l) (s2.trans (Step.cell hg)) (P2.show hl) (S2.cell hg ⟨vs,a6,r.step (Step.cell hg)⟩) ?_;unfold Rep;refine .inr ⟨l,?_,rfl⟩;rw[List.getElem?_append_right (by rw[S2.len];exact Nat.le_refl _),S2.len,Nat.sub_self];rfl
theorem HZ{st:Stmt}{k:Nat}{src:DI}{fr:List (Option Nat)}{dtg:fM}{c:DT}{te:DE}(fit:sO fr dtg)(h:PS X st (oQ (uS (LI src) fr (LG dtg) (LT c) (LE te)) (mD k))):PS X st (LS (cx k (cZ src fr dtg c te))):=
 PS.imp h fun D σ H ⟨α,σd,st,DD,G,F,P,R,S,t,q⟩=>LE.comp fit P R S t fun ys st2 α2 G2 H2 l vs qq s2 P2 hl S2 r=>by
  have hg:G2 l=none:=(P2.frame a6).2;have s3:=s2.trans (Step.laid (o:= .lst vs) hg);refine q.nx _ st2 qq α2 (upd G2 l (.lst vs)) H2 _ s3 (P2.show hl) ((R.step s3).set k ?_) (S2.laid hg);unfold Rep;exact⟨l,vs,rfl,S2.j5 hg,.of a6,r.step (Step.laid hg)⟩
def ba(N:List Str)(ds:List D):cv:=ds.map some++List.replicate (N.length-ds.length) none
theorem d_.start{α:List (Option Addr)}{G:Hp}{N:List Str}{ds:List D}{vs:List V}(r:aH α G ds vs):d_ α G (ba N ds) (L2.start N vs):=by
 have hl:=r.length;refine⟨by unfold ba L2.start;simp[hl],fun i d e=>?_⟩;unfold ba at e;by_cases hi:i<ds.length
 . rw[List.getElem?_append_left (by simpa using hi),List.getElem?_map]at e;cases q:ds[i]? with
   |none=>rw[q]at e;cases e
   |some x=>
    rw[q]at e;cases e;obtain⟨v,ev,rv⟩:=r.get q;refine⟨v,?_,rv⟩;unfold L2.start;rw[List.getElem?_append_left (by rw[List.length_map];omega),List.getElem?_map,ev];rfl
 . rw[List.getElem?_append_right (by simpa using hi),List.getElem?_replicate]at e;split at e<;>cases e
theorem Mc{P:Program}{w:World}{K:PySem.W.Frag}{mg:Str->Option Value}{base:Heap}{x qual:Str}{st:Stmt}{f:Addr}{fd:FuncData}{N ps:List Str}{k:Nat}{sp:cE}{t:DS}(F:nE K x qual st f fd)(S:aU N ps (ai st))
 (hbody:∀(cdv:Value) (A:Around) (outer:List Env) (s:Shared) (H:Hp) (E:XK),cT k (A.deeper (envOfC qual (ai st) s.heap.objs.size f cdv))->gM (pR cG P w K mg base N qual (ai st) f cdv A outer s H E).uv (fQ st) (LS t))
 (hsp:∀ds st K,sp ds st K->ds.length=ps.length/\t {nx:=fun _ st'=>K .aL st',rt:=K} (ba N ds) st):bz P w K mg base cG (k+1) f fd ps (cL sp):=by
 refine F.ok S (fun vs H Q E h=>?_) fun cdv A outer s H vs Q E hr h=>⟨_,hbody cdv A outer s H E hr,?_⟩
 . obtain⟨α,ds,st,K,G,F,P,r,S,q,k⟩:=h;rw[<-r.length];exact(hsp ds st K q).1
 . obtain⟨α,ds,st,K,G,F,P,r,S,q,k⟩:=h;refine⟨α,ba N ds,st,_,G,F,P,d_.start r,S,(hsp ds st K q).2,?_,k,?_,?_⟩
   . intro σd' st' kk α' G' H' σ' s' P' R' S';exact k .aL st' kk α' G' H' .aL s' P' S' (by unfold Rep;rfl)
   . intro σd' st' kk;exact kk.elim
   . intro σd' st' kk;exact kk.elim
end
structure cp(K:PySem.W.Frag)(mg:Str->Option Value)(x qual:Str)(st:Stmt)(ps:List Str)(f:Addr)(fd:FuncData):Prop where
 fn:nE K x qual st f fd
 mg:mg x=some (.ref f)
 bd:Binds K fd ps []
def uM(sc:Scope)(N:List Str)(scope:Scope)(Nc:List Str)(fr:List (Option Nat)):Bool:=
 (scope.kind== .function)&&scope.names.all (fun x=>x.2 != .cell||scope.names.lookup x.1==some .cell)&&scope.names.all (fun x=>x.2 != .local||scope.names.lookup x.1==some .local)&&
 scope.names.all (fun x=>x.2 != .free||sc.names.lookup x.1==some .cell||sc.names.lookup x.1==some .free)&&(fr.length==Nc.length)&&
 (List.range fr.length).all fun i=>match fr[i]?,Nc[i]? with
   |some (some j),some x=>(N[j]?==some x)&&(scope.names.lookup x==some .free)&&(sc.names.lookup x==some .cell||sc.names.lookup x==some .free)
   |_,_=>true
theorem bj.look{X:Cx}{scope:Scope}{Nc:List Str}{fr:List (Option Nat)}(sc:Scope)(N:List Str)(h:uM sc N scope Nc fr=true)(hsc:X.env.scope=sc:=by rfl)(hN:X.N=N:=by rfl):bj X scope Nc fr:=by
 unfold uM at h;simp only[Bool.and_eq_true]at h;obtain⟨⟨⟨⟨⟨h1,h2⟩,h3⟩,h4⟩,h5⟩,h6⟩:=h;subst hsc hN;refine⟨by simpa using h1,fun x hx hk=>?_,fun x hx hk=>?_,fun x hx hk=>?_,by simpa using h5,fun i j x e1 e2=>?_⟩
 . have:=List.all_eq_true.mp h2 x hx;rw[hk]at this;simpa using this
 . have:=List.all_eq_true.mp h3 x hx;rw[hk]at this;simpa using this
 . have:=List.all_eq_true.mp h4 x hx;rw[hk]at this;have z:X.env.scope.names.lookup x.1=some .cell\/X.env.scope.names.lookup x.1=some .free:=by simpa using this
   exact z
 . have hi:i<fr.length:=(List.getElem?_eq_some_iff.mp e2).1;have:=List.all_eq_true.mp h6 i (List.mem_range.mpr hi);rw[e1,e2]at this;simp only[Bool.and_eq_true,Bool.or_eq_true,beq_iff_eq]at this;exact⟨this.1.1,this.1.2,this.2⟩
section
variable {X:Cx}
theorem M4{e:Expr}{es:List Expr}{pos p:Pos}{x:Str}{id:String}{r:eV}{t:DA}(hc:bp X (.builtin id) (fB r))(ha:PA X (e::es) (LA t))(hm:X.mg x=none)(hv:bootBuiltins x=some (.builtin id))(hg:Gl X x:=by rfl)(hn:x≠"__name__":=by decide)(hdb:(x==("__debug__":Str))=false:=by decide)
 (he:starEach (e::es) X.env=(false,eval e X.env)::starEach es X.env:=by rfl) (hpl:(backTo pos (starEach es X.env)).any (·.1)=false:=by rfl):PE X (.Call (.Name x p) (e::es) [] pos) (LE (bM r t)):=PE.imp (Fe hc hg hm hv ha hn hdb he hpl) fun _ _ _ h=>LE.cb h
theorem Nw{e:Expr}{es:List Expr}{pos p:Pos}{x:Str}{T:String}{r:eV}{t:DA}(hc:bp X (.type T) (fB r))(ha:PA X (e::es) (LA t))(hm:X.mg x=none)(hv:bootBuiltins x=some (.type T))(hg:Gl X x:=by rfl)(hn:x≠"__name__":=by decide)(hdb:(x==("__debug__":Str))=false:=by decide)
 (he:starEach (e::es) X.env=(false,eval e X.env)::starEach es X.env:=by rfl) (hpl:(backTo pos (starEach es X.env)).any (·.1)=false:=by rfl):PE X (.Call (.Name x p) (e::es) [] pos) (LE (bM r t)):=PE.imp (Cn hc hg hm hv ha hn hdb he hpl) fun _ _ _ h=>LE.cb h
theorem Nn{pos:Pos}{x:Str}{T:String}(hm:X.mg x=none)(hv:bootBuiltins x=some (.type T))(hg:Gl X x:=by rfl)(hn:x≠"__name__":=by decide)(hdb:(x==("__debug__":Str))=false:=by decide):PE X (.Name x pos) (LE (dC (.ty T))):=
 rZ (v:= .ty T) (GQ hg hm hv rfl hn hdb) fun _ _=>by unfold Rep;rfl
theorem Na{e:Expr}{es:List Expr}{pos p:Pos}{x qual:Str}{st:Stmt}{ps:List Str}{f:Addr}{fd:FuncData}{k:Nat}{S:cE}{t:DA}(A:cp X.K X.mg x qual st ps f fd)(F:bz X.prog X.w X.K X.mg X.base cG k f fd ps (cL S))(hr:cT k X.A)
 (ha:PA X (e::es) (LA t)) (hg:Gl X x:=by rfl) (hdb:(x==("__debug__":Str))=false:=by decide) (he:starEach (e::es) X.env=(false,eval e X.env)::starEach es X.env:=by rfl) (hpl:(backTo pos (starEach es X.env)).any (·.1)=false:=by rfl):
 PE X (.Call (.Name x p) (e::es) [] pos) (LE (aK S t)):=Jl F hr hg A.mg A.fn.kp A.bd ha hdb he hpl
def uK(r r':dc)(ta tb tc:DE):DE:=fun σ st K=>ta σ st fun x st1=>tb σ st1 fun y st2=>r x y st2 fun z st3=>match z with
 | .bl b=>if b=true then tc σ st3 fun w st4=>r' y w st4 K else K (.bl false) st3
 |_=>False
theorem LE.chain{r r':dc}{ta tb tc:DE}{σ:L2.St}{H:Hp}{Q:VK}(h:LE (uK r r' ta tb tc) σ H Q):CZ (LR r) (LR r') (LE ta) (LE tb) (LE tc) σ H Q:=by
 obtain⟨α,σd,st,K,G,F,P,R,S,t,k⟩:=h;refine⟨α,σd,st,_,G,F,P,R,S,t,fun d st1 q α1 G1 H1 v s1 P1 S1 r1=>?_⟩;refine⟨α1,σd,st1,_,G1,F,P1,R.step s1,S1,q,fun d2 st2 q2 α2 G2 H2 v2 s2 P2 S2 r2=>?_⟩;refine⟨α2,d,d2,st2,_,G2,F,P2,r1.step s2,r2,S2,q2,fun z st3 q3 α3 G3 H3 v3 s3 P3 S3 r3=>?_⟩;cases z<;>try exact q3.elim
 rename_i b;unfold Rep at r3;refine⟨b,r3,?_⟩;cases b with
 |false=>exact((k.at s1).at s2).at s3 _ st3 q3 α3 G3 H3 _ Step.refl P3 S3 (by unfold Rep;rfl)
 |true=>exact⟨α3,σd,st3,_,G3,F,P3,((R.step s1).step s2).step s3,S3,q3,fun d4 st4 q4 α4 G4 H4 v4 s4 P4 S4 r4=>⟨α4,d2,d4,st4,K,G4,F,P4,(r2.step s3).step s4,r4,S4,q4,(((k.at s1).at s2).at s3).at s4⟩⟩
theorem Hc{a b c:Expr}{ta tb tc:DE}{pos:Pos}{op op':CmpOp}{r r':dc}(ho:bS X (compareOp op) (LR r))(ho':bS X (compareOp op') (LR r'))(ha:PE X a (LE ta))(hb:PE X b (LE tb))(hc:PE X c (LE tc))
 (hm:lastMarks [op,op'] [b,c]=false:=by with_unfolding_all rfl):PE X (.Compare a [op,op'] [b,c] pos) (LE (uK r r' ta tb tc)):=PE.imp (FE ho ho' ha hb hc hm) fun _ _ _ h=>LE.chain h
end
end L3
namespace L3
open PySem L2
open PySem.Spec hiding items?
open PyProof.Rows hiding St
section
variable {X:Cx}
@[irreducible] def dm:dc:=F5
theorem eX:bS X (binaryOp .Add) (LR dm):=by unfold dm;exact LW
@[irreducible] def ku:dc:=F8
theorem nY:bS X (binaryOp .Sub) (LR ku):=by unfold ku;exact KQ
@[irreducible] def eg:dc:=FN
theorem gu:bS X (binaryOp .Mult) (LR eg):=by unfold eg;exact Ll
@[irreducible] def mO:dc:=Eb
theorem u9:bS X (binaryOp .FloorDiv) (LR mO):=by unfold mO;exact IA
@[irreducible] def ik:dc:=Gg
theorem oy:bS X (binaryOp .Mod) (LR ik):=by unfold ik;exact LV
@[irreducible] def tM:dc:=FO
theorem Bq:bS X (binaryOp .Pow) (LR tM):=by unfold tM;exact LF
@[irreducible] def q_:dc:=Ku
theorem BW:bS X (compareOp .Lt) (LR q_):=by unfold q_;exact Nl
@[irreducible] def wZ:dc:=Ko
theorem ID:bS X (compareOp .LtE) (LR wZ):=by unfold wZ;exact Nx
@[irreducible] def nJ:dc:=Iv
theorem tK:bS X (compareOp .Gt) (LR nJ):=by unfold nJ;exact Ni
@[irreducible] def uY:dc:=KD
theorem Ip:bS X (compareOp .GtE) (LR uY):=by unfold uY;exact NB
@[irreducible] def oq:dc:=Ky
theorem tf:bS X (compareOp .NotEq) (LR oq):=by unfold oq;exact NH
@[irreducible] def jq:dc:=J9
theorem kn{k:Nat}(hr:cT k X.A):bS X (compareOp .Eq) (LR jq):=by unfold jq;exact NI hr
@[irreducible] def jG:yN:=FH
theorem Ly:Ad X (unaryOp .USub) (FZ jG):=by unfold jG;exact Lx
@[irreducible] def aV:dc:=pv
theorem Nt{a b:Expr}{ta tb:DE}{pos:Pos}(ha:PE X a (LE ta))(hb:PE X b (LE tb))(hs:rN b:=by intro _ _;rfl):PE X (.Subscript a b pos) (LE (aq aV ta tb)):=by unfold aV;exact NG ha hb hs
@[irreducible] def fC:eV:=xw
theorem fH:bp X (.builtin "len") (fB fC):=by unfold fC;exact Lf
@[irreducible] def qV:eV:=A3
theorem xF:bp X (.builtin "abs") (fB qV):=by unfold qV;exact MB
@[irreducible] def vK:eV:=BJ
theorem Lk(hc:X.calm=true):bp X (.builtin "max") (fB vK):=by unfold vK;exact Lr hc
@[irreducible] def zt:eV:=AR
theorem Lz(hc:X.calm=true):bp X (.builtin "min") (fB zt):=by unfold zt;exact K7 hc
@[irreducible] def qH:eV:=Bi
theorem xG:bp X (.type "int") (fB qH):=by unfold qH;exact L9
@[irreducible] def dS:eV:=rT
theorem dZ:bp X (.type "tuple") (fB dS):=by unfold dS;exact Hw
@[irreducible] def ke:eV:=u6
theorem nu:bp X (.type "list") (fB ke):=by unfold ke;exact Jp
@[irreducible] def o8:eV:=r_
theorem Ay:bp X (.type "list") (fB o8):=by unfold o8;exact HR
@[irreducible] def uh:eV:=xD
theorem Cc(hc:X.calm=true):bp X (.builtin "all") (fB uh):=by unfold uh;exact Ms hc
@[irreducible] def m_:eV:=xU
theorem pM:bp X (.builtin "isinstance") (fB m_):=by unfold m_;exact Mv
@[irreducible] def vR:D->af->(List D->(af->Prop)->af->Prop)->Prop:=zl
def fe(t:DE):DI:=fun σ st K=>t σ st fun d st1=>vR d st1 K
theorem JP{l tg:Expr}{tl:DE}(hl:PE X l (LE tl)):PI X tg l (LI (fe tl)):=by unfold fe vR;exact Kn hl
@[irreducible] def x3:List D->af->(List D->(af->Prop)->af->Prop)->Prop:=F6
@[irreducible] def xB:List D->af->(List D->(af->Prop)->af->Prop)->Prop:=Gw
def dz(t:DA):DI:=fun σ st K=>t σ st fun ds st1=>x3 ds st1 K
def o5(t:DA):DI:=fun σ st K=>t σ st fun ds st1=>xB ds st1 K
theorem CH{tg iter:Expr}{t:DA}(h:PI X tg iter (Ba (LA t))):PI X tg iter (LI (dz t)):=by unfold dz x3;exact Dj h
theorem C8{tg iter:Expr}{t:DA}(h:PI X tg iter (A4 (LA t))):PI X tg iter (LI (o5 t)):=by unfold o5 xB;exact Cg h
@[irreducible] def yu:D->D->D->af->(af->Prop)->Prop:=Cd
def eN(to ti te:DE):DS:=fun D σ st=>te σ st fun d st1=>to σ st1 fun x st2=>ti σ st2 fun y st3=>yu x y d st3 fun st4=>D.nx σ st4
theorem Er{st:Stmt}{to ti te:DE}(h:PS X st (oQ (LE te) (BB (LE to) (LE ti) x5))):PS X st (LS (eN to ti te)):=by unfold eN yu;exact E9 h
end
section
variable {st:af}{K:DK}{i j:Int}{b c:Bool}{xs ys:List D}{d e:D}{n:Nat}
theorem eO(k:K (.int (i+j)) st):dm (.int i) (.int j) st K:=by unfold dm;exact k
theorem Av(h:xs.length+ys.length<=sizeLine)(k:K (.tup (xs++ys)) st):dm (.tup xs) (.tup ys) st K:=by unfold dm;exact⟨h,k⟩
theorem Hn(h:xs.length+ys.length<=sizeLine)(k:K (.lst (xs++ys)) st):dm (.lst xs) (.lst ys) st K:=by unfold dm;exact⟨h,k⟩
theorem lJ(k:K (.int (i-j)) st):ku (.int i) (.int j) st K:=by unfold ku;exact⟨trivial,k⟩
theorem fV(h:IntMulOk i j)(k:K (.int (i*j)) st):eg (.int i) (.int j) st K:=by unfold eg;exact⟨h,k⟩
theorem Hi(h: -(2^63)<=i/\i<2^63/\xs.length*i.toNat<=sizeLine)(k:K (.lst (List.replicate i.toNat xs).flatten) st):eg (.lst xs) (.int i) st K:=by unfold eg;exact⟨h,k⟩
theorem As(h: -(2^63)<=i/\i<2^63/\xs.length*i.toNat<=sizeLine)(k:K (.tup (List.replicate i.toNat xs).flatten) st):eg (.tup xs) (.int i) st K:=by unfold eg;exact⟨h,k⟩
theorem rD(h0:j≠0)(h:j.natAbs.log2<9000)(k:K (.int (i.fdiv j)) st):mO (.int i) (.int j) st K:=by unfold mO;exact⟨⟨h0,h⟩,k⟩
theorem lZ(h0:j≠0)(k:K (.int (i.fmod j)) st):ik (.int i) (.int j) st K:=by unfold ik;exact⟨h0,k⟩
theorem zd(h:E1 i j)(k:K (.int (i^j.toNat)) st):tM (.int i) (.int j) st K:=by unfold tM;exact⟨h,k⟩
theorem Ge(k:K (.bl (decide (i<j))) st):q_ (.int i) (.int j) st K:=by unfold q_;exact⟨trivial,k⟩
theorem FG(k:K (.bl (decide (i<=j))) st):wZ (.int i) (.int j) st K:=by unfold wZ;exact⟨trivial,k⟩
theorem Gh(k:K (.bl (decide (j<i))) st):nJ (.int i) (.int j) st K:=by unfold nJ;exact⟨trivial,k⟩
theorem AO(k:K (.bl (decide (j<=i))) st):uY (.int i) (.int j) st K:=by unfold uY;exact⟨trivial,k⟩
theorem F4(k:K (.bl (!decide (i=j))) st):oq (.int i) (.int j) st K:=by unfold oq;exact k
theorem xy(h1:pl 40 d=true)(h2:pl 40 e=true)(k:K (.bl (cN d e)) st):jq d e st K:=by unfold jq;exact⟨h1,h2,k⟩
theorem Hu(a b:Int):(a==b)=decide (a=b):=by
 by_cases h:a=b
 . subst h;simp
 . simp[h]
theorem CI(k:K (.bl (decide (i=j))) st):jq (.int i) (.int j) st K:=by
 refine xy rfl rfl ?_;have:cN (.int i) (.int j)=decide (i=j):=by unfold cN;exact Hu i j
 rw[this];exact k
theorem lY(k:K (.int (-i)) st):jG (.int i) st K:=by unfold jG;exact k
theorem Fi(h:items? st d=some xs)(a:e9 xs i=some e)(k:K e st):pv d (.int i) st K:=by
 cases d<;>unfold items? at h<;>first
  |(cases h;done)
  |(cases h;simp only[pv,a];exact k)
  |(simp only at h
    split at h
    . rename_i q;cases h;simp only[pv,q,a];exact k
    . cases h)
theorem aD(h:items? st d=some xs)(a:e9 xs i=some e)(k:K e st):aV d (.int i) st K:=by unfold aV;exact Fi h a k
theorem eM(h:items? st d=some xs)(k:K (.int xs.length) st):fC [d] st K:=by
 unfold fC xw;split
 . rename_i z;cases z;cases h
 . rename_i z;cases z;rw[h];exact k
 . rename_i z1 z2;exact absurd rfl (z2 d)
theorem Ho(i:Int):(if i<0 then-i else i)=((i.natAbs:Nat):Int):=by split<;>omega
theorem uj(k:K (.int ((i.natAbs:Nat):Int)) st):qV [.int i] st K:=by unfold qV;show K (.int (if i<0 then-i else i)) st;rw[Ho];exact k
theorem KL(k:K (.int (if j>i then j else i)) st):vK [.int i,.int j] st K:=by unfold vK;exact k
theorem Jd(k:K (.int (if j<i then j else i)) st):zt [.int i,.int j] st K:=by unfold zt;exact k
theorem kC(k:K (.int (if b then 1 else 0)) st):qH [.bl b] st K:=by unfold qH;exact k
theorem du(h:items? st d=some xs)(k:K (.tup xs) st):dS [d] st K:=by unfold dS rT;simp only[h];exact k
theorem jY(h:items? st d=some xs)(k:K (.lst xs) st):ke [d] st K:=by unfold ke u6;simp only[h];exact k
theorem zu(h:items? st d=some xs)(k:K (.ref st.length) (st++[.lst xs])):o8 [d] st K:=by unfold o8 r_;simp only[h];exact k
theorem zh{bs:List Bool}(h:ju xs=some bs)(k:K (.bl (bs.all id)) st):uh [.lst xs] st K:=by unfold uh xD;simp only[h];exact k
theorem nF{t c:String}(h:jo st d=some t)(hc:c∈mV)(k:K (.bl (uc t c)) st):m_ [d,.ty c] st K:=by unfold m_ xU;simp only[h];exact⟨hc,k⟩
theorem qY{K:List D->(af->Prop)->af->Prop}(h:items? st d=some xs)(k:∀ok:af->Prop,ok st->K xs ok st):vR d st K:=by
 unfold vR zl
 cases d<;>unfold items? at h<;>first
  |(cases h;done)
  |(cases h;exact k _ trivial)
  |(simp only at h
    split at h
    . rename_i q;cases h;simp only[q];exact k _ q
    . cases h)
theorem fP{K:List D->(af->Prop)->af->Prop}(k:K xs (fun _=>True) st):vR (.tup xs) st K:=by unfold vR;exact k
theorem eH{K:List D->(af->Prop)->af->Prop}(h: -(2^62)<=j/\j<2^62)(k:K (dP 0 j.toNat) (fun _=>True) st):x3 [.int j] st K:=by unfold x3;exact⟨h,k⟩
theorem Ah{K:List D->(af->Prop)->af->Prop}(h: -(2^62)<=i/\i<2^62/\ -(2^62)<=j/\j<2^62)(k:K (dP i (j-i).toNat) (fun _=>True) st):xB [.int i,.int j] st K:=by unfold xB;exact⟨h,k⟩
theorem i8{K:af->Prop}{m:Nat}(h:st[n]?=some (.lst xs))(e:mh xs.length i=some m)(k:K (st.set n (.lst (xs.set m d)))):yu (.ref n) (.int i) d st K:=by unfold yu Cd;simp only[h,e];exact k
end
def Dx(K:PySem.W.Frag):Bool:=K.all fun p=>p.2.cls != .type "list"
theorem sQ{a:Addr}{o:Obj}:∀ {l:List (Addr×Obj)},l.lookup a=some o->(a,o)∈l
 | [],h=>by cases h
 |(b,u)::r,h=>by
  rw[List.lookup_cons]at h;split at h
  . rename_i z;cases h;have:a=b:=by simpa using z
    subst this;exact List.mem_cons_self
  . exact List.mem_cons_of_mem _ (sQ h)
theorem xv{K:PySem.W.Frag}(h:Dx K=true){a:Addr}{o:Obj}(e:K.lookup a=some o):o.cls≠ .type "list":=by
 have:=List.all_eq_true.mp h (a,o) (sQ e);simpa using this
theorem wQ{α:List (Option Addr)}{G:Hp}:∀ns:List Int,aH α G (ns.map D.int) (ns.map V.int)
 | []=>by unfold aH;rfl
 |n::ns=>by
  rw[List.map_cons,List.map_cons];unfold aH;exact⟨_,_,rfl,by unfold Rep;rfl,wQ ns⟩
def notStar:Expr->Bool
 | .Starred .. =>false
 |_=>true
theorem di{e:Expr}{es:List Expr}{env:Env}(h:notStar e=true):starEach (e::es) env=(false,eval e env)::starEach es env:=by
 cases e<;>first|rfl|cases h
def gJ:List Expr->Bool
 | []=>true
 |e::es=>notStar e&&gJ es
theorem kU{pos:Pos}{env:Env}:∀ {es:List Expr},gJ es=true->(backTo pos (starEach es env)).any (·.1)=false
 | [],_=>rfl
 |e::es,h=>by
  unfold gJ at h;rw[Bool.and_eq_true]at h;rw[di h.1];have ih:=kU (pos:=pos) (env:=env) h.2;unfold backTo at ih⊢;rw[List.map_cons,List.any_cons,ih];rfl
def nr:Expr->Bool
 | .Slice .. =>false
 |_=>true
def qx:Expr->Bool
 | .Name .. =>true
 | .Call .. =>true
 | .Subscript .. =>true
 | .Attribute .. =>true
 |_=>false
def kP:Expr->Bool
 | .ListComp .. =>false
 | .SetComp .. =>false
 | .DictComp .. =>false
 |_=>true
section
variable {X:Cx}
theorem Eu{b:Expr}(h:nr b=true):rN b:=by
 intro o i;cases b<;>first|rfl|cases h
theorem Bv{e:Expr}(h:qx e=true):∀whole,isTrue e X.env whole=(do let v <-whole;standAt e.pos;holding [v] (truthy v)):=by
 intro whole;cases e<;>first|(cases h;done)|rfl
theorem vF{e:Expr}{tg:Option Expr}{n:Nat}{env:Env}(h:kP e=true):swapsWith e tg n env=pure false:=by
 cases e<;>first|(cases h;done)|rfl
theorem Fv{e:Expr}{es:List Expr}{te:DE}{tr:DA}(ha:PE X e (LE te))(hr:PA X es (LA tr))(hs:notStar e=true:=by rfl):PA X (e::es) (LA (ae te tr)):=Ae ha hr (di hs)
theorem K6{e:Expr}{es:List Expr}{pos p:Pos}{x:Str}{id:String}{r:eV}{t:DA}(hc:bp X (.builtin id) (fB r))(ha:PA X (e::es) (LA t))(hm:X.mg x=none)(hv:bootBuiltins x=some (.builtin id))(hn:x≠"__name__")(hdb:(x==("__debug__":Str))=false)(hg:Gl X x:=by rfl)(hs:notStar e=true:=by rfl)(hs2:gJ es=true:=by rfl):
 PE X (.Call (.Name x p) (e::es) [] pos) (LE (bM r t)):=M4 hc ha hm hv hg hn hdb (di hs) (kU hs2)
theorem Li{e:Expr}{es:List Expr}{pos p:Pos}{x:Str}{T:String}{r:eV}{t:DA}(hc:bp X (.type T) (fB r))(ha:PA X (e::es) (LA t))(hm:X.mg x=none)(hv:bootBuiltins x=some (.type T))(hn:x≠"__name__")(hdb:(x==("__debug__":Str))=false)(hg:Gl X x:=by rfl)(hs:notStar e=true:=by rfl)(hs2:gJ es=true:=by rfl):
 PE X (.Call (.Name x p) (e::es) [] pos) (LE (bM r t)):=Nw hc ha hm hv hg hn hdb (di hs) (kU hs2)
theorem LM{e:Expr}{es:List Expr}{pos p:Pos}{x qual:Str}{st:Stmt}{ps:List Str}{f:Addr}{fd:FuncData}{k:Nat}{S:cE}{t:DA}(A:cp X.K X.mg x qual st ps f fd)(F:bz X.prog X.w X.K X.mg X.base cG k f fd ps (cL S))(hr:cT k X.A)
 (ha:PA X (e::es) (LA t)) (hdb:(x==("__debug__":Str))=false) (hg:Gl X x:=by rfl) (hs:notStar e=true:=by rfl) (hs2:gJ es=true:=by rfl):
 PE X (.Call (.Name x p) (e::es) [] pos) (LE (aK S t)):=Na A F hr ha hg hdb (di hs) (kU hs2)
theorem LD{a b:Expr}{ta tb:DE}{pos:Pos}(ha:PE X a (LE ta))(hb:PE X b (LE tb))(hs:nr b=true:=by rfl):PE X (.Subscript a b pos) (LE (aq aV ta tb)):=Nt ha hb (Eu hs)
theorem HA{e:Expr}{te:DE}(he:PE X e (LE te))(h:qx e=true:=by rfl):PT X e (LT (a8 te)):=Jo he (Bv h)
theorem ET{e:Expr}{te:DE}{pos:Pos}(he:PE X e (LE te))(h:kP e=true:=by rfl):PS X (.Expr e pos) (LS (nX te)):=GH he (vF h)
theorem GC{i:Nat}{x:Str}{e:Expr}{te:TE}{pos pos':Pos}(hN:X.N.Nodup)(hi:X.N[i]?=some x)(hx:Loc X.env.scope x)(he:PE X e te)(hf:X.fn x=true\/X.env.scope.names.lookup x=some .local:=by first|exact .inl rfl|exact .inr rfl)(h:kP e=true:=by rfl):
 PS X (.Assign [.Name x pos'] e pos) (oQ te (mD i)):=Kj hN hi hx he (vF h) hf
theorem Hv{i:Nat}{x:Str}{pos:Pos}(hd:(x==("__debug__":Str))=false)(hcd:(x==("__classdict__":Str))=false)(hv:yU X.env.scope x)(hN:X.N[i]?=some x:=by rfl):PE X (.Name x pos) (LE (ab i)):=MC (Kt hN hv hd hcd)
theorem KG{o i e:Expr}{to ti te:TE}{pos pos':Pos}(he:PE X e te)(ho:PE X o to)(hi:PE X i ti)(h1:kP e=true:=by rfl)(h2:nr i=true:=by rfl):PS X (.Assign [.Subscript o i pos'] e pos) (oQ te (BB to ti x5)):=
 Cr he (J8 ho hi set_list (by intro v;cases i<;>first|rfl|cases h2)) (by unfold swapsWithSole;exact vF h1) (by cases e<;>rfl) rfl
end
@[irreducible] def JE(X:Cx)(e:Expr)(t:DE):Prop:=PE X e (LE t)
@[irreducible] def JT(X:Cx)(e:Expr)(t:DT):Prop:=PT X e (LT t)
@[irreducible] def JW(X:Cx)(e:Expr)(t:DT):Prop:=PW X e (LT t)
@[irreducible] def JA(X:Cx)(es:List Expr)(t:DA):Prop:=PA X es (LA t)
@[irreducible] def JS(X:Cx)(s:Stmt)(t:DS):Prop:=PS X s (LS t)
@[irreducible] def JB(X:Cx)(s:List Stmt)(t:DS):Prop:=gM X s (LS t)
@[irreducible] def JG(X:Cx)(e:Expr)(t:fM):Prop:=PG X e (LG t)
@[irreducible] def JI(X:Cx)(tg e:Expr)(t:DI):Prop:=PI X tg e (LI t)
@[irreducible] def JC(X:Cx)(es:List Expr)(t:DT):Prop:=qw X es (LT t)
section
variable {X:Cx}{a b c e o i:Expr}{es:List Expr}{ta tb tc te to ti:DE}{t u:DT}{ar:DA}{pos p pos':Pos}{s:Stmt}{ss:List Stmt}{T U:DS}
theorem D4{n:Nat}{x:Str}(hd:(x==("__debug__":Str))=false)(hcd:(x==("__classdict__":Str))=false)(hv:yU X.env.scope x)(hN:X.N[n]?=some x:=by rfl):JE X (.Name x pos) (ab n):=by unfold JE;exact Hv hd hcd hv hN
theorem tV{x:Str}{T:String}(hm:X.mg x=none)(hv:bootBuiltins x=some (.type T))(hn:x≠"__name__")(hdb:(x==("__debug__":Str))=false)(hg:Gl X x):JE X (.Name x pos) (dC (.ty T)):=by unfold JE;exact Nn hm hv hg hn hdb
theorem ao{k:Int}{j:Nat}:JE X (.Constant (.int k) j pos) (dC (.int k)):=by unfold JE;exact Mb
theorem gS{k:Bool}{j:Nat}:JE X (.Constant (.bool k) j pos) (dC (.bl k)):=by unfold JE;exact NJ
theorem L6{j:Nat}:JE X (.Constant .none j pos) (dC .aL):=by unfold JE;exact Ls
theorem bo{op:Operator}{r:dc}(ho:bS X (binaryOp op) (LR r))(ha:JE X a ta)(hb:JE X b tb):JE X (.BinOp a op b pos) (aq r ta tb):=by unfold JE at*;exact Np ho ha hb
theorem nQ(ha:JE X a ta):JE X (.UnaryOp .USub a pos) (pd jG ta):=by unfold JE at*;exact NK Ly ha
theorem AW(ha:JE X a ta):JE X (.UnaryOp .Not a pos) (uy (a8 ta)):=by unfold JE at*;exact Me ha
theorem xM{op:BoolOp}(ha:JE X a ta):JE X (.BoolOp op [a] pos) ta:=by unfold JE at*;exact Lh ha
theorem A8(ha:JE X a ta)(hb:JE X (.BoolOp .And (b::es) pos) tb):JE X (.BoolOp .And (a::b::es) pos) (ur ta tb):=by unfold JE at*;exact Lo ha hb
theorem Nz(ha:JE X a ta)(hb:JE X (.BoolOp .Or (b::es) pos) tb):JE X (.BoolOp .Or (a::b::es) pos) (Et ta tb):=by unfold JE at*;exact Nd ha hb
theorem xO{op:CmpOp}{r:dc}(ho:bS X (compareOp op) (LR r))(hm:behindInMarks op b=false)(ha:JE X a ta)(hb:JE X b tb):JE X (.Compare a [op] [b] pos) (aq r ta tb):=by unfold JE at*;exact Md ho ha hb hm
theorem Ig{op op':CmpOp}{r r':dc}(ho:bS X (compareOp op) (LR r))(ho':bS X (compareOp op') (LR r'))(ha:JE X a ta)(hb:JE X b tb)(hc:JE X c tc)(hm:lastMarks [op,op'] [b,c]=false:=by with_unfolding_all rfl):JE X (.Compare a [op,op'] [b,c] pos) (uK r r' ta tb tc):=by unfold JE at*;exact Hc ho ho' ha hb hc hm
theorem F_(hc:JT X c t)(ha:JE X a ta)(hb:JE X b tb):JE X (.IfExp c a b pos) (Gu t ta tb):=by unfold JE at*;unfold JT at hc;exact LX hc ha hb
theorem fG{n:Nat}(h:JA X es ar):JE X (.Tuple es n pos) (gL ar):=by unfold JE;unfold JA at h;exact Lw h
theorem pS(h:JA X es ar):JE X (.List es pos) (oG ar):=by unfold JE;unfold JA at h;exact KU h
theorem LJ(h:JA X es ar):JE X (.List es pos) (EF ar):=by unfold JE;unfold JA at h;exact Mw h
theorem aj:JA X [] ak:=by unfold JA;exact D1
theorem aa(ha:JE X e te)(hr:JA X es ar)(hs:notStar e=true:=by rfl):JA X (e::es) (ae te ar):=by unfold JA at*;unfold JE at ha;exact Fv ha hr hs
theorem aM(ha:JE X a ta)(hb:JE X b tb)(hs:nr b=true:=by rfl):JE X (.Subscript a b pos) (aq aV ta tb):=by unfold JE at*;exact LD ha hb hs
theorem cY{x:Str}{id:String}{r:eV}(hc:bp X (.builtin id) (fB r))(ha:JA X (e::es) ar)(hm:X.mg x=none)(hv:bootBuiltins x=some (.builtin id))(hn:x≠"__name__")(hdb:(x==("__debug__":Str))=false)(hg:Gl X x)(hs:notStar e=true:=by rfl)(hs2:gJ es=true:=by rfl):JE X (.Call (.Name x p) (e::es) [] pos) (bM r ar):=by
 unfold JE;unfold JA at ha;exact K6 hc ha hm hv hn hdb hg hs hs2
theorem d8{x:Str}{T:String}{r:eV}(hc:bp X (.type T) (fB r))(ha:JA X (e::es) ar)(hm:X.mg x=none)(hv:bootBuiltins x=some (.type T))(hn:x≠"__name__")(hdb:(x==("__debug__":Str))=false)(hg:Gl X x)(hs:notStar e=true:=by rfl)(hs2:gJ es=true:=by rfl):JE X (.Call (.Name x p) (e::es) [] pos) (bM r ar):=by
 unfold JE;unfold JA at ha;exact Li hc ha hm hv hn hdb hg hs hs2
theorem bf{x qual:Str}{st:Stmt}{ps:List Str}{f:Addr}{fd:FuncData}{k:Nat}{S:cE}(A:cp X.K X.mg x qual st ps f fd)(F:bz X.prog X.w X.K X.mg X.base cG k f fd ps (cL S))(hr:cT k X.A)(ha:JA X (e::es) ar)(hdb:(x==("__debug__":Str))=false)(hg:Gl X x)(hs:notStar e=true:=by rfl)(hs2:gJ es=true:=by rfl):
 JE X (.Call (.Name x p) (e::es) [] pos) (aK S ar):=by unfold JE;unfold JA at ha;exact LM A F hr ha hdb hg hs hs2
theorem cj{op:CmpOp}{r:dc}(ho:bS X (compareOp op) (LR r))(hm:behindInMarks op b=false)(ha:JE X a ta)(hb:JE X b tb):JT X (.Compare a [op] [b] pos) (a8 (aq r ta tb)):=by unfold JE at*;unfold JT;exact Ks ho ha hb hm
theorem g7(ha:JT X a t):JT X (.UnaryOp .Not a pos) (iH t):=by unfold JT at*;exact IF ha
theorem fR(he:JE X e te)(h:qx e=true:=by rfl):JT X e (a8 te):=by unfold JT;unfold JE at he;exact HA he h
theorem rO(ha:JT X a t):JW X (.BoolOp .And [a] pos) t:=by unfold JW;unfold JT at ha;exact HH ha
theorem nL(ha:JT X a t):JW X (.BoolOp .Or [a] pos) t:=by unfold JW;unfold JT at ha;exact Ij ha
theorem rk(ha:JT X a t)(hb:JW X (.BoolOp .And (b::es) pos) u):JW X (.BoolOp .And (a::b::es) pos) (oj t u):=by unfold JW at*;unfold JT at ha;exact Jz ha hb
theorem ll(ha:JT X a t)(hb:JW X (.BoolOp .Or (b::es) pos) u):JW X (.BoolOp .Or (a::b::es) pos) (kX t u):=by unfold JW at*;unfold JT at ha;exact Le ha hb
theorem kb(h:JW X e t):JT X e t:=by unfold JT;unfold JW at h;exact PW.pt h
theorem f6{l tg:Expr}(hl:JE X l ta):JI X tg l (fe ta):=by unfold JI;unfold JE at hl;exact JP hl
theorem dE{tg:Expr}(hg:Gl X "range")(hm:X.mg "range"=none)(ha:JA X [a] ar)(hs:notStar a=true:=by rfl):JI X tg (.Call (.Name "range" p) [a] [] pos) (dz ar):=by unfold JI;unfold JA at ha;exact CH (Dn hg hm ha (di hs))
theorem ze{tg:Expr}(hg:Gl X "range")(hm:X.mg "range"=none)(ha:JA X [a,b] ar)(hs:notStar a=true:=by rfl)(hs2:notStar b=true:=by rfl):JI X tg (.Call (.Name "range" p) [a,b] [] pos) (o5 ar):=by unfold JI;unfold JA at ha;exact C8 (Dg hg hm ha (by rw[di hs,di hs2];rfl) (di hs2))
theorem dh{k:Nat}{x:Str}(hN:X.N.Nodup)(hx:Loc X.env.scope x)(hf:X.fn x=true\/X.env.scope.names.lookup x=some .local)(hi:X.N[k]?=some x:=by rfl):JG X (.Name x pos) (bH k):=by unfold JG;exact HE (vh hN hi hx hf)
theorem nO{k j n:Nat}{x y:Str}{px py:Pos}(hc:X.calm=true)(hN:X.N.Nodup)(hx:Loc X.env.scope x)(hf:X.fn x=true\/X.env.scope.names.lookup x=some .local)(hy:Loc X.env.scope y)(hg:X.fn y=true\/X.env.scope.names.lookup y=some .local)(hi:X.N[k]?=some x:=by rfl)(hj:X.N[j]?=some y:=by rfl):
 JG X (.Tuple [.Name x px,.Name y py] n pos) (jb k j):=by unfold JG;exact Iq (Jc hc (zC (vh hN hi hx hf) (zC (vh hN hj hy hg) HJ)))
theorem cD:JC X [] cH:=by unfold JC;exact En
theorem uQ(h:JT X c t):JC X [c] t:=by unfold JC;unfold JT at h;exact IJ h
theorem dQ{scope:Scope}{Nc:List Str}{elt tg iter:Expr}{ifs:List Expr}{src:DI}{fr:List (Option Nat)}{dtg:fM}(S:bj X scope Nc fr)(hi:JI X tg iter src)(hg:∀C s H ex,JG (fx X scope Nc C s H ex) tg dtg)(ht:∀C s H ex,JC (fx X scope Nc C s H ex) ifs t)(he:∀C s H ex,JE (fx X scope Nc C s H ex) elt te)(fit:sO fr dtg)
 (hx:X.xe=fun _ _=>False:=by rfl) (hc:X.calm=true:=by rfl) (hs:∀x,foldedSetIterable iter X.env x=pure x:=by intro _;rfl):JE X (.ListComp elt [⟨tg,iter,ifs,0⟩] scope pos) (cZ src fr dtg t te):=by
 unfold JE JI JG JC at*;exact JL S hi hg ht he fit hx hc hs
theorem vp{scope:Scope}{Nc:List Str}{elt tg iter:Expr}{ifs:List Expr}{src:DI}{fr:List (Option Nat)}{dtg:fM}(S:bj X scope Nc fr)(hi:JI X tg iter src)(hg:∀C s H ex,JG (fx X scope Nc C s H ex) tg dtg)(ht:∀C s H ex,JC (fx X scope Nc C s H ex) ifs t)(he:∀C s H ex,JE (fx X scope Nc C s H ex) elt te)(fit:sO fr dtg)
 (hx:X.xe=fun _ _=>False:=by rfl) (hc:X.calm=true:=by rfl) (hs:∀x,foldedSetIterable iter X.env x=pure x:=by intro _;rfl):JE X (.ListComp elt [⟨tg,iter,ifs,0⟩] scope pos) (qU src fr dtg t te):=by
 unfold JE JI JG JC at*;exact G_ S hi hg ht he fit hx hc hs
theorem cU:JB X [] c6:=by unfold JB;exact HN
theorem aC(h:JS X s T):JB X [s] T:=by unfold JB;unfold JS at h;exact HD h
theorem av(h:JS X s T)(h2:JB X ss U):JB X (s::ss) (aQ T U):=by unfold JB at*;unfold JS at h;exact E4 h h2
theorem aR(h:JE X e te):JS X (.Return (some e) pos) (bE te):=by unfold JS;unfold JE at h;exact KI h
theorem o7(h:JE X e te)(hc:kP e=true:=by rfl):JS X (.Expr e pos) (nX te):=by unfold JS;unfold JE at h;exact ET h hc
theorem dU{x y:List Stmt}(hc:JT X c t)(ha:JB X x T)(hb:JB X y U):JS X (.If c x y pos) (d9 t T U):=by unfold JS;unfold JB at*;unfold JT at hc;exact Mz hc ha hb
theorem yG{x:List Stmt}(hc:JT X c t)(hb:JB X x T)(hx:X.xe=fun _ _=>False:=by rfl):JS X (.While c x [] pos) (qy t T):=by unfold JS;unfold JB at hb;unfold JT at hc;exact Fw (Fb (by rw[hx];exact PassesOwn.never) hc hb)
theorem gw{tg iter:Expr}{x:List Stmt}{src:DI}{dtg:fM}(hi:JI X tg iter src)(hg:JG X tg dtg)(hb:JB X x T)(hx:X.xe=fun _ _=>False:=by rfl)(hc:X.calm=true:=by rfl)(hs:∀x,foldedSetIterable iter X.env x=pure x:=by intro _;rfl):JS X (.For tg iter x [] pos) (iZ src dtg T):=by
 unfold JS;unfold JI at hi;unfold JG at hg;unfold JB at hb;exact Jm (Jw (by rw[hx];exact PassesOwn.never) hc hi hg hb hs)
theorem cu{k:Nat}{x:Str}(hN:X.N.Nodup)(hx:Loc X.env.scope x)(he:JE X e te)(hf:X.fn x=true\/X.env.scope.names.lookup x=some .local:=by first|exact .inl rfl|exact .inr rfl)(h:kP e=true:=by rfl)(hi:X.N[k]?=some x:=by rfl):JS X (.Assign [.Name x pos'] e pos) (cx k te):=by
 unfold JS;unfold JE at he;exact Kp (GC hN hi hx he hf h)
theorem sd{scope:Scope}{Nc:List Str}{elt tg iter:Expr}{ifs:List Expr}{src:DI}{fr:List (Option Nat)}{dtg:fM}{k:Nat}{x:Str}(hN:X.N.Nodup)(hl:Loc X.env.scope x)(S:bj X scope Nc fr)(hi:JI X tg iter src)(hg:∀C s H ex,JG (fx X scope Nc C s H ex) tg dtg)(ht:∀C s H ex,JC (fx X scope Nc C s H ex) ifs t)(he:∀C s H ex,JE (fx X scope Nc C s H ex) elt te)(fit:sO fr dtg)
 (hf:X.fn x=true\/X.env.scope.names.lookup x=some .local:=by first|exact .inl rfl|exact .inr rfl) (hsw:swapsWith (.ListComp elt [⟨tg,iter,ifs,0⟩] scope p) (some (.Name x pos')) pos.line X.env=pure true:=by rfl) (hni:X.N[k]?=some x:=by rfl) (hx:X.xe=fun _ _=>False:=by rfl) (hc:X.calm=true:=by rfl) (hs:∀x,foldedSetIterable iter X.env x=pure x:=by intro _;rfl):
 JS X (.Assign [.Name x pos'] (.ListComp elt [⟨tg,iter,ifs,0⟩] scope p) pos) (cx k (cZ src fr dtg t te)):=by
 unfold JS;unfold JE JI JG JC at*;exact HZ fit (Ie hx hc S hi hg ht he hN hni hl hf hsw hs)
theorem eC(he:JE X e te)(ho:JE X o to)(hi:JE X i ti)(h1:kP e=true:=by rfl)(h2:nr i=true:=by rfl):JS X (.Assign [.Subscript o i pos'] e pos) (eN to ti te):=by unfold JS;unfold JE at*;exact Er (KG he ho hi h1 h2)
theorem JH{k:Nat}{x:Str}{op:Operator}{f:Int->Int->Int}(hN:X.N.Nodup)(hx:Loc X.env.scope x)(he:JE X e te)(ho:JD X op (IX f))(hf:X.fn x=true\/X.env.scope.names.lookup x=some .local:=by first|exact .inl rfl|exact .inr rfl)(hi:X.N[k]?=some x:=by rfl):JS X (.AugAssign (.Name x pos') op e pos) (AV k (zA f) te):=by
 unfold JS;unfold JE at he;exact Jb (Ir hN hi hx he ho hf)
theorem Ea{tg:Expr}{dtg:fM}(he:JE X e te)(hg:JG X tg dtg)(hs:swapsWithSole [tg] e pos.line X.env=pure false:=by rfl)(hw:swappedStores [tg] e X.env=pure none:=by rfl)(h1:(assignEach [tg] X.env).map (·.2)=[assign tg X.env]:=by rfl):JS X (.Assign [tg] e pos) (AZ dtg te):=by
 unfold JS;unfold JE at he;unfold JG at hg;exact IC (Cr he hg hs hw h1)
end
theorem cn{P:Program}{w:World}{K:PySem.W.Frag}{mg:Str->Option Value}{base:Heap}{x qual:Str}{st:Stmt}{f:Addr}{fd:FuncData}{N ps:List Str}{k:Nat}{sp:cE}{t:DS}(F:nE K x qual st f fd)(S:aU N ps (ai st))
 (hbody:∀(cdv:Value) (A:Around) (outer:List Env) (s:Shared) (H:Hp) (E:XK),cT k (A.deeper (envOfC qual (ai st) s.heap.objs.size f cdv))->JB (pR cG P w K mg base N qual (ai st) f cdv A outer s H E).uv (fQ st) t)
 (hsp:∀ds st K,sp ds st K->ds.length=ps.length/\t {nx:=fun _ st'=>K .aL st',rt:=K} (ba N ds) st):bz P w K mg base cG (k+1) f fd ps (cL sp):=by
 unfold JB at hbody;exact Mc F S hbody hsp
end L3
namespace HT
open PySem PyProof.Rows
section
variable {prog:Program}{w:World}{A:Around}{E:Value->Shared->Prop}{s:Shared}
theorem qi{t sl:Addr}{items:Array Value}{vl vu:Value}{lo hi:Option Int}{Q:Value->Shared->Prop}(ht:IsTup s.heap t items)(hs:s.heap.IsSliceOf sl vl vu .none)(pl:IsPart vl lo)(pu:IsPart vu hi)
 (hw:bU items.size 0 lo=0/\bU items.size items.size hi=items.size) (h:Q (.ref t) s):wpAny (model prog w) A (getItem (.ref t) (.ref sl)) Q E s:=by
 obtain⟨os,hos,hcs,hds⟩:=id hs;have hTs:s.TypeIs (.ref sl) "slice":=⟨os,hos,hcs⟩
 unfold getItem;try with_reducible refine wpAny_holding ?_
 first|refine wpAny_bind (wpAny_pure ?_)|skip
 refine wpAny_bind (wpAny_sequenceKey ht.typeIs (by decide) ?_)
 refine wpAny_bind (wpAny_callSpecial?_slot (name:=Str.ofString "__getitem__") ht.typeIs PyProof.Rows.slot_tuple_getitem
  (wpAny_call_entry PyProof.Rows.slot_tuple_getitem ht.typeIs entry_tuple_getitem ?_ (args_tuple_getitem _ _)))
 show wpAny _ _ (Builtin.Tuple.tupleItemsOf (.ref t) >>= _) _ _ s;refine wpAny_bind (tupleItemsOf_ ht ?_);refine wpAny_bind (wpAny_typeOf hTs ?_);rw[if_pos (by decide)];refine wpAny_bind (m9 hs pl pu ?_)
 have hyes:(((bU items.size 0 lo:Nat):Int)==0&&(1:Int)==1&&(bU items.size items.size hi-bU items.size 0 lo)==items.size)=true:=by
  rw[hw.1,hw.2];simp
 show wpAny _ _ (if(((bU items.size 0 lo:Nat):Int)==0&&(1:Int)==1&&(bU items.size items.size hi-bU items.size 0 lo)==items.size)=true then _ else _) _ _ s;rw[if_pos hyes];refine wpAny_bind ?_;unfold Builtin.Tuple.tupleIsExact;exact wpAny_bind (wpAny_typeOf ht.typeIs (wpAny_pure (wpAny_bind (wpAny_rule (wpAny_pure ⟨_,rfl,wpAny_pure h⟩)))))
end
end HT
namespace L3
open PySem L2
open PySem.Spec hiding items?
open PyProof.Rows hiding St
abbrev DO:=cv->af->(Option Int->af->Prop)->Prop
def fb:DO:=fun _ st K=>K none st
def iJ(t:DE):DO:=fun σ st K=>t σ st fun d st1=>match d with| .int i=>K (some i) st1|_=>False
def cutD(xs:List D)(lo hi:Option Int):List D:=(xs.drop (HT.bU xs.length 0 lo)).take (HT.bU xs.length xs.length hi-HT.bU xs.length 0 lo)
def yJ(d:D)(lo hi:Option Int)(st:af)(K:DK):Prop:=match d with
 | .lst xs=>K (.lst (cutD xs lo hi)) st
 | .tup xs=>K (.tup (cutD xs lo hi)) st
 | .ref n=>(match st[n]? with|some (.lst xs)=>K (.lst (cutD xs lo hi)) st|_=>False)
 |_=>False
@[irreducible] def ko:D->Option Int->Option Int->af->DK->Prop:=yJ
def fS(t:DE)(lo hi:DO):DE:=fun σ st K=>t σ st fun d st1=>lo σ st1 fun l st2=>hi σ st2 fun u st3=>ko d l u st3 K
theorem tU{α:List (Option Addr)}{G:Hp}{xs:List D}{vs:List V}{lo hi:Option Int}(r:aH α G xs vs):aH α G (cutD xs lo hi) (pJ vs lo hi):=by
 unfold cutD pJ;rw[<-r.length];exact bw.mpr (sJ _ (sM _ (bw.mp r)))
def N8(α:List (Option Addr))(G F:Hp)(K:Option Int->af->Prop)(Q:Option Int->Hp->Prop):Prop:=∀o st',K o st'->∀α' G' H',Step α G α' G'->cf G' F H'->aS α' st' G'->Q o H'
inductive MO(t:DO)(σ:L2.St)(H:Hp)(Q:Option Int->Hp->Prop):Prop
 |mk (α:List (Option Addr)) (σd:cv) (st:af) (K:Option Int->af->Prop) (G F:Hp) (P:cf G F H) (R:d_ α G σd σ) (S:aS α st G) (h:t σd st K) (k:N8 α G F K Q):MO t σ H Q
def LO(t:DO):TO:=MO t
section
variable {X:Cx}
theorem PO.imp{e:Option Expr}{t t':TO}(h:PO X e t)(f:∀σ H Q,t' σ H Q->t σ H Q):PO X e t':=fun pins s σ H Q I q=>h pins s σ H Q I (f σ H Q q)
theorem Hz:PO X none (LO fb):=PO.imp G8 fun σ H Q ⟨α,σd,st,K,G,F,P,R,S,t,k⟩=>k none st t α G H Step.refl P S
theorem HM{e:Expr}{te:DE}(h:PE X e (LE te)):PO X (some e) (LO (iJ te)):=PO.imp (HU h) fun σ H Q ⟨α,σd,st,K,G,F,P,R,S,t,k⟩=>by
 refine⟨α,σd,st,_,G,F,P,R,S,t,fun d st1 q α1 G1 H1 v s1 P1 S1 r1=>?_⟩;cases d<;>try exact q.elim
 unfold Rep at r1;exact⟨_,r1,k _ st1 q α1 G1 H1 s1 P1 S1⟩
def Oo(x:V)(lo hi:Option Int)(H:Hp)(Q:VK):Prop:=∃α d st K G F,cf G F H/\Rep α G d x/\aS α st G/\ko d lo hi st K/\LK α G F K Q
theorem GL:CW X (fun x lo hi H Q=>∃a xs,x= .ref a/\H a=some (.tup xs)/\((HT.bU xs.length 0 lo=0/\HT.bU xs.length xs.length hi=xs.length)->Q (.ref a) H)/\(¬(HT.bU xs.length 0 lo=0/\HT.bU xs.length xs.length hi=xs.length)->∀p,H p=none->Q (.ref p) (upd H p (.tup (pJ xs lo hi))))):=by
 intro pins s σ H x v vl vu lo hi sl Q I rx hs pl pu h;obtain⟨a,xs,rfl,hx,q1,q2⟩:=h;by_cases hw:HT.bU xs.length 0 lo=0/\HT.bU xs.length xs.length hi=xs.length
 . cases rx;obtain⟨its,r,ht,hz⟩:=I.tuple (i3.of hx);have hlen:its.toArray.size=xs.length:=by rw[List.size_toArray];exact r.length.symm
   exact⟨"tuple",_,PyProof.Rows.slot_tuple_getitem.lookup,ht.typeIs,HT.qi ht hs pl pu (by rw[hlen];exact hw) ⟨.ref a,H,I,rfl,q1 hw⟩⟩
 . exact Jy pins s σ H _ v vl vu lo hi sl Q I rx hs pl pu ⟨a,xs,rfl,.of hx,hw,q2 hw⟩
theorem Cw{xs:List D}{lo hi:Option Int}(hw:HT.bU xs.length 0 lo=0/\HT.bU xs.length xs.length hi=xs.length):cutD xs lo hi=xs:=by
 unfold cutD;rw[hw.1,hw.2];simp
theorem JZ:CW X Oo:=by
 intro pins s σ H x v vl vu lo hi sl Q I rx hs pl pu ⟨α,d,st,K,G,F',P,r1,S,q,k⟩;unfold ko yJ at q;cases d<;>try exact q.elim
 . rename_i n;simp only at q;split at q
   . rename_i xs e;obtain⟨a,ea,vs,h1,h2⟩:=S.mT e;have r1':=e8 ea r1;subst r1';exact z9 pins s σ H _ v vl vu lo hi sl Q I rx hs pl pu ⟨a,vs,rfl,.inl (.of (P.get h1)),fun p hp=>k.lst P q S (tU h2) hp⟩
   . exact q.elim
 . unfold Rep at r1;obtain⟨a,vs,rfl,na,ha,ra⟩:=r1;exact z9 pins s σ H _ v vl vu lo hi sl Q I rx hs pl pu ⟨a,vs,rfl,.inl (gj P ha),fun p hp=>k.lst P q S (tU ra) hp⟩
 . rename_i xs;have r0:=r1;unfold Rep at r1;obtain⟨a,vs,rfl,na,ha,ra⟩:=r1;refine GL pins s σ H _ v vl vu lo hi sl Q I rx hs pl pu ⟨a,vs,rfl,P.get ha,fun hw=>?_,fun _ p hp=>k.tup P q S (tU ra) hp⟩;rw[<-ra.length]at hw;simp only at q;rw[Cw hw]at q;exact k.here P q S r0
theorem HB{e:Expr}{lo hi:Option Expr}{te:DE}{tl th:DO}{p2 pos:Pos}(he:PE X e (LE te))(hl:PO X lo (LO tl))(hh:PO X hi (LO th)):PE X (.Subscript e (.Slice lo hi none p2) pos) (LE (fS te tl th)):=PE.imp (ES JZ he hl hh) fun σ H Q ⟨α,σd,st,K,G,F,P,R,S,t,k⟩=>by
 refine⟨α,σd,st,_,G,F,P,R,S,t,fun d st1 q α1 G1 H1 v s1 P1 S1 r1=>?_⟩;refine⟨α1,σd,st1,_,G1,F,P1,R.step s1,S1,q,fun l st2 q2 α2 G2 H2 s2 P2 S2=>?_⟩;refine⟨α2,σd,st2,_,G2,F,P2,(R.step s1).step s2,S2,q2,fun u st3 q3 α3 G3 H3 s3 P3 S3=>?_⟩;exact⟨α3,d,st3,K,G3,F,P3,(r1.step s2).step s3,S3,q3,((k.at s1).at s2).at s3⟩
@[irreducible] def JO(X:Cx)(e:Option Expr)(t:DO):Prop:=PO X e (LO t)
theorem ib:JO X none fb:=by unfold JO;exact Hz
theorem ij{e:Expr}{te:DE}(h:JE X e te):JO X (some e) (iJ te):=by unfold JO;unfold JE at h;exact HM h
theorem hO{e:Expr}{lo hi:Option Expr}{te:DE}{tl th:DO}{p2 pos:Pos}(he:JE X e te)(hl:JO X lo tl)(hh:JO X hi th):JE X (.Subscript e (.Slice lo hi none p2) pos) (fS te tl th):=by unfold JE at*;unfold JO at*;exact HB he hl hh
end
theorem iO{st:af}{K:DK}{xs:List D}{lo hi:Option Int}(k:K (.lst (cutD xs lo hi)) st):ko (.lst xs) lo hi st K:=by unfold ko;exact k
theorem vZ{st:af}{K:DK}{xs:List D}{lo hi:Option Int}(k:K (.tup (cutD xs lo hi)) st):ko (.tup xs) lo hi st K:=by unfold ko;exact k
theorem D_{st:af}{K:DK}{xs:List D}{lo hi:Option Int}{n:Nat}(h:st[n]?=some (.lst xs))(k:K (.lst (cutD xs lo hi)) st):ko (.ref n) lo hi st K:=by unfold ko yJ;simp only[h];exact k
section
variable {prog:Program}{w:World}{A:Around}{E:Value->Shared->Prop}{s:Shared}
theorem BQ{iT tp:Addr}{n:Nat}{its:Array Value}{v:Value}{Q:Value->Shared->Prop}(hI:s.heap.IsTupleIter iT tp n)(hT:s.heap.IsTuple tp its)(hv:its[n]?=some v)
 (q:∀g,g.IsTupleIter iT tp (n+1)->Heap.SameBut iT s.heap g->Q v {s with heap:=g}):wpAny (model prog w) A (Builtin.SmallTypes.nextOf (.ref iT)) Q E s:=by
 obtain⟨oI,eI,cI,dI⟩:=id hI;obtain⟨oT,eT,_,nT,dT⟩:=hT;unfold Builtin.SmallTypes.nextOf;refine wpAny_bind (wpAny_callSpecial?_slot (name:=Str.ofString "__next__") hI.typeIs F.slot_tuple_iterator_next (wpAny_call_entry F.slot_tuple_iterator_next hI.typeIs F.entry_tuple_iterator_next ?_ (F.args_tuple_iterator_next_1 _)));show wpAny _ _ (field (.ref iT) 0 >>= _) _ _ s;refine wpAny_bind (wpAny_field eI dI (x:= .ref tp) rfl ?_);show wpAny _ _ (if(Value.ref tp==Value.none)=true then _ else _) _ _ s;rw[if_neg (show¬((Value.ref tp==Value.none)=true)from Bool.false_ne_true)];show wpAny _ _ (field (.ref iT) 1 >>= _) _ _ s;refine wpAny_bind (wpAny_field eI dI (x:= .int n 0) rfl ?_);show wpAny _ _ (seqItems? (.ref tp) >>= _) _ _ s;refine wpAny_bind (wpAny_seqItems eT dT ?_);simp only[Int.toNat_natCast,hv];refine wpAny_bind (wpAny_setField eI dI (by simp) (wpAny_pure ⟨v,rfl,wpAny_pure (q _ ?_ (Heap.SameBut.update ..))⟩));refine⟨_,Heap.get?_update_self _ eI (Obj.isFreed_of_fields (Obj.data_mapFields dI _)),(Obj.cls_mapFields ..).trans cI,?_⟩;rw[Obj.data_mapFields dI];simp[rawInt]
theorem De{iT tp:Addr}{n:Nat}{its:Array Value}{Q:Value->Shared->Prop}(hh:A.handled=none)(hI:s.heap.IsTupleIter iT tp n)(hT:s.heap.IsTuple tp its)(hv:its[n]?=none)
 (q:∀g e,Heap.ExtBut iT s.heap g->(∃o,g.get? e=some o/\o.cls= .type "StopIteration")->E (.ref e) {s with heap:=g}):wpAny (model prog w) A (Builtin.SmallTypes.nextOf (.ref iT)) Q E s:=by
 obtain⟨oI,eI,cI,dI⟩:=id hI;obtain⟨oT,eT,_,nT,dT⟩:=hT;unfold Builtin.SmallTypes.nextOf;refine wpAny_bind (wpAny_callSpecial?_slot (name:=Str.ofString "__next__") hI.typeIs F.slot_tuple_iterator_next (wpAny_call_entry F.slot_tuple_iterator_next hI.typeIs F.entry_tuple_iterator_next ?_ (F.args_tuple_iterator_next_1 _)));show wpAny _ _ (field (.ref iT) 0 >>= _) _ _ s;refine wpAny_bind (wpAny_field eI dI (x:= .ref tp) rfl ?_);show wpAny _ _ (if(Value.ref tp==Value.none)=true then _ else _) _ _ s;rw[if_neg (show¬((Value.ref tp==Value.none)=true)from Bool.false_ne_true)];show wpAny _ _ (field (.ref iT) 1 >>= _) _ _ s;refine wpAny_bind (wpAny_field eI dI (x:= .int n 0) rfl ?_);show wpAny _ _ (seqItems? (.ref tp) >>= _) _ _ s;refine wpAny_bind (wpAny_seqItems eT dT ?_);simp only[Int.toNat_natCast,hv];refine wpAny_bind (wpAny_rule (wpAny_bind (wpAny_setField eI dI (by simp) ?_)));show wpAny _ _ (newExc (.type "StopIteration") [] >>= _) _ _ _;refine wpAny_bind ?_;simp only[newExc,newTuple];refine wpAny_bind (wpAny_newObj_type ?_ (by size_fits));refine wpAny_bind (m:=firstArgMember _ _) (wpAny_of_eq (a:=Value.none) (by first|rfl|(simp only[firstArgMember];rfl)) ?_);refine wpAny_newObj_type ?_ (by size_fits);simp only[raiseNew];refine wpAny_bind (wpAny_handled ?_);first|rw[show A.in1.handled=none from hh]|rw[hh]
 refine wpAny_bind (wpAny_pure (wpAny_throw ?_));exact q _ _ (((Heap.SameBut.update ..).extBut.push _).push _) ⟨_,Heap.get?_push_size _ rfl,rfl⟩
end
section
variable {st:af}{K:DK}{i j:Int}{b c:Bool}{xs ys:List D}{d e:D}{n:Nat}
theorem eqT(h:i=j)(k:K (.bl true) st):jq (.int i) (.int j) st K:=CI (by rw[decide_eq_true h];exact k)
theorem NT(h:i≠j)(k:K (.bl false) st):jq (.int i) (.int j) st K:=CI (by rw[decide_eq_false h];exact k)
theorem eq2(h1:i=j->K (.bl true) st)(h2:i≠j->K (.bl false) st):jq (.int i) (.int j) st K:=by
 by_cases h:i=j
 . exact eqT h (h1 h)
 . exact NT h (h2 h)
theorem neT(h:i≠j)(k:K (.bl true) st):oq (.int i) (.int j) st K:=F4 (by rw[decide_eq_false h];exact k)
theorem FR(h:i=j)(k:K (.bl false) st):oq (.int i) (.int j) st K:=F4 (by rw[decide_eq_true h];exact k)
theorem ne2(h1:i≠j->K (.bl true) st)(h2:i=j->K (.bl false) st):oq (.int i) (.int j) st K:=by
 by_cases h:i=j
 . exact FR h (h2 h)
 . exact neT h (h1 h)
theorem MY(h:i<j)(k:K (.bl true) st):q_ (.int i) (.int j) st K:=Ge (by rw[decide_eq_true h];exact k)
theorem MH(h:j<=i)(k:K (.bl false) st):q_ (.int i) (.int j) st K:=Ge (by rw[decide_eq_false (by omega)];exact k)
theorem M0(h1:i<j->K (.bl true) st)(h2:j<=i->K (.bl false) st):q_ (.int i) (.int j) st K:=by
 by_cases h:i<j
 . exact MY h (h1 h)
 . exact MH (by omega) (h2 (by omega))
theorem Og(h:i<=j)(k:K (.bl true) st):wZ (.int i) (.int j) st K:=FG (by rw[decide_eq_true h];exact k)
theorem NV(h:j<i)(k:K (.bl false) st):wZ (.int i) (.int j) st K:=FG (by rw[decide_eq_false (by omega)];exact k)
theorem Od(h:j<i)(k:K (.bl true) st):nJ (.int i) (.int j) st K:=Gh (by rw[decide_eq_true h];exact k)
theorem Oj(h:i<=j)(k:K (.bl false) st):nJ (.int i) (.int j) st K:=Gh (by rw[decide_eq_false (by omega)];exact k)
theorem yX(h1:j<i->K (.bl true) st)(h2:i<=j->K (.bl false) st):nJ (.int i) (.int j) st K:=by
 by_cases h:j<i
 . exact Od h (h1 h)
 . exact Oj (by omega) (h2 (by omega))
theorem Oc(h:j<=i)(k:K (.bl true) st):uY (.int i) (.int j) st K:=AO (by rw[decide_eq_true h];exact k)
theorem NS(h:i<j)(k:K (.bl false) st):uY (.int i) (.int j) st K:=AO (by rw[decide_eq_false (by omega)];exact k)
theorem N0(h1:j<=i->K (.bl true) st)(h2:i<j->K (.bl false) st):uY (.int i) (.int j) st K:=by
 by_cases h:j<=i
 . exact Oc h (h1 h)
 . exact NS (by omega) (h2 (by omega))
theorem Jx{P:Prop}(h:xs.length<=1000)(k:P):xs.length<=sizeLine/\P:=⟨by rw[sizeLine_eq];omega,k⟩
theorem bZ{m:Nat}(h:m<=1000):m<=sizeLine:=by rw[sizeLine_eq];omega
theorem vm(h0:0<=i)(e:xs[i.toNat]?=some d):e9 xs i=some d:=by
 have:=jP e;rw[Int.toNat_of_nonneg h0]at this;exact this
theorem yF{m:Nat}(h0:0<=i)(h:i.toNat<m):mh m i=some i.toNat:=by
 unfold mh;have:i<(m:Int):=by omega
 simp[h0,this]
end
theorem g_{tg:fM}{body:DS}{ok:af->Prop}{E:og}(I:List D->cv->af->Prop)(hend:∀σ st,I [] σ st->ok st/\E.nx σ st)
 (hstep:∀x xs σ st,I (x::xs) σ st->(∀σ' st',I xs σ' st'->i4 tg body ok E xs σ' st')->ok st/\∃σ1,tg x σ=some σ1/\body {E with nx:=i4 tg body ok E xs,ct:=i4 tg body ok E xs,bk:=E.nx} σ1 st):
 ∀xs σ st,I xs σ st->i4 tg body ok E xs σ st
 | [],σ,st,h=>by unfold i4;exact hend σ st h
 |x::xs,σ,st,h=>by unfold i4;exact hstep x xs σ st h fun σ' st' h'=>g_ I hend hstep xs σ' st' h'
theorem ef{tg:fM}{c:DT}{te:DE}{ok:af->Prop}{σc:cv}{K:List D->af->Prop}(I:List D->List D->af->Prop)(hend:∀acc st,I [] acc st->ok st/\K acc st)
 (hstep:∀x xs acc st,I (x::xs) acc st->(∀acc' st',I xs acc' st'->cQ tg c te ok σc xs acc' st' K)->ok st/\∃σ2,tg x σc=some σ2/\c σ2 st fun b st1=>if b=true then te σ2 st1 fun y st2=>cQ tg c te ok σc xs (acc++[y]) st2 K else cQ tg c te ok σc xs acc st1 K):
 ∀xs acc st,I xs acc st->cQ tg c te ok σc xs acc st K
 | [],acc,st,h=>by unfold cQ;exact hend acc st h
 |x::xs,acc,st,h=>by unfold cQ;exact hstep x xs acc st h fun acc' st' h'=>ef I hend hstep xs acc' st' h'
theorem comp_map{tg:fM}{te:DE}{ok:af->Prop}{σc:cv}{st:af}{K:List D->af->Prop}{g:D->D}(aJ:ok st)(xs:List D)(hx:∀x∈xs,∀K',K' (g x) st->∃σ2,tg x σc=some σ2/\te σ2 st K')(k:K (xs.map g) st):cQ tg cH te ok σc xs [] st K:=by
 refine ef (fun r acc st'=>st'=st/\(∀x∈r,x∈xs)/\acc++r.map g=xs.map g) (fun acc st' h=>?_) (fun x r acc st' h next=>?_) xs [] st ⟨rfl,fun _ h=>h,rfl⟩
 . obtain⟨rfl,_,e⟩:=h;rw[List.map_nil,List.append_nil]at e;rw[e];exact⟨aJ,k⟩
 . obtain⟨rfl,hm,e⟩:=h;obtain⟨σ2,e2,q⟩:=hx x (hm x List.mem_cons_self) (fun y st2=>cQ tg cH te ok σc r (acc++[y]) st2 K) (next _ _ ⟨rfl,fun z hz=>hm z (List.mem_cons_of_mem _ hz),by rw[<-e];simp⟩);exact⟨aJ,σ2,e2,q⟩
theorem hV{A B:DS}{E:og}{σ:cv}{st:af}(J:cv->af->Prop)(h:∀nx,(∀σ' st',J σ' st'->nx σ' st')->A {E with nx:=nx} σ st)(k:∀σ' st',J σ' st'->B E σ' st'):aQ A B E σ st:=h (B E) k
section
variable {X:Cx}
end
structure Src(P:Program)(w:World)(t a:Addr)(J:Nat->Heap->Prop)(us:Array Value):Prop where
 fr:∀n g k,J n g->(∀b,b=t\/b=a->∀o,g.get? b=some o->k.get? b=some o)->J n k
 lv:∀n g,J n g->(∃o,g.get? t=some o)/\∃o,g.get? a=some o
 nx:∀n (A:Around) (s:Shared) (Q:Value->Shared->Prop) (E:Value->Shared->Prop) v,J n s.heap->us[n]?=some v->(∀k,J (n+1) k->Heap.SameBut t s.heap k->Q v {s with heap:=k})->wpAny (model P w) A (Builtin.SmallTypes.nextOf (.ref t)) Q E s
 en:∀n (A:Around) (s:Shared) (Q:Value->Shared->Prop) (E:Value->Shared->Prop),A.handled=none->J n s.heap->us[n]?=none->(∀k e,Heap.ExtBut t s.heap k->(∃o,k.get? e=some o/\o.cls= .type "StopIteration")->E (.ref e) {s with heap:=k})->wpAny (model P w) A (Builtin.SmallTypes.nextOf (.ref t)) Q E s
section
variable {P:Program}{w:World}
theorem src_list(t a:Addr)(hne:a≠t)(us:Array Value):Src P w t a (fun n g=>g.IsListIter t a n/\g.IsList a us) us where
 fr:=fun n g k j kp=>⟨j.1.at fun o e=>kp t (.inl rfl) o e,j.2.at fun o e=>kp a (.inr rfl) o e⟩
 lv:=fun n g j=>⟨let⟨o,e,_⟩:=j.1;⟨o,e⟩,let⟨o,e,_⟩:=j.2;⟨o,e⟩⟩
 nx:=fun n A s Q E v j hv q=>wpAny_nextOf_list_item j.1 j.2 hv fun k jk sb=>q k ⟨jk,j.2.extBut sb.extBut hne⟩ sb
 en:=fun n A s Q E hh j hv q=>wpAny_nextOf_list_end hh j.1 j.2 hv q
theorem Hy(t a:Addr)(hne:a≠t)(us:Array Value):Src P w t a (fun n g=>g.IsTupleIter t a n/\g.IsTuple a us) us where
 fr:=fun n g k j kp=>by
  obtain⟨⟨o,e,r⟩,⟨o2,e2,r2⟩⟩:=j;exact⟨⟨o,kp t (.inl rfl) o e,r⟩,⟨o2,kp a (.inr rfl) o2 e2,r2⟩⟩
 lv:=fun n g j=>⟨let⟨o,e,_⟩:=j.1;⟨o,e⟩,let⟨o,e,_⟩:=j.2;⟨o,e⟩⟩
 nx:=fun n A s Q E v j hv q=>BQ j.1 j.2 hv fun k jk sb=>q k ⟨jk,j.2.extBut sb.extBut hne⟩ sb
 en:=fun n A s Q E hh j hv q=>De hh j.1 j.2 hv q
theorem Src.ext{t a c:Addr}{J:Nat->Heap->Prop}{us:Array Value}(S:Src P w t a J us){n:Nat}{g k:Heap}(j:J n g)(x:Heap.ExtBut c g k)(h1:c≠t)(h2:c≠a):J n k:=
 S.fr n g k j fun b hb o e=>x b o (by rcases hb with rfl|rfl;exact Ne.symm h1;exact Ne.symm h2) e
structure zV(z ti to t1 t2 a1 a2:Addr):Prop where
 nd: [z,ti,to,t1,t2].Nodup
 a1:a1∉[z,ti,to,t1,t2]
 a2:a2∉[z,ti,to,t1,t2]
section
variable {z ti to t1 t2 a1 a2:Addr}
theorem zV.n(D:zV z ti to t1 t2 a1 a2):(ti≠z/\to≠z/\t1≠z/\t2≠z)/\(ti≠to/\ti≠t1/\ti≠t2)/\(to≠t1/\to≠t2)/\t1≠t2:=by
 have:=D.nd;simp only[List.nodup_cons,List.mem_cons,not_or,List.not_mem_nil,not_false_eq_true,and_true,List.nodup_nil]at this;obtain⟨⟨b1,b2,b3,b4⟩,⟨b5,b6,b7⟩,⟨b8,b9⟩,b10⟩:=this;exact⟨⟨Ne.symm b1,Ne.symm b2,Ne.symm b3,Ne.symm b4⟩,⟨b5,b6,b7⟩,⟨b8,b9⟩,b10⟩
theorem D0{A:Around}{s:Shared}{E:Value->Shared->Prop}{J1 J2:Nat->Heap->Prop}{us vs:Array Value}{n:Nat}{x y a b:Value}{Q:Value->Shared->Prop}(D:zV z ti to t1 t2 a1 a2)(S1:Src P w t1 a1 J1 us)(S2:Src P w t2 a2 J2 vs)
 (Z:IsZip s.heap z ti to .none) (pI:IsPair s.heap ti (.ref t1) (.ref t2)) (pO:IsPair s.heap to a b) (j1:J1 n s.heap) (j2:J2 n s.heap) (ex:us[n]?=some x) (ey:vs[n]?=some y)
 (q:∀k,IsZip k z ti to (rawInt s.heap.objs.size)->IsPair k to x y->J1 (n+1) k->J2 (n+1) k->IsPair k s.heap.objs.size x y->k.objs.size=s.heap.objs.size+1->
   (∀c o,c≠z->c≠to->c≠t1->c≠t2->s.heap.get? c=some o->k.get? c=some o)->Q (.ref s.heap.objs.size) {s with heap:=k}):
 wpAny (model P w) A (Builtin.«zip.__next__» ⟨[.ref z],[]⟩) (fun fin s'=>∃v,fin= .done (.ret v)/\Q v s') E s:=by
 obtain⟨⟨n1,n2,n3,n4⟩,⟨n5,n6,n7⟩,⟨n8,n9⟩,n10⟩:=D.n;have m1:=D.a1;have m2:=D.a2;simp only[List.mem_cons,not_or,List.not_mem_nil,not_false_eq_true,and_true]at m1 m2;show wpAny _ _ (field (.ref z) 2 >>= _) _ _ _;refine wpAny_bind (wpAny_field Z rfl (x:= .bool false) rfl ?_);show wpAny _ _ (field (.ref z) 3 >>= _) _ _ _;refine wpAny_bind (wpAny_field Z rfl (x:= .ref ti) rfl ?_);refine wpAny_bind (wpAny_seqItems pI rfl ?_);show wpAny _ _ (Builtin.SmallTypes.ownedTupleIsFree (.ref z) >>= _) _ _ _;refine wpAny_bind ?_;unfold Builtin.SmallTypes.ownedTupleIsFree;refine wpAny_bind (wpAny_field Z rfl (x:= .none) rfl (wpAny_pure ?_));simp only[if_true];refine wpAny_bind (wpAny_rule ?_);refine wpAny_bind (wpAny_field Z rfl (x:= .ref to) rfl ?_);refine wpAny_bind (wpAny_setField_rec Z (by simp) fun k1 Z1 b1=>?_);replace Z1:IsZip k1 z ti to .ellipsis:=Z1;refine wpAny_bind ?_;simp only[List.zipIdx_cons,List.zipIdx_nil,List.forIn_cons,List.forIn_nil];refine wpAny_bind (wpAny_bind (wpAny_onRaise ?_));show wpAny _ _ (Builtin.SmallTypes.nextOf (.ref t1) >>= _) _ _ _;refine wpAny_bind (S1.nx n _ _ _ _ x (S1.ext j1 b1.extBut (Ne.symm n3) (Ne.symm m1.1)) ex fun k2 j1b b2=>wpAny_pure ?_);have pO2:IsPair k2 to a b:=b2.extBut _ _ n8 (b1.extBut _ _ n2 pO);refine wpAny_bind (wpAny_seqItems pO2 rfl ?_);refine wpAny_bind (wpAny_updateSeq_pair pO2 fun k3 pO3 b3=>?_);replace pO3:IsPair k3 to x b:=pO3;refine wpAny_bind (wpAny_letGo (wpAny_pure ?_));refine wpAny_bind (wpAny_bind (wpAny_onRaise ?_));show wpAny _ _ (Builtin.SmallTypes.nextOf (.ref t2) >>= _) _ _ _;have j2c:J2 n k3:=S2.ext (S2.ext (S2.ext j2 b1.extBut (Ne.symm n4) (Ne.symm m2.1)) b2.extBut n10 (Ne.symm m2.2.2.2.1)) b3.extBut n9 (Ne.symm m2.2.2.1);refine wpAny_bind (S2.nx n _ _ _ _ y j2c ey fun k4 j2d b4=>wpAny_pure ?_);have pO4:IsPair k4 to x b:=b4.extBut _ _ n9 pO3;refine wpAny_bind (wpAny_seqItems pO4 rfl ?_);refine wpAny_bind (wpAny_updateSeq_pair pO4 fun k5 pO5 b5=>?_);replace pO5:IsPair k5 to x y:=pO5;refine wpAny_bind (wpAny_letGo (wpAny_pure (wpAny_pure ?_)));refine wpAny_bind (wpAny_seqItems pO5 rfl ?_);refine wpAny_bind (wpAny_newTuple ?_);have sz:k5.objs.size=s.heap.objs.size:=by rw[b5.1,b4.1,b3.1,b2.1,b1.1]
 have Z5:IsZip k5 z ti to .ellipsis:=b5.extBut _ _ (Ne.symm n2) (b4.extBut _ _ (Ne.symm n4) (b3.extBut _ _ (Ne.symm n2) (b2.extBut _ _ (Ne.symm n3) Z1)));have kp5:∀c o,c≠z->c≠to->c≠t1->c≠t2->s.heap.get? c=some o->k5.get? c=some o:=fun c o c1 c2 c3 c4 e=>b5.extBut _ _ c2 (b4.extBut _ _ c4 (b3.extBut _ _ c2 (b2.extBut _ _ c3 (b1.extBut _ _ c1 e))));have j1e:J1 (n+1) k5:=S1.ext (S1.ext (S1.ext j1b b3.extBut n8 (Ne.symm m1.2.2.1)) b4.extBut (Ne.symm n10) (Ne.symm m1.2.2.2.2)) b5.extBut n8 (Ne.symm m1.2.2.1);have j2e:J2 (n+1) k5:=S2.ext j2d b5.extBut n9 (Ne.symm m2.2.2.1);have ltz:z<k5.objs.size:=Heap.lt_size Z5;show wpAny _ _ (Builtin.SmallTypes.ownedTupleHandOut (.ref z) (.ref k5.objs.size) >>= _) _ _ _;refine wpAny_bind ?_;unfold Builtin.SmallTypes.ownedTupleHandOut;have Z6:IsZip (k5.push {cls:= .type "tuple",data:= .seq #[x,y]}) z ti to .ellipsis:=Heap.get?_push_of_some _ Z5;refine wpAny_bind (wpAny_setField_rec Z6 (by simp) fun k7 Z7 b7=>?_);replace Z7:IsZip k7 z ti to (rawInt k5.objs.size):=Z7;refine wpAny_setField_rec Z7 (by simp) fun k8 Z8 b8=>?_;replace Z8:IsZip k8 z ti to (rawInt k5.objs.size):=Z8;have up:∀c o,c≠z->k5.get? c=some o->k8.get? c=some o:=fun c o c1 e=>b8.extBut _ _ c1 (b7.extBut _ _ c1 (Heap.get?_push_of_some _ e));have pT:IsPair k8 k5.objs.size x y:=b8.extBut _ _ (Nat.ne_of_gt ltz) (b7.extBut _ _ (Nat.ne_of_gt ltz) (Heap.get?_push_size _ rfl));have sz8:k8.objs.size=k5.objs.size+1:=by rw[b8.1,b7.1,Heap.size_push]
 rw[sz]at Z8 pT sz8;refine wpAny_pure ⟨_,rfl,?_⟩;show Q (.ref k5.objs.size) _;rw[sz];refine q k8 Z8 (up _ _ n2 pO5) (S1.fr _ _ _ j1e fun b hb o e=>up b o ?_ e) (S2.fr _ _ _ j2e fun b hb o e=>up b o ?_ e) pT sz8 fun c o c1 c2 c3 c4 e=>up c o c1 (kp5 c o c1 c2 c3 c4 e)
 . rcases hb with rfl|rfl
   . exact n3
   . exact m1.1
 . rcases hb with rfl|rfl
   . exact n4
   . exact m2.1
theorem El{A:Around}{s:Shared}{E:Value->Shared->Prop}{J1 J2:Nat->Heap->Prop}{us vs:Array Value}{n:Nat}{a b:Value}{Q:Fin->Shared->Prop}(hh:A.handled=none)(D:zV z ti to t1 t2 a1 a2)(S1:Src P w t1 a1 J1 us)(S2:Src P w t2 a2 J2 vs)
 (Z:IsZip s.heap z ti to .none) (pI:IsPair s.heap ti (.ref t1) (.ref t2)) (pO:IsPair s.heap to a b) (j1:J1 n s.heap) (j2:J2 n s.heap) (he:us[n]?=none\/vs[n]?=none)
 (q:∀k e,(∀c o,c≠z->c≠to->c≠t1->c≠t2->s.heap.get? c=some o->k.get? c=some o)->(∃o,k.get? e=some o/\o.cls= .type "StopIteration")->E (.ref e) {s with heap:=k}):
 wpAny (model P w) A (Builtin.«zip.__next__» ⟨[.ref z],[]⟩) Q E s:=by
 obtain⟨⟨n1,n2,n3,n4⟩,⟨n5,n6,n7⟩,⟨n8,n9⟩,n10⟩:=D.n;have m1:=D.a1;have m2:=D.a2;simp only[List.mem_cons,not_or,List.not_mem_nil,not_false_eq_true,and_true]at m1 m2;show wpAny _ _ (field (.ref z) 2 >>= _) _ _ _;refine wpAny_bind (wpAny_field Z rfl (x:= .bool false) rfl ?_);show wpAny _ _ (field (.ref z) 3 >>= _) _ _ _;refine wpAny_bind (wpAny_field Z rfl (x:= .ref ti) rfl ?_);refine wpAny_bind (wpAny_seqItems pI rfl ?_);show wpAny _ _ (Builtin.SmallTypes.ownedTupleIsFree (.ref z) >>= _) _ _ _;refine wpAny_bind ?_;unfold Builtin.SmallTypes.ownedTupleIsFree;refine wpAny_bind (wpAny_field Z rfl (x:= .none) rfl (wpAny_pure ?_));simp only[if_true];refine wpAny_bind (wpAny_rule ?_);refine wpAny_bind (wpAny_field Z rfl (x:= .ref to) rfl ?_);refine wpAny_bind (wpAny_setField_rec Z (by simp) fun k1 Z1 b1=>?_);replace Z1:IsZip k1 z ti to .ellipsis:=Z1;refine wpAny_bind ?_;simp only[List.zipIdx_cons,List.zipIdx_nil,List.forIn_cons,List.forIn_nil];refine wpAny_bind (wpAny_bind (wpAny_onRaise ?_));show wpAny _ _ (Builtin.SmallTypes.nextOf (.ref t1) >>= _) _ _ _;have j1a:J1 n k1:=S1.ext j1 b1.extBut (Ne.symm n3) (Ne.symm m1.1);cases ex:us[n]? with
 |none=>
  refine wpAny_bind (S1.en n _ _ _ _ hh j1a ex fun k2 e b2 hx=>?_);obtain⟨oe,he1,he2⟩:=hx;have Z2:IsZip k2 z ti to .ellipsis:=b2 _ _ (Ne.symm n3) Z1;have hez:e≠z:=fun c=>by subst c;rw[Z2]at he1;cases he1;simp at he2
  refine wpAny_setField_rec Z2 (by simp) fun k3 _ b3=>q k3 e (fun c o c1 _ c3 _ f=>b3.extBut _ _ c1 (b2 _ _ c3 (b1.extBut _ _ c1 f))) ⟨oe,b3.extBut _ _ hez he1,he2⟩
 |some x=>
  have ey:vs[n]?=none:=by
   rcases he with h|h
   . rw[ex]at h;cases h
   . exact h
  refine wpAny_bind (S1.nx n _ _ _ _ x j1a ex fun k2 j1b b2=>wpAny_pure ?_);have pO2:IsPair k2 to a b:=b2.extBut _ _ n8 (b1.extBut _ _ n2 pO);refine wpAny_bind (wpAny_seqItems pO2 rfl ?_);refine wpAny_bind (wpAny_updateSeq_pair pO2 fun k3 pO3 b3=>?_);refine wpAny_bind (wpAny_letGo (wpAny_pure ?_));refine wpAny_bind (wpAny_bind (wpAny_onRaise ?_));show wpAny _ _ (Builtin.SmallTypes.nextOf (.ref t2) >>= _) _ _ _;have j2c:J2 n k3:=S2.ext (S2.ext (S2.ext j2 b1.extBut (Ne.symm n4) (Ne.symm m2.1)) b2.extBut n10 (Ne.symm m2.2.2.2.1)) b3.extBut n9 (Ne.symm m2.2.2.1);refine wpAny_bind (S2.en n _ _ _ _ hh j2c ey fun k4 e b4 hx=>?_);obtain⟨oe,he1,he2⟩:=hx;have Z4:IsZip k4 z ti to .ellipsis:=b4 _ _ (Ne.symm n4) (b3.extBut _ _ (Ne.symm n2) (b2.extBut _ _ (Ne.symm n3) Z1));have hez:e≠z:=fun c=>by subst c;rw[Z4]at he1;cases he1;simp at he2
  refine wpAny_setField_rec Z4 (by simp) fun k5 _ b5=>q k5 e (fun c o c1 c2 c3 c4 f=>b5.extBut _ _ c1 (b4 _ _ c4 (b3.extBut _ _ c2 (b2.extBut _ _ c3 (b1.extBut _ _ c1 f))))) ⟨oe,b5.extBut _ _ hez he1,he2⟩
end
end
theorem F7{X:Cx}{pins:List (Addr×Obj)}{σ:L2.St}{H:Hp}{s:Shared}{g:Heap}{tk:Nat}{fp:List Addr}{T:Addr}{xs:List V}(I:Inv X pins σ H s)(hf:∀b∈fp,kv X pins H b)
 (k:∀b o,b∉fp->s.heap.get? b=some o->g.get? b=some o) (hT:s.heap.objs.size<=T) (new:dB X.prog X.w (upd H T (.tup xs)) g T (.tup xs)):Inv X pins σ (upd H T (.tup xs)) {s with heap:=g,toks:=tk}:=by
 have hn:H T=none:=I.aJ.fresh hT;have nfp:∀b u,H b=some u->b∉fp:=fun b u e z=>by rw[(hf b z).1]at e;cases e
 have nT:∀b u,H b=some u->b≠T:=fun b u e=>dD e hn
 refine I.step (g':=s.gens) (d':=s.drawn) (ch:=fp) (fun b hb=>?_) (fun b o _ _ hc e _=>k b o hc e) (fun b o _ _ hc e _=>⟨o.slots,k b o hc e⟩) (fun b o _ e n=>?_) (fun b o hc e=>⟨o,k b o hc e⟩)
  (fun b ys e=>by rw[ay (nT b _ e)];exact e) (fun b o u e=>by rw[ay (nT b _ e)];exact e) (fun b ps e=>⟨#[],by rw[ay (nT b _ e),e];simp⟩) (fun m hm=>?_) (fun b u e=>?_) I.bare
 . obtain⟨f0,f1,f2,f3,f4,f5⟩:=hf b hb;exact⟨f3,f1,f4,f5⟩
 . rw[ay (Nat.ne_of_lt (Nat.lt_of_lt_of_le (Heap.lt_size e) hT))];exact n
 . obtain⟨o,es,ep,ho,r⟩:=hm;exact⟨o,es,ep,k _ o (fun z=>(hf _ z).2.1 rfl) ho,r⟩
 . by_cases hb:b=T
   . subst hb;rw[a6]at e;cases e;exact new
   . rw[ay hb]at e;refine(I.aJ b u e).oA (fun c v hc q=>k c v ?_ q) (fun c q=>by rw[ay (nT c _ q)];exact q) fun c ys q=>by rw[ay (nT c _ q)];exact q
     rcases hc with z|z
     . rw[z];exact nfp b u e
     . exact nfp c _ z
theorem F2{X:Cx}{pins:List (Addr×Obj)}{σ:L2.St}{H:Hp}{s:Shared}{g:Heap}{tk:Nat}{fp:List Addr}(I:Inv X pins σ H s)(hf:∀b∈fp,kv X pins H b)
 (k:∀b o,b∉fp->s.heap.get? b=some o->g.get? b=some o):Inv X pins σ H {s with heap:=g,toks:=tk}:=by
 have nfp:∀b u,H b=some u->b∉fp:=fun b u e z=>by rw[(hf b z).1]at e;cases e
 refine I.step (g':=s.gens) (d':=s.drawn) (ch:=fp) (fun b hb=>?_) (fun b o _ _ hc e _=>k b o hc e) (fun b o _ _ hc e _=>⟨o.slots,k b o hc e⟩) (fun b o _ e n=>n) (fun b o hc e=>⟨o,k b o hc e⟩)
  (fun b ys e=>e) (fun b o u e=>e) (fun b ps e=>⟨#[],by rw[e];simp⟩) (fun m hm=>?_) (fun b u e=>?_) I.bare
 . obtain⟨f0,f1,f2,f3,f4,f5⟩:=hf b hb;exact⟨f3,f1,f4,f5⟩
 . obtain⟨o,es,ep,ho,r⟩:=hm;exact⟨o,es,ep,k _ o (fun z=>(hf _ z).2.1 rfl) ho,r⟩
 . refine(I.aJ b u e).oA (fun c v hc q=>k c v ?_ q) (fun c q=>q) fun c ys q=>q;rcases hc with z|z
   . rw[z];exact nfp b u e
   . exact nfp c _ z
inductive SK where
 |l|t
def pj(k:SK)(K:PySem.W.Frag)(H:Hp)(a:Addr)(xs:List V):Prop:=match k with
 | .l=>mf K H a xs
 | .t=>i3 K H a xs
def qh(k:SK)(t a:Addr)(n:Nat)(g:Heap):Prop:=match k with
 | .l=>g.IsListIter t a n
 | .t=>g.IsTupleIter t a n
def kr(k:SK)(g:Heap)(a:Addr)(us:Array Value):Prop:=match k with
 | .l=>g.IsList a us
 | .t=>g.IsTuple a us
def yd(k:SK)(a:Addr):Obj:=match k with
 | .l=>{cls:= .type "list_iterator",data:= .fields #[.ref a,.int 0 0]}
 | .t=>{cls:= .type "tuple_iterator",data:= .fields #[.ref a,.int 0 0]}
theorem mJ{P:Program}{w:World}(k:SK)(t a:Addr)(hne:a≠t)(us:Array Value):Src P w t a (fun n g=>qh k t a n g/\kr k g a us) us:=by
 cases k
 . exact src_list t a hne us
 . exact Hy t a hne us
theorem j6{X:Cx}{pins:List (Addr×Obj)}{σ:L2.St}{H:Hp}{s:Shared}{k:SK}{a:Addr}{xs:List V}(I:Inv X pins σ H s)(h:pj k X.K H a xs):∃its:List Value,Vals xs its/\kr k s.heap a its.toArray:=by
 cases k
 . obtain⟨its,rv,p,_⟩:=I.list h;exact⟨its,rv,p.isList⟩
 . obtain⟨its,rv,p,_⟩:=I.tuple h;exact⟨its,rv,p⟩
theorem vw{X:Cx}{pins:List (Addr×Obj)}{σ:L2.St}{H:Hp}{s:Shared}{k:SK}{a:Addr}{xs ys:List V}(I:Inv X pins σ H s)(h:pj k X.K H a xs)(h':pj k X.K H a ys):xs=ys:=by
 cases k
 . exact I.yY h h'
 . exact I.wR h h'
theorem Co{P:Program}{w:World}{A:Around}{s:Shared}{E:Value->Shared->Prop}{k:SK}{a:Addr}{us:Array Value}{Q:Value->Shared->Prop}(h:kr k s.heap a us)(q:Q (.ref s.heap.objs.size) {s with heap:=s.heap.push (yd k a)}):wpAny (model P w) A (pyIter (.ref a)) Q E s:=by
 cases k
 . exact wpAny_pyIter_list h q
 . exact wpAny_pyIter_tuple h q
theorem kr.push{k:SK}{g:Heap}{a:Addr}{us:Array Value}(h:kr k g a us)(o:Obj):kr k (g.push o) a us:=by
 cases k
 . obtain⟨o',e,r⟩:=h;exact⟨o',Heap.get?_push_of_some _ e,r⟩
 . obtain⟨o',e,r⟩:=h;exact⟨o',Heap.get?_push_of_some _ e,r⟩
theorem kr.some{k:SK}{g:Heap}{a:Addr}{us:Array Value}(h:kr k g a us):∃o,g.get? a=Option.some o:=by
 cases k
 . obtain⟨o',e,r⟩:=h;exact⟨o',e⟩
 . obtain⟨o',e,r⟩:=h;exact⟨o',e⟩
theorem zZ{k:SK}{g h:Heap}{t a:Addr}(e:g.get? t=Option.some (yd k a)):qh k t a 0 g:=by
 cases k
 . exact⟨_,e,rfl,rfl⟩
 . exact⟨_,e,rfl,rfl⟩
theorem oW{k:SK}{t a:Addr}{n:Nat}{g g':Heap}(h:qh k t a n g)(kp:∀o,g.get? t=Option.some o->g'.get? t=Option.some o):qh k t a n g':=by
 cases k
 . obtain⟨o,e,r⟩:=h;exact⟨o,kp o e,r⟩
 . obtain⟨o,e,r⟩:=h;exact⟨o,kp o e,r⟩
theorem mZ{k:SK}{t a:Addr}{n:Nat}{g:Heap}(h:qh k t a n g):∃o,g.get? t=Option.some o/\∀v,o.data≠ .cell v:=by
 cases k
 . obtain⟨o,e,c,d⟩:=h;exact⟨o,e,fun v z=>by rw[d]at z;cases z⟩
 . obtain⟨o,e,c,d⟩:=h;exact⟨o,e,fun v z=>by rw[d]at z;cases z⟩
def MI(K:PySem.W.Frag)(k1 k2:SK)(a1 a2:Addr):It:=
 ⟨fun i H=>∃xs ys x y,pj k1 K H a1 xs/\pj k2 K H a2 ys/\xs[i]?=some x/\ys[i]?=some y,
  fun i H v H'=>∃T x y,H T=none/\v= .ref T/\H'=upd H T (.tup [x,y])/\(∀xs,pj k1 K H a1 xs->xs[i]?=some x)/\∀ys,pj k2 K H a2 ys->ys[i]?=some y,
  fun i H=>∃xs ys,pj k1 K H a1 xs/\pj k2 K H a2 ys/\(xs.length<=i\/ys.length<=i)⟩
def Mt(z ti to t1 t2 a1 a2:Addr)(k1 k2:SK)(i:Nat)(h:Heap):Prop:=IsZip h z ti to .none/\IsPair h ti (.ref t1) (.ref t2)/\(∃a b,IsPair h to a b)/\qh k1 t1 a1 i h/\qh k2 t2 a2 i h
theorem E5{P:Program}{w:World}{K:PySem.W.Frag}{elts:List Expr}{kx:Nat}{pos:Pos}{z ti to t1 t2 a1 a2:Addr}(k1 k2:SK)(D:zV z ti to t1 t2 a1 a2):
 Turn P w K (.Tuple elts kx pos) (MI K k1 k2 a1 a2) [z,ti,to,t1,t2] z (Mt z ti to t1 t2 a1 a2 k1 k2) where
 mem:=by simp
 obj:=fun i h st b hb=>by
  obtain⟨Z,pI,⟨a,b',pO⟩,i1,i2⟩:=st;simp only[List.mem_cons,List.not_mem_nil,or_false]at hb;rcases hb with rfl|rfl|rfl|rfl|rfl
  . exact⟨_,Z,fun v e=>by cases e⟩
  . exact⟨_,pI,fun v e=>by cases e⟩
  . exact⟨_,pO,fun v e=>by cases e⟩
  . exact mZ i1
  . exact mZ i2
 keep:=fun i h h' st k=>by
  obtain⟨Z,pI,⟨a,b',pO⟩,i1,i2⟩:=st;exact⟨k z (by simp) _ Z,k ti (by simp) _ pI,⟨a,b',k to (by simp) _ pO⟩,oW i1 (k t1 (by simp)),oW i2 (k t2 (by simp))⟩
 item:=by
  intro X hP hw hK hc i pins s σ H E I hf st hg;subst hP hw hK;obtain⟨Z,pI,⟨a,b',pO⟩,i1,i2⟩:=st;obtain⟨xs,ys,x,y,q1,q2,ex,ey⟩:=hg;obtain⟨us,r1,l1⟩:=j6 I q1;obtain⟨vs,r2,l2⟩:=j6 I q2;obtain⟨u,eu,ru⟩:=r1.get ex;obtain⟨v,ev,rv⟩:=r2.get ey;have m1:=D.a1;have m2:=D.a2;simp only[List.mem_cons,not_or,List.not_mem_nil,not_false_eq_true,and_true]at m1 m2;obtain⟨⟨n1,n2,n3,n4⟩,⟨n5,n6,n7⟩,⟨n8,n9⟩,n10⟩:=D.n;have tz:s.TypeIs (.ref z) "zip":=⟨_,Z,rfl⟩
  unfold pyNext;refine wpAny_bind (wpAny_attempt (wpAny_callSpecial?_slot (name:=Str.ofString "__next__") tz F.slot_zip_next (wpAny_call_entry F.slot_zip_next tz F.entry_zip_next (D0 D (mJ k1 t1 a1 m1.2.2.2.1 us.toArray) (mJ k2 t2 a2 m2.2.2.2.2 vs.toArray) Z pI pO ⟨i1,l1⟩ ⟨i2,l2⟩ (x:=u) (y:=v) (by simpa using eu) (by simpa using ev) fun k Z2 pO2 j1 j2 pT szk kp=>wpAny_pure ⟨_,rfl,?_⟩) (F.args_zip_next_1 _))));refine wpAny_letOwnedTupleGo_zip (s:={s with heap:=k}) Z2 fun k' Z3 b3=>?_;have hT:s.heap.objs.size≠z:=Nat.ne_of_gt (Heap.lt_size Z)
  have kp3:∀b o,b∉[z,ti,to,t1,t2]->s.heap.get? b=some o->k'.get? b=some o:=fun b o hb e=>by
   simp only[List.mem_cons,not_or,List.not_mem_nil,not_false_eq_true,and_true]at hb;exact b3.extBut _ _ hb.1 (kp b o hb.1 hb.2.2.1 hb.2.2.2.1 hb.2.2.2.2 e)
  refine⟨.ref s.heap.objs.size,upd H s.heap.objs.size (.tup [x,y]),F7 (s:=s) (tk:=s.toks) I hf kp3 (Nat.le_refl _) ?_,rfl,⟨s.heap.objs.size,x,y,I.aJ.fresh (Nat.le_refl _),rfl,rfl,?_,?_⟩,?_,?_⟩
  . refine⟨Nat.le_of_ble_eq_true rfl,[u,v],.cons ru (.cons rv .nil),?_⟩;exact⟨_,b3.extBut _ _ hT pT,rfl,_,rfl⟩
  . intro xs' q';rw[vw I q' q1];exact ex
  . intro ys' q';rw[vw I q' q2];exact ey
  . refine⟨Z3,b3.extBut _ _ n1 (kp _ _ n1 n5 n6 n7 pI),⟨_,_,b3.extBut _ _ n2 pO2⟩,oW j1.1 fun o e=>b3.extBut _ _ n3 e,oW j2.1 fun o e=>b3.extBut _ _ n4 e⟩
  . intro b hb
    have:b≠s.heap.objs.size:=by
     obtain⟨o,e,_⟩:∃o,s.heap.get? b=some o/\True:=by
      simp only[List.mem_cons,List.not_mem_nil,or_false]at hb;rcases hb with rfl|rfl|rfl|rfl|rfl
      . exact⟨_,Z,trivial⟩
      . exact⟨_,pI,trivial⟩
      . exact⟨_,pO,trivial⟩
      . obtain⟨o,e,_⟩:=mZ i1;exact⟨o,e,trivial⟩
      . obtain⟨o,e,_⟩:=mZ i2;exact⟨o,e,trivial⟩
     exact Nat.ne_of_lt (Heap.lt_size e)
    rw[ay this];exact(hf b hb).1
 done:=by
  intro X hP hw hK hc i pins s σ H E I hf st hg;subst hP hw hK;obtain⟨Z,pI,⟨a,b',pO⟩,i1,i2⟩:=st;obtain⟨xs,ys,q1,q2,he⟩:=hg;obtain⟨us,r1,l1⟩:=j6 I q1;obtain⟨vs,r2,l2⟩:=j6 I q2;have e1:=r1.length;have e2:=r2.length;have m1:=D.a1;have m2:=D.a2;simp only[List.mem_cons,not_or,List.not_mem_nil,not_false_eq_true,and_true]at m1 m2;have tz:s.TypeIs (.ref z) "zip":=⟨_,Z,rfl⟩
  unfold pyNext;refine wpAny_bind (wpAny_attempt (wpAny_callSpecial?_slot (name:=Str.ofString "__next__") tz F.slot_zip_next (wpAny_call_entry F.slot_zip_next tz F.entry_zip_next (El (I.ok.hd hc) D (mJ k1 t1 a1 m1.2.2.2.1 us.toArray) (mJ k2 t2 a2 m2.2.2.2.2 vs.toArray) Z pI pO ⟨i1,l1⟩ ⟨i2,l2⟩ ?_ fun k e kp hx=>?_) (F.args_zip_next_1 _))))
  . rcases he with h|h
    . left;simp;omega
    . right;simp;omega
  . obtain⟨o,ho,hc2⟩:=hx;refine wpAny_bind (wpAny_isInstance (T:="StopIteration") (b:=true) ⟨o,ho,hc2⟩ isSubtype_stop ?_);refine wpAny_pure ⟨rfl,F2 (s:=s) (tk:=s.toks) I hf fun b o hb e=>?_⟩;simp only[List.mem_cons,not_or,List.not_mem_nil,not_false_eq_true,and_true]at hb;exact kp b o hb.1 hb.2.2.1 hb.2.2.2.1 hb.2.2.2.2 e
 self:=fun _ _ _ _ _ st h=>wpAny_pyIter_zip st.1 h
abbrev FY(h:Heap)(k1:SK)(a1:Addr):Heap:=h.push (yd k1 a1)
abbrev FV(h:Heap)(k1 k2:SK)(a1 a2:Addr):Heap:=(FY h k1 a1).push (yd k2 a2)
abbrev Gk(h:Heap)(k1 k2:SK)(a1 a2:Addr):Heap:=(FV h k1 k2 a1 a2).push {cls:= .type "tuple",data:= .seq #[.ref h.objs.size,.ref (FY h k1 a1).objs.size]}
abbrev Gn(h:Heap)(k1 k2:SK)(a1 a2:Addr):Heap:=(Gk h k1 k2 a1 a2).push {cls:= .type "tuple",data:= .seq #[.none,.none]}
abbrev zX(h:Heap)(k1 k2:SK)(a1 a2:Addr):Heap:=(Gn h k1 k2 a1 a2).push {cls:= .type "zip",data:= .fields #[.none,.bool false,.bool false,.ref (FV h k1 k2 a1 a2).objs.size,.ref (Gk h k1 k2 a1 a2).objs.size]}
theorem Cf(k1 k2:SK)(a1 a2:Addr)(us vs:Array Value):Meets (Builtin.«zip.__new__» ⟨[.type "zip",.ref a1,.ref a2],[]⟩) (fun _ R s=>kr k1 s.heap a1 us/\kr k2 s.heap a2 vs/\
 R (.ok (.ret (.ref (Gn s.heap k1 k2 a1 a2).objs.size))) {s with heap:=zX s.heap k1 k2 a1 a2}):=
 .of_wp fun P w A R s h=>by
  obtain⟨hp,g,d,tk,os⟩:=s;obtain⟨c1,c2,h⟩:=h;have hsub:=sub_zip;have L1:kr k1 (Shared.heap ⟨hp,g,d,tk,os⟩) a1 us:=c1;have L2:kr k2 (Shared.heap ⟨hp.push (yd k1 a1),g,d,tk,os⟩) a2 vs:=kr.push c2 _
  wp_walk using Co L1,Co L2
  exact⟨_,rfl,h⟩
theorem EJ{P:Program}{w:World}{A:Around}{s:Shared}{E:Value->Shared->Prop}{k1 k2:SK}{a1 a2:Addr}{us vs:Array Value}{Q:Value->Shared->Prop}(c1:kr k1 s.heap a1 us)(c2:kr k2 s.heap a2 vs)
 (q:∀g n,n=s.heap.objs.size->IsZip g (n+4) (n+2) (n+3) .none->IsPair g (n+2) (.ref n) (.ref (n+1))->IsPair g (n+3) .none .none->qh k1 n a1 0 g->qh k2 (n+1) a2 0 g->(∀c o,s.heap.get? c=some o->g.get? c=some o)->Q (.ref (n+4)) {s with heap:=g}):
 wpAny (model P w) A (call (.type "zip") [.ref a1,.ref a2]) Q E s:=by
 refine callType_new F.called_zip (by decide) (F.typeCall_zip_2 _ _) (F.newCall_zip_2 _ _) (fun ob=>F.args_object_init_3 ob _ _) F.entry_zip_new (Cf k1 k2 a1 a2 us vs) ⟨c1,c2,?_⟩;have y1:(FY s.heap k1 a1).objs.size=s.heap.objs.size+1:=Heap.size_push ..;have y2:(FV s.heap k1 k2 a1 a2).objs.size=s.heap.objs.size+2:=by rw[Heap.size_push,y1]
 have y3:(Gk s.heap k1 k2 a1 a2).objs.size=s.heap.objs.size+3:=by rw[Heap.size_push,y2]
 have y4:(Gn s.heap k1 k2 a1 a2).objs.size=s.heap.objs.size+4:=by rw[Heap.size_push,y3]
 have e5:(zX s.heap k1 k2 a1 a2).get? (Gn s.heap k1 k2 a1 a2).objs.size=some _:=Heap.get?_push_size _ rfl;have e4:(zX s.heap k1 k2 a1 a2).get? (Gk s.heap k1 k2 a1 a2).objs.size=some _:=Heap.get?_push_of_some _ (Heap.get?_push_size _ rfl);have e3:(zX s.heap k1 k2 a1 a2).get? (FV s.heap k1 k2 a1 a2).objs.size=some _:=Heap.get?_push_of_some _ (Heap.get?_push_of_some _ (Heap.get?_push_size _ rfl));have e2:(zX s.heap k1 k2 a1 a2).get? (FY s.heap k1 a1).objs.size=some (yd k2 a2):=Heap.get?_push_of_some _ (Heap.get?_push_of_some _ (Heap.get?_push_of_some _ (Heap.get?_push_size _ (by cases k2<;>rfl))));have e1:(zX s.heap k1 k2 a1 a2).get? s.heap.objs.size=some (yd k1 a1):=Heap.get?_push_of_some _ (Heap.get?_push_of_some _ (Heap.get?_push_of_some _ (Heap.get?_push_of_some _ (Heap.get?_push_size _ (by cases k1<;>rfl)))));show _/\_;rw[y2,y3,y4]at e5;rw[y1,y2]at e3;rw[y3]at e4;rw[y1]at e2;rw[y4];exact⟨⟨_,e5,rfl⟩,q _ _ rfl e5 e3 e4 (zZ (h:=s.heap) e1) (zZ (h:=s.heap) e2) fun c o x=>Heap.get?_push_of_some _ (Heap.get?_push_of_some _ (Heap.get?_push_of_some _ (Heap.get?_push_of_some _ (Heap.get?_push_of_some _ x))))⟩
def FT:D->SK
 | .tup _=> .t
 |_=> .l
def Cj(k:SK)(G:Hp)(a:Addr)(vs:List V):Prop:=match k with
 | .l=>Rd G a (.lst vs)
 | .t=>G a=some (.tup vs)
theorem jA{K:PySem.W.Frag}{k:SK}{G F H:Hp}(P:cf G F H){a:Addr}{vs:List V}(h:Cj k G a vs):pj k K H a vs:=by
 cases k
 . exact .inl (gj P h)
 . exact i3.of (P.get h)
theorem mX{α:List (Option Addr)}{H:Hp}{st:af}{d:D}{v:V}{xs:List D}(S:aS α st H)(r:Rep α H d v)(e:items? st d=some xs):∃p vs,v= .ref p/\aH α H xs vs/\Cj (FT d) H p vs:=by
 cases d<;>try(cases e;done)
 . unfold items? at e;simp only at e;split at e
   . rename_i ys q;cases e;obtain⟨a,ea,vs,h1,h2⟩:=S.mT q;exact⟨a,vs,e8 ea r,h2,Rd.of h1⟩
   . cases e
 . cases e;unfold Rep at r;obtain⟨a,vs,rfl,_,h1,h2⟩:=r;exact⟨a,vs,rfl,h2,h1⟩
 . cases e;unfold Rep at r;obtain⟨a,vs,rfl,_,h1,h2⟩:=r;exact⟨a,vs,rfl,h2,h1⟩
def iw(xs ys:List D):List D:=(xs.zip ys).map fun p=> .tup [p.1,p.2]
theorem tS{xs ys:List D}:(iw xs ys).length=min xs.length ys.length:=by unfold iw;simp
theorem tW{xs ys:List D}{n:Nat}{d:D}(e:(iw xs ys)[n]?=some d):∃x y,xs[n]?=some x/\ys[n]?=some y/\d= .tup [x,y]:=by
 unfold iw at e;rw[List.getElem?_map]at e;cases q:(xs.zip ys)[n]? with
 |none=>rw[q]at e;cases e
 |some p=>
  rw[q]at e;cases e;rw[List.getElem?_zip_eq_some]at q;exact⟨p.1,p.2,q.1,q.2,rfl⟩
theorem JV{K:PySem.W.Frag}{k1 k2:SK}{a1 a2:Addr}{α:List (Option Addr)}{G:Hp}{ok:af->Prop}{xs ys:List D}
 (h:∀α' G' st',Step α G α' G'->aS α' st' G'->ok st'->∃vs ws,Cj k1 G' a1 vs/\Cj k2 G' a2 ws/\aH α' G' xs vs/\aH α' G' ys ws):vS (MI K k1 k2 a1 a2) α G ok (iw xs ys) where
 stop:=fun n α' G' F' H' st' s P S o hn=>by
  obtain⟨vs,ws,h1,h2,r1,r2⟩:=h α' G' st' s S o;rw[tS]at hn;refine⟨vs,ws,jA P h1,jA P h2,?_⟩;have:=r1.length;have:=r2.length;omega
 go:=fun n d α' G' F' H' st' s P S o hn=>by
  obtain⟨vs,ws,h1,h2,r1,r2⟩:=h α' G' st' s S o;obtain⟨x,y,ex,ey,rfl⟩:=tW hn;obtain⟨v,ev,_⟩:=r1.get ex;obtain⟨u,eu,_⟩:=r2.get ey;exact⟨vs,ws,v,u,jA P h1,jA P h2,ev,eu⟩
 oX:=fun n d α' G' F' H' st' x H'' s P S o hn y=>by
  obtain⟨vs,ws,h1,h2,r1,r2⟩:=h α' G' st' s S o;obtain⟨c,e,ec,ee,rfl⟩:=tW hn;obtain⟨T,v,u,hT,rfl,rfl,y1,y2⟩:=y;obtain⟨v',ev,rv⟩:=r1.get ec;obtain⟨u',eu,ru⟩:=r2.get ee;rw[y1 vs (jA P h1)]at ev;rw[y2 ws (jA P h2)]at eu;cases ev;cases eu;have hg:=(P.none hT).1;refine⟨upd G' T (.tup [v,u]),Step.laid hg,P.laid hT,S.laid hg,?_⟩;unfold Rep;refine⟨T,[v,u],rfl,S.j5 hg,a6,?_⟩;unfold aH;refine⟨v,[u],rfl,rv.step (Step.laid hg),?_⟩;unfold aH;exact⟨u,[],rfl,ru.step (Step.laid hg),by unfold aH;rfl⟩
def E7(ds:List D)(st1:af)(K:List D->(af->Prop)->af->Prop):Prop:=match ds with
 | [x,y]=>(match items? st1 x,items? st1 y with
   |some xs,some ys=>K (iw xs ys) (fun st'=>items? st' x=some xs/\items? st' y=some ys) st1
   |_,_=>False)
 |_=>False
@[irreducible] def uJ:List D->af->(List D->(af->Prop)->af->Prop)->Prop:=E7
def vU(t:DA):DI:=fun σ st K=>t σ st fun ds st1=>uJ ds st1 K
theorem GV{n a1 a2:Nat}(h1:a1<n)(h2:a2<n):zV (n+4) (n+2) (n+3) n (n+1) a1 a2:=by
 have e0:([n+4,n+2,n+3,n,n+1]:List Nat).Nodup:=by
  simp only[List.nodup_cons,List.mem_cons,not_or,List.not_mem_nil,not_false_eq_true,and_true,List.nodup_nil];omega
 have e1:∀a:Nat,a<n->a∉([n+4,n+2,n+3,n,n+1]:List Nat):=fun a ha=>by
  simp only[List.mem_cons,not_or,List.not_mem_nil,not_false_eq_true,and_true];omega
 exact⟨e0,e1 a1 h1,e1 a2 h2⟩
theorem J_{X:Cx}{a b:Expr}{elts:List Expr}{kx:Nat}{tpos p pos:Pos}{t:DA}(hg:Gl X "zip")(hm:X.mg "zip"=none)(ha:PA X [a,b] (LA t))(hs:starEach [a,b] X.env=[(false,eval a X.env),(false,eval b X.env)])(hs2:starEach [b] X.env=[(false,eval b X.env)]):
 PI X (.Tuple elts kx tpos) (.Call (.Name "zip" p) [a,b] [] pos) (LI (vU t)):=by
 intro pins s σ H R I h;obtain⟨α,σd,st,K,G,F,P,RS,S,t,k⟩:=h;refine Call_ (lI I hg hm boot_zip (PyProof.Rows.callWith_type1 (bQ (ha pos pins s σ H (fun vs H1=>∃ds α1 G1 st1,Step α G α1 G1/\cf G1 F H1/\aS α1 st1 G1/\aH α1 G1 ds vs/\uJ ds st1 K) I ⟨α,σd,st,_,G,F,P,RS,S,t,fun ds st1 q α1 G1 H1 vs s1 P1 S1 r1=>⟨ds,α1,G1,st1,s1,P1,S1,r1,q⟩⟩) fun us s1 ⟨vs,H1,I1,rv,ds,α1,G1,st1,w1,P1,S1,r1,q⟩=>?_) (by rw[hs,hs2]) (by rw[hs2];rfl)));unfold uJ E7 at q;split at q
 . rename_i x y;split at q
   . rename_i xs ys ex ey;obtain⟨v1,v2,rfl,q1,q2⟩:=pz r1 rfl;obtain⟨p1,vs1,rfl,g1,c1⟩:=mX S1 q1 ex;obtain⟨p2,vs2,rfl,g2,c2⟩:=mX S1 q2 ey;obtain⟨u1,u2,rfl,ru1,ru2⟩:=vals2 rv;cases ru1;cases ru2;obtain⟨its1,_,l1⟩:=j6 I1 (jA P1 c1);obtain⟨its2,_,l2⟩:=j6 I1 (jA P1 c2);refine EJ l1 l2 fun g n hn Z pI pO i1 i2 kp=>?_;obtain⟨o1,eo1⟩:=l1.some;obtain⟨o2,eo2⟩:=l2.some;refine wpAny_pyIter_zip (s:={s1 with heap:=g}) Z ?_;refine⟨n+4,[n+4,n+2,n+3,n,n+1],_,_,H1,rfl,I1.kept (t':=s1.toks) kp,E5 (FT x) (FT y) (GV (by rw[hn];exact Heap.lt_size eo1) (by rw[hn];exact Heap.lt_size eo2)),⟨Z,pI,⟨_,_,pO⟩,i1,i2⟩,fun b hb=>?_,?_⟩
     . have hb':s1.heap.objs.size<=b:=by
        simp only[List.mem_cons,List.not_mem_nil,or_false]at hb;rcases hb with rfl|rfl|rfl|rfl|rfl<;>(rw[<-hn];first|exact Nat.le_refl _|exact Nat.le_add_right _ _)
       exact I1.vx hb' (I1.aJ.fresh hb')
     . refine k _ _ st1 q _ α1 G1 H1 w1 P1 S1 (JV fun α' G' st' s' S' o=>?_);obtain⟨p1',ws1,e1,f1,d1⟩:=mX S' (q1.step s') o.1;obtain⟨p2',ws2,e2,f2,d2⟩:=mX S' (q2.step s') o.2;cases e1;cases e2;exact⟨ws1,ws2,d1,d2,f1,f2⟩
   . exact q.elim
 . exact q.elim
theorem uo{st:af}{x y:D}{xs ys:List D}{K:List D->(af->Prop)->af->Prop}(ex:items? st x=some xs)(ey:items? st y=some ys)(k:∀ok:af->Prop,(∀st',items? st' x=some xs->items? st' y=some ys->ok st')->K (iw xs ys) ok st):uJ [x,y] st K:=by
 unfold uJ E7;simp only[ex,ey];exact k _ fun st' h1 h2=>⟨h1,h2⟩
theorem xV{X:Cx}{a b:Expr}{elts:List Expr}{kx:Nat}{tpos p pos:Pos}{ar:DA}(hg:Gl X "zip")(hm:X.mg "zip"=none)(ha:JA X [a,b] ar)(hs:notStar a=true:=by rfl)(hs2:notStar b=true:=by rfl):JI X (.Tuple elts kx tpos) (.Call (.Name "zip" p) [a,b] [] pos) (vU ar):=by
 unfold JI;unfold JA at ha;exact J_ hg hm ha (by rw[di hs,di hs2];rfl) (di hs2)
theorem y_(f:Nat->Int):∀n,preSum f (n+1)=f 0+preSum (fun i=>f (i+1)) n
 |0=>by show preSum f 0+f 0=f 0+0;show(0:Int)+f 0=f 0+0;omega
 |n+1=>by
  have h:=y_ f n;show preSum f (n+1)+f (n+1)=f 0+(preSum (fun i=>f (i+1)) n+f (n+1));rw[h];omega
theorem Ar:∀ns:List Int,preSum (fun i=>ns.getD i 0) ns.length=ns.sum
 | []=>rfl
 |n::ns=>by
  rw[List.length_cons,y_];have:(fun i=>(n::ns).getD (i+1) 0)=fun i=>ns.getD i 0:=by funext i;simp
  rw[this,Ar ns,List.sum_cons];rfl
section
variable {X:Cx}
def xY:eV:=fun ds st K=>match ds with| [.lst xs]=>(match k9 xs with|some ns=>K (.int ns.sum) st|none=>False)|_=>False
theorem lB:∀ {ns:List Int} {us:List Value},Vals (ns.map V.int) us->∀(i:Nat) (u:Value),us[i]?=some u->∃t,u=Value.int (ns.getD i 0) t
 | [],_,.nil,i,u,e=>by simp at e
 |n::ns,_,.cons h t,0,u,e=>by
  obtain⟨tk,rfl⟩:=h;simp at e;exact⟨tk,by rw[<-e];rfl⟩
 |n::ns,_,.cons h t,i+1,u,e=>by
  obtain⟨tk,q⟩:=lB t i u (by simpa using e);exact⟨tk,by rw[q];simp⟩
theorem Mq(hc:X.calm=true):bp X (.builtin "sum") (fB xY):=fun pins s σ H xs us Q I rs ⟨α,ds,st,K,G,F',P,r,S,q,k⟩=>by
 unfold xY at q;split at q
 . rename_i ys;split at q
   . rename_i ns e;obtain⟨v,rfl,r1⟩:=iE r rfl;unfold Rep at r1;obtain⟨a,vs,rfl,na,h1,h2⟩:=r1;obtain⟨u,rfl,ru⟩:=vals1 rs;cases ru;have hv:=qF h2 e;subst hv;obtain⟨z,its,n,rv,hl,eo⟩:=Inv.vV I (gj P h1);have isL:s.heap.IsList a its.toArray:=⟨_,eo,rfl,n,rfl⟩
     refine call_sum_walkAnyB (wpAny_pyIter_list isL ?_);have hne:a≠s.heap.objs.size:=Nat.ne_of_lt (Heap.lt_size eo);refine⟨s.heap.objs.size,_,_,_,_,_,_,fun i=>ns.getD i 0,rfl,(Walks.list (A:=X.A.in1) (I.ok.hd hc) _ a hne its.toArray).toS,⟨⟨_,Heap.get?_push_size _ rfl,rfl,rfl⟩,⟨_,Heap.get?_push_of_some _ eo,rfl,n,rfl⟩⟩,?_,?_,?_⟩
     . intro b hb;rw[Heap.size_push];simp only[List.mem_cons,List.not_mem_nil,or_false]at hb;rcases hb with rfl|rfl
       . exact Nat.lt_succ_self _
       . exact Nat.lt_succ_of_lt (Heap.lt_size eo)
     . intro i w hw;obtain⟨t,e⟩:=lB rv i w (by simpa using hw);exact .inl ⟨t,e⟩
     . intro s' t' hm
       have kp:∀b o,s.heap.get? b=some o->s'.heap.get? b=some o:=fun b o q=>hm.heap b o (by
        intro hb;have:b=s.heap.objs.size:=by simpa using hb
        exact absurd (Heap.lt_size q) (by rw[this];exact Nat.lt_irrefl _)) (Heap.get?_push_of_some _ q)
       have es:s'= {s with heap:=s'.heap,toks:=s'.toks}:=by
        have g:=hm.gens;have d:=hm.drawn;have o:=hm.os;cases s';cases s
        simp_all
       have en:preSum (fun i=>ns.getD i 0) its.toArray.size=ns.sum:=by
        have:its.toArray.size=ns.length:=by rw[List.size_toArray,<-hl,List.length_map]
        rw[this];exact Ar ns
       rw[en,es];exact⟨.int ns.sum,H,I.kept (t':=s'.toks) kp,⟨t',rfl⟩,k.here P q S (by unfold Rep;rfl)⟩
   . exact q.elim
 . exact q.elim
@[irreducible] def tZ:eV:=xY
theorem Gq(hc:X.calm=true):bp X (.builtin "sum") (fB tZ):=by unfold tZ;exact Mq hc
end
theorem ints_map:∀ns:List Int,k9 (ns.map D.int)=some ns
 | []=>rfl
 |n::ns=>by simp[k9,ints_map ns]
theorem CL{st:af}{K:DK}{xs:List D}{ns:List Int}(h:k9 xs=some ns)(k:K (.int ns.sum) st):tZ [.lst xs] st K:=by unfold tZ xY;simp only[h];exact k
section
variable {X:Cx}{pos:Pos}
end
end L3
namespace L3
open PySem L2 PySem.SeqAt
open PySem.Spec hiding items?
open PyProof.Rows hiding St
section
variable {X:Cx}{pins:List (Addr×Obj)}{σ:L2.St}{H:Hp}{s:Shared}{α:List (Option Addr)}
theorem AD{A:Around}{d e:D}{x y:V}{u v:Value}(hd:wa d=true)(he:wa e=true)(rd:Rep α H d x)(re:Rep α H e y)(rx:RelV x u)(ry:RelV y v):RcNeAt A s u v (!cN d e):=by
 cases d<;>cases e<;>try(first|(cases hd;done)|(cases he;done))
 all_goals(unfold Rep at rd re;subst rd re)
 all_goals(first|(obtain⟨t,rfl⟩:=rx;obtain⟨t',rfl⟩:=ry)|(obtain⟨t,rfl⟩:=rx;cases ry)|(cases rx;obtain⟨t,rfl⟩:=ry)|(cases rx;cases ry))
 all_goals unfold cN
 . exact RcNeAt.none_none
 . exact RcNeAt.none_bool _
 . exact RcNeAt.none_int _ _
 . exact RcNeAt.none_str _ _
 . exact RcNeAt.bool_none _
 . exact RcNeAt.bool_bool _ _
 . exact RcNeAt.bool_int _ _ _
 . exact RcNeAt.bool_str _ _ _
 . exact RcNeAt.int_none _ _
 . exact RcNeAt.int_bool _ _ _
 . exact RcNeAt.int_int _ _ _ _
 . exact RcNeAt.int_str _ _ _ _
 . exact RcNeAt.str_none _ _
 . exact RcNeAt.str_bool _ _ _
 . exact RcNeAt.str_int _ _ _ _
 . exact RcNeAt.str_str _ _ _ _
theorem wL(I:Inv X pins σ H s){A:Around}{xs:List D}{e:D}{x y:V}{u v:Value}(he:wa e=true)(rd:Rep α H (.lst xs) x)(re:Rep α H e y)(rx:RelV x u)(ry:RelV y v)(hu:A.units<cLine):
 RcNeAt A s u v (!cN (.lst xs) e)/\RcNeAt A s v u (!cN e (.lst xs)):=by
 obtain⟨a,vs,its,rfl,_,_,hl⟩:=lst_is I rd rx;cases e<;>try(cases he;done)
 all_goals(unfold Rep at re;subst re)
 all_goals(first|(obtain⟨t,rfl⟩:=ry)|(cases ry))
 all_goals unfold cN
 . exact⟨RcNeAt.list_none hl hu,RcNeAt.none_list hl hu⟩
 . exact⟨RcNeAt.list_bool _ hl hu,RcNeAt.bool_list _ hl hu⟩
 . exact⟨RcNeAt.list_int _ _ hl hu,RcNeAt.int_list _ _ hl hu⟩
 . exact⟨RcNeAt.list_str _ _ hl hu,RcNeAt.str_list _ _ hl hu⟩
theorem wg(I:Inv X pins σ H s){A:Around}{xs:List D}{e:D}{x y:V}{u v:Value}(he:wa e=true)(rd:Rep α H (.tup xs) x)(re:Rep α H e y)(rx:RelV x u)(ry:RelV y v)(hu:A.units<cLine):
 RcNeAt A s u v (!cN (.tup xs) e)/\RcNeAt A s v u (!cN e (.tup xs)):=by
 obtain⟨a,vs,its,rfl,_,_,hl⟩:=tup_is I rd rx;cases e<;>try(cases he;done)
 all_goals(unfold Rep at re;subst re)
 all_goals(first|(obtain⟨t,rfl⟩:=ry)|(cases ry))
 all_goals unfold cN
 . exact⟨RcNeAt.tuple_none hl hu,RcNeAt.none_tuple hl hu⟩
 . exact⟨RcNeAt.tuple_bool _ hl hu,RcNeAt.bool_tuple _ hl hu⟩
 . exact⟨RcNeAt.tuple_int _ _ hl hu,RcNeAt.int_tuple _ _ hl hu⟩
 . exact⟨RcNeAt.tuple_str _ _ hl hu,RcNeAt.str_tuple _ _ hl hu⟩
theorem KS(I:Inv X pins σ H s)(n:Nat)(A:Around)(d e:D)(x y:V)(u v:Value)(hd:pl n d=true)(he:pl n e=true)(rd:Rep α H d x)(re:Rep α H e y)(rx:RelV x u)(ry:RelV y v)(hu:A.units+n<cLine):RcNeAt A s u v (!cN d e):=by
 cases n with
 |zero=>
  refine AD ?_ ?_ rd re rx ry
  . cases d<;>first|rfl|(cases hd)
  . cases e<;>first|rfl|(cases he)
 |succ n=>
  have hu0:A.units<cLine:=by omega
  have hin:A.in1.units+n<cLine:=by rw[Around.in1_units];omega
  cases d<;>try(cases hd;done)
  case lst xs=>
   cases e<;>try(cases he;done)
   case lst ys=>
    obtain⟨a,vs,its,rfl,r1,v1,l1⟩:=lst_is I rd rx;obtain⟨b,ws,jts,rfl,r2,v2,l2⟩:=lst_is I re ry;have e1:=r1.length;have e2:=v1.length;have e3:=r2.length;have e4:=v2.length;unfold cN;by_cases hlen:xs.length=ys.length
    . rw[nM hlen];have hsz:its.toArray.size=jts.toArray.size:=by simp only[List.size_toArray];omega
      have hx:xs.length=its.toArray.size:=by simp only[List.size_toArray];omega
      rw[hx];refine RcNeAt.lists l1 l2 hsz hu0 fun j h1 h2=>?_;obtain⟨p,_,q1,q2⟩:=jQ r1 v1 j (by simpa using h1);obtain⟨p',_,q1',q2'⟩:=jQ r2 v2 j (by simpa using h2);exact(BO I n A.in1 _ _ p p' _ _ (iS (by unfold pl at hd;exact hd) j) (iS (by unfold pl at he;exact he) j) q1 q1' (by simpa using q2) (by simpa using q2') hin).2
    . rw[nC hlen];exact RcNeAt.lists_lengths l1 l2 (by simp only[List.size_toArray,bne_iff_ne,ne_eq];omega) hu0
   case tup ys=>
    obtain⟨a,vs,its,rfl,r1,v1,l1⟩:=lst_is I rd rx;obtain⟨b,ws,jts,rfl,r2,v2,l2⟩:=tup_is I re ry;unfold cN;exact RcNeAt.list_tuple l1 l2 hu0
   all_goals exact(wL I rfl rd re rx ry hu0).1
  case tup xs=>
   cases e<;>try(cases he;done)
   case tup ys=>
    obtain⟨a,vs,its,rfl,r1,v1,l1⟩:=tup_is I rd rx;obtain⟨b,ws,jts,rfl,r2,v2,l2⟩:=tup_is I re ry;have e1:=r1.length;have e2:=v1.length;have e3:=r2.length;have e4:=v2.length;unfold cN
    have key:=RcNeAt.tuples (e:=fun j=>cN (xs.getD j .aL) (ys.getD j .aL)) l1 l2 hu0 fun j h1 h2=>by
     obtain⟨p,_,q1,q2⟩:=jQ r1 v1 j (by simpa using h1);obtain⟨p',_,q1',q2'⟩:=jQ r2 v2 j (by simpa using h2);exact(BO I n A.in1 _ _ p p' _ _ (iS (by unfold pl at hd;exact hd) j) (iS (by unfold pl at he;exact he) j) q1 q1' (by simpa using q2) (by simpa using q2') hin).2
    by_cases hlen:xs.length=ys.length
    . rw[nM hlen];have hsz:its.toArray.size=jts.toArray.size:=by simp only[List.size_toArray];omega
      have hx:xs.length=its.toArray.size:=by simp only[List.size_toArray];omega
      rw[hsz,Nat.min_self,beq_self_eq_true,Bool.and_true,<-hsz,<-hx]at key;exact key
    . rw[nC hlen];have hne:(its.toArray.size==jts.toArray.size)=false:=by simp only[List.size_toArray,beq_eq_false_iff_ne,ne_eq];omega
      rw[hne,Bool.and_false]at key;exact key
   case lst ys=>
    obtain⟨a,vs,its,rfl,r1,v1,l1⟩:=tup_is I rd rx;obtain⟨b,ws,jts,rfl,r2,v2,l2⟩:=lst_is I re ry;unfold cN;exact RcNeAt.tuple_list l1 l2 hu0
   all_goals exact(wg I rfl rd re rx ry hu0).1
  all_goals
   cases e<;>try(cases he;done)
   case lst ys=>exact(wL I rfl re rd ry rx hu0).2
   case tup ys=>exact(wg I rfl re rd ry rx hu0).2
   all_goals exact AD rfl rfl rd re rx ry
def Ke:dc:=fun x y st K=>pl 40 x=true/\pl 40 y=true/\K (.bl (!cN x y)) st
theorem L4{k:Nat}(hr:cT k X.A):bS X (compareOp .NotEq) (LR Ke):=fun pins s σ H x y v u Q I rx ry ⟨α,d,e,st,K,G,F',P,r1,r2,S,q,k⟩=>by
 have hu:=hr.units;exact KS I 40 X.A d e x y v u q.1 q.2.1 (r1.mono P.same) (r2.mono P.same) rx ry (by omega) _ _ _ _ ⟨.bl (!cN d e),H,I,rfl,k.here P q.2.2 S (by unfold Rep;rfl)⟩
@[irreducible] def pL:dc:=Ke
theorem xJ{k:Nat}(hr:cT k X.A):bS X (compareOp .NotEq) (LR pL):=by unfold pL;exact L4 hr
end
theorem Ih{st:af}{K:DK}{d e:D}(h1:pl 40 d=true)(h2:pl 40 e=true)(k:K (.bl (!cN d e)) st):pL d e st K:=by unfold pL;exact⟨h1,h2,k⟩
theorem p9{st:af}{K:DK}{d:D}(h:pl 40 d=true)(k:K (.bl false) st):pL d d st K:=Ih h h (by rw[nt 40 d h];exact k)
theorem Dr{st:af}{n:Nat}{xs:List D}(h:items? st (.ref n)=some xs):st[n]?=some (.lst xs):=by
 unfold items? at h;simp only at h;split at h
 . rename_i q;cases h;exact q
 . cases h
theorem pH{env:Env}:∀(l:List (Str×NameKind)) (x:Str),(l.lookup x=some .cell\/l.lookup x=some .free)->
 ((l.map fun(n,k)=>if(k== .free&&env.scope.kind== .function&&env.kindOf n==some .cell)then(n,.cell)else(n,k)).lookup x=some .cell\/(l.map fun(n,k)=>if(k== .free&&env.scope.kind== .function&&env.kindOf n==some .cell)then(n,.cell)else(n,k)).lookup x=some .free)
 | [],x,h=>by simp at h
 |(n,k)::l,x,h=>by
  rw[List.map_cons];dsimp only;by_cases hx:x=n
  . subst hx;rw[List.lookup_cons_self]at h;split
    . rw[List.lookup_cons_self];exact .inl rfl
    . rw[List.lookup_cons_self];exact h
  . have hb:(x==n)=false:=by simpa using hx
    have e1:List.lookup x ((n,k)::l)=List.lookup x l:=by rw[List.lookup_cons,hb]
    rw[e1]at h;have ih:=pH (env:=env) l x h;split
    . rw[List.lookup_cons,hb];exact ih
    . rw[List.lookup_cons,hb];exact ih
theorem bj.Bw{X0:Cx}{scope0 scope:Scope}{Nc0 Nc:List Str}{C:Addr}{s:Shared}{H:Hp}{ex:List Addr}{fr:List (Option Nat)}(h:uM scope0 Nc0 scope Nc fr=true):bj (fx X0 scope0 Nc0 C s H ex) scope Nc fr:=by
 unfold uM at h;simp only[Bool.and_eq_true]at h;obtain⟨⟨⟨⟨⟨h1,h2⟩,h3⟩,h4⟩,h5⟩,h6⟩:=h;refine⟨by simpa using h1,fun x hx hk=>?_,fun x hx hk=>?_,fun x hx hk=>?_,by simpa using h5,fun i j x e1 e2=>?_⟩
 . have:=List.all_eq_true.mp h2 x hx;rw[hk]at this;simpa using this
 . have:=List.all_eq_true.mp h3 x hx;rw[hk]at this;simpa using this
 . have:=List.all_eq_true.mp h4 x hx;rw[hk]at this;have z:scope0.names.lookup x.1=some .cell\/scope0.names.lookup x.1=some .free:=by simpa using this
   exact pH _ _ z
 . have hi:i<fr.length:=(List.getElem?_eq_some_iff.mp e2).1;have:=List.all_eq_true.mp h6 i (List.mem_range.mpr hi);rw[e1,e2]at this;simp only[Bool.and_eq_true,Bool.or_eq_true,beq_iff_eq]at this;exact⟨this.1.1,this.1.2,pH _ _ this.2⟩
end L3
namespace L3
open PySem L2
open PySem.Spec hiding items?
open PyProof.Rows hiding St
section
variable {X:Cx}
def Gy:dc:=fun x y st K=>match x,y with
 | .lst xs,.int k=>(-(2^63)<=k/\k<2^63/\xs.length*k.toNat<=sizeLine)/\K (.ref st.length) (st++[.lst (List.replicate k.toNat xs).flatten])
 |_,_=>False
theorem Js:bS X (binaryOp .Mult) (LR Gy):=fun pins s σ H x y v u Q I rx ry ⟨α,d,e,st,K,G,F',P,r1,r2,S,q,k⟩=>by
 cases d<;>cases e<;>try exact q.elim
 unfold Rep at r1 r2;obtain⟨a,vs,rfl,na,ha,ra⟩:=r1;refine An pins s σ H _ _ v u Q I rx ry ⟨a,_,vs,rfl,r2,gj P ha,q.1.1,q.1.2.1,by rw[<-ra.length];exact q.1.2.2,fun p hp=>?_⟩;exact k.new P q.2 S (bw.mpr (k6 (bw.mp ra) _)) hp
@[irreducible] def ve:dc:=Gy
theorem KJ:bS X (binaryOp .Mult) (LR ve):=by unfold ve;exact Js
end
theorem Ic{st:af}{K:DK}{xs:List D}{i:Int}(h: -(2^63)<=i/\i<2^63/\xs.length*i.toNat<=sizeLine)(k:K (.ref st.length) (st++[.lst (List.replicate i.toNat xs).flatten])):ve (.lst xs) (.int i) st K:=by unfold ve;exact⟨h,k⟩
theorem C1{n:Nat}{d:D}(h:d∈dP 0 n):∃i:Nat,i<n/\d= .int (i:Int):=by
 unfold dP at h;obtain⟨i,hi,rfl⟩:=List.mem_map.mp h;rw[List.mem_range]at hi;exact⟨i,hi,by rw[Int.zero_add]⟩
theorem DN{f:Nat->D}(n:Nat):(dP 0 n).map (fun d=>match d with| .int i=>f i.toNat|_=> .aL)=(List.range n).map f:=by
 unfold dP;rw[List.map_map];refine List.map_congr_left fun i _=>?_;show f ((0:Int)+(i:Int)).toNat=f i;have:((0:Int)+(i:Int)).toNat=i:=by omega
 rw[this]
theorem j_{tg:fM}{te:DE}{σc:cv}{st:af}{K:List D->af->Prop}(f:Nat->D)(n:Nat)(hx:∀i:Nat,i<n->∀K',K' (f i) st->∃σ2,tg (.int (i:Int)) σc=some σ2/\te σ2 st K')(k:K ((List.range n).map f) st):cQ tg cH te (fun _=>True) σc (dP 0 n) [] st K:=by
 refine comp_map (g:=fun d=>match d with| .int i=>f i.toNat|_=> .aL) trivial _ (fun d hd K' q=>?_) (by rw[DN];exact k);obtain⟨i,hi,rfl⟩:=C1 hd;exact hx i hi K' q
theorem jS{tg:fM}{body:DS}{E:og}(n:Nat)(I:Nat->cv->af->Prop)(hend:∀σ st,I n σ st->E.nx σ st)
 (hstep:∀(j:Nat) σ st (rest:List D),j<n->I j σ st->(∀σ' st',I (j+1) σ' st'->i4 tg body (fun _=>True) E rest σ' st')->∃σ1,tg (.int (j:Int)) σ=some σ1/\body {E with nx:=i4 tg body (fun _=>True) E rest,ct:=i4 tg body (fun _=>True) E rest,bk:=E.nx} σ1 st)
 {σ:cv} {st:af} (h0:I 0 σ st):i4 tg body (fun _=>True) E (dP 0 n) σ st:=by
 refine g_ (fun rest σ st=>∃j:Nat,j<=n/\rest=(List.range (n-j)).map (fun i=>D.int (((j+i:Nat):Int)))/\I j σ st) ?_ ?_ _ _ _ ⟨0,Nat.zero_le _,by unfold dP;simp,h0⟩
 . rintro σ st ⟨j,hj,hr,hI⟩
   have:n-j=0:=by
    cases q:n-j with
    |zero=>rfl
    |succ m=>rw[q,List.range_succ_eq_map]at hr;cases hr
   have hjn:j=n:=by omega
   subst hjn;exact⟨trivial,hend σ st hI⟩
 . rintro d rest σ st ⟨j,hj,hr,hI⟩ next
   cases q:n-j with
   |zero=>rw[q]at hr;cases hr
   |succ m=>
    rw[q,List.range_succ_eq_map,List.map_cons,List.map_map]at hr;simp only[List.cons.injEq]at hr;obtain⟨rfl,hrest⟩:=hr;refine⟨trivial,hstep j σ st rest (by omega) hI fun σ' st' h'=>next σ' st' ⟨j+1,by omega,?_,h'⟩⟩;have:n-(j+1)=m:=by omega
    rw[this,hrest];refine List.map_congr_left fun i _=>?_;show D.int (((j+(i+1):Nat):Int))=D.int (((j+1+i:Nat):Int));congr 2;omega
section
variable {X:Cx}
end
section
variable {X:Cx}{pos:Pos}
end
section
variable {X:Cx}
end
section
variable {st:af}{K:DK}{d:D}{b:Bool}
end
section
variable {X:Cx}
end
end L3
namespace L3
open PySem L2
open PySem.Spec hiding items?
open PyProof.Rows hiding St
open AutoSeq1 (wpAny_loadPart')
theorem HC{P:Program}{w:World}{A:Around}(hh:A.handled=none)(k:SK)(t a:Addr)(hne:a≠t)(us:Array Value):Draws P w A t [t,a] us.size (fun i v=>us[i]?=some v) (fun n g=>qh k t a n g/\kr k g a us) where
 live:=fun i h z=>((mJ (P:=P) (w:=w) k t a hne us).lv i h z).1
 frame:=fun i h h' z kp=>(mJ (P:=P) (w:=w) k t a hne us).fr i h h' z fun b hb o e=>kp b (by rcases hb with rfl|rfl<;>simp) o e
 item:=fun i s Q E hi z q=>(mJ (P:=P) (w:=w) k t a hne us).nx i A s Q E us[i] z (by simp[hi]) fun g j sb=>q _ g s.toks (by simp[hi]) j sb
 done:=fun s Q E z q=>(mJ (P:=P) (w:=w) k t a hne us).en us.size A s Q E hh z (by simp) q
theorem pZ(l:Addr)(items:Array Value)(n:Nat)(dct:Option Addr)(sl:Array (Option Value)):
 Meets (Builtin.«enumerate.__new__» ⟨[.type "enumerate",.ref l],[]⟩) (fun _ R s=>s.heap.get? l=some {cls:= .type "tuple",dict:=dct,data:= .seq items n,slots:=sl}/\
  R (.ok (.ret (.ref (s.heap.push {cls:= .type "tuple_iterator",data:= .fields #[.ref l,.int 0 0]}).objs.size)))
   {s with heap:=(s.heap.push {cls:= .type "tuple_iterator",data:= .fields #[.ref l,.int 0 0]}).push {cls:= .type "enumerate",data:= .fields #[.none,.bool false,.ref s.heap.objs.size,rawInt 0,.none,.none]}}):=
 .of_wp fun prog w A R s h=>by
  obtain⟨hp,g,d,tk,os⟩:=s;obtain⟨hl,h⟩:=h;have hsub:=sub_enumerate;have hL:Heap.IsTuple (Shared.heap ⟨hp,g,d,tk,os⟩) l items:=⟨_,hl,rfl,n,rfl⟩
  wp_walk using wpAny_loadPart' hl
  refine wpAny_stack_any fun st=>wpAny_pure ?_;split
  . rename_i c _ _ _ _ _;cases (c==Value.type "enumerate")
    . wp_walk using wpAny_loadPart' hl,wpAny_pyIter_tuple hL
      exact⟨_,rfl,h⟩
    . wp_walk using wpAny_loadPart' hl,wpAny_pyIter_tuple hL
      exact⟨_,rfl,h⟩
  . wp_walk using wpAny_loadPart' hl,wpAny_pyIter_tuple hL
    exact⟨_,rfl,h⟩
theorem Dv{P:Program}{w:World}{A:Around}{s:Shared}{E:Value->Shared->Prop}{k:SK}{a:Addr}{us:Array Value}{Q:Value->Shared->Prop}(c:kr k s.heap a us)
 (q:∀g,IsEnum g (s.heap.objs.size+1) s.heap.objs.size 0 .none->qh k s.heap.objs.size a 0 g->(∀b o,s.heap.get? b=some o->g.get? b=some o)->Q (.ref (s.heap.objs.size+1)) {s with heap:=g}):
 wpAny (model P w) A (call (.type "enumerate") [.ref a]) Q E s:=by
 cases k
 . exact call_enumerate_list c fun g h1 h2 _ h4=>q g h1 h2 h4
 . obtain⟨⟨c,dct,dt,sl⟩,hl,hc,n,hd⟩:=c;replace hc:c= .type "tuple":=hc;replace hd:dt= .seq us n:=hd;subst hc hd
   refine callType_new F.called_enumerate (by decide) (F.typeCall_enumerate_1 _) (F.newCall_enumerate_1 _) (fun obj=>F.args_object_init_2 obj _) F.entry_enumerate_new
    (pZ a us n dct sl) ⟨hl,?_⟩
   have hz:(s.heap.push {cls:= .type "tuple_iterator",data:= .fields #[.ref a,.int 0 0]}).objs.size=s.heap.objs.size+1:=Heap.size_push ..;show _/\_;rw[hz]
   have he:IsEnum ((s.heap.push {cls:= .type "tuple_iterator",data:= .fields #[.ref a,.int 0 0]}).push
    {cls:= .type "enumerate",data:= .fields #[.none,.bool false,.ref s.heap.objs.size,rawInt 0,.none,.none]}) (s.heap.objs.size+1) s.heap.objs.size 0 .none:=by
    have:=Heap.get?_push_size (s.heap.push {cls:= .type "tuple_iterator",data:= .fields #[.ref a,.int 0 0]})
     (o:={cls:= .type "enumerate",data:= .fields #[.none,.bool false,.ref s.heap.objs.size,rawInt 0,.none,.none]}) rfl
    rw[hz]at this;exact this
   exact⟨⟨_,he,rfl⟩,q _ he ⟨_,Heap.get?_push_of_some _ (Heap.get?_push_size _ rfl),rfl,rfl⟩ fun b o x=>Heap.get?_push_of_some _ (Heap.get?_push_of_some _ x)⟩
def MM(K:PySem.W.Frag)(k:SK)(a:Addr):It:=
 ⟨fun i H=>∃xs x,pj k K H a xs/\xs[i]?=some x,
  fun i H v H'=>∃T x,H T=none/\v= .ref T/\H'=upd H T (.tup [.int (i:Int),x])/\∀xs,pj k K H a xs->xs[i]?=some x,
  fun i H=>∃xs,pj k K H a xs/\xs.length<=i⟩
def M9(e t a:Addr)(k:SK)(i:Nat)(h:Heap):Prop:=(∃old,IsEnum h e t i old)/\qh k t a i h
theorem DM{P:Program}{w:World}{K:PySem.W.Frag}{elts:List Expr}{kx:Nat}{pos:Pos}{e t a:Addr}(k:SK)(n1:e≠t)(n2:a≠e)(n3:a≠t):
 Turn P w K (.Tuple elts kx pos) (MM K k a) [e,t] e (M9 e t a k) where
 mem:=by simp
 obj:=fun i h st b hb=>by
  obtain⟨⟨old,he⟩,i1⟩:=st;simp only[List.mem_cons,List.not_mem_nil,or_false]at hb;rcases hb with rfl|rfl
  . exact⟨_,he,fun v z=>by cases z⟩
  . exact mZ i1
 keep:=fun i h h' st kp=>by
  obtain⟨⟨old,he⟩,i1⟩:=st;exact⟨⟨old,kp e (by simp) _ he⟩,oW i1 (kp t (by simp))⟩
 item:=by
  intro X hP hw hK hc i pins s σ H E I hf st hg;subst hP hw hK;obtain⟨⟨old,he⟩,i1⟩:=st;obtain⟨xs,x,q1,ex⟩:=hg;obtain⟨us,r1,l1⟩:=j6 I q1;obtain⟨u,eu,ru⟩:=r1.get ex
  have hlt:i<us.toArray.size:=by
   have:=(List.getElem?_eq_some_iff.mp eu).1;simpa using this
  refine wpAny_pyNext_enum_itemD (HC (A:=X.A.in1) (show X.A.in1.handled=none from I.ok.hd hc) k t a n3 us.toArray) he ⟨i1,l1⟩ hlt n1 (by simp only[List.mem_cons,List.not_mem_nil,or_false,not_or];exact⟨n1,Ne.symm n2⟩) fun y h' tk py ho hs hT hsz kp=>⟨_,rfl,?_⟩
  have hy:y=u:=by
   have:us[i]?=some y:=by simpa using py
   rw[eu]at this;cases this;rfl
  subst hy;refine wpAny_letOwnedTupleGo_enum (s:={s with heap:=h',toks:=tk+1}) ho fun k' he' sb=>?_;have hTe:s.heap.objs.size≠e:=Nat.ne_of_gt (Heap.lt_size he)
  have kp3:∀b o,b∉[e,t]->s.heap.get? b=some o->k'.get? b=some o:=fun b o hb eb=>by
   simp only[List.mem_cons,not_or,List.not_mem_nil,not_false_eq_true,and_true]at hb;exact sb.extBut _ _ hb.1 (kp b o hb.1 hb.2 eb)
  refine⟨.ref s.heap.objs.size,upd H s.heap.objs.size (.tup [.int (i:Int),x]),F7 (s:=s) (tk:=tk+1) I hf kp3 (Nat.le_refl _) ?_,rfl,⟨s.heap.objs.size,x,I.aJ.fresh (Nat.le_refl _),rfl,rfl,?_⟩,?_,?_⟩
  . refine⟨Nat.le_of_ble_eq_true rfl,[.int (i:Int) tk,y],.cons ⟨tk,rfl⟩ (.cons ru .nil),?_⟩;exact⟨_,sb.extBut _ _ hTe hT,rfl,_,rfl⟩
  . intro xs' q';rw[vw I q' q1];exact ex
  . refine⟨⟨_,by simpa using he'⟩,oW hs.1 fun o eo=>sb.extBut _ _ (Ne.symm n1) eo⟩
  . intro b hb
    have:b≠s.heap.objs.size:=by
     obtain⟨o,eb⟩:∃o,s.heap.get? b=some o:=by
      simp only[List.mem_cons,List.not_mem_nil,or_false]at hb;rcases hb with rfl|rfl
      . exact⟨_,he⟩
      . obtain⟨o,eo,_⟩:=mZ i1;exact⟨o,eo⟩
     exact Nat.ne_of_lt (Heap.lt_size eb)
    rw[ay this];exact(hf b hb).1
 done:=by
  intro X hP hw hK hc i pins s σ H E I hf st hg;subst hP hw hK;obtain⟨⟨old,he⟩,i1⟩:=st;obtain⟨xs,q1,hle⟩:=hg;obtain⟨us,r1,l1⟩:=j6 I q1;have e1:=r1.length;have tz:s.TypeIs (.ref e) "enumerate":=⟨_,he,rfl⟩
  unfold pyNext;refine wpAny_bind (wpAny_attempt (wpAny_callSpecial?_slot (name:=Str.ofString "__next__") tz F.slot_enumerate_next (wpAny_call_entry F.slot_enumerate_next tz F.entry_enumerate_next ?_ (F.args_enumerate_next_1 _))));show wpAny _ _ (field (.ref e) 2 >>= _) _ _ _;refine wpAny_bind (wpAny_field he rfl (x:= .ref t) rfl ?_);refine wpAny_bind ((mJ k t a n3 us.toArray).en i _ s _ _ (I.ok.hd hc) ⟨i1,l1⟩ (by simp;omega) fun g x sb hx=>?_);obtain⟨o,ho,hc2⟩:=hx;refine wpAny_bind (wpAny_isInstance (T:="StopIteration") (b:=true) ⟨o,ho,hc2⟩ isSubtype_stop ?_);refine wpAny_pure ⟨rfl,F2 (s:=s) (tk:=s.toks) I hf fun b o hb eb=>?_⟩;simp only[List.mem_cons,not_or,List.not_mem_nil,not_false_eq_true,and_true]at hb;exact sb b o hb.2 eb
 self:=fun _ _ _ _ _ st h=>wpAny_pyIter_enum st.1.choose_spec h
def gq:Nat->List D->List D
 |_,[]=>[]
 |i,x::xs=> .tup [.int (i:Int),x]::gq (i+1) xs
theorem wz:∀ {xs:List D} {i:Nat},(gq i xs).length=xs.length
 | [],_=>rfl
 |_::xs,i=>by unfold gq;rw[List.length_cons,List.length_cons,wz]
theorem qK:∀ {xs:List D} {i n:Nat} {d:D},(gq i xs)[n]?=some d->∃x,xs[n]?=some x/\d= .tup [.int ((i+n:Nat):Int),x]
 | [],_,_,_,e=>by unfold gq at e;cases e
 |x::xs,i,0,d,e=>by
  unfold gq at e;rw[List.getElem?_cons_zero]at e;cases e;exact⟨x,rfl,rfl⟩
 |x::xs,i,n+1,d,e=>by
  unfold gq at e;rw[List.getElem?_cons_succ]at e;obtain⟨y,h1,h2⟩:=qK e;refine⟨y,by rw[List.getElem?_cons_succ];exact h1,?_⟩;rw[h2,show i+1+n=i+(n+1) by omega]
theorem Hj{K:PySem.W.Frag}{k:SK}{a:Addr}{α:List (Option Addr)}{G:Hp}{ok:af->Prop}{xs:List D}
 (h:∀α' G' st',Step α G α' G'->aS α' st' G'->ok st'->∃vs,Cj k G' a vs/\aH α' G' xs vs):vS (MM K k a) α G ok (gq 0 xs) where
 stop:=fun n α' G' F' H' st' s P S o hn=>by
  obtain⟨vs,h1,r1⟩:=h α' G' st' s S o;rw[wz]at hn;refine⟨vs,jA P h1,?_⟩;have:=r1.length;omega
 go:=fun n d α' G' F' H' st' s P S o hn=>by
  obtain⟨vs,h1,r1⟩:=h α' G' st' s S o;obtain⟨x,ex,rfl⟩:=qK hn;obtain⟨v,ev,_⟩:=r1.get ex;exact⟨vs,v,jA P h1,ev⟩
 oX:=fun n d α' G' F' H' st' x H'' s P S o hn y=>by
  obtain⟨vs,h1,r1⟩:=h α' G' st' s S o;obtain⟨c,ec,rfl⟩:=qK hn;obtain⟨T,v,hT,rfl,rfl,y1⟩:=y;obtain⟨v',ev,rv⟩:=r1.get ec;rw[y1 vs (jA P h1)]at ev;cases ev;have hg:=(P.none hT).1;refine⟨upd G' T (.tup [.int (n:Int),v]),Step.laid hg,P.laid hT,S.laid hg,?_⟩;unfold Rep;refine⟨T,[.int (n:Int),v],rfl,S.j5 hg,a6,?_⟩;unfold aH;refine⟨.int (n:Int),[v],rfl,?_,?_⟩
  . unfold Rep;rw[Nat.zero_add]
  unfold aH;exact⟨v,[],rfl,rv.step (Step.laid hg),by unfold aH;rfl⟩
def BL(ds:List D)(st1:af)(K:List D->(af->Prop)->af->Prop):Prop:=match ds with
 | [x]=>(match items? st1 x with
   |some xs=>K (gq 0 xs) (fun st'=>items? st' x=some xs) st1
   |_=>False)
 |_=>False
@[irreducible] def qD:List D->af->(List D->(af->Prop)->af->Prop)->Prop:=BL
def xR(t:DA):DI:=fun σ st K=>t σ st fun ds st1=>qD ds st1 K
theorem CC:bootBuiltins "enumerate"=some (.type "enumerate"):=by decide+kernel
theorem Hl{X:Cx}{a:Expr}{elts:List Expr}{kx:Nat}{tpos p pos:Pos}{t:DA}(hg:Gl X "enumerate")(hm:X.mg "enumerate"=none)(ha:PA X [a] (LA t))(hs:starEach [a] X.env=[(false,eval a X.env)]):
 PI X (.Tuple elts kx tpos) (.Call (.Name "enumerate" p) [a] [] pos) (LI (xR t)):=by
 intro pins s σ H R I h;obtain⟨α,σd,st,K,G,F,P,RS,S,t,k⟩:=h;refine Call_ (lI I hg hm CC (PyProof.Rows.callWith_type1 (bQ (ha pos pins s σ H (fun vs H1=>∃ds α1 G1 st1,Step α G α1 G1/\cf G1 F H1/\aS α1 st1 G1/\aH α1 G1 ds vs/\qD ds st1 K) I ⟨α,σd,st,_,G,F,P,RS,S,t,fun ds st1 q α1 G1 H1 vs s1 P1 S1 r1=>⟨ds,α1,G1,st1,s1,P1,S1,r1,q⟩⟩) fun us s1 ⟨vs,H1,I1,rv,ds,α1,G1,st1,w1,P1,S1,r1,q⟩=>?_) (by rw[hs];rfl) (by rfl)));unfold qD BL at q;split at q
 . rename_i x;split at q
   . rename_i xs ex;obtain⟨v1,rfl,q1⟩:=iE r1 rfl;obtain⟨p1,vs1,rfl,g1,c1⟩:=mX S1 q1 ex;obtain⟨u1,rfl,ru1⟩:=vals1 rv;cases ru1;obtain⟨its1,_,l1⟩:=j6 I1 (jA P1 c1);refine Dv l1 fun g he i1 kp=>?_;obtain⟨o1,eo1⟩:=l1.some;have hp1:p1<s1.heap.objs.size:=Heap.lt_size eo1;refine wpAny_pyIter_enum (s:={s1 with heap:=g}) he ?_;refine⟨s1.heap.objs.size+1,[s1.heap.objs.size+1,s1.heap.objs.size],_,_,H1,rfl,I1.kept (t':=s1.toks) kp,DM (FT x) (Nat.ne_of_gt (Nat.lt_succ_self _)) (Nat.ne_of_lt (Nat.lt_succ_of_lt hp1)) (Nat.ne_of_lt hp1),⟨⟨_,he⟩,i1⟩,fun b hb=>?_,?_⟩
     . have hb':s1.heap.objs.size<=b:=by
        simp only[List.mem_cons,List.not_mem_nil,or_false]at hb;rcases hb with rfl|rfl
        . exact Nat.le_succ _
        . exact Nat.le_refl _
       exact I1.vx hb' (I1.aJ.fresh hb')
     . refine k _ _ st1 q _ α1 G1 H1 w1 P1 S1 (Hj fun α' G' st' s' S' o=>?_);obtain⟨p1',ws1,e1,f1,d1⟩:=mX S' (q1.step s') o;cases e1;exact⟨ws1,d1,f1⟩
   . exact q.elim
 . exact q.elim
theorem Ak{st:af}{x:D}{xs:List D}{K:List D->(af->Prop)->af->Prop}(ex:items? st x=some xs)(k:∀ok:af->Prop,(∀st',items? st' x=some xs->ok st')->K (gq 0 xs) ok st):qD [x] st K:=by
 unfold qD BL;simp only[ex];exact k _ fun st' h1=>h1
theorem CS{X:Cx}{a:Expr}{elts:List Expr}{kx:Nat}{tpos p pos:Pos}{ar:DA}(hg:Gl X "enumerate")(hm:X.mg "enumerate"=none)(ha:JA X [a] ar)(hs:notStar a=true:=by rfl):JI X (.Tuple elts kx tpos) (.Call (.Name "enumerate" p) [a] [] pos) (xR ar):=by
 unfold JI;unfold JA at ha;exact Hl hg hm ha (di hs)
end L3
namespace L3
open PySem L2
open PySem.Spec hiding items?
open PyProof.Rows hiding St
section
variable {prog:Program}{w:World}{A:Around}{E:Value->Shared->Prop}{s:Shared}
end
section
variable {X:Cx}{tg:Expr}
end
section
variable {X:Cx}
end
end L3
namespace L3
open PySem L2
open PySem.Spec hiding items?
open PyProof.Rows hiding St
open PySem PySem.Spec L2 PySem.SeqAt
section
variable {X:Cx}
end
end L3
namespace L3
open PySem L2
open PySem.Spec hiding items?
open PyProof.Rows hiding St
section
variable {X:Cx}
end
section
variable {P:Program}{w:World}
section
variable {z ti to t1 t2 t3 a1 a2 a3:Addr}
end
end
section
variable {X:Cx}
end
end L3
namespace L3
open PySem L2
open PySem.Spec hiding items?
open PyProof.Rows hiding St
open Sem (wp)
section
variable {prog:Program}{w:World}{A:Around}{s:Shared}{E:Value->Shared->Prop}
end
section
variable {prog:Program}{w:World}{A:Around}{R:Result->Shared->Prop}{I:Addr}{fp wr:List Addr}{G:Array GenState->Array GenState->Prop}{n:Nat}{P:Nat->Value->Prop}{Sx:Nat->Shared->Prop}
end
section
variable {prog:Program}{w:World}{A:Around}{E:Value->Shared->Prop}{s:Shared}
end
section
variable {X:Cx}{pins:List (Addr×Obj)}{σ:L2.St}{H:Hp}{s:Shared}{α:List (Option Addr)}
end
end L3
namespace L3
open PySem L2
open PySem.Spec hiding items?
open PyProof.Rows hiding St
section
variable {X:Cx}
theorem range_any{α:Type}(l:List α)(f:α->Bool)(tr:Nat->Bool)(h:∀i x,l[i]?=some x->tr i=f x):(List.range l.length).any tr=l.any f:=by
 induction l generalizing tr with
 |nil=>rfl
 |cons a l ih=>
  rw[List.length_cons,List.range_succ_eq_map,List.any_cons,List.any_cons,List.any_map,h 0 a rfl];congr 1;exact ih (tr∘Nat.succ) fun i x e=>h (i+1) x (by simpa using e)
end
def putD(f:Str)(v:D):List (Str×D)->List (Str×D)
 | []=>[(f,v)]
 |(g,x)::r=>if g=f then(g,v)::r else(g,x)::putD f v r
theorem jE.look{α:List (Option Addr)}{H:Hp}{f:Str}{v:D}:∀ {fs:List (Str×D)} {vs:List (Str×V)},jE α H fs vs->fs.lookup f=some v->∃u,vs.lookup f=some u/\Rep α H v u
 | [],_,_,e=>by cases e
 |(g,x)::fs,_,.cons (b:=q) h t,e=>by
  obtain⟨g',y⟩:=q;obtain⟨h1,h2⟩:=h;simp only at h1 h2;subst h1;rw[List.lookup_cons]at e⊢;cases hb:f==g with
  |true=>rw[hb]at e;cases e;exact⟨y,rfl,h2⟩
  |false=>rw[hb]at e;exact jE.look t e
theorem jE.none{α:List (Option Addr)}{H:Hp}{f:Str}:∀ {fs:List (Str×D)} {vs:List (Str×V)},jE α H fs vs->fs.lookup f=Option.none->vs.lookup f=Option.none
 | [],_,.nil,_=>rfl
 |(g,x)::fs,_,.cons (b:=q) h t,e=>by
  obtain⟨g',y⟩:=q;obtain⟨h1,h2⟩:=h;simp only at h1 h2;subst h1;rw[List.lookup_cons]at e⊢;cases hb:f==g with
  |true=>rw[hb]at e;cases e
  |false=>rw[hb]at e;exact jE.none t e
theorem jE.put{α:List (Option Addr)}{H:Hp}{f:Str}{d:D}{v:V}(r:Rep α H d v):∀ {fs:List (Str×D)} {vs:List (Str×V)},jE α H fs vs->jE α H (putD f d fs) (gI f v vs)
 | [],_,.nil=> .cons ⟨rfl,r⟩ .nil
 |(g,x)::fs,_,.cons (b:=q) h t=>by
  obtain⟨g',y⟩:=q;obtain⟨h1,h2⟩:=h;simp only at h1 h2;subst h1;unfold putD gI;by_cases hb:g=f
  . rw[if_pos hb,if_pos hb];exact .cons ⟨rfl,r⟩ t
  . rw[if_neg hb,if_neg hb];exact .cons ⟨rfl,h2⟩ (jE.put r t)
def EH(C:Addr)(f:Str)(d:D)(st:af)(K:DK):Prop:=match d with
 | .ref n=>(match st[n]? with|some (.ins C' fs)=>C'=C/\∃v,fs.lookup f=some v/\K v st|_=>False)
 |_=>False
@[irreducible] def BM(C:Addr)(f:Str):D->af->DK->Prop:=EH C f
def dX(C:Addr)(f:Str)(te:DE):DE:=fun σ st K=>te σ st fun d st1=>BM C f d st1 K
theorem cB{C:Addr}{f:Str}{n:Nat}{st:af}{K:DK}{fs:List (Str×D)}{v:D}(e:st[n]?=some (.ins C fs))(h:fs.lookup f=some v)(k:K v st):BM C f (.ref n) st K:=by
 unfold BM EH;simp only[e];exact⟨trivial,v,h,k⟩
def Bs(C:Addr)(f:Str)(x d:D)(st:af)(K:af->Prop):Prop:=match x with
 | .ref n=>(match st[n]? with|some (.ins C' fs)=>C'=C/\fs.length<1000/\K (st.set n (.ins C (putD f d fs)))|_=>False)
 |_=>False
@[irreducible] def xN(C:Addr)(f:Str):D->D->af->(af->Prop)->Prop:=Bs C f
def ot(C:Addr)(f:Str)(to te:DE):DS:=fun D σ st=>te σ st fun d st1=>to σ st1 fun x st2=>xN C f x d st2 fun st3=>D.nx σ st3
theorem mW{C:Addr}{f:Str}{n:Nat}{d:D}{st:af}{K:af->Prop}{fs:List (Str×D)}(e:st[n]?=some (.ins C fs))(h:fs.length<1000)(k:K (st.set n (.ins C (putD f d fs)))):xN C f (.ref n) d st K:=by
 unfold xN Bs;simp only[e];exact⟨trivial,h,k⟩
def Bh(C:Addr)(m:Str)(x:D)(st:af)(k:Prop):Prop:=match x with
 | .ref n=>(match st[n]? with|some (.ins C' fs)=>C'=C/\fs.lookup m=none/\k|_=>False)
 |_=>False
@[irreducible] def x4(C:Addr)(m:Str):D->af->Prop->Prop:=Bh C m
theorem jV{C:Addr}{m:Str}{n:Nat}{st:af}{k:Prop}{fs:List (Str×D)}(e:st[n]?=some (.ins C fs))(h:fs.lookup m=none)(q:k):x4 C m (.ref n) st k:=by
 unfold x4 Bh;simp only[e];exact⟨trivial,h,q⟩
def jt(C:Addr)(m:Str)(S:cE)(to:DE)(t:DA):DE:=fun σ st K=>to σ st fun x st1=>x4 C m x st1 (t σ st1 fun ds st2=>S (x::ds) st2 K)
def BE(C:Addr)(S:cE)(t:DA):DE:=fun σ st K=>t σ st fun ds st1=>S (.ref st1.length::ds) (st1++[.ins C []]) fun r st2=>r= .aL/\K (.ref st1.length) st2
section
variable {X:Cx}{C f g:Addr}{fd:FuncData}{k:Nat}{x m fl:Str}{e o value:Expr}{es:List Expr}{p pos pos' apos:Pos}{te to:DE}{t:DA}{S:cE}{ps:List Str}
theorem LH(c:m7 X.K C)(na:f7 X.K C fl)(he:PE X e (LE te))(hb:attributeBase e fl X.env (eval e X.env)=eval e X.env):PE X (.Attribute e fl pos) (LE (dX C fl te)):=PE.imp (Ja he hb) fun σ H Q ⟨α,σd,st,K,G,F,P,R,S,t,k⟩=>by
 refine⟨α,σd,st,_,G,F,P,R,S,t,fun d st1 q α1 G1 H1 v s1 P1 S1 r1=>?_⟩;unfold BM EH at q;cases d<;>try exact q.elim
 simp only at q;split at q
 . rename_i C' fs e';obtain⟨rfl,w,hw,q⟩:=q;obtain⟨a,ea,dx,vs,h1,h2⟩:=S1.AY e';have r1':=e8 ea r1;subst r1';obtain⟨u,hu,ru⟩:=h2.look hw;exact⟨a,_,dx,vs,u,rfl,P1.get h1,c,na,hu,(k.at s1).here P1 q S1 ru⟩
 . exact q.elim
theorem Jq(c:m7 X.K C)(na:f7 X.K C fl)(ho:PE X o (LE to))(hv:PE X value (LE te))(hs:swapsWith value (some (.Attribute o fl pos')) pos.line X.env=pure false):PS X (.Assign [.Attribute o fl pos'] value pos) (LS (ot C fl to te)):=PS.imp (Io ho hv hs) fun D σ H ⟨α,σd,st,DD,G,F,P,R,S,t,k⟩=>by
 refine⟨α,σd,st,_,G,F,P,R,S,t,fun d st1 q α1 G1 H1 v s1 P1 S1 r1=>?_⟩;refine⟨α1,σd,st1,_,G1,F,P1,R.step s1,S1,q,fun x st2 q2 α2 G2 H2 v2 s2 P2 S2 r2=>?_⟩;unfold xN Bs at q2;cases x<;>try exact q2.elim
 simp only at q2;split at q2
 . rename_i C' fs e';obtain⟨rfl,hl,q2⟩:=q2;obtain⟨a,ea,dx,vs,h1,h2⟩:=S2.AY e';have r2':=e8 ea r2;subst r2';have hm:some a∈α2:=List.mem_of_getElem? ea;have lv:vs.length<1000:=by rw[<-h2.length];exact hl
   refine⟨a,_,dx,vs,rfl,P2.get h1,c,na,lv,?_⟩;refine((k.nx.at s1).at s2) σd _ q2 α2 (upd G2 a (.ins _ dx (gI fl v vs))) _ σ (Step.write hm) (P2.write h1) (((R.step s1).step s2).step (Step.write hm)) ?_;exact S2.write ea ⟨dx,gI fl v vs,a6,(h2.put (r1.step s2)).step (Step.write hm)⟩
 . exact q2.elim
theorem LE.Mr{σ:L2.St}{H:Hp}{Q:VK}(h:LE (jt C m S to t) σ H Q):Gv C m (cL S) [] E0 (LE to) (LA t) σ H Q:=by
 obtain⟨α,σd,st,K,G,F,P,R,Sr,tt,k⟩:=h;refine⟨α,σd,st,_,G,F,P,R,Sr,tt,fun d st1 q α1 G1 H1 v s1 P1 S1 r1=>?_⟩;unfold x4 Bh at q;cases d<;>try exact q.elim
 simp only at q;split at q
 . rename_i n C' fs e';obtain⟨rfl,hl,q⟩:=q;obtain⟨a,ea,dx,vs,h1,h2⟩:=S1.AY e';have r1':=e8 ea r1;subst r1';refine⟨a,dx,vs,rfl,P1.get h1,h2.none hl,?_⟩;refine⟨α1,σd,st1,_,G1,F,P1,R.step s1,S1,q,fun ds st2 q2 α2 G2 H2 us s2 P2 S2 r2=>?_⟩;try dsimp only
   rw[List.append_nil];exact⟨α2,_,st2,K,G2,F,P2,by unfold aH;exact⟨_,_,rfl,r1.step s2,r2⟩,S2,q2,(k.at s1).at s2⟩
 . exact q.elim
theorem LE.make{σ:L2.St}{H:Hp}{Q:VK}(h:LE (BE C S t) σ H Q):FX C (cL S) [] E0 (LA t) σ H Q:=by
 obtain⟨α,σd,st,K,G,F,P,R,Sr,tt,k⟩:=h;refine⟨α,σd,st,_,G,F,P,R,Sr,tt,fun ds st1 q α1 G1 H1 us s1 P1 S1 r1=>?_⟩;intro x dx hx hdx hne;have hgd:=(P1.none hdx).1;have P2:=P1.laid (o:= .own x) hdx;have S2:=S1.laid (o:= .own x) hgd;have hx2:upd H1 dx (.own x) x=none:=by rw[ay (Ne.symm hne)];exact hx
 have hg2:=(P2.none hx2).1;have P3:=P2.laid (o:= .ins C dx []) hx2;have S3:=S2.cell (o:= .ins C dx []) (c:= .ins C []) hg2 ⟨dx,[],a6,.nil⟩;have s2:Step α1 G1 α1 (upd G1 dx (.own x)):=Step.laid hgd;have s3:Step α1 (upd G1 dx (.own x)) (α1++[some x]) (upd (upd G1 dx (.own x)) x (.ins C dx [])):=Step.cell hg2
 have rx:Rep (α1++[some x]) (upd (upd G1 dx (.own x)) x (.ins C dx [])) (.ref st1.length) (.ref x):=by
  unfold Rep;refine .inr ⟨x,?_,rfl⟩;rw[List.getElem?_append_right (by rw[S1.len];exact Nat.le_refl _),S1.len,Nat.sub_self];rfl
 rw[List.append_nil];refine⟨α1++[some x],.ref st1.length::ds,st1++[.ins C []],_,_,F,P3,by unfold aH;exact⟨_,_,rfl,rx,(r1.step s2).step s3⟩,S3,q,fun d st2 q2 α' G' H' v s' P' S' r'=>?_⟩;obtain⟨rfl,q2⟩:=q2;unfold Rep at r';exact⟨r',(((k.at s1).at s2).at s3) _ st2 q2 α' G' H' _ s' P' S' (rx.step s')⟩
end
section
variable {X:Cx}{tg:Expr}
end
section
variable {X:Cx}
end
section
variable {X:Cx}{e o i value:Expr}{es:List Expr}{te to ti:DE}{t:DA}{pos pos' tpos apos p:Pos}{C f:Addr}{fl m x:Str}{S:cE}{k:Nat}{fd:FuncData}{ps:List Str}
theorem Dz{value o:Expr}{fl:Str}{pos':Pos}{n:Nat}{env:Env}:swapsWith value (some (.Attribute o fl pos')) n env=pure false:=by cases value<;>rfl
theorem c7(c:m7 X.K C)(na:f7 X.K C fl)(he:JE X e te)(hb:attributeBase e fl X.env (eval e X.env)=eval e X.env:=by rfl):JE X (.Attribute e fl pos) (dX C fl te):=by unfold JE at*;exact LH c na he hb
theorem m5(c:m7 X.K C)(na:f7 X.K C fl)(ho:JE X o to)(hv:JE X value te):JS X (.Assign [.Attribute o fl pos'] value pos) (ot C fl to te):=by unfold JS;unfold JE at*;exact Jq c na ho hv Dz
theorem lE{pl:Sem Bool}(he:JE X o to)(c:m7 X.K C)(hm:Meth X.K C m f)(F:bz X.prog X.w X.K X.mg X.base cG k f fd ps (cL S))(hr:cT k X.A)(hb:Binds X.K fd ps [])(ha:JA X (e::es) t)
 (hs:notStar e=true:=by rfl) (hs2:gJ es=true:=by rfl)
 (ht:eval (.Call (.Attribute o m apos) (e::es) [] pos) X.env=(do
   let ov <-eval o X.env
   standAt apos.atName
   let(f,first) <-holding [ov] (getMethod ov m pl)
   callWith pos f first (backTo pos (starEach (e::es) X.env)) (backToKw pos (keywordEach [] X.env))):=by rfl):
 JE X (.Call (.Attribute o m apos) (e::es) [] pos) (jt C m S to t):=by
 unfold JE at*;unfold JA at ha;exact PE.imp (HY he c hm F hr hb .nil Bz ha (di hs) (kU hs2) ht) fun _ _ _ h=>LE.Mr h
theorem J3(M:Mk X.K C f)(F:bz X.prog X.w X.K X.mg X.base cG k f fd ps (cL S))(hr:cT (k+1) X.A)(hg:Gl X x)(hmg:X.mg x=some (.ref C))(hb:Binds X.K fd ps [])(ha:JA X (e::es) t)(hdb:(x==("__debug__":Str))=false)
 (hs:notStar e=true:=by rfl) (hs2:gJ es=true:=by rfl):JE X (.Call (.Name x p) (e::es) [] pos) (BE C S t):=by
 unfold JE;unfold JA at ha;exact PE.imp (Hg M F hr hg hmg hb .nil Bz ha hdb (di hs) (kU hs2)) fun _ _ _ h=>LE.make h
end
end L3
namespace L3
open PySem PySem.Spec L2
open PyProof.Rows hiding St
def Jn(xs:Array Keyed)(i:Nat):Int:=match xs[i]? with
 |some p=>numOf p.2
 |none=>0
theorem ny{xs ys:Array Keyed}{i j:Nat}(h:xs[i]?=ys[j]?):Jn xs i=Jn ys j:=by unfold Jn;rw[h]
theorem lP{xs:Array Keyed}{i j:Nat}(hj:j<=xs.size)(k:Nat):
 K (mirror xs i j ((j-i)/2)) k=K xs (if i<=k/\k<j then i+j-1-k else k)/\Jn (mirror xs i j ((j-i)/2)) k=Jn xs (if i<=k/\k<j then i+j-1-k else k):=by
 have e:=getElem?_mirror_all (i:=i) hj k;split at e<;>rename_i h
 . rw[if_pos h];exact⟨K_congr e,ny e⟩
 . rw[if_neg h];exact⟨K_congr e,ny e⟩
theorem Eg{xs:Array Keyed}{src d:Nat}(hs:src<xs.size)(hd:d<=src)(k:Nat):
 K (bubble xs src d) k=K xs (if k=src-d then src else if src-d<k/\k<=src then k-1 else k)/\Jn (bubble xs src d) k=Jn xs (if k=src-d then src else if src-d<k/\k<=src then k-1 else k):=by
 have e:=getElem?_bubble hs d hd k;split at e<;>rename_i h
 . rw[if_pos h];exact⟨K_congr e,ny e⟩
 . rw[if_neg h];split at e<;>rename_i h2
   . rw[if_pos h2];exact⟨K_congr e,ny e⟩
   . rw[if_neg h2];exact⟨K_congr e,ny e⟩
def lO(xs:Array Keyed)(i j:Nat):Prop:=K xs i<K xs j\/(K xs i=K xs j/\Jn xs i<Jn xs j)
def jy(xs:Array Keyed)(k:Nat):Prop:=∀i j,i<j->j<k->lO xs i j
def iX(n:Nat)(xs:Array Keyed)(k:Nat):Prop:=∀i j,i<j->k<=j->j<n->Jn xs i<Jn xs j
theorem jy.to{xs:Array Keyed}{k:Nat}(h:jy xs k):SortedTo xs k:=fun i j hij hj=>by
 rcases Nat.lt_or_eq_of_le hij with e|e
 . rcases h i j e hj with q|q<;>omega
 . subst e;exact Int.le_refl _
theorem jy.more{xs:Array Keyed}{n k m:Nat}(h:jy xs k)(t:iX n xs k)(s:SortedTo xs m)(hm:m<=n):jy xs m:=fun i j hij hj=>by
 by_cases hk:j<k
 . exact h i j hij hk
 . have a:=s i j (Nat.le_of_lt hij) hj;have b:=t i j hij (Nat.le_of_not_lt hk) (Nat.lt_of_lt_of_le hj hm);unfold lO;omega
theorem iX.up{xs:Array Keyed}{n k m:Nat}(t:iX n xs k)(h:k<=m):iX n xs m:=fun i j a b c=>t i j a (Nat.le_trans h b) c
theorem iX.mix{xs ys:Array Keyed}{n k:Nat}(t:iX n xs k)(f:Nat->Nat)(hf:∀i,Jn ys i=Jn xs (f i))(h1:∀i,i<k->f i<k)(h2:∀i,k<=i->f i=i):iX n ys k:=fun i j a b c=>by
 rw[hf,hf,h2 j b];refine t _ _ ?_ b c;by_cases hi:i<k
 . exact Nat.lt_of_lt_of_le (h1 i hi) b
 . rw[h2 i (Nat.le_of_not_lt hi)];exact a
section
variable {prog:Program}{w:World}{A:Around}{E:Value->Shared->Prop}{s:Shared}{a₀:Array Keyed}
theorem CD{st:SortSt}{ok:Nat}{Q:Bool->SortSt->Prop}(h0:IntKeys a₀)(h1:1<=ok)(aJ:ok<=a₀.size)(hB:SBase a₀ st)(hs:jy (arrOf st) ok)(ht:iX a₀.size (arrOf st) ok)
 (h:∀st',SBase a₀ st'->jy (arrOf st') a₀.size->Q true st'):wpS (model prog w) A E s (binarySort' 0 a₀.size ok) Q st:=by
 rw[binarySort'_eq];simp only[Nat.zero_add]
 refine wpS_bind (wpS_mono (wpS_forRange (I:=fun k c q=>c=(none,())/\SBase a₀ q/\k<=a₀.size/\jy (arrOf q) k/\iX a₀.size (arrOf q) k)
  (Q:=fun c q=>c=(none,())/\SBase a₀ q/\jy (arrOf q) a₀.size) ?st ?en ?be) ?po)
 case po=>rintro c q ⟨rfl,b1,b2⟩;exact wpS_pure (h q b1 b2)
 case be=>rw[show max ok 1=ok by omega];exact⟨rfl,hB,aJ,hs,ht⟩
 case en=>
  rintro c q ⟨rfl,b1,b2,b3,_⟩;rw[show max (max ok 1) a₀.size=a₀.size by omega]at b3;exact⟨rfl,b1,b3⟩
 case st=>
  rintro k c q hk1 hk2 ⟨rfl,qB,_,qS,qT⟩
  refine wpS_bind (wpS_mono (wpS_forRange (I:=fun x c q'=>q'=q/\∃l r,c=(none,l,r)/\l<=r/\r<=k/\r-l<=k-x/\(∀i,i<l->K (arrOf q) i<=K (arrOf q) k)/\(∀i,r<=i->i<k->K (arrOf q) k<K (arrOf q) i))
   (Q:=fun c q'=>q'=q/\∃l,c=(none,l,l)/\l<=k/\(∀i,i<l->K (arrOf q) i<=K (arrOf q) k)/\(∀i,l<=i->i<k->K (arrOf q) k<K (arrOf q) i)) ?a ?b ?c) ?d)
  case c=>exact⟨rfl,0,k,rfl,by omega,by omega,by omega,fun i hi=>by omega,fun i x y=>by omega⟩
  case b=>
   rintro c q' ⟨rfl,l,r,rfl,e1,e2,e3,e4,e5⟩;have:r=l:=by omega
   subst this;exact⟨rfl,r,rfl,e2,e4,e5⟩
  case a=>
   rintro x c q' _ hx ⟨rfl,l,r,rfl,e1,e2,e3,e4,e5⟩;dsimp only;by_cases hlr:l>=r
   . rw[if_pos hlr];have:r=l:=by omega
     subst this;exact wpS_pure ⟨rfl,r,rfl,e2,e4,e5⟩
   . rw[if_neg hlr];refine wpS_bind (wpS_ltK qB h0 hk2 (by omega) ?_);have so:=qS.to;by_cases hl:K (arrOf q') k<K (arrOf q') ((l+r)/2)
     . simp only[hl,decide_true,if_true];exact wpS_pure ⟨rfl,l,(l+r)/2,rfl,by omega,by omega,by omega,e4,fun i x y=>Int.lt_of_lt_of_le hl (so _ _ x y)⟩
     . simp only[hl,decide_false,Bool.false_eq_true,if_false];refine wpS_pure ⟨rfl,(l+r)/2+1,r,rfl,by omega,by omega,by omega,fun i x=>?_,e5⟩;have:=so i ((l+r)/2) (by omega) (by omega);omega
  case d=>
   rintro c q' ⟨rfl,l,rfl,hlk,e4,e5⟩;show wpS _ _ _ _ (do moveDown' k l;pure (ForInStep.yield (none,()))) _ _;rw[moveDown'_eq];have hks:k<(arrOf q').size:=by rw[qB.size];exact hk2
   have bb:=Eg (xs:=arrOf q') hks (show k-l<=k by omega);rw[show k-(k-l)=l by omega]at bb;refine wpS_bind (wpS_modify (wpS_pure ⟨rfl,qB.setArr (bubble_perm _ _ _),by omega,fun i j hij hj=>?_,iX.mix (qT.up (Nat.le_succ k)) _ (fun i=>(bb i).2) (fun i hi=>?_) (fun i hi=>?_)⟩))
   . show lO (bubble (arrOf q') k (k-l)) i j;unfold lO;rw[(bb i).1,(bb i).2,(bb j).1,(bb j).2];by_cases hil:i<l
     . rw[if_neg (show¬i=l by omega),if_neg (show¬(l<i/\i<=k) by omega)];by_cases hjl:j=l
       . rw[if_pos hjl];have x:=e4 i hil;have y:=qT i k (by omega) (Nat.le_refl _) hk2;omega
       . rw[if_neg hjl];by_cases hj2:l<j/\j<=k
         . rw[if_pos hj2];exact qS i (j-1) (by omega) (by omega)
         . rw[if_neg hj2];exact qS i j hij (by omega)
     . by_cases hie:i=l
       . rw[if_pos hie,if_neg (show¬j=l by omega),if_pos (show l<j/\j<=k by omega)];exact .inl (e5 _ (by omega) (by omega))
       . rw[if_neg hie,if_pos (show l<i/\i<=k by omega),if_neg (show¬j=l by omega),if_pos (show l<j/\j<=k by omega)];exact qS _ _ (by omega) (by omega)
   . show(if i=l then k else if l<i/\i<=k then i-1 else i)<k+1;split
     . omega
     . split<;>omega
   . show(if i=l then k else if l<i/\i<=k then i-1 else i)=i;rw[if_neg (by omega),if_neg (by omega)]
def wq(xs:Array Keyed)(m q:Nat):Prop:=q+1<=m/\∀i j,i<j->j<m->(m<=i+(q+1)->K xs i=K xs j/\Jn xs i<Jn xs j)/\(i+(q+1)<m->(m<=j+(q+1)->K xs j<K xs i)/\lO xs j i)
theorem wq.all{xs:Array Keyed}{m q:Nat}(h:wq xs m q)(hm:m<=xs.size):(q=0\/0<q)/\∀i j,i<j->j<m->lO (mirror xs (m-(q+1)) m ((m-(m-(q+1)))/2)) j i:=by
 refine⟨by omega,fun i j hij hj=>?_⟩;have b:=lP (i:=m-(q+1)) (j:=m) hm;unfold lO;rw[(b i).1,(b i).2,(b j).1,(b j).2];by_cases hi:m-(q+1)<=i/\i<m
 . rw[if_pos hi,if_pos (show m-(q+1)<=j/\j<m by omega)];have:=(h.2 (m-(q+1)+m-1-j) (m-(q+1)+m-1-i) (by omega) (by omega)).1 (by omega);omega
 . rw[if_neg hi];by_cases hj2:m-(q+1)<=j/\j<m
   . rw[if_pos hj2];have:=((h.2 i (m-(q+1)+m-1-j) (by omega) (by omega)).2 (by omega)).1 (by omega);omega
   . rw[if_neg hj2];exact((h.2 i j hij hj).2 (by omega)).2
theorem wq.zero{xs:Array Keyed}{m:Nat}(h:wq xs m 0):∀i j,i<j->j<m->lO xs j i:=fun i j hij hj=>((h.2 i j hij hj).2 (by omega)).2
theorem mN{n:Nat}{xs:Array Keyed}{i j k:Nat}(t:iX n xs k)(hj:j<=xs.size)(hk:j<=k):iX n (mirror xs i j ((j-i)/2)) k:=
 t.mix _ (fun a=>(lP hj a).2) (fun a ha=>by split<;>omega) fun a ha=>by rw[if_neg (by omega)]
theorem Cm{st:SortSt}{n:Nat}{Q:DescSt->SortSt->Prop}(h0:IntKeys a₀)(hn:n<=a₀.size)(hB:SBase a₀ st)(hs:wq (arrOf st) n 0)(ht:iX a₀.size (arrOf st) n)
 (h:∀m q st',SBase a₀ st'->n<=m->m<=a₀.size->wq (arrOf st') m q->iX a₀.size (arrOf st') m->Q (none,m,q) st'):
 wpS (model prog w) A E s (descLoop n a₀.size) Q st:=by
 unfold descLoop;refine wpS_forRange (I:=fun x c st'=>∃q,c=(none,x,q)/\SBase a₀ st'/\wq (arrOf st') x q/\iX a₀.size (arrOf st') x) ?st ?en ⟨0,rfl,hB,hs,ht⟩
 case en=>
  rintro c st' ⟨q,rfl,b1,b2,b3⟩;rw[show max n a₀.size=a₀.size by omega]at b2 b3⊢;exact h _ q st' b1 hn (Nat.le_refl _) b2 b3
 case st=>
  rintro x c st' hx1 hx2 ⟨q,rfl,b1,b2,b3⟩;dsimp only;have hq:=b2.1;have hsz:x<=(arrOf st').size:=by rw[b1.size];omega
  refine wpS_bind (wpS_ltK b1 h0 hx2 (by omega) ?_);by_cases hl:K (arrOf st') x<K (arrOf st') (x-1)
  . simp only[hl,decide_true,if_true];by_cases hq0:q>0
    . rw[if_pos hq0];have al:=(b2.all hsz).2;have km:=lP (i:=x-(q+1)) (j:=x) hsz;refine wpS_bind (wpS_reverse (wpS_pure ⟨0,rfl,b1.setArr (mirror_perm _ _ _ _),⟨by omega,fun i j hij hj=>⟨fun hh=>by omega,fun hh=>⟨fun hj2=>?_,?_⟩⟩⟩,(mN b3 hsz (Nat.le_refl _)).up (Nat.le_succ x)⟩))
      . have hjx:j=x:=by omega
        subst hjx;show K (mirror (arrOf st') _ _ _) j<K (mirror (arrOf st') _ _ _) i;rw[(km i).1,(km j).1,if_neg (show¬(j-(q+1)<=j/\j<j) by omega)]
        have key:∀t,t<j->K (arrOf st') (j-1)<=K (arrOf st') t:=fun t ht=>by
         by_cases e:t=j-1
         . rw[e];exact Int.le_refl _
         . have z:=b2.2 t (j-1) (by omega) (by omega);by_cases g:j<=t+(q+1)
           . have:=(z.1 g).1;omega
           . have:=(z.2 (by omega)).2;unfold lO at this;omega
        split
        . have:=key (j-(q+1)+j-1-i) (by omega);omega
        . have:=key i hij;omega
      . show lO (mirror (arrOf st') _ _ _) j i;by_cases hjx:j<x
        . exact al i j hij hjx
        . have hjx:j=x:=by omega
          subst hjx;refine .inl ?_;rw[(km i).1,(km j).1,if_neg (show¬(j-(q+1)<=j/\j<j) by omega)]
          have key:∀t,t<j->K (arrOf st') (j-1)<=K (arrOf st') t:=fun t ht=>by
           by_cases e:t=j-1
           . rw[e];exact Int.le_refl _
           . have z:=b2.2 t (j-1) (by omega) (by omega);by_cases g:j<=t+(q+1)
             . have:=(z.1 g).1;omega
             . have:=(z.2 (by omega)).2;unfold lO at this;omega
          split
          . have:=key (j-(q+1)+j-1-i) (by omega);omega
          . have:=key i hij;omega
    . rw[if_neg hq0];have hq0:q=0:=by omega
      subst hq0;have z0:=b2.zero
      have lx:∀i,i<x->K (arrOf st') x<K (arrOf st') i:=fun i hi=>by
       by_cases e:i=x-1
       . rw[e];exact hl
       . have:=z0 i (x-1) (by omega) (by omega);unfold lO at this;omega
      refine wpS_pure ⟨0,rfl,b1,⟨by omega,fun i j hij hj=>⟨fun hh=>by omega,fun hh=>⟨fun hj2=>?_,?_⟩⟩⟩,b3.up (Nat.le_succ x)⟩
      . have hjx:j=x:=by omega
        subst hjx;exact lx i hij
      . by_cases hjx:j<x
        . exact z0 i j hij hjx
        . have hjx:j=x:=by omega
          subst hjx;exact .inl (lx i hij)
  . simp only[hl,decide_false,Bool.false_eq_true,if_false];refine wpS_bind (wpS_ltK b1 h0 (by omega) hx2 ?_);by_cases hg:K (arrOf st') (x-1)<K (arrOf st') x
    . simp only[hg,decide_true,if_true];exact wpS_pure (h x q st' b1 hx1 (by omega) b2 b3)
    . simp only[hg,decide_false,Bool.false_eq_true,if_false];have he:K (arrOf st') x=K (arrOf st') (x-1):=by omega
      refine wpS_pure ⟨q+1,rfl,b1,⟨by omega,fun i j hij hj=>⟨fun hh=>?_,fun hh=>⟨fun hj2=>?_,?_⟩⟩⟩,b3.up (Nat.le_succ x)⟩
      . by_cases hjx:j<x
        . exact(b2.2 i j hij hjx).1 (by omega)
        . have hjx:j=x:=by omega
          subst hjx;refine⟨?_,b3 i j hij (Nat.le_refl _) hx2⟩;rw[he];by_cases e:i=j-1
          . rw[e]
          . exact((b2.2 i (j-1) (by omega) (by omega)).1 (by omega)).1
      . by_cases hjx:j<x
        . exact((b2.2 i j hij hjx).2 (by omega)).1 (by omega)
        . have hjx:j=x:=by omega
          subst hjx;rw[he];exact((b2.2 i (j-1) (by omega) (by omega)).2 (by omega)).1 (by omega)
      . by_cases hjx:j<x
        . exact((b2.2 i j hij hjx).2 (by omega)).2
        . have hjx:j=x:=by omega
          subst hjx;refine .inl ?_;rw[he];exact((b2.2 i (j-1) (by omega) (by omega)).2 (by omega)).1 (by omega)
theorem wH{st:SortSt}{n:Nat}{Q:Option Nat->SortSt->Prop}(h0:IntKeys a₀)(h1:1<=n)(hn:n<=a₀.size)(hB:SBase a₀ st)(hs:∀i j,i<j->j<n->lO (arrOf st) j i)(ht:iX a₀.size (arrOf st) n)
 (h:∀m st',SBase a₀ st'->1<=m->m<=a₀.size->jy (arrOf st') m->iX a₀.size (arrOf st') m->Q (some m) st'):wpS (model prog w) A E s (tail3 n a₀.size) Q st:=by
 unfold tail3;have hsz:n<=(arrOf st).size:=by rw[hB.size];exact hn
 refine wpS_bind (wpS_reverse ?_);have km:=lP (xs:=arrOf st) (i:=0) (j:=n) hsz
 have s1:jy (mirror (arrOf st) 0 n ((n-0)/2)) n:=fun i j hij hj=>by
  unfold lO;rw[(km i).1,(km i).2,(km j).1,(km j).2,if_pos (by omega),if_pos (by omega)];exact hs _ _ (by omega) (by omega)
 have t1:=mN (i:=0) ht hsz (Nat.le_refl _);have hB':SBase a₀ (setArr st (mirror (arrOf st) 0 n ((n-0)/2))):=hB.setArr (mirror_perm _ _ _ _);refine wpS_bind (wpS_ascLoop h0 (Nat.le_refl _) h1 hn hB' s1.to fun m m1 m2 sm _=>wpS_pure (h m _ hB' (by omega) m2 (s1.more t1 sm m2) (t1.up m1)))
theorem wk{st:SortSt}{n:Nat}{Q:Option Nat->SortSt->Prop}(h0:IntKeys a₀)(hn:n+1<=a₀.size)(hB:SBase a₀ st)(hs:wq (arrOf st) (n+1) 0)(ht:iX a₀.size (arrOf st) (n+1))
 (h:∀m st',SBase a₀ st'->1<=m->m<=a₀.size->jy (arrOf st') m->iX a₀.size (arrOf st') m->Q (some m) st'):wpS (model prog w) A E s (descPart n a₀.size) Q st:=by
 unfold descPart;refine wpS_bind (wpS_lift (wpAny_rule ⟨rfl,?_⟩));refine wpS_bind (Cm h0 hn hB hs ht fun m q st' b1 b2 b3 b4 b5=>?_);dsimp only;have hsz:m<=(arrOf st').size:=by rw[b1.size];exact b3
 by_cases hq:q>0
 . rw[if_pos hq];exact wpS_bind (wpS_reverse (wH h0 (by omega) b3 (b1.setArr (mirror_perm _ _ _ _)) (b4.all hsz).2 (mN b5 hsz (Nat.le_refl _)) h))
 . rw[if_neg hq];have:q=0:=by omega
   subst this;exact wH h0 (by omega) b3 b1 b4.zero b5 h
theorem CQ{st:SortSt}{Q:Option Nat->SortSt->Prop}(h0:IntKeys a₀)(h1:1<=a₀.size)(hB:SBase a₀ st)(ht:iX a₀.size (arrOf st) 1)
 (h:∀m st',SBase a₀ st'->1<=m->m<=a₀.size->jy (arrOf st') m->iX a₀.size (arrOf st') m->Q (some m) st'):wpS (model prog w) A E s (countRun' 0 a₀.size) Q st:=by
 rw[countRun0_eq];have s1:jy (arrOf st) 1:=fun i j hij hj=>by omega
 refine wpS_bind (wpS_ascLoop h0 (Nat.le_refl _) (Nat.le_refl 1) h1 hB s1.to fun n n1 n2 sn hor=>?_);dsimp only;have s2:=s1.more ht sn n2;by_cases hn:n=a₀.size
 . rw[if_pos (by simpa using hn)];exact wpS_pure (h n st hB n1 n2 s2 (ht.up n1))
 . rw[if_neg (by simpa using hn)];have hl:=hor.resolve_left hn;by_cases hg:n>1
   . rw[if_pos hg];refine wpS_bind (wpS_ltK hB h0 (by omega) (by omega) ?_);by_cases hr:K (arrOf st) 0<K (arrOf st) (n-1)
     . simp only[hr,decide_true,if_true];exact wpS_pure (h n st hB n1 n2 s2 (ht.up n1))
     . simp only[hr,decide_false,Bool.false_eq_true,if_false];have hsz:n<=(arrOf st).size:=by rw[hB.size];exact n2
       have eqs:∀k,k<n->K (arrOf st) k=K (arrOf st) (n-1):=fun k hk=>by
        have x:=sn 0 k (by omega) hk;have y:=sn k (n-1) (by omega) (by omega);omega
       have km:=lP (xs:=arrOf st) (i:=0) (j:=n) hsz;refine wpS_bind (wpS_reverse (wk h0 (by omega) (hB.setArr (mirror_perm _ _ _ _)) ⟨by omega,fun i j hij hj=>⟨fun hh=>by omega,fun hh=>⟨fun hj2=>?_,?_⟩⟩⟩ (mN (ht.up (by omega)) hsz (by omega)) h))
       . have hjn:j=n:=by omega
         subst hjn;show K (mirror (arrOf st) _ _ _) j<K (mirror (arrOf st) _ _ _) i;rw[(km i).1,(km j).1,if_neg (show¬(0<=j/\j<j) by omega),if_pos (by omega),eqs (0+j-1-i) (by omega)];exact hl
       . show lO (mirror (arrOf st) _ _ _) j i;unfold lO;rw[(km i).1,(km i).2,(km j).1,(km j).2,if_pos (show 0<=i/\i<n by omega)];by_cases hjn:j<n
         . rw[if_pos (by omega)];refine .inr ⟨(eqs _ (by omega)).trans (eqs _ (by omega)).symm,ht _ _ (by omega) (by omega) (by omega)⟩
         . have hjn:j=n:=by omega
           subst hjn;rw[if_neg (by omega),eqs (0+j-1-i) (by omega)];exact .inl hl
   . rw[if_neg hg];have hn1:n=1:=by omega
     subst hn1;refine wk h0 (by omega) hB ⟨by omega,fun i j hij hj=>⟨fun hh=>by omega,fun hh=>?_⟩⟩ (ht.up (by omega)) h;have hi0:i=0:=by omega
     have hj1:j=1:=by omega
     subst hi0;subst hj1;exact⟨fun _=>hl,.inl hl⟩
theorem CF{st:SortSt}{Q:Unit->SortSt->Prop}(h0:IntKeys a₀)(hB:SBase a₀ st)(ht:iX a₀.size (arrOf st) 1)(h2:2<=a₀.size)(h64:a₀.size<64)
 (h:∀st',(arrOf st').Perm a₀->failedOf st'=none->jy (arrOf st') a₀.size->Q () st'):wpS (model prog w) A E s sortRuns' Q st:=by
 rw[sortRuns'_eq];refine wpS_bind (wpS_get ?_);dsimp only
 have hmr:minRun' a₀.size a₀.size 0=a₀.size:=by
  cases e:a₀.size with
  |zero=>rw[e]at h2;omega
  |succ f=>rw[minRun'_succ,if_pos (by omega)]
 simp only[hB.size,hmr]
 have dn:∀ {q:SortSt},SBase a₀ q->jy (arrOf q) a₀.size->∃p,p=setPending q ((pendingOf q).push (0,a₀.size,0))/\(arrOf p).Perm a₀/\failedOf p=none/\pendingOf p= #[(0,a₀.size,0)]/\jy (arrOf p) a₀.size:=fun{q} b s=>
  ⟨_,rfl,b.perm,b.failed,by show(pendingOf q).push _=_;rw[b.pend];rfl,s⟩
 refine wpS_bind (wpS_mono (wpS_forRange
  (I:=fun x c q=>(x=0/\c=(none,0)/\q=st)\/(1<=x/\c=(none,a₀.size)/\(arrOf q).Perm a₀/\failedOf q=none/\pendingOf q= #[(0,a₀.size,0)]/\jy (arrOf q) a₀.size))
  (Q:=fun c q=>c=(none,a₀.size)/\(arrOf q).Perm a₀/\failedOf q=none/\pendingOf q= #[(0,a₀.size,0)]/\jy (arrOf q) a₀.size) ?st ?en (.inl ⟨rfl,rfl,rfl⟩)) ?po)
 case en=>
  rintro c q (⟨hx,_,_⟩|⟨_,hc,hD⟩)
  . omega
  . exact⟨hc,hD⟩
 case st=>
  rintro x c q _ hx (⟨rfl,rfl,rfl⟩|⟨_,rfl,hD⟩)
  . dsimp only;rw[if_neg (by omega)];simp only[Nat.sub_zero,Nat.min_self,Nat.zero_add];refine wpS_bind (CQ h0 (by omega) hB ht fun m q2 b1 b2 b3 b4 b5=>?_);dsimp only;by_cases hm:m<a₀.size
    . rw[if_pos hm];refine wpS_bind (wpS_lift (wpAny_rule ⟨rfl,?_⟩));refine wpS_bind (CD h0 b2 b3 b1 b4 b5 fun q3 d1 d2=>?_);simp only[Bool.not_true,Bool.false_eq_true,if_false];refine wpS_bind (wpS_get ?_);have hb:(pendingOf q3).back?=none:=by rw[d1.pend];rfl
      rw[hb];dsimp only;obtain⟨p,rfl,z⟩:=dn d1 d2;exact wpS_bind (wpS_modify (wpS_pure (.inr ⟨by omega,rfl,z⟩)))
    . rw[if_neg hm];have hm:m=a₀.size:=by omega
      subst hm;refine wpS_bind (wpS_get ?_);have hb:(pendingOf q2).back?=none:=by rw[b1.pend];rfl
      rw[hb];dsimp only;obtain⟨p,rfl,z⟩:=dn b1 b4;exact wpS_bind (wpS_modify (wpS_pure (.inr ⟨by omega,rfl,z⟩)))
  . dsimp only;rw[if_pos (Nat.le_refl _)];exact wpS_pure ⟨rfl,hD⟩
 case po=>
  rintro c q ⟨rfl,d1,d2,d3,d4⟩;dsimp only;refine wpS_bind (wpS_mono (wpS_forRange (I:=fun _ c q'=>q'=q/\c=(none,())) (Q:=fun c q'=>q'=q/\c=(none,())) ?_ (fun _ _ z=>z) ⟨rfl,rfl⟩) ?_)
  . rintro x c q' _ _ ⟨rfl,rfl⟩;refine wpS_bind (wpS_get ?_);rw[if_pos (by rw[d3];exact Nat.le_refl 1)];exact wpS_pure ⟨rfl,rfl⟩
  . rintro c q' ⟨rfl,rfl⟩;exact wpS_pure (h _ d1 d2 d4)
end
end L3
namespace L2
open PySem PySem.Spec PyProof.Rows
structure Entry(K:PySem.W.Frag)(ts:List (Addr×Addr))(a:Addr)(ns:List Int)(H:Hp):Prop where
 lst:mf K H a (ns.map V.int)
 tab:∀q∈ts,H q.2=some (.jT #[])/\q.2≠a
theorem wx:∀ {vs:List Value} {ns:List Int},IntsAre vs ns->Vals (ns.map V.int) vs
 |_,_,.nil=> .nil
 |_,_,.cons n t h=> .cons ⟨t,rfl⟩ (wx h)
structure JJ(K:PySem.W.Frag)(ts:List (Addr×Addr))(h:Heap):Prop where
 hd:∀q∈ts,PySem.W.codeHdIn K q.1 q.2=true
 no:∀q∈ts,K.lookup q.2=none
 at':∀q∈ts,h.get? q.2=some (PySem.W.tabObj #[])
theorem CP{P:Program}{w:World}{K:PySem.W.Frag}{mg mb:Str->Option Value}{k:Nat}{fa a:Addr}{fd:FuncData}{x:Str}{sp:Sp}{s₁:Shared}{vs:List Value}{ns:List Int}{ts:List (Addr×Addr)}
 (KX:K.In s₁.heap) (hns:s₁.heap.Ns mainGlobals mg) (hb:s₁.heap.Ns builtinsNs mb) (hbb:∀x:Str,x≠"__name__"->mb x=bootBuiltins x) (hlim:s₁.heap.NoLimit) (hse:s₁.heap.NoSeer) (hgt:P.given.tree=none)
 (hbm:∃bm ob,mg "__builtins__"=some (.ref bm)/\bm≠builtinsNs/\s₁.heap.get? bm=some ob/\ob.cls= .type "module"/\ob.dict=some builtinsNs/\ob.data= .plain) (hT:JJ K ts s₁.heap) (hg:s₁.gens= #[])
 (ha:s₁.heap.get? a=some {cls:= .type "list",data:= .seq vs.toArray}) (hi:IntsAre vs ns) (hl:ns.length<=sizeLine) (hr:cT k callerA)
 (F:∀base:Heap,K.In base->base.Ns mainGlobals mg->bz P w K mg base (fun _ _ _ _ _ _=>False) k fa fd [x] sp) (hbind:∀(s:Shared) (u:Value),BindsTo s fd ⟨[u],[]⟩ [(x,u)])
 (hsp:∀H:Hp,Entry K ts a ns H->sp [.ref a] H (fun v _=>v= .bl true) fun _ _ _=>False):
 codeAny (model P w) callerA (.call (.ref fa) ⟨[.ref a],[]⟩) (fun r s'=>r= .ok (.ret (.bool true))/\OldK s₁.heap s'.heap/\s'.os=s₁.os/\AllBare s'.gens) s₁:=by
 have rv:=wx hi;have lenV:=hi.length
 have nta:∀q∈ts,q.2≠a:=fun q hq z=>by
  have:=hT.at' q hq;rw[z,ha]at this;cases this
 let sc:Option HO:=match K.lookup a with
  |some _=>none
  |none=>some (.gh {cls:= .type "list",data:= .seq vs.toArray} (.lst (ns.map V.int)))
 let H:Hp:=fun b=>if b=a then sc else if b∈ts.map (·.2)then some (.jT #[])else none
 have Ha:H a=sc:=if_pos rfl
 have Ht:∀q∈ts,H q.2=some (.jT #[]):=fun q hq=>by
  show(if q.2=a then sc else if q.2∈ts.map (·.2)then some (HO.jT #[])else none)=_;rw[if_neg (nta q hq),if_pos (List.mem_map_of_mem hq)]
 have Hs:∀b u,H b=some u->(b=a/\K.lookup a=none/\u= .gh {cls:= .type "list",data:= .seq vs.toArray} (.lst (ns.map V.int)))\/(∃q∈ts,q.2=b/\u= .jT #[]):=fun b u e=>by
  have e':(if b=a then sc else if b∈ts.map (·.2)then some (HO.jT #[])else none)=some u:=e;by_cases hba:b=a
  . rw[if_pos hba]at e'
    have e2:(match K.lookup a with
     |some _=>none
     |none=>some (HO.gh {cls:= .type "list",data:= .seq vs.toArray} (.lst (ns.map V.int))))=some u:=e'
    cases q:K.lookup a with
    |some o=>rw[q]at e2;cases e2
    |none=>rw[q]at e2;cases e2;exact .inl ⟨hba,rfl,rfl⟩
  . rw[if_neg hba]at e';by_cases hbt:b∈ts.map (·.2)
    . rw[if_pos hbt]at e';cases e';obtain⟨q,hq,e⟩:=List.mem_map.mp hbt;exact .inr ⟨q,hq,e,rfl⟩
    . rw[if_neg hbt]at e';cases e'
 have aJ:g9 P w H s₁.heap:=fun b u e=>by
  rcases Hs b u e with⟨rfl,_,rfl⟩|⟨q,hq,rfl,rfl⟩
  . exact⟨ha,by rw[List.length_map];exact hl,vs,_,rv,ha⟩
  . exact hT.at' q hq
 have hE:Entry K ts a ns H:=by
  refine⟨?_,fun q hq=>⟨Ht q hq,nta q hq⟩⟩;cases q:K.lookup a with
  |some o=>
   have e:=KX a o q;rw[ha]at e;cases e;exact .inr ⟨_,vs.toArray,_,q,rfl,rfl,rfl,by rw[List.size_toArray,lenV];exact hl,by simpa using rv⟩
  |none=>
   refine .inl (.inr ⟨{cls:= .type "list",data:= .seq vs.toArray},?_⟩);rw[Ha]
   show(match K.lookup a with
    |some _=>none
    |none=>some (HO.gh {cls:= .type "list",data:= .seq vs.toArray} (.lst (ns.map V.int))))=_
   rw[q]
 have dictNo:∀ {b:Addr} {o:Obj},s₁.heap.get? b=some o->(∀es ep,o.data≠ .seq es ep)->o.cls≠ .none->H b=none:=fun{b o} e d1 d2=>by
  cases q:H b with
  |none=>rfl
  |some u=>
   rcases Hs b u q with⟨rfl,_,_⟩|⟨t,ht,rfl,_⟩
   . rw[ha]at e;cases e;exact absurd rfl (d1 _ _)
   . rw[hT.at' t ht]at e;cases e;exact absurd rfl d2
 have nsK:∀ {b:Addr} {m:Str->Option Value},s₁.heap.Ns b m->(oN s₁.heap H).Ns b m:=fun{b m} ⟨o,es,ep,e,d,r⟩=>by
  refine⟨o,es,ep,p7 e ?_,d,r⟩;cases q:H b with
  |none=>rfl
  |some u=>
   rcases Hs b u q with⟨rfl,_,_⟩|⟨t,ht,rfl,_⟩
   . rw[ha]at e;cases e;cases d
   . rw[hT.at' t ht]at e;cases e;cases d
 have hKb:K.In (oN s₁.heap H):=fun b o e=>p7 (KX b o e) (by
  cases q:H b with
  |none=>rfl
  |some u=>
   rcases Hs b u q with⟨rfl,z,_⟩|⟨t,ht,rfl,_⟩
   . rw[z]at e;cases e
   . rw[hT.no t ht]at e;cases e)
 obtain⟨bm,ob,b1,b2,b3,b4,b5,b6⟩:=hbm;have hbmK:(oN s₁.heap H).get? bm=some ob:=p7 b3 (dictNo b3 (fun es ep z=>by rw[b6]at z;cases z) (fun z=>by rw[b4]at z;cases z))
 have seK:(oN s₁.heap H).NoSeer:=by
  obtain⟨⟨m1,a1,a2⟩,⟨m2,c1,c2⟩,⟨m3,d1,d2⟩,⟨mg',bm',ob',e1,e2,e3,e4,e5⟩⟩:=hse;refine⟨⟨m1,nsK a1,a2⟩,⟨m2,nsK c1,c2⟩,⟨m3,nsK d1,d2⟩,⟨mg',bm',ob',nsK e1,e2,p7 e3 ?_,e4,e5⟩⟩;cases q:H bm' with
  |none=>rfl
  |some u=>
   rcases Hs bm' u q with⟨rfl,_,_⟩|⟨t,ht,rfl,_⟩
   . rw[ha]at e3;cases e3;exact absurd (show Value.type "list"=Value.type "module" from e4) (by intro z;injection z with z;exact absurd z (by decide))
   . rw[hT.at' t ht]at e3;cases e3;cases e4
 have hM:Mod K mg (oN s₁.heap H):=⟨hKb,nsK hns,⟨mb,nsK hb,hbb⟩,let⟨mc,h1,h2⟩:=hlim;⟨mc,nsK h1,h2⟩,seK,⟨bm,ob,b1,b2,hbmK,b4,b5,b6⟩⟩
 have e0:ug P w K mg (oN s₁.heap H) callerA [] s₁ H:=⟨rfl,hM,fun b o e=>Hm e,Nat.le_of_eq (DL _ _),trivial,fun b hb=>absurd (show b∈([]:List Addr)from hb) (by simp),aJ,.of_eq hg,hgt⟩
 refine codeAny_mono ((F _ hKb (nsK hns)).run callerA [] s₁ H ⟨[.ref a],[]⟩ [.ref a] [.ref a] _ _ hr e0 (hbind s₁ (.ref a)) (.cons rfl .nil) (hsp H hE)) fun r s' h=>?_;cases r with
 |error e=>exact False.elim h
 |ok fl=>
  cases fl with
  |next=>exact False.elim h
  |brk=>exact False.elim h
  |cont=>exact False.elim h
  |ret u=>
   obtain⟨v,H',os,bare,un,hok',r',q⟩:=h;have q':v= .bl true:=q;subst q';obtain rfl:u=Value.bool true:=r';have noF:∀b:Addr,b∉oZ ([]:List Env):=fun b z=>absurd (show b∈([]:List Addr)from z) (by simp);refine⟨rfl,⟨fun b o e=>?_,fun b o e=>un.there b o e (by simp)⟩,os,bare⟩;cases q:H b with
   |none=>exact .inl (un.keep b o e q (noF b) (by simp))
   |some u=>
    rcases Hs b u q with⟨rfl,_,rfl⟩|⟨t,ht,rfl,rfl⟩
    . obtain⟨e2,_⟩:=hok' b _ (un.nK b _ _ q);rw[ha]at e;cases e;exact .inl e2
    . obtain⟨more,e1⟩:=un.nj _ _ q;have e2:s'.heap.get? t.2=some {cls:= .none,data:= .fields (#[]++more)}:=hok' _ _ e1;have e3:=hT.at' t ht;rw[e3]at e;cases e;have C:PySem.W.CodeHd s₁.heap t.1 t.2:=PySem.W.codeHd_of_K KX (hT.hd t ht);exact .inr (.inl ⟨(C.tab e3).isCodeTable,rfl,#[],more,rfl,e2⟩)
theorem K2{l:PySem.W.OpenLaw}{n k:Nat}{q:Program}{loose:List Str}{XP:(Str->Option Value)->Heap->Prop}{YP:World->Heap->Prop}{d:DefRec}{K:Params->PySem.W.Frag}{sp:World->Sp}{x:Str}{ts:List (Addr×Addr)}
 (hn:l.most=some n) (hn2:n<=sizeLine) (hdf:d.params.defaults=[]) (hr:cT k callerA) (hq:importsNone q=true) (hgt:l.prog.given.tree=none)
 (hY:∀(w:World) (h:Heap),YP w h->(K w.params).In h/\JJ (K w.params) ts h)
 (F:∀(w:World) (mg:Str->Option Value) (fa:Addr) (h:Heap),(K w.params).In h->h.Ns mainGlobals mg->mg d.name=some (.ref fa)->
   ∃fd:FuncData,(∀(s:Shared) (u:Value),BindsTo s fd ⟨[u],[]⟩ [(x,u)])/\
    ∀base:Heap,(K w.params).In base->base.Ns mainGlobals mg->bz l.prog w (K w.params) mg base (fun _ _ _ _ _ _=>False) k fa fd [x] (sp w))
 (hsp:∀(w:World) (H:Hp) (a:Addr) (ns:List Int),ns.length<=n->Entry (K w.params) ts a ns H->sp w [.ref a] H (fun v _=>v= .bl true) fun _ _ _=>False):
 PySem.W.WalkO q loose XP YP l.row.toRowW d [] (fun f vs=>PySem.call f vs):=by
 refine Att.zE hn hdf fun w s₀ s₁ mg mb fa o pm cd doc a vs ns G Y ho hd hcd hmg hobj hints hlen hg=>?_;obtain⟨KX,hT⟩:=hY w _ Y;obtain⟨fd,hb,hF⟩:=F w mg fa _ KX G.T.g hmg;exact CP KX G.T.g G.T.b G.T.builtins G.T.nolimit (G.T.seer hq) hgt G.T.bmain hT hg hobj hints (Nat.le_trans hlen hn2) hr hF hb fun H hE=>hsp w H a ns hlen hE
end L2
namespace L3
open PySem PySem.Spec L2
open PyProof.Rows hiding St
section
variable {X:Cx}{pins:List (Addr×Obj)}{σ:L2.St}{H:Hp}{s:Shared}{p:Addr}{o o':Obj}{h':Heap}
theorem ky{t':Nat}(I:Inv X pins σ H s)(hd:∀v,o.data≠ .cell v)(hfr:o.isFreed=false:=by rfl):Inv X (pins++[(s.heap.objs.size,o)]) σ H {s with heap:=s.heap.push o,toks:=t'}:=by
 have I':=I.kept (h':=s.heap.push o) (t':=t') (fun b u e=>Heap.get?_push_of_some _ e);refine I'.rE fun q hq=>?_;rcases List.mem_append.mp hq with hq|hq
 . exact I'.pin q (List.mem_append_right _ hq)
 . have e:q=(s.heap.objs.size,o):=by simpa using hq
   subst e;exact⟨Heap.get?_push_size _ hfr,I.aJ.fresh (Nat.le_refl _),Nat.ne_of_gt I.lt,I.J5 (Nat.le_refl _),hd⟩
theorem fw(I:Inv X (pins++[(p,o)]) σ H s):s.heap.get? p=some o/\H p=none/\p≠X.env.locals/\p∉X.fs/\∀v,o.data≠ .cell v:=
 I.pin (p,o) (List.mem_append_right _ (List.mem_append_right _ (List.mem_singleton.mpr rfl)))
theorem zf(I:Inv X (pins++[(p,o)]) σ H s):∀x c,X.env.cells.lookup x=some c->c≠p:=fun x c e z=>by
 obtain⟨v,u,hu,hd⟩:=I.cell x c e;obtain⟨h1,_,_,_,h5⟩:=fw I;rw[z,h1]at hu;cases hu;exact h5 v hd
theorem m6{t':Nat}(I:Inv X (pins++[(p,o)]) σ H s)(hs:Heap.SameBut p s.heap h')(hn:h'.get? p=some o')(hd:∀v,o'.data≠ .cell v)(h0:X.s₀.heap.objs.size<=p)(hp:∀q∈X.pn++pins,q.1≠p):
 Inv X (pins++[(p,o')]) σ H {s with heap:=h',toks:=t'}:=by
 obtain⟨_,n,neL,nfs,_⟩:=fw I;have I0:Inv X pins σ H s:=I.gR;have I1:=I0.turned (t':=t') (h':=h') (it:=p) (fun b u hb e=>(hs.2 b hb).trans e) n neL (.inr h0) (zf I) hp;refine I1.rE fun q hq=>?_;rcases List.mem_append.mp hq with hq|hq
 . exact I1.pin q (List.mem_append_right _ hq)
 . have e:q=(p,o'):=by simpa using hq
   subst e;exact⟨hn,n,neL,nfs,hd⟩
theorem Cv{u:HO}(I:Inv X (pins++[(p,o)]) σ H s)(h0:X.s₀.heap.objs.size<=p)(hp:∀q∈X.pn++pins,q.1≠p)(new:dB X.prog X.w (upd H p u) s.heap p u):Inv X pins σ (upd H p u) s:=by
 obtain⟨e0,n,neL,nfs,_⟩:=fw I;have ne:∀ {b:Addr} {w:HO},H b=some w->b≠p:=fun e=>dD e n;have ne0:∀ {b:Addr} {w:Obj},X.s₀.heap.get? b=some w->b≠p:=fun e=>Nat.ne_of_lt (Nat.lt_of_lt_of_le (Heap.lt_size e) h0);refine⟨I.ok,I.os,I.bare,⟨I.base.keep,I.base.slot,fun b w e q hx=>?_,I.base.there,fun b xs e=>?_,fun b w y e=>?_,fun b ps e=>?_⟩,I.loc,I.cell,?_,fun x c e=>?_,fun q hq=>?_,fun b w e=>?_,I.len⟩
 . rw[ay (ne0 e)];exact I.base.free b w e q hx
 . have:=I.base.oM b xs e;rw[ay (ne this)];exact this
 . have:=I.base.nK b w y e;rw[ay (ne this)];exact this
 . obtain⟨m,q⟩:=I.base.nj b ps e;exact⟨m,by rw[ay (ne q)];exact q⟩
 . rw[ay (Ne.symm neL)];exact I.free
 . rw[ay (zf I x c e)];exact I.iI x c e
 . have hq':q∈X.pn++(pins++[(p,o)]):=by
    rcases List.mem_append.mp hq with z|z
    . exact List.mem_append_left _ z
    . exact List.mem_append_right _ (List.mem_append_left _ z)
   obtain⟨a1,a2,a3⟩:=I.pin q hq';exact⟨a1,by rw[ay (hp q hq)];exact a2,a3⟩
 . by_cases hb:b=p
   . subst hb;rw[a6]at e;cases e;exact new
   . rw[ay hb]at e;exact(I.aJ b w e).oA (fun _ _ _ q=>q) (fun c q=>by rw[ay (ne q)];exact q) fun c xs q=>by rw[ay (ne q)];exact q
end
def ma(X:Cx)(pins:List (Addr×Obj))(σ:L2.St)(R:Hp->Prop)(own:List (Addr×Obj))(s:Shared):Prop:=∃H,Inv X (pins++own) σ H s/\R H
section
variable {X:Cx}{pins:List (Addr×Obj)}{σ:L2.St}{R:Hp->Prop}{s:Shared}{A:Around}{E:Value->Shared->Prop}{a kS:Addr}{e1 e:Nat}{keys:Array Value}{P:PySem.Fin->Shared->Prop}
structure Own(X:Cx)(pins:List (Addr×Obj))(p:Addr):Prop where
 ge:X.s₀.heap.objs.size<=p
 ne:∀q∈X.pn++pins,q.1≠p
theorem rS{H:Hp}(I:Inv X pins σ H s):Own X pins s.heap.objs.size:=⟨I.sz,fun q hq=>Nat.ne_of_lt (Heap.lt_size (I.pin q hq).1)⟩
theorem zD{p:Addr}{q:Addr×Obj}(h:Own X pins p)(hq:q.1≠p):Own X (pins++[q]) p:=⟨h.ge,fun r hr=>by
 rcases List.mem_append.mp hr with z|z
 . exact h.ne r (List.mem_append_left _ z)
 . rcases List.mem_append.mp z with z|z
   . exact h.ne r (List.mem_append_right _ z)
   . have e:r=q:=by simpa using z
     rw[e];exact hq⟩
theorem yh{x y:Addr×Obj}(J:ma X pins σ R [x,y] s):∃H,Inv X ((pins++[x])++[y]) σ H s/\R H:=by
 obtain⟨H,I,r⟩:=J;exact⟨H,by rw[List.append_assoc];exact I,r⟩
theorem CK{x y:Addr×Obj}{H:Hp}(I:Inv X ((pins++[x])++[y]) σ H s)(r:R H):ma X pins σ R [x,y] s:=⟨H,by rw[List.append_assoc]at I;exact I,r⟩
theorem ym{st:SortSt}(J:ma X pins σ R [(a,seqObj "list" #[] e1),(kS,seqObj "list" keys e)] s)(ha:Own X pins a)(hk:Own X pins kS)(hka:kS≠a)(hz1:keys.size<=sizeLine)(hz2:(arrOf st).size<=sizeLine)(hf:failedOf st=none)
 (h:∀s' c,ma X pins σ R [(a,seqObj "list" ((arrOf st).map (·.2)) c)] s'->P (.done (.ret .none)) s'):
 wpAny (model X.prog X.w) A (PyProof.Rows.ksk_tail a false e1 (.ref kS) st) P E s:=by
 obtain⟨H,I,r⟩:=yh J;have k1:=(fw I).1;have s1:=Heap.SameBut.update s.heap kS (Obj.mapSeq fun _=>(#[]:Array Value));have I1:=m6 (t':=s.toks) I s1 (get?_update_seq k1 fun _=> #[]) (fun v z=>by cases z) hk.ge (zD hk hka.symm).ne;have I2:Inv X (pins++[(a,seqObj "list" #[] e1)]) σ H {s with heap:=s.heap.update kS (Obj.mapSeq fun _=>(#[]:Array Value)),toks:=s.toks}:=I1.gR;have a1:=(fw I2).1;have s2:=Heap.SameBut.update (s.heap.update kS (Obj.mapSeq fun _=>(#[]:Array Value))) a (Obj.mapSeq fun _=>(arrOf st).map (·.2));have I3:=m6 (t':=s.toks) I2 s2 (get?_update_seq a1 fun _=>(arrOf st).map (·.2)) (fun v z=>by cases z) ha.ge ha.ne;unfold ksk_tail;simp only[Bool.false_eq_true,if_false];refine wpAny_bind (listUpdate_at k1 rfl ?_ hz1 (Nat.zero_le _));refine wpAny_bind (wpAny_letGo ?_);refine wpAny_bind (seqEpoch_at a1 rfl ?_);refine wpAny_bind (listUpdate_at a1 rfl ?_ (Nat.zero_le _) (Nat.le_succ_of_le (by rw[Array.size_map];exact hz2)));rw[hf];simp only[bne_self_eq_false,Bool.false_eq_true,if_false];exact wpAny_pure (h _ _ ⟨H,I3,r⟩)
def BP(kz:List Int)(vs out:List Value):Prop:=
 ∃ps:List (Int×Value),ps.Perm (kz.zip vs)/\out=ps.map Prod.snd/\ps.Pairwise fun p q=>p.1<q.1\/(p.1=q.1/\numOf p.2<numOf q.2)
theorem Ax{kz:List Int}{vs:List Value}(hk:IntsAre keys.toList kz){xs:Array Keyed}(hp:xs.Perm (keys.zip vs.toArray))(hs:jy xs xs.size):BP kz vs (xs.map (·.2)).toList:=by
 have hl:xs.toList.Perm (keys.toList.zip vs):=by rw[<-ksk_zip];exact Array.perm_iff_toList_perm.mp hp
 refine⟨xs.toList.map fun p=>(numOf p.1,p.2),?_,?_,?_⟩
 . have e2:(keys.toList.zip vs).map (fun p:Keyed=>(numOf p.1,p.2))=kz.zip vs:=by
    rw[<-hk.nums,List.zip_map_left];exact List.map_congr_left fun⟨x,y⟩ _=>rfl
   rw[<-e2];exact hl.map _
 . rw[Array.toList_map,List.map_map];rfl
 . rw[List.pairwise_iff_getElem];intro i j hi hj hij;have hi':i<xs.size:=by simpa using hi
   have hj':j<xs.size:=by simpa using hj
   have q:=hs i j hij hj';unfold lO Jn at q;rw[K_eq hi',K_eq hj',getElem?_pos xs i hi',getElem?_pos xs j hj']at q;simpa using q
theorem HQ{kz:List Int}{vs:List Value}(J:ma X pins σ R [(a,seqObj "list" #[] e1),(kS,seqObj "list" keys e)] s)(ha:Own X pins a)(hk:Own X pins kS)(hka:kS≠a)(hi:IntsAre keys.toList kz)(hl:kz.length=vs.length)(h64:vs.length<64)
 (hup:vs.Pairwise fun x y=>numOf x<numOf y)
 (h:∀s' out c,ma X pins σ R [(a,seqObj "list" out c)] s'->BP kz vs out.toList->P (.done (.ret .none)) s'):
 wpAny (model X.prog X.w) A (ksk_end a false vs.toArray e1 (.ref kS) keys) P E s:=by
 have hsz:keys.size=vs.length:=by have:=hi.length;rw[Array.length_toList]at this;omega
 have hzs:(keys.zip vs.toArray).size=vs.length:=by rw[Array.size_zip,hsz,List.size_toArray,Nat.min_self]
 have hbig:vs.length<=sizeLine:=Nat.le_trans (Nat.le_of_lt h64) (by decide)
 have hta:iX (keys.zip vs.toArray).size (keys.zip vs.toArray) 1:=fun i j hij _ hj=>by
  rw[hzs]at hj
  have e1:(keys.zip vs.toArray)[i]?=some (keys.toList[i]'(by rw[Array.length_toList];omega),vs[i]'(by omega)):=by
   rw[<-Array.getElem?_toList,ksk_zip,List.getElem?_eq_getElem (by rw[List.length_zip,Array.length_toList];omega),List.getElem_zip]
  have e2:(keys.zip vs.toArray)[j]?=some (keys.toList[j]'(by rw[Array.length_toList];omega),vs[j]'(by omega)):=by
   rw[<-Array.getElem?_toList,ksk_zip,List.getElem?_eq_getElem (by rw[List.length_zip,Array.length_toList];omega),List.getElem_zip]
  unfold Jn;rw[e1,e2];exact List.pairwise_iff_getElem.mp hup i j (by omega) (by omega) hij
 unfold ksk_end;simp only[Bool.false_eq_true,if_false];by_cases h2:vs.toArray.size<2
 . rw[if_pos h2,if_pos h2];refine wpAny_bind (wpAny_pure ?_);rw[StateT.run_pure];refine wpAny_bind (wpAny_pure ?_);refine ym (st:=SortSt.mk' general' (keys.zip vs.toArray) #[] 7 none) J ha hk hka (by omega) (by show(keys.zip vs.toArray).size<=_;omega) rfl fun s' c J'=>h s' _ c J' ?_;refine Ax hi (Array.Perm.refl _) fun i j hij hj=>?_;have hj':j<(keys.zip vs.toArray).size:=hj;rw[List.size_toArray]at h2;omega
 . rw[if_neg h2,if_neg h2];rw[List.size_toArray]at h2;rw[ksk_kind hi (by omega)];refine wpAny_bind (wpAny_pure ?_)
   refine wpAny_bind (wpAny_mono (CF (a₀:=keys.zip vs.toArray) (st:=SortSt.mk' oneType' (keys.zip vs.toArray) #[] 7 none)
    (Q:=fun _ st'=>(arrOf st').Perm (keys.zip vs.toArray)/\failedOf st'=none/\jy (arrOf st') (keys.zip vs.toArray).size)
    (ksk_intKeys hi) ⟨Array.Perm.refl _,rfl,rfl,rfl⟩ hta (by omega) (by omega) fun st' b1 b2 b3=>⟨b1,b2,b3⟩) ?_ fun _ _ z=>z)
   rintro⟨⟨⟩,st'⟩ s' ⟨rfl,hp,hf,hs⟩;have hz2:=hp.size_eq;refine ym (st:=st') J ha hk hka (by omega) (by rw[hz2];omega) hf fun s' c J'=>h s' _ c J' (Ax hi hp (by rw[hz2];exact hs))
theorem EL{f:Value}{kz:List Int}{vs:List Value}(J:ma X pins σ R [(a,seqObj "list" #[] e1),(kS,seqObj "list" #[] 0)] s)(ha:Own X pins a)(hk:Own X pins kS)(hka:kS≠a)(hl:kz.length=vs.length)(h64:vs.length<64)
 (hup:vs.Pairwise fun x y=>numOf x<numOf y)
 (turn:∀(i:Nat) (v:Value) (k:Int),vs[i]?=some v->kz[i]?=some k->∀(own:List (Addr×Obj)) (s:Shared),ma X pins σ R own s->wpAny (model X.prog X.w) A (call f [v]) (fun u s'=>(∃t,u= .int k t)/\ma X pins σ R own s') (fun _ _=>False) s)
 (h:∀s' out c,ma X pins σ R [(a,seqObj "list" out c)] s'->BP kz vs out.toList->P (.done (.ret .none)) s'):
 wpAny (model X.prog X.w) A (ksk_rest a f false vs.toArray e1 (.ref kS)) P E s:=by
 have hbig:vs.length<=sizeLine:=Nat.le_trans (Nat.le_of_lt h64) (by decide);unfold ksk_rest;refine wpAny_bind (wpAny_rule ?_)
 first
  |rw[List.forIn_toArray]
  |(rw[<-Array.forIn_toList];simp only[List.toList_toArray])
  |rw[<-Array.forIn_toList]
 refine wpAny_bind (ksk_fold (fun i s'=>∃kA e,ma X pins σ R [(a,seqObj "list" #[] e1),(kS,seqObj "list" kA e)] s'/\IntsAre kA.toList (kz.take i)) vs 0 s ⟨#[],0,J,by simpa using IntsAre.nil⟩ ?st ?en)
 case st=>
  rintro j x s' hx ⟨kA,e,J',hk'⟩;simp only[Nat.zero_add]at hk'⊢;have hj:j<vs.length:=(List.getElem?_eq_some_iff.mp hx).1;have hkj:kz[j]?=some (kz[j]'(by omega)):=List.getElem?_eq_getElem _
  have hz:kA.size<=vs.length:=by
   have:=hk'.length;rw[Array.length_toList,List.length_take]at this;omega
  refine wpAny_bind (wpAny_attempt (wpAny_mono (turn j x _ hx hkj _ s' J') (fun v s2 he=>?_) fun _ _ z=>z.elim));obtain⟨⟨t,rfl⟩,J2⟩:=he;obtain⟨H,I,r⟩:=yh J2;have k1:=(fw I).1;have s1:=Heap.SameBut.update s2.heap kS (Obj.mapSeq (·.push (.int (kz[j]'(by omega)) t)));have I1:=m6 (t':=s2.toks) I s1 (get?_update_seq k1 (·.push (.int (kz[j]'(by omega)) t))) (fun v z=>by cases z) hk.ge (zD hk hka.symm).ne;refine wpAny_bind (listUpdate_at k1 rfl ?_ (by omega) (Nat.le_trans (Nat.le_of_eq (Array.size_push ..)) (by omega)));refine wpAny_pure ⟨rfl,_,_,CK I1 r,?_⟩;have ek:kz.take (j+1)=kz.take j++[kz[j]'(by omega)]:=by rw[List.take_add_one,hkj];simp
  rw[ek,Array.toList_push];exact ksk_snoc hk'
 case en=>
  rintro s' ⟨kA,e,J',hk'⟩;rw[show kz.take (0+vs.length)=kz from List.take_of_length_le (by omega)]at hk';obtain⟨H,I,r⟩:=yh J';refine wpAny_bind (listItems_at (fw I).1 rfl ?_);exact HQ J' ha hk hka hk' hl h64 hup h
theorem BX{f:Addr}{l:Addr}{kz:List Int}{vs:List Value}{H:Hp}{Q:Value->Shared->Prop}(I:Inv X pins σ H s)(r:R H)(hli:s.heap.IsList l vs.toArray)(hl:kz.length=vs.length)(h64:vs.length<64)
 (hup:vs.Pairwise fun x y=>numOf x<numOf y)
 (turn:∀(i:Nat) (v:Value) (k:Int),vs[i]?=some v->kz[i]?=some k->∀(own:List (Addr×Obj)) (s:Shared),ma X pins σ R own s->wpAny (model X.prog X.w) A.in1.in1 (call (.ref f) [v]) (fun u s'=>(∃t,u= .int k t)/\ma X pins σ R own s') (fun _ _=>False) s)
 (h:∀D s' out c,Own X pins D->ma X pins σ R [(D,seqObj "list" out c)] s'->BP kz vs out.toList->Q (.ref D) s'):
 wpAny (model X.prog X.w) A (call (.builtin "sorted") [.ref l] [(Str.ofString "key",.ref f)]) Q E s:=by
 have hbig:vs.length<=sizeLine:=Nat.le_trans (Nat.le_of_lt h64) (by decide);refine call_function_entry_kw kind_sorted plain_sorted entry_sorted (ksk_s1 _ _) ?_;unfold Builtin.«sorted»;refine wpAny_bind (m:=checkCount "sorted" 1 1 _) (wpAny_pure ?_);refine wpAny_bind (collect_list hli ?_ hbig);have I1:=ky (o:=seqObj "list" #[] 0) (t':=s.toks) I (fun v z=>by cases z);have s1:=Heap.SameBut.update (s.heap.push (seqObj "list" #[] 0)) s.heap.objs.size (Obj.mapSeq (· ++vs.toArray));have I2:=m6 (t':=s.toks) I1 s1 (get?_update_seq (fw I1).1 (· ++vs.toArray)) (fun v z=>by cases z) (rS I).ge (rS I).ne;have I3:Inv X pins σ H {s with heap:=(s.heap.push (seqObj "list" #[] 0)).update s.heap.objs.size (Obj.mapSeq (· ++vs.toArray)),toks:=s.toks}:=I2.gR;refine wpAny_bind (wpAny_newList ?_ hbig);generalize hs3:({s with heap:=(s.heap.push (seqObj "list" #[] 0)).update s.heap.objs.size (Obj.mapSeq (· ++vs.toArray))}:Shared)=s3;have I3':Inv X pins σ H s3:=by rw[<-hs3];exact I3
 have oD:=rS I3';have I4:=ky (o:=seqObj "list" vs.toArray 0) (t':=s3.toks) I3' (fun v z=>by cases z);have hD:=(fw I4).1;refine wpAny_bind (wpAny_holding (wpAny_call_entry_kw slot_list_sort ⟨_,hD,rfl⟩ entry_list_sort ?body (ksk_l1 _ _)))
 case body=>
  show wpAny (model X.prog X.w) A.in1.in1 (Builtin.«list.sort» ⟨[.ref s3.heap.objs.size],[(Str.ofString "key",.ref f)]⟩) _ _ _;rw[ksk_t1];unfold ksk_tree;refine wpAny_bind (listItems_at hD rfl ?_);have s5:=Heap.SameBut.update (s3.heap.push (seqObj "list" vs.toArray 0)) s3.heap.objs.size (Obj.mapSeq fun _=>(#[]:Array Value));have I5:=m6 (t':=s3.toks) I4 s5 (get?_update_seq hD fun _=> #[]) (fun v z=>by cases z) oD.ge oD.ne;have hD5:=(fw I5).1;refine wpAny_bind (listUpdate_at hD rfl ?_ (by rw[List.size_toArray];exact hbig) (Nat.zero_le _));refine wpAny_bind (seqEpoch_at hD5 rfl ?_);refine wpAny_bind (wpAny_newTuple ?_ (by show vs.length<=_;exact hbig));have I6:=(ky (o:=seqObj "tuple" vs.toArray 0) (t':=s3.toks) I5 (fun v z=>by cases z)).gR;refine wpAny_bind (wpAny_newList ?_ (Nat.zero_le _));have ok:=rS I6;have I7:=ky (o:=seqObj "list" #[] 0) (t':=s3.toks) I6 (fun v z=>by cases z);refine wpAny_holding ?_
  have okp:Own X pins _:=⟨ok.ge,fun q hq=>ok.ne q (by
   rcases List.mem_append.mp hq with z|z
   . exact List.mem_append_left _ z
   . exact List.mem_append_right _ (List.mem_append_left _ z))⟩
  refine EL (CK I7 r) oD okp (fun z=>ok.ne (s3.heap.objs.size,_) (List.mem_append_right _ (List.mem_append_right _ (List.mem_singleton.mpr rfl))) z.symm) hl h64 hup turn fun s' out c J' so=>⟨_,rfl,?_⟩
  exact wpAny_pure ⟨_,rfl,h _ s' out c oD J' so⟩
end
structure mM(X:Cx)(scope:Scope)(Nc:List Str)(fr:List (Option Nat))(p:Str):Prop where
 sc:bj X scope Nc fr
 DW:∀x∈scope.names,x.2≠ .cell
 co:scope.isCoroutine=false
 gen:scope.isGenerator=false
 p0:Nc[0]?=some p
 f0:fr[0]?=some none
 loc:scope.names.lookup p=some .local
abbrev A_(X:Cx)(scope:Scope)(qual:Str)(f c:Addr)(s:Shared):Env:=PySem.W.envX qual scope s.heap.objs.size f (.ref c) (de X.env.cells scope.names [])
def Dy(X:Cx)(scope:Scope)(Nc:List Str)(qual:Str)(f c:Addr)(s:Shared)(H:Hp):Cx:=
 {X with A:=X.A.in1.in1.deeper (A_ X scope qual f c s),N:=Nc,s₀:=s,H₀:=H,env:=A_ X scope qual f c s,outer:=X.stack,stack:=A_ X scope qual f c s::X.stack,ex:=[],fn:=fun _=>false,calm:=true,pn:=[],xe:=fun _ _=>False}
section
variable {X:Cx}{scope:Scope}{Nc:List Str}{fr:List (Option Nat)}{p qual:Str}{f c:Addr}{pins:List (Addr×Obj)}{σ:L2.St}{H:Hp}{s:Shared}
theorem KN(S:mM X scope Nc fr p)(I:Inv X pins σ H s)(hc:X.calm=true):(Dy X scope Nc qual f c s H).Ok where
 mod:=I.ok.mod
 kind:=S.sc.kind
 glob:=rfl
 blt:=rfl
 above:=Nat.le_refl _
 inj:=fun x y a h1 h2=>I.ok.inj x y a (cR _ [] (fun _ _ e=>by cases e) x a h1) (cR _ [] (fun _ _ e=>by cases e) y a h2)
 has:=fun x hx=>by
  have hx':scope.names.lookup x=some .cell\/scope.names.lookup x=some .free:=hx;rcases hx' with hx|hx
  . exact absurd rfl (S.DW _ (PySem.mem_of_lookup hx))
  . exact iM scope.names [] (I.ok.has x (S.sc.free _ (PySem.mem_of_lookup hx) rfl)) (.inl (PySem.mem_of_lookup hx))
 yw:=fun x a hf _=>by cases hf
 hd:=fun _=>I.ok.hd hc
 frames:=Around.frames_deeper (by show X.A.frames=_;exact I.ok.frames)
 zW:= .inr ⟨rfl,rfl⟩
 CB:=fun b hb=>by cases hb
 bs:=I.bs
 qP:=Nat.le_trans I.ok.qP I.sz
 tX:=fun b o e hb=>by cases hb
 tG:=fun b hb=>by cases hb
 kj:=I.stack
 uD:=I.vB
 gt:=I.ok.gt
theorem GY{h':Heap}{t':Nat}{v:V}{u:Value}(S:mM X scope Nc fr p)(I:Inv X pins σ H s)(hc:X.calm=true)(r:RelV v u)(hn:h'.Ns s.heap.objs.size (fun x=>[(p,u)].reverse.lookup x))
 (k:∀b o,s.heap.get? b=some o->h'.get? b=some o):Inv (Dy X scope Nc qual f c s H) [] ((σC fr σ).set 0 (some v)) H {s with heap:=h',toks:=t'} where
 ok:=KN S I hc
 os:=rfl
 bare:=I.bare
 base:=Un.kept k
 loc:=⟨_,hn,fun i x w h1 h2 h3=>by
  by_cases hi:i=0
  . subst hi;have hp:=S.p0;have e:p=x:=Option.some.inj (hp.symm.trans h1);subst e
    have hl:0<(σC fr σ).length:=by
     have:=(List.getElem?_eq_some_iff.mp h2).1;rw[List.length_set]at this;exact this
    rw[List.getElem?_set_self hl]at h2;cases h2;exact⟨u,r,.inl ⟨S.loc,by simp⟩⟩
  . rw[List.getElem?_set_ne (Ne.symm hi)]at h2;obtain⟨j,q1,q2⟩:=Ao h2;obtain⟨n1,n2,n3⟩:=S.sc.map i j x h1 q1;obtain⟨m,hm,hl⟩:=I.loc;obtain⟨u',r',lk⟩:=hl j x w n1 q2 (n3.elim (fun z=> .inr (.inl z)) fun z=> .inr (.inr z));refine⟨u',r',?_⟩;rcases lk with⟨z,_⟩|⟨_,a,e,ic⟩
    . rcases n3 with y|y<;>(rw[y]at z;cases z)
    . obtain⟨a',e'⟩:=iM scope.names [] ⟨a,e⟩ (.inl (PySem.mem_of_lookup n2));have e2:=cR _ [] (fun _ _ e=>by cases e) x a' e';rw[e]at e2;cases e2;exact .inr ⟨.inr n2,a,e',ic.keeps k⟩⟩
 cell:=fun x a h=>by
  obtain⟨v,q⟩:=I.cell x a (cR _ [] (fun _ _ e=>by cases e) x a h);exact⟨v,q.keeps k⟩
 free:=I.aJ.fresh (Nat.le_refl _)
 iI:=fun x a h=>I.iI x a (cR _ [] (fun _ _ e=>by cases e) x a h)
 pin:=fun q hq=>by cases hq
 aJ:=I.aJ.kept k
 len:=by rw[List.length_set];unfold σC;rw[List.length_map];exact S.sc.len
theorem Ew{R:Hp->Prop}{params:Arguments}{body:Expr}{tb:TE}{own:List (Addr×Obj)}{k:Int}{v:V}{u pm ctv:Value}(S:mM X scope Nc fr p)(hc:X.calm=true)(hr:X.A.depth<recursionLimit)
 (hb:∀(s:Shared) (H:Hp),PE (Dy X scope Nc qual f c s H) body tb)
 (hbind:∀(cl:List (Str×Addr)) (pm cd ct v:Value),bindArgs (PySem.W.kla_fn "<lambda>" qual params body scope cl pm cd ct) ⟨[v],[]⟩=pure [(p,v)])
 (r:RelV v u) (hf:(f,PySem.W.kla_obj "<lambda>" qual params body scope (de X.env.cells scope.names []) pm c ctv)∈pins)
 (hcr:∀(H:Hp) (s:Shared),Inv X (pins++own) σ H s->R H->s.heap.CodeRec (.ref c) qual)
 (hq:∀H,R H->tb ((σC fr σ).set 0 (some v)) H fun x H'=>x= .int k/\R H') (J:ma X pins σ R own s):
 wpAny (model X.prog X.w) X.A.in1.in1 (call (.ref f) [u]) (fun u' s'=>(∃t,u'= .int k t)/\ma X pins σ R own s') (fun _ _=>False) s:=by
 obtain⟨H,I,rH⟩:=J;have ho:=(I.pin _ (List.mem_append_right _ (List.mem_append_left _ hf))).1;refine wpAny_call (PySem.W.kla_callFunE (fd:=PySem.W.kla_fn "<lambda>" qual params body scope (de X.env.cells scope.names []) pm (.ref c) ctv) (by show X.A.depth<_;exact hr) ho rfl S.co S.gen rfl (hcr H s I rH) ?_);rw[hbind]
 refine wpAny_pure (wpAny_newFunctionEnv S.DW (fun y hy=>by
  have e:y=(p,u):=by simpa using hy
  rw[e];exact S.loc) (fun h₁ hns hsb=>?_) S.sc.kind)
 have hk:∀b o,s.heap.get? b=some o->h₁.get? b=some o:=fun b o e=>hsb.extBut b o (Nat.ne_of_lt (Heap.lt_size e)) (Heap.get?_push_of_some _ e);refine⟨I.nolimit.keeps hk,?_⟩;show codeAny _ X.A.in1.in1 (.expr body (A_ X scope qual f c s)) _ _;refine PySem.W.kla_codeExpr (wpAny_mono (hb s H [] _ _ H _ (GY S I hc r hns hk) (hq H rH)) (fun w s' he=>?_) fun e s' z=>False.elim z);obtain⟨x,H',I',rx,rfl,rH'⟩:=he;exact⟨rx,H',I.AS (s':=s') (ch:=[]) I'.os I'.base I'.aJ I'.bare (fun b z=>absurd z (by simp)),rH'⟩
theorem set_same{α:Type}:∀ {l:List α} {n:Nat} {x:α},l[n]?=some x->l.set n x=l
 | [],n,x,h=>by simp at h
 |a::l,0,x,h=>by simp at h;subst h;rfl
 |a::l,n+1,x,h=>by
  rw[List.set_cons_succ,set_same (n:=n) (by simpa using h)]
theorem Fy{params:Arguments}{body:Expr}{lpos:Pos}{c0 T:Addr}{α:List (Option Addr)}{G F:Hp}{st:af}{n0:Nat}{b:Bool}{E:Value->Shared->Prop}{Q:Value->Shared->Prop}(S:mM X scope Nc fr p)(hcode:X.env.code= .ref c0)(hC:PySem.W.codeHdIn X.K c0 T=true)
 (hdef:defaultsOf params X.env=([],[])) (hql:X.env.qual++"<lambda>"=qual) (I:Inv X pins σ H s) (Sp:cf G F H) (SR:aS α st G) (hn0:st[n0]?=some (.tab T lpos qual b))
 (h:∀(f c:Addr) (ctv pm:Value) (G2 H2:Hp) (s2:Shared),Inv X (pins++[(f,PySem.W.kla_obj "<lambda>" qual params body scope (de X.env.cells scope.names []) pm c ctv)]) σ H2 s2->Step α G α G2->cf G2 F H2->aS α (st.set n0 (.tab T lpos qual true)) G2->
   (some c∉α/\∃o vs t,G2 c=some (.gh o (.own c))/\o.data= .fields vs/\vs[1]?=some (.str qual t))->Q (.ref f) s2):
 wpAny (model X.prog X.w) X.A (eval (.Lambda params body scope lpos) X.env) Q E s:=by
 refine PySem.W.kla_eval hdef ?_;rw[hql];rcases SR.at' n0 _ hn0 with⟨z,_⟩|⟨a,ha,rfl,ps,gP,tr,cs⟩
 . cases z
 have hP:=I.aJ a _ (Sp.get gP);have hP:s.heap.get? a=some (PySem.W.tabObj ps):=hP;have hg:s.heap.Ns mainGlobals X.mg:=I.mod.glob.keeps I.bk;obtain⟨bm,ob,b1,b2,b3,b4,b5,b6⟩:=I.mod.bmain;have b3':=I.bk _ _ b3
 have hgP:mainGlobals≠a:=fun q=>by
  obtain⟨o,es,ep,e,hd,_⟩:=hg;rw[q,hP]at e;cases e;cases hd
 have n1:bm≠mainGlobals:=fun q=>by
  obtain⟨o,es,ep,e,hd,_⟩:=hg;rw[q,e]at b3';cases b3';rw[hd]at b6;cases b6
 have n2:bm≠a:=fun q=>by rw[q,hP]at b3';cases b3';cases b4
 have hB:s.heap.BuiltinsAt X.mg a:=⟨bm,ob,b1,b2,n1,n2,b3',b4,b5,b6⟩
 have hcl:closureFor scope X.env=pure (de X.env.cells scope.names []):=l7 fun x hx hk=>I.ok.has x.1 (S.sc.free x hx hk);have C:PySem.W.CodeHd s.heap c0 a:=PySem.W.codeHd_of_K I.iD hC;rcases cs with⟨rfl,hnf⟩|⟨rfl,c,o,vs,t,q1,q2,q3,q4,q5⟩
 . refine PySem.W.kla_makeFunction hcl I.ok.glob hg hcode C hP tr hnf hgP hB fun c' ctv h' tk hx hge hlt hrec htb=>?_;obtain⟨c2,oc,vs,t,e2,hoc,hd,hv⟩:=hrec;cases e2;have hHc:H c'=none:=I.aJ.fresh hge;have hGc:G c'=none:=(Sp.none hHc).1;have hHa:H a=some (.jT ps):=Sp.get gP;have hac:a≠c':=dD hHa hHc
   let ps':=ps++ #[rawInt lpos.line,rawInt lpos.col,.ref c']
   have nb:∀ {b:Addr},H b=none->b≠a:=fun e z=>by rw[z,hHa]at e;cases e
   have I1:Inv X pins σ (upd (upd H c' (.gh oc (.own c'))) a (.jT ps')) {s with heap:=h',gens:=s.gens,drawn:=s.drawn,toks:=tk}:=by
    have old:∀ {b:Addr} {u:HO},H b=some u->b≠a->upd (upd H c' (.gh oc (.own c'))) a (.jT ps') b=some u:=fun e n=>by rw[ay n,ay (dD e hHc)];exact e
    refine I.step (ch:=[]) (fun _ z=>nomatch z) (fun b o _ _ _ e n=>hx b o (nb n) e) (fun b o _ _ _ e n=>⟨o.slots,hx b o (nb n) e⟩) (fun b o _ e n=>?_) (fun b o _ e=>?_) (fun b xs e=>?_) (fun b o u e=>?_) (fun b qs e=>?_) (fun m hm=>?_) (fun b u e=>?_) I.bare
    . rw[ay (nb n),ay (Nat.ne_of_lt (Nat.lt_of_lt_of_le (Heap.lt_size e) hge))];exact n
    . by_cases hb:b=a
      . exact⟨_,by rw[hb];exact htb⟩
      . exact⟨o,hx b o hb e⟩
    . exact old e fun z=>by rw[z,hHa]at e;cases e
    . exact old e fun z=>by rw[z,hHa]at e;cases e
    . by_cases hb:b=a
      . subst hb;rw[hHa]at e;cases e;exact⟨_,a6⟩
      . exact⟨#[],by rw[old e hb];simp⟩
    . obtain⟨o,es,ep,ho,r⟩:=hm;exact⟨o,es,ep,hx _ o (nb I.free) ho,r⟩
    . by_cases hb:b=a
      . subst hb;rw[a6]at e;cases e;exact htb
      . rw[ay hb]at e;by_cases hbc:b=c'
        . subst hbc;rw[a6]at e;cases e;exact⟨hoc,_,hoc⟩
        . rw[ay hbc]at e;refine(I.aJ b u e).oA (fun d w hd q=>hx d w ?_ q) (fun d q=>old q fun z=>by rw[z,hHa]at q;cases q) fun d xs q=>old q fun z=>by rw[z,hHa]at q;cases q
          rcases hd with rfl|hd
          . exact hb
          . intro z;rw[z,hHa]at hd;cases hd
   have I2:=ky (o:=PySem.W.kla_obj "<lambda>" qual params body scope (de X.env.cells scope.names []) ((X.mg "__name__").getD .none) c' ctv) (t':=tk) I1 (fun v z=>by cases z);have gP':upd G c' (.gh oc (.own c')) a=some (.jT ps):=by rw[ay hac];exact gP
   refine h _ c' ctv _ (upd (upd G c' (.gh oc (.own c'))) a (.jT ps')) _ _ I2 ((Step.laid hGc).trans (Step.write (List.mem_of_getElem? ha))) ((Sp.laid hHc).write gP') ((SR.laid hGc).write ha ⟨rfl,ps',a6,?_,.inr ⟨rfl,c',oc,vs,t,?_,SR.j5 hGc,?_,hd,hv⟩⟩) ⟨SR.j5 hGc,oc,vs,t,?_,hd,hv⟩
   . show TriplesOk (ps++ #[rawInt lpos.line,rawInt lpos.col,.ref c']).toList;rw[Array.toList_append];exact TriplesOk_snoc _ _ _ _ tr
   . show codeAmong lpos (ps++ #[rawInt lpos.line,rawInt lpos.col,.ref c']).toList=_;rw[Array.toList_append];exact codeAmong_snoc _ tr hnf
   . rw[ay hac.symm,a6]
   . rw[ay hac.symm,a6]
 . refine PySem.W.kla_makeFunctionHit hcl I.ok.glob hg hcode C hP tr q1 hB fun ctv h' tk hk hsz=>?_;have I1:=I.kept (t':=tk) hk;have I2:=ky (o:=PySem.W.kla_obj "<lambda>" qual params body scope (de X.env.cells scope.names []) ((X.mg "__name__").getD .none) c ctv) (t':=tk) I1 (fun v z=>by cases z);refine h _ c ctv _ G H _ I2 Step.refl Sp (by rw[set_same hn0];exact SR) ⟨q2,o,vs,t,q3,q4,q5⟩
end
def slt(p q:Int×Int):Prop:=p.1<q.1\/(p.1=q.1/\p.2<q.2)
def y6(n0:Nat)(T:Addr)(lpos:Pos)(qual:Str)(fr:List (Option Nat))(tb te:DE):DE:=fun σ st K=>te σ st fun d st1=>∃(ns ks:List Int) (b:Bool),d= .lst (ns.map .int)/\ns.length<64/\ns.Pairwise (· < ·)/\ks.length=ns.length/\
 st1[n0]?=some (.tab T lpos qual b)/\(∀(i:Nat) (n k:Int),ns[i]?=some n->ks[i]?=some k->tb ((gH fr σ).set 0 (some (.int n))) (st1.set n0 (.tab T lpos qual true)) fun v st2=>v= .int k/\st2=st1.set n0 (.tab T lpos qual true))/\
 ∀os:List (Int×Int),os.Perm (ks.zip ns)->os.Pairwise slt->K (.lst (os.map fun p=> .int p.2)) (st1.set n0 (.tab T lpos qual true))
theorem yn{α:List (Option Addr)}{H:Hp}:∀ {ns:List Int} {vs:List V},aH α H (ns.map D.int) vs->vs=ns.map V.int
 | [],vs,h=>by unfold aH at h;exact h
 |n::ns,vs,h=>by
  unfold aH at h;obtain⟨v,r,rfl,h1,h2⟩:=h;unfold Rep at h1;rw[h1,yn h2];rfl
theorem yV{α:List (Option Addr)}{H:Hp}:∀(ns:List Int),aH α H (ns.map D.int) (ns.map V.int)
 | []=>by unfold aH;rfl
 |n::ns=>by unfold aH;exact⟨_,_,rfl,by unfold Rep;rfl,yV ns⟩
theorem zm:∀ {ns:List Int} {us:List Value},Vals (ns.map V.int) us->IntsAre us ns
 | [],_,.nil=> .nil
 |n::ns,_,.cons ⟨t,rfl⟩ h=> .cons n t (zm h)
section
variable {X:Cx}{scope:Scope}{Nc:List Str}{fr:List (Option Nat)}{p x qual:Str}{params:Arguments}{e body:Expr}{te tb:DE}{lpos kpos pos ppos:Pos}{c0 T:Addr}{n0:Nat}
theorem Hq(S:mM X scope Nc fr p)(hc:X.calm=true)(hr:cT 2 X.A)(hcode:X.env.code= .ref c0)(hC:PySem.W.codeHdIn X.K c0 T=true)(hdef:defaultsOf params X.env=([],[]))(hql:X.env.qual++"<lambda>"=qual)
 (hbind:∀(cl:List (Str×Addr)) (pm cd ct v:Value),bindArgs (PySem.W.kla_fn "<lambda>" qual params body scope cl pm cd ct) ⟨[v],[]⟩=pure [(p,v)])
 (hb:∀(f c:Addr) (s:Shared) (H:Hp),PE (Dy X scope Nc qual f c s H) body (LE tb)) (ha:PA X [e] (LA (ae te ak)))
 (hg:Gl X "sorted") (hm:X.mg "sorted"=none) (hv:bootBuiltins "sorted"=some (.builtin "sorted"))
 (he:backTo pos (starEach [e] X.env)=(false,eval e X.env)::backTo pos (starEach [] X.env):=by rfl) (hpl:(backTo pos (starEach [e] X.env)).any (·.1)=false:=by rfl):
 PE X (.Call (.Name "sorted" ppos) [e] [⟨some "key",.Lambda params body scope lpos,kpos⟩] pos) (LE (y6 n0 T lpos qual fr tb te)):=by
 intro pins s σ H Q I h;obtain⟨α,σd,st,K,G,F,Sp,RS,SR,t,k⟩:=h;refine wpAny_Call_Name_kw (lI I hg hm hv ?_);refine callWith_kw ?_ he hpl
 let K1:DK:=fun d st1=>∃(ns ks:List Int) (b:Bool),d= .lst (ns.map .int)/\ns.length<64/\ns.Pairwise (· < ·)/\ks.length=ns.length/\
  st1[n0]?=some (.tab T lpos qual b)/\(∀(i:Nat) (n k:Int),ns[i]?=some n->ks[i]?=some k->tb ((gH fr σd).set 0 (some (.int n))) (st1.set n0 (.tab T lpos qual true)) fun v st2=>v= .int k/\st2=st1.set n0 (.tab T lpos qual true))/\
  ∀os:List (Int×Int),os.Perm (ks.zip ns)->os.Pairwise slt->K (.lst (os.map fun p=> .int p.2)) (st1.set n0 (.tab T lpos qual true))
 refine bQ (ha pos pins s σ H (fun vs H1=>∃d v st1 α1 G1,vs=[v]/\K1 d st1/\Step α G α1 G1/\cf G1 F H1/\aS α1 st1 G1/\Rep α1 G1 d v) I
  ⟨α,σd,st,fun ds st1=>match ds with| [d]=>K1 d st1|_=>False,G,F,Sp,RS,SR,t,fun ds st1 q α1 G1 H1 vs s1 P1 S1 r1=>?_⟩) fun us s1 ⟨vs,H1,I1,rv,d,v,st1,α1,G1,hvs,kd,s1',P1,S1,r1⟩=>?_
 . match ds,q,r1 with
   | [d],q,r1=>
     unfold aH at r1;obtain⟨v,r,rfl,h1,h2⟩:=r1;unfold aH at h2;subst h2;exact⟨d,v,st1,α1,G1,rfl,q,s1,P1,S1,h1⟩
 subst hvs;obtain⟨ns,ks,b,rfl,h64,hup,hlen,hn0,hkey,hK⟩:=kd;show wpAny _ _ (evalAll ((do let v <-eval (.Lambda params body scope lpos) X.env;standAt pos;pure v)::[])) _ _ s1;refine wpAny_evalAll_cons (wpAny_bind (Fy S hcode hC hdef hql I1 P1 S1 hn0 fun f c ctv pm G2 H2 s2 I2 st2 P2 S2 ⟨hc1,o,vs,tq,hc2,hc3,hc4⟩=>wpAny_bind (wpAny_standAt (wpAny_pure (wpAny_evalAll_nil ?_)))));have r2:=r1.step st2;unfold Rep at r2;obtain⟨l,xs,rfl,hl1,hl2,hl3⟩:=r2;have exs:=yn hl3;subst exs;cases rv with
 |cons ru rn=>
  cases rn;cases ru
  have hrd:Rd H2 l (.lst (ns.map V.int)):=by
   rcases hl2 with z|⟨w,z⟩
   . exact .inl (P2.get z)
   . exact .inr ⟨w,P2.get z⟩
  obtain⟨_,its,nn,vv,hobj⟩:=hrd.ok I2.aJ;have hints:=zm vv;have hlen2:=hints.length;have key:∀(H':Hp),(∃α' G',Step α1 G2 α' G'/\cf G' F H'/\aS α' (st1.set n0 (.tab T lpos qual true)) G')->H' c=some (.gh o (.own c)):=fun H' ⟨α',G',q1,q2,q3⟩=>q2.get (q1.ext c _ hc1 hc2);show wpAny _ _ (call (.builtin "sorted") [.ref l] [(Str.ofString "key",.ref f)]) _ _ _
  refine BX (X:=X) (pins:=pins++[(f,PySem.W.kla_obj "<lambda>" qual params body scope (de X.env.cells scope.names []) pm c ctv)]) (R:=fun H'=>∃α' G',Step α1 G2 α' G'/\cf G' F H'/\aS α' (st1.set n0 (.tab T lpos qual true)) G') (kz:=ks) (vs:=its)
   I2 ⟨α1,G2,Step.refl,P2,S2⟩ ⟨_,hobj,rfl,nn,rfl⟩ (by omega) (by omega) ?_ (fun i u kk hu hk own s' J=>?_) fun D s' out cc oD J so=>?_
  . rw[<-List.pairwise_map,hints.nums];exact hup
  . have hi:i<ns.length:=by
     have:=(List.getElem?_eq_some_iff.mp hu).1;omega
    obtain⟨tt,ht⟩:=hints.get i ns[i] (List.getElem?_eq_getElem hi);have ht:some u=some (Value.int ns[i] tt):=by rw[<-hu];exact ht
    cases ht;refine Ew (v:= .int ns[i]) (u:= .int ns[i] tt) S hc (by have:=hr.dp;omega) (hb f c) hbind ⟨tt,rfl⟩ (List.mem_append_right _ (List.mem_singleton.mpr rfl)) (fun H' s'' J' r'=>?_) (fun H' r'=>?_) J
    . have q:=J'.aJ c _ (key H' r');exact⟨c,o,vs,tq,rfl,q.1,hc3,hc4⟩
    . obtain⟨α',G',q1,q2,q3⟩:=r';refine⟨α',(gH fr σd).set 0 (some (.int ns[i])),_,_,G',F,q2,?_,q3,hkey i ns[i] kk (List.getElem?_eq_getElem hi) hk,fun d' st' hd α'' G'' H'' v' s'' P'' S'' r''=>?_⟩
      . exact((RS.step ((s1'.trans st2).trans q1)).comp).set 0 (by unfold Rep;rfl)
      . obtain⟨rfl,rfl⟩:=hd;unfold Rep at r'';exact⟨r'',α'',G'',q1.trans s'',P'',S''⟩
  . obtain⟨H',I',α',G',q1,q2,q3⟩:=J;obtain⟨ps,hp,ho,hs⟩:=so
    have hps:∀q∈ps,∃t,q.2= .int (numOf q.2) t:=fun q hq=>by
     have h1:=hp.mem_iff.mp hq;have h2:q.2∈its:=(List.of_mem_zip (show(q.1,q.2)∈ks.zip its from h1)).2;obtain⟨n,t,e⟩:=hints.all _ h2;exact⟨t,by rw[e];rfl⟩
    have hos:(ps.map fun q=>(q.1,numOf q.2)).Perm (ks.zip ns):=by
     have h1:=hp.map fun q:Int×Value=>(q.1,numOf q.2)
     have e:(ks.zip its).map (fun q:Int×Value=>(q.1,numOf q.2))=ks.zip ns:=by
      rw[<-hints.nums,List.zip_map_right];exact List.map_congr_left fun⟨a,b⟩ _=>rfl
     rw[e]at h1;exact h1
    have hpw:(ps.map fun q=>(q.1,numOf q.2)).Pairwise slt:=by rw[List.pairwise_map];exact hs
    have kk:=hK _ hos hpw;rw[List.map_map]at kk;have hD0:=fw I'
    have vout:Vals ((ps.map fun q=>numOf q.2).map V.int) out.toList:=by
     rw[ho];clear hos hpw kk hs hp ho;induction ps with
     |nil=>exact .nil
     |cons q r ih=>
      obtain⟨t,e⟩:=hps q (List.mem_cons_self ..);exact .cons ⟨t,e⟩ (ih fun z hz=>hps z (List.mem_cons_of_mem _ hz))
    have hlo:(ps.map fun q=>numOf q.2).length<=sizeLine:=by
     rw[List.length_map,hp.length_eq,List.length_zip];exact Nat.le_trans (Nat.min_le_left _ _) (Nat.le_trans (show ks.length<=64 by omega) (by decide))
    have I3:=Cv (u:= .lst ((ps.map fun q=>numOf q.2).map V.int)) I' oD.ge oD.ne ⟨by rw[List.length_map];exact hlo,out.toList,cc,vout,hD0.1⟩;have hG:=(q2.none hD0.2.1).1;refine⟨.ref D,_,I3.gR,rfl,k _ _ kk α' _ _ _ ((s1'.trans st2).trans (q1.trans (Step.laid hG))) (q2.laid hD0.2.1) (q3.laid hG) ?_⟩;unfold Rep;refine⟨D,_,rfl,q3.j5 hG,.inl a6,?_⟩;have e:List.map ((fun p:Int×Int=>L3.D.int p.snd)∘fun q:Int×Value=>(q.fst,numOf q.snd)) ps=(ps.map fun q=>numOf q.2).map L3.D.int:=by rw[List.map_map];rfl
    rw[e];exact yV _
end
end L3
namespace L3
open PySem L2
open PySem.Spec hiding items?
open PyProof.Rows hiding St
def EU(sc:Scope)(N gl:List Str):Bool:=
 N.all (fun x=>(sc.names.lookup x==some .local||sc.names.lookup x==some .cell)&&x != "__debug__"&&x != "__classdict__")&&gl.all (fun x=>sc.names.lookup x==some .globalImplicit&&x != "__debug__")
structure VS(sc:Scope)(N gl:List Str):Prop where
 ok:EU sc N gl=true
theorem VS.at_{sc:Scope}{N gl:List Str}(V:VS sc N gl){i:Nat}{x:Str}(h:N[i]?=some x):Loc sc x/\(x==("__debug__":Str))=false/\(x==("__classdict__":Str))=false:=by
 have o:=V.ok;unfold EU at o;have:=List.all_eq_true.mp (Bool.and_eq_true_iff.mp o).1 x (List.mem_of_getElem? h);simp only[Bool.and_eq_true,Bool.or_eq_true,beq_iff_eq,bne_iff_ne,ne_eq]at this;exact⟨this.1.1,beq_false_of_ne this.1.2,beq_false_of_ne this.2⟩
theorem VS.MX{sc:Scope}{N gl:List Str}(V:VS sc N gl){i:Nat}{x:Str}(h:gl[i]?=some x):sc.names.lookup x=some .globalImplicit/\(x==("__debug__":Str))=false:=by
 have o:=V.ok;unfold EU at o;have:=List.all_eq_true.mp (Bool.and_eq_true_iff.mp o).2 x (List.mem_of_getElem? h);simp only[Bool.and_eq_true,beq_iff_eq,bne_iff_ne,ne_eq]at this;exact⟨this.1,beq_false_of_ne this.2⟩
section
variable {X:Cx}{sc:Scope}{N gl:List Str}{x:Str}{pos:Pos}
theorem VS.nm(V:VS X.env.scope X.N gl)(i:Nat)(h:X.N[i]?=some x:=by rfl):JE X (.Name x pos) (ab i):=
 let q:=V.at_ h
 D4 q.2.1 q.2.2 (q.1.elim .inl fun z=> .inr (.inl z)) h
theorem VS.l(V:VS sc N gl)(i:Nat)(h:N[i]?=some x:=by rfl):Loc sc x:=(V.at_ h).1
theorem VS.g(V:VS sc N gl)(i:Nat)(h:gl[i]?=some x:=by rfl):sc.names.lookup x=some .globalImplicit:=(V.MX h).1
theorem VS.d(V:VS sc N gl)(i:Nat)(h:gl[i]?=some x:=by rfl):(x==("__debug__":Str))=false:=(V.MX h).2
theorem cy{n:Nat}(hN:X.N[n]?=some x:=by rfl)(hd:((x==("__debug__":Str))||(x==("__classdict__":Str)))=false:=by decide+kernel)
 (hv:yU X.env.scope x:=by first|exact Or.inl rfl|exact Or.inr (Or.inl rfl)|exact Or.inr (Or.inr rfl)):JE X (.Name x pos) (ab n):=
 D4 (Bool.or_eq_false_iff.mp hd).1 (Bool.or_eq_false_iff.mp hd).2 hv hN
@[irreducible] def o3:dc:=sx (fun _ j=>j≠0) fun i j=> .int (i.fdiv j)
theorem Ac{k:Nat}(hr:cT k X.A)(hs:X.stack=X.env::X.outer)(hgen:X.env.scope.isGenerator=false)(hco:X.env.scope.isCoroutine=false):bS X (binaryOp .FloorDiv) (LR o3):=by
 unfold o3;refine j4 (g':=fun i j=> .int (i.fdiv j)) (fun _ _ _ _=>by unfold Rep;rfl) ?_;intro pins s σ H x y v u Q I rx ry h;obtain⟨i,j,rfl,rfl,hc,q⟩:=h;obtain⟨t,rfl⟩:=rx;obtain⟨t',rfl⟩:=ry;refine floordiv_int hc ⟨.int (i.fdiv j),H,I.tok _,⟨_,rfl⟩,q⟩ (.inr (PySem.PylongRoom.of I.nolimit ?_ ?_))
 . have:=hr.dp;show X.A.depth+100<_;omega
 . exact PySem.SeerAt.of (env:=X.env) (l:=X.outer) (I.mod.seer.keeps I.bk) I.ok.gt (by rw[I.ok.frames,hs]) hgen hco I.ok.blt I.ok.glob
theorem yg{st:af}{K:DK}{i j:Int}(h0:j≠0)(k:K (.int (i.fdiv j)) st):o3 (.int i) (.int j) st K:=by unfold o3;exact⟨h0,k⟩
theorem mM.look{scope:Scope}{Nc:List Str}{fr:List (Option Nat)}{p:Str}(S:bj X scope Nc fr)(h:(scope.names.all (fun x=>x.2 != .cell)&&(!scope.isCoroutine&& !scope.isGenerator)&&(scope.names.lookup p==some .local))=true:=by decide+kernel)
 (p0:Nc[0]?=some p:=by rfl) (f0:fr[0]?=some none:=by rfl):mM X scope Nc fr p:=by
 simp only[Bool.and_eq_true,Bool.not_eq_true',beq_iff_eq]at h;exact⟨S,fun x hx=>by simpa using List.all_eq_true.mp h.1.1 x hx,h.1.2.1,h.1.2.2,p0,f0,h.2⟩
theorem Hk{scope:Scope}{Nc:List Str}{fr:List (Option Nat)}{p qual:Str}{params:Arguments}{e body:Expr}{te tb:DE}{lpos kpos pos ppos:Pos}{c0 T:Addr}{n0 k:Nat}(S:mM X scope Nc fr p)(hc:X.calm=true)(hr:cT k X.A)(hcode:X.env.code= .ref c0)(hC:PySem.W.codeHdIn X.K c0 T=true)
 (hb:∀(f c:Addr) (s:Shared) (H:Hp),JE (Dy X scope Nc qual f c s H) body tb) (he:JE X e te) (hg:X.env.kindOf "sorted"=some .globalImplicit) (hm:X.mg "sorted"=none)
 (hdef:defaultsOf params X.env=([],[]):=by rfl) (hql:X.env.qual++"<lambda>"=qual:=by rfl)
 (hbind:∀(cl:List (Str×Addr)) (pm cd ct v:Value),bindArgs (PySem.W.kla_fn "<lambda>" qual params body scope cl pm cd ct) ⟨[v],[]⟩=pure [(p,v)]:=by(intros;rfl)) (hk:2<=k:=by decide)
 (he1:starEach [e] X.env=(false,eval e X.env)::starEach [] X.env:=by rfl):
 JE X (.Call (.Name "sorted" ppos) [e] [⟨some "key",.Lambda params body scope lpos,kpos⟩] pos) (y6 n0 T lpos qual fr tb te):=by
 unfold JE at he hb⊢;refine Hq S hc (hr.mono hk) hcode hC hdef hql hbind hb (Ae he D1 he1) hg hm rfl ?_ ?_
 . rw[he1];rfl
 . rw[he1];rfl
end
structure Il(K:PySem.W.Frag)(x qual:Str)(st:Stmt)(f:Addr)(fd:FuncData)(c:Addr):Prop where
 ex:∃(oc:Value) (od:Option Addr) (kV doc pm:Value) (an:Option Addr) (ct:Value) (osl:Array (Option Value)),
  fd=PySem.W.fnOf x qual (jj st) (fQ st) (ai st) .none kV doc pm an (.ref c) ct/\K.lookup f=some ⟨oc,od,.func fd,osl⟩/\PySem.W.codeIn K (.ref c) qual=true
theorem IE{P:Program}{w:World}{K:PySem.W.Frag}{mg:Str->Option Value}{base:Heap}{x qual:Str}{st:Stmt}{f c:Addr}{fd:FuncData}{N ps:List Str}{k:Nat}{sp:cE}{t:DS}(F:Il K x qual st f fd c)(S:aU N ps (ai st))
 (hbody:∀(A:Around) (outer:List Env) (s:Shared) (H:Hp) (E:XK),cT k (A.deeper (envOfC qual (ai st) s.heap.objs.size f (.ref c)))->JB (pR cG P w K mg base N qual (ai st) f (.ref c) A outer s H E).uv (fQ st) t)
 (hsp:∀ds st K,sp ds st K->ds.length=ps.length/\t {nx:=fun _ st'=>K .aL st',rt:=K} (ba N ds) st):bz P w K mg base cG (k+1) f fd ps (cL sp):=by
 obtain⟨oc,od,kV,doc,pm,an,ct,osl,rfl,lk,hcd⟩:=F.ex;unfold JB at hbody;refine F3 lk hcd S (fun vs H Q E h=>?_) fun A outer s H vs Q E hr h=>?_
 . obtain⟨α,ds,st,K,G,F,P,R,S,q,k⟩:=h;rw[<-R.length];exact(hsp ds st K q).1
 . obtain⟨α,ds,st,K,G,F',P,R,SR,q,k⟩:=h;refine⟨_,(hbody A outer s H E hr).uv,α,ba N ds,st,_,G,F',P,d_.start R,SR,(hsp ds st K q).2,?_,k,?_,?_⟩
   . intro σd' st' kk α' G' H' σ' s' P' R' S';exact k .aL st' kk α' G' H' .aL s' P' S' (by unfold Rep;rfl)
   . intro σd' st' kk;exact kk.elim
   . intro σd' st' kk;exact kk.elim
def Ct(tl:List (Addr×Pos×Str)):cE:=fun ds st K=>∃ns:List Int,ds=[.lst (ns.map .int)]/\ns.length<=63/\st=tl.map (fun q=> .tab q.1 q.2.1 q.2.2 false)/\∀st',K (.bl true) st'
def Cq(K:PySem.W.Frag)(ts:List (Addr×Addr)):Sp:=fun vs H Q _=>∃(a:Addr) (ns:List Int),vs=[.ref a]/\Entry K ts a ns H/\ns.length<=63/\∀H',Q (.bl true) H'
theorem Dc{K:PySem.W.Frag}{ts:List (Addr×Addr)}{tl:List (Addr×Pos×Str)}(nl:Dx K=true)(hts:ts.map (·.2)=tl.map (·.1))(nd:(tl.map (·.1)).Nodup){vs:List V}{H:Hp}{Q:VK}{E:XK}(h:Cq K ts vs H Q E):cL (Ct tl) vs H Q E:=by
 obtain⟨a,ns,rfl,hE,hl,q⟩:=h
 have tabs:∀q∈tl,H q.1=some (.jT #[])/\q.1≠a:=fun q hq=>by
  have h1:q.1∈ts.map (·.2):=by rw[hts];exact List.mem_map_of_mem hq
  obtain⟨t,ht,e⟩:=List.mem_map.mp h1;rw[<-e];exact hE.tab t ht
 have at_:∀(i:Nat) (x:Addr),(tl.map fun q=>some q.1)[i]?=some (some x)->∃q,tl[i]?=some q/\q.1=x:=fun i x e=>by
  rw[List.getElem?_map]at e;cases z:tl[i]? with
  |none=>rw[z]at e;cases e
  |some w=>rw[z]at e;simp at e;exact⟨w,rfl,e⟩
 have nota:some a∉tl.map fun q=>some q.1:=fun z=>by
  obtain⟨w,hw,e⟩:=List.mem_map.mp z;exact(tabs w hw).2 (Option.some.inj e)
 rcases hE.lst with hS|⟨o,its,n,e,hc,_⟩
 . refine⟨tl.map fun q=>some q.1,[.lst (ns.map .int)],tl.map (fun q=> .tab q.1 q.2.1 q.2.2 false),fun d _=>d= .bl true,H,fun _=>none,⟨fun b=>by cases H b<;>rfl,fun _ _ _=>rfl⟩,?_,⟨by simp,fun i j x e1 e2=>?_,fun n c e=>?_⟩,⟨ns,rfl,hl,rfl,fun _=>rfl⟩,?_⟩
   . unfold aH;refine⟨.ref a,[],rfl,?_,by unfold aH;rfl⟩;unfold Rep;exact⟨a,ns.map V.int,rfl,nota,hS,wQ ns⟩
   . obtain⟨p,hp,e3⟩:=at_ i x e1;obtain⟨r,hr,e4⟩:=at_ j x e2;have k1:(tl.map (·.1))[i]?=some x:=by rw[List.getElem?_map,hp,<-e3];rfl
     have k2:(tl.map (·.1))[j]?=some x:=by rw[List.getElem?_map,hr,<-e4];rfl
     have hi:=(List.getElem?_eq_some_iff.mp k1).1;exact(List.getElem?_inj hi nd).mp (k1.trans k2.symm)
   . rw[List.getElem?_map]at e;cases z:tl[n]? with
     |none=>rw[z]at e;cases e
     |some w=>
      rw[z]at e;have e':Cell.tab w.1 w.2.1 w.2.2 false=c:=Option.some.inj e;subst e';refine .inr ⟨w.1,by rw[List.getElem?_map,z];rfl,rfl,#[],(tabs w (List.mem_of_getElem? z)).1,trivial,.inl ⟨rfl,rfl⟩⟩
   . rintro d st' rfl α' G' H' v _ _ _ r;unfold Rep at r;subst r;exact q H'
 . exact absurd hc (xv nl e)
section
variable {K:PySem.W.Frag}{x qual p1 p2 p3 p4 p5:Str}{st:Stmt}{f:Addr}{fd:FuncData}
abbrev sL(x qual:Str)(st:Stmt)(kV doc pm:Value)(an:Option Addr)(cdv ct:Value):FuncData:=PySem.W.fnOf x qual (jj st) (fQ st) (ai st) .none kV doc pm an cdv ct
theorem gd{α:Type}{n:Nat}{us:List α}(h:us.length=n+1):∃a r,us=a::r/\r.length=n:=by
 cases us with
 |nil=>cases h
 |cons a r=>exact⟨a,r,rfl,Nat.succ.inj h⟩
theorem rQ{α:Type}{us:List α}(h:us.length=0):us=[]:=List.length_eq_zero_iff.mp h
theorem N5(F:nE K x qual st f fd)(h:∀kV doc pm an cdv ct a,bindArgs (sL x qual st kV doc pm an cdv ct) ⟨[a],[]⟩=pure [(p1,a)]):Binds K fd [p1] []:=
 F.binds fun kV doc pm an cdv ct us hl=>by
  obtain⟨a,r1,rfl,h1⟩:=gd hl;cases rQ h1;exact h kV doc pm an cdv ct a
theorem MJ(F:nE K x qual st f fd)(h:∀kV doc pm an cdv ct a b,bindArgs (sL x qual st kV doc pm an cdv ct) ⟨[a,b],[]⟩=pure [(p1,a),(p2,b)]):Binds K fd [p1,p2] []:=
 F.binds fun kV doc pm an cdv ct us hl=>by
  obtain⟨a,r1,rfl,h1⟩:=gd hl;obtain⟨b,r2,rfl,h2⟩:=gd h1;cases rQ h2;exact h kV doc pm an cdv ct a b
theorem MQ(F:nE K x qual st f fd)(h:∀kV doc pm an cdv ct a b c,bindArgs (sL x qual st kV doc pm an cdv ct) ⟨[a,b,c],[]⟩=pure [(p1,a),(p2,b),(p3,c)]):Binds K fd [p1,p2,p3] []:=
 F.binds fun kV doc pm an cdv ct us hl=>by
  obtain⟨a,r1,rfl,h1⟩:=gd hl;obtain⟨b,r2,rfl,h2⟩:=gd h1;obtain⟨c,r3,rfl,h3⟩:=gd h2;cases rQ h3;exact h kV doc pm an cdv ct a b c
theorem NU(F:nE K x qual st f fd)(h:∀kV doc pm an cdv ct a b c d,bindArgs (sL x qual st kV doc pm an cdv ct) ⟨[a,b,c,d],[]⟩=pure [(p1,a),(p2,b),(p3,c),(p4,d)]):Binds K fd [p1,p2,p3,p4] []:=
 F.binds fun kV doc pm an cdv ct us hl=>by
  obtain⟨a,r1,rfl,h1⟩:=gd hl;obtain⟨b,r2,rfl,h2⟩:=gd h1;obtain⟨c,r3,rfl,h3⟩:=gd h2;obtain⟨d,r4,rfl,h4⟩:=gd h3;cases rQ h4;exact h kV doc pm an cdv ct a b c d
end
section
variable {X:Cx}
theorem Hb(n:Int):(n != 0)=decide (n≠0):=by
 by_cases h:n=0
 . subst h;rfl
 . rw[decide_eq_true h];simpa using h
def xZ:eV:=fun ds st K=>match ds with| [.tup xs]=>(match k9 xs with|some ns=>K (.bl (ns.any fun n=>decide (n≠0))) st|none=>False)|_=>False
theorem Kw(hc:X.calm=true):bp X (.builtin "any") (fB xZ):=fun pins s σ H xs us Q I rs ⟨α,ds,st,K,G,F',P,r,S,q,k⟩=>by
 unfold xZ at q;split at q
 . rename_i ys;split at q
   . rename_i ns e;obtain⟨v,rfl,r1⟩:=iE r rfl;unfold Rep at r1;obtain⟨a,vs,rfl,na,h1,h2⟩:=r1;obtain⟨u,rfl,ru⟩:=vals1 rs;cases ru;have hv:=qF h2 e;subst hv;obtain⟨its,rv,p,hl⟩:=I.tuple (.of (P.get h1));have isT:s.heap.IsTuple a its.toArray:=p;obtain⟨o,eo,_⟩:=id isT;refine call_any_walk (wpAny_pyIter_tuple isT ?_);have hne:a≠s.heap.objs.size:=Nat.ne_of_lt (Heap.lt_size eo);have hn:its.length=ns.length:=by rw[<-rv.length,List.length_map]
     have hval:∀(i:Nat) (w:Value),its.toArray[i]?=some w->∃t,w=Value.int (ns.getD i 0) t:=fun i w hw=>lB rv i w (by simpa using hw);refine⟨s.heap.objs.size,_,_,_,_,_,fun i=>decide (ns.getD i 0≠0),rfl,Walks.tuple (A:=X.A.in1) (I.ok.hd hc) _ a hne its.toArray,⟨⟨_,Heap.get?_push_size _ rfl,rfl,rfl⟩,kr.push (k:= .t) isT _⟩,?_,?_⟩
     . intro i w s' Q' E' hP hQ;obtain⟨t,rfl⟩:=hval i w hP;refine PyProof.Rows.truthy_int ?_;rw[Hb];exact hQ
     . intro h' tk hk
       have kp:∀b o,s.heap.get? b=some o->h'.get? b=some o:=fun b o q=>hk b o (by
        intro hb;have:b=s.heap.objs.size:=by simpa using hb
        exact absurd (Heap.lt_size q) (by rw[this];exact Nat.lt_irrefl _)) (Heap.get?_push_of_some _ q)
       have ea:(List.range its.toArray.size).any (fun i=>decide (ns.getD i 0≠0))=ns.any fun n=>decide (n≠0):=by
        rw[List.size_toArray,hn];exact range_any ns _ _ fun i x e=>by rw[List.getD_eq_getElem?_getD,e];rfl
       rw[ea];exact⟨.bl (ns.any fun n=>decide (n≠0)),H,I.kept (t':=tk) kp,rfl,k.here P q S (by unfold Rep;rfl)⟩
   . exact q.elim
 . exact q.elim
@[irreducible] def uB:eV:=xZ
theorem Kv(hc:X.calm=true):bp X (.builtin "any") (fB uB):=by unfold uB;exact Kw hc
end
theorem GX{st:af}{K:DK}{xs:List D}{ns:List Int}(h:k9 xs=some ns)(k:K (.bl (ns.any fun n=>decide (n≠0))) st):uB [.tup xs] st K:=by unfold uB xZ;simp only[h];exact k
section
variable {X:Cx}
def uv(X:Cx):Cx:={X with xe:=fun _ _=>False}
end
variable {st:af}{K:D->af->Prop}{i j:Int}
section
variable {X:Cx}{pos:Pos}
end
end L3
namespace L3
open PySem L2
structure ClsAt(K:PySem.W.Frag)(mg:Str->Option Value)(x:Str)(C:Addr):Prop where
 cl:m7 K C
 mg:mg x=some (.ref C)
 Oe:PySem.W.makesIn K C=true
 kp:PySem.W.keepIn K (.ref C)=true
structure MethAt(K:PySem.W.Frag)(C:Addr)(m qual:Str)(st:Stmt)(ps:List Str)(f:Addr)(fd:FuncData):Prop where
 fn:nE K m qual st f fd
 me:Meth K C m f
 bd:Binds K fd ps []
end L3
namespace Hd
open PySem PySem.W L2 L3
open PySem.Spec hiding items?
open PyProof.Rows hiding St
section
variable {K:Frag}{mg:Str->Option Value}{h:Heap}{x q:Str}{st:Stmt}{f c C:Addr}{pm:Value}{p1 p2 p3 p4 p5 p6:Str}
abbrev Ed(K:Frag)(x:Str)(st:Stmt)(f:Addr)(pm:Value)(c:Addr):Prop:=(nsIn K mainGlobals x,K.lookup f,codeIn K (.ref c) x,keepIn K (.ref f))=(some (some (.ref f)),some (fq st x x pm c),true,true)
abbrev Em(K:Frag)(C:Addr)(x q:Str)(st:Stmt)(f:Addr)(pm:Value)(c:Addr):Prop:=(findIn K (.ref C) x,isFn K (.ref f),K.lookup f,codeIn K (.ref c) q,keepIn K (.ref f))=(some (some (.ref f)),true,some (fq st x q pm c),true,true)
theorem Ed.fn(e:Ed K x st f pm c):nE K x x st f (fd st x x pm c)/\nsIn K mainGlobals x=some (some (.ref f)):=by
 obtain⟨e1,e2,e3,e4⟩:_/\_/\_/\_:=by simpa only[Prod.mk.injEq]using e
 exact⟨DF (st:=st) e2 e3 e4,e1⟩
theorem Em.fn(e:Em K C x q st f pm c):nE K x q st f (fd st x q pm c)/\Meth K C x f:=by
 obtain⟨e1,e2,e3,e4,e5⟩:_/\_/\_/\_/\_:=by simpa only[Prod.mk.injEq]using e
 exact⟨DF (st:=st) e3 e4 e5,e1,e2,e5⟩
theorem sE(X:K.In h)(G:h.Ns mainGlobals mg)(e:Ed K x st f pm c)(b:∀kV doc pm an cdv ct a,bindArgs (sL x x st kV doc pm an cdv ct) ⟨[a],[]⟩=pure [(p1,a)]):cp K mg x x st [p1] f (fd st x x pm c):=⟨e.fn.1,mg_of X G e.fn.2,N5 e.fn.1 b⟩
theorem mi(X:K.In h)(G:h.Ns mainGlobals mg)(e:Ed K x st f pm c)(b:∀kV doc pm an cdv ct a1 a2,bindArgs (sL x x st kV doc pm an cdv ct) ⟨[a1,a2],[]⟩=pure [(p1,a1),(p2,a2)]):cp K mg x x st [p1,p2] f (fd st x x pm c):=⟨e.fn.1,mg_of X G e.fn.2,MJ e.fn.1 b⟩
theorem wI(X:K.In h)(G:h.Ns mainGlobals mg)(e:Ed K x st f pm c)(b:∀kV doc pm an cdv ct a1 a2 a3,bindArgs (sL x x st kV doc pm an cdv ct) ⟨[a1,a2,a3],[]⟩=pure [(p1,a1),(p2,a2),(p3,a3)]):cp K mg x x st [p1,p2,p3] f (fd st x x pm c):=⟨e.fn.1,mg_of X G e.fn.2,MQ e.fn.1 b⟩
theorem MV(e:Em K C x q st f pm c)(b:∀kV doc pm an cdv ct a1 a2,bindArgs (sL x q st kV doc pm an cdv ct) ⟨[a1,a2],[]⟩=pure [(p1,a1),(p2,a2)]):MethAt K C x q st [p1,p2] f (fd st x q pm c):=⟨e.fn.1,e.fn.2,MJ e.fn.1 b⟩
theorem Gi(e:Em K C x q st f pm c)(b:∀kV doc pm an cdv ct a1 a2 a3,bindArgs (sL x q st kV doc pm an cdv ct) ⟨[a1,a2,a3],[]⟩=pure [(p1,a1),(p2,a2),(p3,a3)]):MethAt K C x q st [p1,p2,p3] f (fd st x q pm c):=⟨e.fn.1,e.fn.2,MQ e.fn.1 b⟩
theorem Oa(e:Em K C x q st f pm c)(b:∀kV doc pm an cdv ct a1 a2 a3 a4,bindArgs (sL x q st kV doc pm an cdv ct) ⟨[a1,a2,a3,a4],[]⟩=pure [(p1,a1),(p2,a2),(p3,a3),(p4,a4)]):MethAt K C x q st [p1,p2,p3,p4] f (fd st x q pm c):=⟨e.fn.1,e.fn.2,NU e.fn.1 b⟩
theorem fc(e:(K.lookup f,codeIn K (.ref c) q)=(some (fq st x q pm c),true)):Il K x q st f (fd st x q pm c) c:=by
 obtain⟨e1,e2⟩:_/\_:=by simpa only[Prod.mk.injEq]using e
 exact⟨_,_,_,_,_,_,_,_,rfl,e1,e2⟩
theorem na{a:Str}(e:findIn K (.ref C) a=some none):f7 K C a:=e
end
end Hd
namespace L3
open PySem L2
open PySem.Spec hiding items?
open PyProof.Rows hiding St
section
variable {X:Cx}{pos:Pos}
end
end L3
namespace L3
open PySem L2
open PySem.Spec hiding items?
end L3
namespace L3
open PySem PySem.Spec L2
open PyProof.Rows hiding St
section
variable {X:Cx}{pos:Pos}
end
end L3
namespace L3
open PySem L2
open PySem.Spec hiding items?
open PyProof.Rows hiding St
section
variable {X:Cx}
end
end L3
namespace Mx
def S:Nat->(Nat->Int)->Int
 |0,_=>0
 |n+1,f=>S n f+f n
theorem aG{n:Nat}{f g:Nat->Int}(h:∀i,i<n->f i=g i):S n f=S n g:=by
 induction n with
 |zero=>rfl
 |succ n ih=>unfold S;rw[ih fun i hi=>h i (by omega),h n (by omega)]
theorem gy{n:Nat}{f:Nat->Int}(h:∀i,i<n->f i=0):S n f=0:=by
 induction n with
 |zero=>rfl
 |succ n ih=>unfold S;rw[ih fun i hi=>h i (by omega),h n (by omega)];rfl
theorem g4(n:Nat)(f g:Nat->Int):S n (fun i=>f i+g i)=S n f+S n g:=by
 induction n with
 |zero=>rfl
 |succ n ih=>unfold S;rw[ih];dsimp only;omega
theorem fE(n:Nat)(c:Int)(f:Nat->Int):S n (fun i=>c*f i)=c*S n f:=by
 induction n with
 |zero=>unfold S;rw[Int.mul_zero]
 |succ n ih=>unfold S;rw[ih,Int.mul_add]
theorem yR(n:Nat)(c:Int)(f:Nat->Int):S n (fun i=>f i*c)=S n f*c:=by
 induction n with
 |zero=>unfold S;rw[Int.zero_mul]
 |succ n ih=>unfold S;rw[ih,Int.add_mul]
theorem pY(n:Nat)(f:Nat->Int):S n (fun i=> -f i)= -S n f:=by
 induction n with
 |zero=>rfl
 |succ n ih=>unfold S;rw[ih];dsimp only;omega
theorem vd(m n:Nat)(f:Nat->Nat->Int):S m (fun i=>S n fun j=>f i j)=S n fun j=>S m fun i=>f i j:=by
 induction m with
 |zero=>exact(gy (n:=n) (fun i _=>rfl)).symm
 |succ m ih=>
  have:S n (fun j=>S (m+1) fun i=>f i j)=S n fun j=>(S m fun i=>f i j)+f m j:=aG fun j _=>rfl;rw[this,g4,<-ih];rfl
theorem jz{n:Nat}{k:Nat}(hk:k<n){f:Nat->Int}(h:∀i,i<n->i≠k->f i=0):S n f=f k:=by
 induction n with
 |zero=>omega
 |succ n ih=>
  unfold S;by_cases e:k=n
  . subst e;rw[gy fun i hi=>h i (by omega) (by omega),Int.zero_add]
  . rw[ih (by omega) fun i hi hn=>h i (by omega) hn,h n (by omega) (by omega),Int.add_zero]
theorem CA(n:Nat)(f:Nat->Int):S (n+1) f=f 0+S n fun i=>f (i+1):=by
 induction n with
 |zero=>unfold S S;omega
 |succ n ih=>
  have:S (n+1+1) f=S (n+1) f+f (n+1):=rfl;rw[this,ih];have:S (n+1) (fun i=>f (i+1))=S n (fun i=>f (i+1))+f (n+1):=rfl;rw[this];omega
def dl(i j:Nat):Int:=if i=j then 1 else 0
theorem dw(i:Nat):dl i i=1:=if_pos rfl
theorem d7{i j:Nat}(h:i≠j):dl i j=0:=if_neg h
theorem pf{n k:Nat}(hk:k<n)(f:Nat->Int):S n (fun i=>dl k i*f i)=f k:=by
 rw[jz hk (fun i _ h=>by rw[d7 (Ne.symm h),Int.zero_mul]),dw,Int.one_mul]
theorem uq{n k:Nat}(hk:k<n)(f:Nat->Int):S n (fun i=>f i*dl i k)=f k:=by
 rw[jz hk (fun i _ h=>by rw[d7 h,Int.mul_zero]),dw,Int.mul_one]
abbrev Row:=List Int
abbrev Rows:=List (List Int)
def g(A:Rows)(i j:Nat):Int:=(A.getD i []).getD j 0
structure a5(m n:Nat)(A:Rows):Prop where
 len:A.length=m
 gN:∀r∈A,r.length=n
theorem bJ{α:Type}{l:List α}{i:Nat}{d:α}(h:i<l.length):l.getD i d=l[i]:=by
 rw[List.getD_eq_getElem?_getD,List.getElem?_eq_getElem h];rfl
theorem kB{α:Type}{l:List α}{i:Nat}{d:α}(h:l.length<=i):l.getD i d=d:=by
 rw[List.getD_eq_getElem?_getD,List.getElem?_eq_none h];rfl
theorem vz{a b:Row}{n:Nat}(ha:a.length=n)(hb:b.length=n)(h:∀j,j<n->a.getD j 0=b.getD j 0):a=b:=by
 refine List.ext_getElem (by omega) fun i h1 h2=>?_;have:=h i (by omega);rwa [bJ h1,bJ h2]at this
theorem a5.row{m n:Nat}{A:Rows}(h:a5 m n A){i:Nat}(hi:i<m):(A.getD i []).length=n:=by
 have hl:=h.len;rw[bJ (by omega)];exact h.gN _ (List.getElem_mem _)
theorem a5.ext{m n:Nat}{A B:Rows}(ha:a5 m n A)(hb:a5 m n B)(h:∀i j,i<m->j<n->g A i j=g B i j):A=B:=by
 have h1:=ha.len;have h2:=hb.len;refine List.ext_getElem (by omega) fun i hi hj=>?_;have e1:=ha.row (i:=i) (by omega);have e2:=hb.row (i:=i) (by omega);have:=vz e1 e2 fun j hj=>h i j (by omega) hj;rwa [bJ hi,bJ hj]at this
def fN(r:Row)(t:Int)(s:Row):Row:=List.zipWith (fun a b=>a+t*b) r s
theorem kE{r s:Row}{t:Int}(h:r.length=s.length):(fN r t s).length=r.length:=by unfold fN;simp[h]
theorem rM{r s:Row}{t:Int}(h:r.length=s.length)(j:Nat):(fN r t s).getD j 0=r.getD j 0+t*s.getD j 0:=by
 unfold fN;by_cases hj:j<r.length
 . rw[bJ (by simp;omega),bJ hj,bJ (by omega)];simp
 . rw[kB (by simp;omega),kB (by omega),kB (by omega)];simp
def dA:Row->Rows->Row->Row
 |w::ws,r::rs,acc=>dA ws rs (fN acc w r)
 |_,_,acc=>acc
theorem qQ{n:Nat}:∀ {ws:Row} {rs:Rows} {acc:Row},acc.length=n->(∀r∈rs,r.length=n)->(dA ws rs acc).length=n
 | [],_,acc,h,_=>by unfold dA;exact h
 |_::_,[],acc,h,_=>by unfold dA;exact h
 |w::ws,r::rs,acc,h,hr=>by
  unfold dA;refine qQ ?_ fun r hr'=>hr r (List.mem_cons_of_mem _ hr');rw[kE (by rw[h,hr r List.mem_cons_self]),h]
theorem uf{n:Nat}:∀ {ws:Row} {rs:Rows} {acc:Row} (j:Nat),acc.length=n->(∀r∈rs,r.length=n)->ws.length=rs.length->(dA ws rs acc).getD j 0=acc.getD j 0+S rs.length fun k=>ws.getD k 0*g rs k j
 | [],[],acc,j,h,_,_=>by unfold dA;show _=_+(0:Int);rw[Int.add_zero]
 | [],_::_,acc,j,h,_,hl=>by cases hl
 |_::_,[],acc,j,h,_,hl=>by cases hl
 |w::ws,r::rs,acc,j,h,hr,hl=>by
  have e1:acc.length=r.length:=by rw[h,hr r List.mem_cons_self]
  unfold dA;rw[uf j (by rw[kE e1,h]) (fun r hr'=>hr r (List.mem_cons_of_mem _ hr')) (by simpa using hl),rM e1,List.length_cons,CA]
  have:(fun k=>(w::ws).getD (k+1) 0*g (r::rs) (k+1) j)=fun k=>ws.getD k 0*g rs k j:=by
   funext k;unfold g;simp
  rw[this];unfold g;simp;omega
def mulM(A B:Rows)(n:Nat):Rows:=A.map fun w=>dA w B (List.replicate n 0)
theorem e8(n j:Nat):(List.replicate n (0:Int)).getD j 0=0:=by
 by_cases h:j<n
 . rw[bJ (by simpa using h)];simp
 . rw[kB (by simp;omega)]
theorem GI{m p n:Nat}{A B:Rows}(ha:a5 m p A)(hb:a5 p n B):a5 m n (mulM A B n):=by
 refine⟨by unfold mulM;rw[List.length_map];exact ha.len,fun r hr=>?_⟩;unfold mulM at hr;obtain⟨w,_,rfl⟩:=List.mem_map.mp hr;exact qQ (by simp) hb.gN
theorem map_getD{α:Type}{f:Row->List α}{A:Rows}{i:Nat}(h:i<A.length):(A.map f).getD i []=f (A.getD i []):=by
 rw[bJ (by simpa using h),bJ h];simp
theorem Hx{m p n:Nat}{A B:Rows}(ha:a5 m p A)(hb:a5 p n B){i:Nat}(hi:i<m)(j:Nat):g (mulM A B n) i j=S p fun k=>g A i k*g B k j:=by
 have hl:=ha.len;show((mulM A B n).getD i []).getD j 0=_;unfold mulM;rw[map_getD (by omega),uf (n:=n) j (by simp) hb.gN (by rw[ha.row hi,hb.len]),e8,Int.zero_add,hb.len];rfl
def i_(n i:Nat):Row:=(List.range n).map fun k=>dl k i
def units(n:Nat):Rows:=(List.range n).map fun i=>i_ n i
theorem range_getD{α:Type}{f:Nat->α}{n i:Nat}{d:α}(h:i<n):((List.range n).map f).getD i d=f i:=by
 rw[bJ (by simpa using h)];simp
theorem nh(n:Nat):a5 n n (units n):=⟨by simp[units],fun r hr=>by unfold units at hr;obtain⟨i,_,rfl⟩:=List.mem_map.mp hr;simp[i_]⟩
theorem iQ{n i j:Nat}(hi:i<n)(hj:j<n):g (units n) i j=dl i j:=by
 unfold g units i_;rw[range_getD hi,range_getD hj];unfold dl;by_cases h:i=j
 . subst h;rfl
 . rw[if_neg (Ne.symm h),if_neg h]
def vT(A:Rows)(j:Nat):Row:=A.map fun r=>r.getD j 0
def F9(A:Rows)(n:Nat):Rows:=(List.range n).map fun j=>vT A j
def JF:Row->Row->Int
 |a::as,b::bs=>a*b+JF as bs
 |_,_=>0
theorem vo(i j:Nat):dl i j=dl j i:=by
 unfold dl;by_cases h:i=j
 . rw[if_pos h,if_pos h.symm]
 . rw[if_neg h,if_neg (Ne.symm h)]
def sw(i j k:Nat):Nat:=if k=i then j else if k=j then i else k
theorem Nr{n i j:Nat}(hi:i<n)(hj:j<n)(hij:i≠j)(f:Nat->Int):S n (fun k=>f (sw i j k))=S n f:=by
 have:S n (fun k=>f (sw i j k))=S n fun k=>f k+(f j-f i)*dl k i+(f i-f j)*dl k j:=aG fun k _=>by
  unfold sw;by_cases h1:k=i
  . subst h1;rw[if_pos rfl,dw,d7 hij];omega
  . rw[if_neg h1,d7 h1];by_cases h2:k=j
    . subst h2;rw[if_pos rfl,dw];omega
    . rw[if_neg h2,d7 h2];omega
 rw[this,g4,g4,uq (f:=fun _=>f j-f i) hi,uq (f:=fun _=>f i-f j) hj];omega
abbrev Fn:=Nat->Nat->Int
def sk(j c:Nat):Nat:=if c<j then c else c+1
def sg(j:Nat):Int:=if j%2=0 then 1 else-1
theorem vJ(j:Nat):sg (j+1)= -sg j:=by unfold sg;split<;>split<;>omega
theorem AA:sg 0=1:=rfl
theorem lg{j c n:Nat}(h:c<n):sk j c<n+1:=by unfold sk;split<;>omega
theorem L_{j k c:Nat}(h:k<j):sk j (sk k c)=sk k (sk (j-1) c):=by unfold sk;grind
def D:Nat->Fn->Int
 |0,_=>1
 |n+1,M=>S (n+1) fun j=>sg j*M 0 j*D n fun r c=>M (r+1) (sk j c)
theorem KO(M:Fn):D 0 M=1:=rfl
theorem eE(n:Nat)(M:Fn):D (n+1) M=S (n+1) fun j=>sg j*M 0 j*D n fun r c=>M (r+1) (sk j c):=rfl
theorem dH:∀ {n:Nat} {M M':Fn},(∀r c,r<n->c<n->M r c=M' r c)->D n M=D n M'
 |0,_,_,_=>rfl
 |n+1,M,M',h=>by
  rw[eE,eE];refine aG fun j hj=>?_;have e:D n (fun r c=>M (r+1) (sk j c))=D n (fun r c=>M' (r+1) (sk j c)):=dH fun r c hr hc=>h (r+1) (sk j c) (by omega) (lg hc);rw[h 0 j (by omega) hj,e]
theorem FF:∀ {n:Nat} {M P Q:Fn} {a b:Int} {i:Nat},i<n->(∀c,c<n->M i c=a*P i c+b*Q i c)->(∀r c,r<n->c<n->r≠i->M r c=P r c/\M r c=Q r c)->D n M=a*D n P+b*D n Q
 |0,_,_,_,_,_,_,h,_,_=>by omega
 |n+1,M,P,Q,a,b,0,_,h0,h=>by
  rw[eE,eE,eE,<-fE,<-fE,<-g4];refine aG fun j hj=>?_;have e1:D n (fun r c=>M (r+1) (sk j c))=D n (fun r c=>P (r+1) (sk j c)):=dH fun r c hr hc=>(h (r+1) (sk j c) (by omega) (lg hc) (by omega)).1;have e2:D n (fun r c=>M (r+1) (sk j c))=D n (fun r c=>Q (r+1) (sk j c)):=dH fun r c hr hc=>(h (r+1) (sk j c) (by omega) (lg hc) (by omega)).2;rw[h0 j hj,<-e1,<-e2];grind
 |n+1,M,P,Q,a,b,i+1,hi,h0,h=>by
  rw[eE,eE,eE,<-fE,<-fE,<-g4];refine aG fun j hj=>?_;have e:=FF (n:=n) (M:=fun r c=>M (r+1) (sk j c)) (P:=fun r c=>P (r+1) (sk j c)) (Q:=fun r c=>Q (r+1) (sk j c)) (a:=a) (b:=b) (i:=i) (by omega) (fun c hc=>h0 (sk j c) (lg hc)) fun r c hr hc hne=>h (r+1) (sk j c) (by omega) (lg hc) (by omega);have p:=h 0 j (by omega) hj (by omega);rw[e,<-p.1,<-p.2];grind
theorem ND{n:Nat}{M:Fn}(h:∀c,c<n+2->M 0 c=M 1 c):D (n+2) M=0:=by
 let T:Nat->Nat->Int:=fun j k=>sg j*M 0 j*(sg k*M 1 (sk j k)*D n fun r c=>M (r+2) (sk j (sk k c)))
 have e1:∀j,j<n+2->sg j*M 0 j*D (n+1) (fun r c=>M (r+1) (sk j c))=S (n+1) fun k=>T j k:=fun j hj=>by
  rw[eE,<-fE]
 rw[eE,aG e1]
 have e2:∀j,j<n+2->S (n+1) (fun k=>T j k)=S (n+1) (fun k=>if k<j then T j k else 0)+S (n+1) (fun k=>if k<j then 0 else T j k):=fun j _=>by
  rw[<-g4];refine aG fun k _=>?_;split<;>omega
 rw[aG e2,g4]
 have e3:∀j k,j<n+2->k<n+1->¬k<j->T j k= -T (k+1) j:=fun j k hj hk hjk=>by
  have s1:sk (k+1) j=j:=by unfold sk;rw[if_pos (by omega)]
  have s2:sk j k=k+1:=by unfold sk;rw[if_neg hjk]
  have s3:(fun r c=>M (r+2) (sk (k+1) (sk j c)))=fun r c=>M (r+2) (sk j (sk k c)):=by
   funext r c;rw[L_ (show j<k+1 by omega)];rfl
  show sg j*M 0 j*(sg k*M 1 (sk j k)*D n fun r c=>M (r+2) (sk j (sk k c)))= -(sg (k+1)*M 0 (k+1)*(sg j*M 1 (sk (k+1) j)*D n fun r c=>M (r+2) (sk (k+1) (sk j c))));rw[s1,s2,s3,vJ,<-h j hj,<-h (k+1) (by omega)];grind
 have e4:S (n+2) (fun j=>S (n+1) fun k=>if k<j then 0 else T j k)= -S (n+2) (fun j=>S (n+1) fun k=>if k<j then T j k else 0):=by
  rw[vd,CA (n+1) (fun j=>S (n+1) fun k=>if k<j then T j k else 0)];have z:S (n+1) (fun k=>if k<0 then T 0 k else 0)=0:=gy fun k _=>if_neg (by omega);rw[z,Int.zero_add,<-pY];refine aG fun k hk=>?_;have:S (n+2) (fun j=>if k<j then 0 else T j k)=S (n+1) (fun j=>if k<j then 0 else T j k)+(if k<n+1 then 0 else T (n+1) k):=rfl;rw[this,if_pos hk,Int.add_zero,<-pY];refine aG fun j hj=>?_;by_cases hkj:k<j
  . rw[if_pos hkj,if_neg (by omega)];rfl
  . rw[if_neg hkj,if_pos (by omega)];exact e3 j k (by omega) hk hkj
 rw[e4];omega
theorem GA:∀ {n:Nat} {M:Fn} {i:Nat},i+1<n->(∀c,c<n->M i c=M (i+1) c)->D n M=0
 |0,_,_,h,_=>by omega
 |1,_,_,h,_=>by omega
 |n+2,M,0,_,h=>ND h
 |n+2,M,i+1,hi,h=>by
  rw[eE];refine gy fun j hj=>?_;rw[GA (n:=n+1) (M:=fun r c=>M (r+1) (sk j c)) (i:=i) (by omega) fun c hc=>h (sk j c) (lg hc),Int.mul_zero]
structure Alt(n:Nat)(φ:Fn->Int):Prop where
 cg:∀M M':Fn,(∀r c,r<n->c<n->M r c=M' r c)->φ M=φ M'
 l_:∀(i:Nat) (M P Q:Fn) (a b:Int),i<n->(∀c,c<n->M i c=a*P i c+b*Q i c)->(∀r c,r<n->c<n->r≠i->M r c=P r c/\M r c=Q r c)->φ M=a*φ P+b*φ Q
 alt:∀(i j:Nat) (M:Fn),i<n->j<n->i≠j->(∀c,c<n->M i c=M j c)->φ M=0
def upd(M:Fn)(i:Nat)(x:Nat->Int):Fn:=fun r c=>if r=i then x c else M r c
theorem cz(M:Fn)(i:Nat)(x:Nat->Int)(c:Nat):upd M i x i c=x c:=if_pos rfl
theorem ay{M:Fn}{i r:Nat}{x:Nat->Int}(h:r≠i)(c:Nat):upd M i x r c=M r c:=if_neg h
theorem MT{n i j:Nat}{φ:Fn->Int}(cg:∀M M':Fn,(∀r c,r<n->c<n->M r c=M' r c)->φ M=φ M')
 (l_:∀(i:Nat) (M P Q:Fn) (a b:Int),i<n->(∀c,c<n->M i c=a*P i c+b*Q i c)->(∀r c,r<n->c<n->r≠i->M r c=P r c/\M r c=Q r c)->φ M=a*φ P+b*φ Q)
 (hi:i<n) (hj:j<n) (hij:i≠j) (alt:∀N:Fn,(∀c,c<n->N i c=N j c)->φ N=0) (M:Fn):φ (fun r=>M (sw i j r))= -φ M:=by
 have l1:φ (upd (upd M i fun c=>M i c+M j c) j fun c=>M i c+M j c)=1*φ (upd (upd M i (M i)) j fun c=>M i c+M j c)+1*φ (upd (upd M i (M j)) j fun c=>M i c+M j c):=
  l_ i _ _ _ 1 1 hi (fun c _=>by rw[ay hij,ay hij,ay hij,cz,cz,cz];omega) fun r c _ _ hr=>by
   unfold upd;grind
 have l2:∀x:Nat->Int,φ (upd (upd M i x) j fun c=>M i c+M j c)=1*φ (upd (upd M i x) j (M i))+1*φ (upd (upd M i x) j (M j)):=fun x=>
  l_ j _ _ _ 1 1 hj (fun c _=>by rw[cz,cz,cz];omega) fun r c _ _ hr=>by
   rw[ay hr,ay hr,ay hr];exact⟨rfl,rfl⟩
 have z0:φ (upd (upd M i fun c=>M i c+M j c) j fun c=>M i c+M j c)=0:=alt _ fun c _=>by rw[ay hij,cz,cz]
 have z1:φ (upd (upd M i (M i)) j (M i))=0:=alt _ fun c _=>by rw[ay hij,cz,cz]
 have z2:φ (upd (upd M i (M j)) j (M j))=0:=alt _ fun c _=>by rw[ay hij,cz,cz]
 have s1:φ (upd (upd M i (M i)) j (M j))=φ M:=cg _ _ fun r c _ _=>by
  unfold upd;split
  . rename_i e;rw[e]
  . split
    . rename_i e;rw[e]
    . rfl
 have s2:φ (upd (upd M i (M j)) j (M i))=φ (fun r=>M (sw i j r)):=cg _ _ fun r c _ _=>by
  unfold upd sw;by_cases h1:r=j
  . rw[if_pos h1];by_cases h2:r=i
    . omega
    . rw[if_neg h2,if_pos h1]
  . rw[if_neg h1];by_cases h2:r=i
    . rw[if_pos h2,if_pos h2]
    . rw[if_neg h2,if_neg h2,if_neg h1]
 have a1:=l2 (M i);have a2:=l2 (M j);rw[z1,s1]at a1;rw[z2,s2]at a2;rw[z0,a1,a2]at l1;omega
theorem Alt.swap{n i j:Nat}{φ:Fn->Int}(A:Alt n φ)(hi:i<n)(hj:j<n)(hij:i≠j)(M:Fn):φ (fun r=>M (sw i j r))= -φ M:=
 MT A.cg A.l_ hi hj hij (fun N h=>A.alt i j N hi hj hij h) M
theorem u7{n:Nat}{φ:Fn->Int}(cg:∀M M':Fn,(∀r c,r<n->c<n->M r c=M' r c)->φ M=φ M')
 (l_:∀(i:Nat) (M P Q:Fn) (a b:Int),i<n->(∀c,c<n->M i c=a*P i c+b*Q i c)->(∀r c,r<n->c<n->r≠i->M r c=P r c/\M r c=Q r c)->φ M=a*φ P+b*φ Q)
 (adj:∀(i:Nat) (M:Fn),i+1<n->(∀c,c<n->M i c=M (i+1) c)->φ M=0):Alt n φ:=by
 have far:∀(d i:Nat) (M:Fn),i+d+1<n->(∀c,c<n->M i c=M (i+d+1) c)->φ M=0:=by
  intro d;induction d with
  |zero=>exact fun i M h1 h2=>adj i M h1 h2
  |succ d ih=>
   intro i M h1 h2;have hs:=MT cg l_ (i:=i+d+1) (j:=i+d+1+1) (by omega) (by omega) (by omega) (fun N h=>adj (i+d+1) N (by omega) h) M
   have:φ (fun r=>M (sw (i+d+1) (i+d+1+1) r))=0:=ih i _ (by omega) fun c hc=>by
    have e1:sw (i+d+1) (i+d+1+1) i=i:=by unfold sw;rw[if_neg (by omega),if_neg (by omega)]
    have e2:sw (i+d+1) (i+d+1+1) (i+d+1)=i+d+1+1:=by unfold sw;rw[if_pos rfl]
    rw[e1,e2];exact h2 c hc
   omega
 refine⟨cg,l_,fun i j M hi hj hij h=>?_⟩;by_cases hlt:i<j
 . obtain⟨d,rfl⟩:∃d,j=i+d+1:=⟨j-i-1,by omega⟩
   exact far d i M hj h
 . obtain⟨d,rfl⟩:∃d,i=j+d+1:=⟨i-j-1,by omega⟩
   exact far d j M hi fun c hc=>(h c hc).symm
theorem uV(n:Nat):Alt n (D n):=u7 (fun _ _ h=>dH h) (fun _ _ _ _ _ _ hi h0 h=>FF hi h0 h) fun _ _ h1 h2=>GA h1 h2
theorem Alt.NF{n i:Nat}{φ:Fn->Int}(A:Alt n φ)(hi:i<n){M:Fn}(h:∀c,c<n->M i c=0):φ M=0:=by
 have:=A.l_ i M M M 0 0 hi (fun c hc=>by rw[h c hc];rfl) fun _ _ _ _ _=>⟨rfl,rfl⟩
 omega
theorem Alt.C0{n i:Nat}{φ:Fn->Int}(A:Alt n φ)(hi:i<n)(M:Fn)(t:Int)(x:Nat->Int):φ (upd M i fun c=>t*x c)=t*φ (upd M i x):=by
 have:=A.l_ i (upd M i fun c=>t*x c) (upd M i x) (upd M i x) t 0 hi (fun c hc=>by rw[cz,cz];omega) fun r c _ _ hr=>by rw[ay hr,ay hr];exact⟨rfl,rfl⟩
 omega
theorem Alt.DP{n i:Nat}{φ:Fn->Int}(A:Alt n φ)(hi:i<n)(M:Fn)(x y:Nat->Int):φ (upd M i fun c=>x c+y c)=φ (upd M i x)+φ (upd M i y):=by
 have:=A.l_ i (upd M i fun c=>x c+y c) (upd M i x) (upd M i y) 1 1 hi (fun c hc=>by rw[cz,cz,cz];omega) fun r c _ _ hr=>by rw[ay hr,ay hr,ay hr];exact⟨rfl,rfl⟩
 omega
theorem Alt.uH{n i:Nat}{φ:Fn->Int}(A:Alt n φ)(hi:i<n)(M:Fn)(a:Nat->Int)(x:Nat->Nat->Int):∀m,φ (upd M i fun c=>S m fun j=>a j*x j c)=S m fun j=>a j*φ (upd M i (x j))
 |0=>A.NF hi fun c _=>by rw[cz];rfl
 |m+1=>by
  have:(fun c=>S (m+1) fun j=>a j*x j c)=fun c=>(S m fun j=>a j*x j c)+a m*x m c:=rfl;rw[this,A.DP hi,A.uH hi M a x m,A.C0 hi];rfl
def un(j c:Nat):Nat:=if c<j then c else c-1
def grow(j:Nat)(B:Fn):Fn:=fun r c=>if r=0 then dl j c else if c=j then 0 else B (r-1) (un j c)
theorem vc{n j c:Nat}(hj:j<n+1)(hc:c<n+1)(h:c≠j):un j c<n:=by unfold un;split<;>omega
theorem BH{j c:Nat}(h:c≠j):sk j (un j c)=c:=by unfold sk un;grind
theorem Alt.grow{n j:Nat}{φ:Fn->Int}(A:Alt (n+1) φ)(hj:j<n+1):Alt n fun B=>φ (Mx.grow j B) where
 cg:=fun M M' h=>A.cg _ _ fun r c hr hc=>by
  have:=h (r-1) (un j c);have:=vc (c:=c) hj hc;unfold Mx.grow;grind
 l_:=fun i M P Q a b hi h0 h=>A.l_ (i+1) _ _ _ a b (by omega) (fun c hc=>by
  have:=h0 (un j c);have:=vc (c:=c) hj hc;have e:i+1-1=i:=by omega
  unfold Mx.grow;rw[e];grind) fun r c hr hc hne=>by
  have:=h (r-1) (un j c);have:=vc (c:=c) hj hc;unfold Mx.grow;grind
 alt:=fun i k M hi hk hik h=>A.alt (i+1) (k+1) _ (by omega) (by omega) (by omega) fun c hc=>by
  have:=h (un j c);have:=vc (c:=c) hj hc;have e:i+1-1=i:=by omega
  have e2:k+1-1=k:=by omega
  unfold Mx.grow;rw[e,e2];grind
theorem Alt.units{n:Nat}{φ:Fn->Int}(A:Alt (n+1) φ):∀j,j<n+1->φ (Mx.grow j dl)=sg j*φ dl
 |0,_=>by
  rw[AA,Int.one_mul];refine A.cg _ _ fun r c hr hc=>?_;unfold Mx.grow un dl;grind
 |j+1,hj=>by
  have ih:=A.units j (by omega);have s:=A.swap (i:=0) (j:=j+1) (by omega) hj (by omega) (Mx.grow j dl);rw[vJ,Int.neg_mul,<-ih,<-s];refine A.cg _ _ fun r c hr hc=>?_;unfold Mx.grow un dl sw;grind
theorem Alt.Ny{n i k:Nat}{φ:Fn->Int}(A:Alt n φ)(hi:i<n)(hk:k<n)(hik:i≠k)(M:Fn)(x:Nat->Int)(t:Int):φ (upd M i fun c=>x c+t*M k c)=φ (upd M i x):=by
 rw[A.DP hi,A.C0 hi M t (M k),A.alt i k (upd M i (M k)) hi hk hik fun c _=>by rw[cz,ay (Ne.symm hik)],Int.mul_zero,Int.add_zero]
def zr(j m:Nat)(M:Fn):Fn:=fun r c=>if r=0 then dl j c else if r<=m/\c=j then 0 else M r c
theorem Alt.zr{n j:Nat}{φ:Fn->Int}(A:Alt (n+1) φ)(M:Fn):∀m,m<=n->φ (Mx.zr j m M)=φ (upd M 0 (dl j))
 |0,_=>A.cg _ _ fun r c hr hc=>by unfold Mx.zr upd;grind
 |m+1,hm=>by
  rw[<-A.zr M m (by omega)];have e:=A.Ny (i:=m+1) (k:=0) (by omega) (by omega) (by omega) (Mx.zr j m M) (M (m+1)) (-M (m+1) j)
  have e1:φ (Mx.zr j (m+1) M)=φ (upd (Mx.zr j m M) (m+1) fun c=>M (m+1) c+ -M (m+1) j*Mx.zr j m M 0 c):=A.cg _ _ fun r c hr hc=>by
   unfold upd Mx.zr dl;by_cases h0:r=m+1
   . subst h0;by_cases h1:c=j
     . subst h1;simp;omega
     . have:¬j=c:=fun z=>h1 z.symm;simp[h1,this]
   . rw[if_neg h0];grind
  have e2:φ (upd (Mx.zr j m M) (m+1) (M (m+1)))=φ (Mx.zr j m M):=A.cg _ _ fun r c hr hc=>by
   unfold upd Mx.zr;grind
  rw[e1,e,e2]
theorem AX:∀ {n:Nat} {φ:Fn->Int},Alt n φ->∀M,φ M=φ dl*D n M
 |0,φ,A,M=>by rw[KO,Int.mul_one];exact A.cg _ _ fun r c hr=>by omega
 |n+1,φ,A,M=>by
  have h1:φ M=S (n+1) fun j=>M 0 j*φ (upd M 0 (dl j)):=by
   rw[<-A.uH (by omega) M (M 0) dl (n+1)];refine A.cg _ _ fun r c hr hc=>?_;by_cases h0:r=0
   . subst h0;rw[cz,uq hc]
   . rw[ay h0]
  have h2:∀j,j<n+1->φ (upd M 0 (dl j))=φ (Mx.grow j fun r c=>M (r+1) (sk j c)):=fun j hj=>by
   rw[<-A.zr M n (Nat.le_refl _)];refine A.cg _ _ fun r c hr hc=>?_;unfold Mx.grow Mx.zr;by_cases h0:r=0
   . rw[if_pos h0,if_pos h0]
   . rw[if_neg h0,if_neg h0];by_cases h3:c=j
     . rw[if_pos ⟨by omega,h3⟩,if_pos h3]
     . rw[if_neg (by omega),if_neg h3];dsimp only;rw[BH h3,show r-1+1=r by omega]
  rw[h1,eE,<-fE];refine aG fun j hj=>?_;have h3:=AX (A.grow hj) fun r c=>M (r+1) (sk j c);have h4:=A.units j hj;have h5:φ (Mx.grow j fun r c=>M (r+1) (sk j c))=φ (Mx.grow j dl)*D n fun r c=>M (r+1) (sk j c):=h3;rw[h2 j hj,h5,h4];grind
theorem vE:∀n,D n dl=1
 |0=>rfl
 |n+1=>by
  rw[eE,jz (k:=0) (by omega) fun j hj h0=>by rw[d7 (Ne.symm h0),Int.mul_zero,Int.zero_mul]]
  have:D n (fun r c=>dl (r+1) (sk 0 c))=D n dl:=dH fun r c _ _=>by
   unfold dl sk;grind
  rw[this,vE n,dw];rfl
theorem La(n:Nat)(A B:Fn):D n (fun r c=>S n fun k=>A r k*B k c)=D n A*D n B:=by
 have al:Alt n fun A=>D n (fun r c=>S n fun k=>A r k*B k c):=by
  refine⟨fun M M' h=>dH fun r c hr hc=>aG fun k hk=>by rw[h r k hr hk],fun i M P Q a b hi h0 h=>(uV n).l_ i _ _ _ a b hi (fun c hc=>?_) fun r c hr hc hne=>⟨aG fun k hk=>by rw[(h r k hr hk hne).1],aG fun k hk=>by rw[(h r k hr hk hne).2]⟩,fun i j M hi hj hij h=>(uV n).alt i j _ hi hj hij fun c hc=>aG fun k hk=>by rw[h k hk]⟩;show(S n fun k=>M i k*B k c)=a*(S n fun k=>P i k*B k c)+b*S n fun k=>Q i k*B k c;rw[<-fE,<-fE,<-g4];refine aG fun k hk=>?_;rw[h0 k hk];grind
 have h:=AX al A;have e:D n (fun r c=>S n fun k=>dl r k*B k c)=D n B:=dH fun r c hr hc=>pf hr fun k=>B k c;rw[h,e,Int.mul_comm]
theorem CT:∀ {n:Nat} {M P Q:Fn} {a b:Int} {i:Nat},i<n->(∀r,r<n->M r i=a*P r i+b*Q r i)->(∀r c,r<n->c<n->c≠i->M r c=P r c/\M r c=Q r c)->D n M=a*D n P+b*D n Q
 |0,_,_,_,_,_,_,h,_,_=>by omega
 |n+1,M,P,Q,a,b,i,hi,h0,h=>by
  rw[eE,eE,eE,<-fE,<-fE,<-g4];refine aG fun j hj=>?_;by_cases hij:j=i
  . subst hij;have hs:∀c,sk j c≠j:=fun c=>by unfold sk;split<;>omega
    have e1:D n (fun r c=>M (r+1) (sk j c))=D n (fun r c=>P (r+1) (sk j c)):=dH fun r c hr hc=>(h (r+1) (sk j c) (by omega) (lg hc) (hs c)).1;have e2:D n (fun r c=>M (r+1) (sk j c))=D n (fun r c=>Q (r+1) (sk j c)):=dH fun r c hr hc=>(h (r+1) (sk j c) (by omega) (lg hc) (hs c)).2;rw[h0 0 (by omega),<-e1,<-e2];grind
  . have p:=h 0 j (by omega) hj hij;have hu:sk j (un j i)=i:=BH (Ne.symm hij);have hs:∀c,c≠un j i->sk j c≠i:=fun c hc=>by unfold sk;unfold un at hc;grind
    have hlt:un j i<n:=vc hj hi (Ne.symm hij)
    have e:=CT (n:=n) (M:=fun r c=>M (r+1) (sk j c)) (P:=fun r c=>P (r+1) (sk j c)) (Q:=fun r c=>Q (r+1) (sk j c)) (a:=a) (b:=b) (i:=un j i) hlt (fun r hr=>by
     rw[hu];exact h0 (r+1) (by omega)) fun r c hr hc hne=>h (r+1) (sk j c) (by omega) (lg hc) (hs c hne)
    rw[e,<-p.1,<-p.2];grind
theorem Dq:∀ {n:Nat} {M:Fn} {i:Nat},i+1<n->(∀r,r<n->M r i=M r (i+1))->D n M=0
 |0,_,_,h,_=>by omega
 |n+1,M,i,hi,h=>by
  rw[eE]
  have key:∀j,j<n+1->j≠i->j≠i+1->D n (fun r c=>M (r+1) (sk j c))=0:=fun j hj h1 h2=>by
   refine Dq (i:=un j i) (by unfold un;split<;>omega) fun r hr=>?_;have e1:sk j (un j i)=i:=BH (Ne.symm h1);have e2:sk j (un j i+1)=i+1:=by unfold sk un;grind
   rw[e1,e2];exact h (r+1) (by omega)
  have e:D n (fun r c=>M (r+1) (sk i c))=D n (fun r c=>M (r+1) (sk (i+1) c)):=dH fun r c hr hc=>by
   by_cases hc2:c=i
   . subst hc2;have a1:sk c c=c+1:=by unfold sk;rw[if_neg (by omega)]
     have a2:sk (c+1) c=c:=by unfold sk;rw[if_pos (by omega)]
     rw[a1,a2];exact(h (r+1) (by omega)).symm
   . have a1:sk i c=sk (i+1) c:=by unfold sk;grind
     rw[a1]
  have two:∀(m:Nat) (f:Nat->Int),i+1<m->(∀j,j<m->j≠i->j≠i+1->f j=0)->S m f=f i+f (i+1):=fun m=>by
   induction m with
   |zero=>intro f h;omega
   |succ m ih=>
    intro f hm hf;show S m f+f m=_;by_cases hmi:m=i+1
    . subst hmi;rw[jz (k:=i) (by omega) fun j hj hne=>hf j (by omega) hne (by omega)]
    . rw[ih f (by omega) fun j hj h1 h2=>hf j (by omega) h1 h2,hf m (by omega) (by omega) hmi,Int.add_zero]
  rw[two (n+1) _ hi fun j hj h1 h2=>by rw[key j hj h1 h2,Int.mul_zero],e,vJ,h 0 (by omega)];grind
def tr(M:Fn):Fn:=fun r c=>M c r
theorem Ka(n:Nat)(M:Fn):D n (tr M)=D n M:=by
 have al:Alt n fun A=>D n (tr A):=u7 (fun M M' h=>dH fun r c hr hc=>h c r hc hr)
  (fun i M P Q a b hi h0 h=>CT hi (fun r hr=>h0 r hr) fun r c hr hc hne=>h c r hc hr hne)
  fun i M hi h=>Dq hi fun r hr=>h r hr
 have h:=AX al M;have e:D n (tr dl)=D n dl:=dH fun r c _ _=>vo c r;have h2:D n (tr M)=D n (tr dl)*D n M:=h;rw[h2,e,vE,Int.one_mul]
def Pr:Nat->(Nat->Int)->Int
 |0,_=>1
 |n+1,f=>Pr n f*f n
theorem Aq:∀(n:Nat) (f:Nat->Int),Pr (n+1) f=f 0*Pr n fun i=>f (i+1)
 |0,f=>by show 1*f 0=f 0*1;omega
 |n+1,f=>by
  have:Pr (n+1+1) f=Pr (n+1) f*f (n+1):=rfl;rw[this,Aq n f];have:Pr (n+1) (fun i=>f (i+1))=Pr n (fun i=>f (i+1))*f (n+1):=rfl;rw[this,Int.mul_assoc]
theorem Gr:∀ {n:Nat} {M:Fn},(∀r c,r<n->c<n->r<c->M r c=0)->D n M=Pr n fun i=>M i i
 |0,_,_=>rfl
 |n+1,M,h=>by
  rw[eE,jz (k:=0) (by omega) fun j hj h0=>by rw[h 0 j (by omega) hj (by omega),Int.mul_zero,Int.zero_mul],Aq,AA,Int.one_mul];have s:∀c,sk 0 c=c+1:=fun c=>by unfold sk;rw[if_neg (by omega)]
  have e:D n (fun r c=>M (r+1) (sk 0 c))=Pr n fun i=>M (i+1) (i+1):=by
   rw[Gr fun r c hr hc hrc=>by rw[s];exact h (r+1) (c+1) (by omega) (by omega) (by omega)];simp only[s]
  rw[e]
theorem Nj{n:Nat}{M:Fn}(h:∀r c,r<n->c<n->c<r->M r c=0):D n M=Pr n fun i=>M i i:=by
 rw[<-Ka n M,Gr (M:=tr M) fun r c hr hc hrc=>h c r hc hr hrc];rfl
def gx(R:Fn)(p:Nat)(x:Nat->Int)(j:Nat):Int:=D (p+1) fun r c=>if r<p then R r (if c<p then c else j)else x (if c<p then c else j)
def bt(R:Fn)(p:Nat)(x:Nat->Int)(k:Nat):Int:=D (p+1) (upd (fun c r=>if r<p then R r c else x c) p (dl k))
def cl(p j1 j2 c:Nat):Nat:=if c<p then c else if c=p then j1 else j2
theorem xH{n:Nat}{f:Nat->Int}{m:Nat}(h:∀i,i<n->(f i).natAbs<=m):(S n f).natAbs<=n*m:=by
 induction n with
 |zero=>simp[S]
 |succ n ih=>
  have h1:=ih fun i hi=>h i (by omega);have h2:=h n (by omega);show(S n f+f n).natAbs<=_;rw[Nat.succ_mul];omega
def lam(G:Fn)(i j:Nat):Int:=gx G j (G i) j
def Nu(A:Rows):Fn:=fun i j=>JF (A.getD i []) (A.getD j [])
def LP(G:Fn)(i:Nat):Row:=(List.range (i+1)).map fun j=>lam G i j
def JQ(G:Fn)(n:Nat):Rows:=(List.range n).map (LP G)
def RA(A:Rows)(N:Nat):Fn:=fun i j=>if j<N then Nu A i j else(A.getD i []).getD (j-N) 0
def ev(A:Rows)(N i k c:Nat):Int:=gx (RA A N) k (RA A N i) (N+c)
theorem BS(n:Nat)(a b:Int)(f g:Nat->Int):S n (fun c=>a*f c-b*g c)=a*S n f-b*S n g:=by
 induction n with
 |zero=>show(0:Int)=a*0-b*0;omega
 |succ n ih=>
  show S n (fun c=>a*f c-b*g c)+(a*f n-b*g n)=a*(S n f+f n)-b*(S n g+g n);rw[ih,Int.mul_add,Int.mul_add];omega
section
variable {A:Rows}{N w:Nat}
end
def Oh(M:Fn)(k j:Nat)(q:Int):Fn:=fun a b=>if a=k then M a b-q*M j b else M a b
def Ol(M:Fn)(k j:Nat)(q:Int):Fn:=fun a b=>if b=k then M a b-q*M a j else M a b
def tk(G:Fn)(k j:Nat)(q:Int):Fn:=Ol (Oh G k j q) k j q
section
variable {G:Fn}{t:Nat}(sym:∀i j,G i j=G j i)
include sym
end
section
variable {A:Rows}{N w:Nat}
theorem cA(hA:a5 N w A){i:Nat}(hi:i<N):(A.getD i []).length=w:=hA.gN _ (by have:=hA.len;rw[bJ (by omega)];exact List.getElem_mem _)
end
def aN(A:Rows)(k:Nat)(q:Int)(j:Nat):Rows:=A.set k (fN (A.getD k []) (-q) (A.getD j []))
def bh(A:Rows)(k o:Nat):Rows:=(A.set k (A.getD o [])).set o (A.getD k [])
theorem kY{A:Rows}{k i:Nat}{r:Row}(hk:k<A.length):(A.set k r).getD i []=if i=k then r else A.getD i []:=by
 rw[List.getD_eq_getElem?_getD,List.getElem?_set];by_cases h:k=i
 . rw[if_pos h,if_pos (by omega),if_pos h.symm];rfl
 . rw[if_neg h,if_neg (Ne.symm h),List.getD_eq_getElem?_getD]
theorem C6{A:Rows}{k j:Nat}{q:Int}:(aN A k q j).length=A.length:=by unfold aN;rw[List.length_set]
theorem gf{A:Rows}{N w k j:Nat}{q:Int}(hA:a5 N w A)(hk:k<N)(hj:j<N):a5 N w (aN A k q j):=by
 refine⟨C6.trans hA.len,fun r hr=>?_⟩;unfold aN at hr;rcases List.mem_or_eq_of_mem_set hr with h|rfl
 . exact hA.gN r h
 . rw[kE (by rw[cA hA hk,cA hA hj]),cA hA hk]
structure Tn(A0 A U C:Rows)(N w:Nat):Prop where
 isA:a5 N w A
 fL:a5 N N U
 gE:a5 N N C
 ua:∀i c,i<N->c<w->g A i c=S N fun k=>g U i k*g A0 k c
 ub:∀i j,i<N->j<N->S N (fun k=>g U i k*g C j k)=dl i j
 bu:∀i j,i<N->j<N->S N (fun k=>g C k i*g U k j)=dl i j
theorem cF{A:Rows}{N w k j:Nat}{q:Int}(hA:a5 N w A)(hk:k<N)(hj:j<N)(i c:Nat):g (aN A k q j) i c=if i=k then g A k c-q*g A j c else g A i c:=by
 unfold g aN;have hl:=hA.len;rw[kY (by omega)];by_cases h:i=k
 . rw[if_pos h,if_pos h,rM (by rw[cA hA hk,cA hA hj]),Int.neg_mul];omega
 . rw[if_neg h,if_neg h]
theorem uF(n:Nat)(a b:Int)(f h:Nat->Int):S n (fun c=>a*f c+b*h c)=a*S n f+b*S n h:=by
 rw[g4,fE,fE]
theorem Tn.take{A0 A U C:Rows}{N w k j:Nat}{q:Int}(T:Tn A0 A U C N w)(hk:k<N)(hj:j<N)(hkj:j≠k):Tn A0 (aN A k q j) (aN U k q j) (aN C j (-q) k) N w where
 isA:=gf T.isA hk hj
 fL:=gf T.fL hk hj
 gE:=gf T.gE hj hk
 ua:=fun i c hi hc=>by
  rw[cF T.isA hk hj];have e:S N (fun m=>g (aN U k q j) i m*g A0 m c)=S N fun m=>(if i=k then g U k m-q*g U j m else g U i m)*g A0 m c:=aG fun m _=>by rw[cF T.fL hk hj]
  rw[e];by_cases h:i=k
  . simp only[if_pos h];rw[T.ua k c hk hc,T.ua j c hj hc];have e2:S N (fun m=>(g U k m-q*g U j m)*g A0 m c)=S N fun m=>1*(g U k m*g A0 m c)-q*(g U j m*g A0 m c):=aG fun m _=>by grind
    rw[e2,BS];omega
  . simp only[if_neg h];exact T.ua i c hi hc
 ub:=fun i l hi hl=>by
  have e:S N (fun m=>g (aN U k q j) i m*g (aN C j (-q) k) l m)=S N fun m=>(if i=k then g U k m-q*g U j m else g U i m)*(if l=j then g C j m- -q*g C k m else g C l m):=aG fun m _=>by rw[cF T.fL hk hj,cF T.gE hj hk]
  rw[e];have djk:dl j k=0:=d7 hkj;by_cases h:i=k
  . by_cases h2:l=j
    . simp only[if_pos h,if_pos h2];have e2:S N (fun m=>(g U k m-q*g U j m)*(g C j m- -q*g C k m))=S N fun m=>1*(1*(g U k m*g C j m)+q*(g U k m*g C k m))-q*(1*(g U j m*g C j m)+q*(g U j m*g C k m)):=aG fun m _=>by grind
      rw[e2,BS,uF,uF,T.ub k j hk hj,T.ub k k hk hk,T.ub j j hj hj,T.ub j k hj hk,h,h2,dw,dw,djk,vo k j,djk];omega
    . simp only[if_pos h,if_neg h2];have e2:S N (fun m=>(g U k m-q*g U j m)*g C l m)=S N fun m=>1*(g U k m*g C l m)-q*(g U j m*g C l m):=aG fun m _=>by grind
      rw[e2,BS,T.ub k l hk hl,T.ub j l hj hl,h,d7 (Ne.symm h2)];omega
  . by_cases h2:l=j
    . simp only[if_neg h,if_pos h2];have e2:S N (fun m=>g U i m*(g C j m- -q*g C k m))=S N fun m=>1*(g U i m*g C j m)+q*(g U i m*g C k m):=aG fun m _=>by grind
      rw[e2,uF,T.ub i j hi hj,T.ub i k hi hk,h2,d7 h];omega
    . simp only[if_neg h,if_neg h2];exact T.ub i l hi hl
 bu:=fun i l hi hl=>by
  have e:S N (fun m=>g (aN C j (-q) k) m i*g (aN U k q j) m l)=S N fun m=>g C m i*g U m l+((q*(g C k i*g U j l))*dl m j+(-(q*(g C k i*g U j l)))*dl m k):=aG fun m _=>by
   rw[cF T.fL hk hj,cF T.gE hj hk];by_cases h1:m=j
   . have h2:m≠k:=by omega
     rw[if_pos h1,if_neg h2,h1,dw,d7 hkj];grind
   . rw[if_neg h1,d7 h1];by_cases h2:m=k
     . rw[if_pos h2,h2,dw];grind
     . rw[if_neg h2,d7 h2];grind
  rw[e,g4,uF,T.bu i l hi hl]
  have e1:S N (fun c=>dl c j)=1:=by
   rw[jz hj fun i _ h=>d7 h,dw]
  have e2:S N (fun c=>dl c k)=1:=by
   rw[jz hk fun i _ h=>d7 h,dw]
  rw[e1,e2];omega
theorem yW{A:Rows}{k o i:Nat}(hk:k<A.length)(ho:o<A.length):(bh A k o).getD i []=A.getD (sw k o i) []:=by
 unfold bh;rw[kY (by rw[List.length_set];exact ho),kY hk];unfold sw;by_cases h1:i=k
 . rw[if_pos h1,if_pos h1];by_cases h2:i=o
   . rw[if_pos h2,<-h1,<-h2]
   . rw[if_neg h2]
 . rw[if_neg h1,if_neg h1];by_cases h2:i=o
   . rw[if_pos h2,if_pos h2]
   . rw[if_neg h2,if_neg h2]
theorem pX{A:Rows}{N w k o:Nat}(hA:a5 N w A)(hk:k<N)(ho:o<N):a5 N w (bh A k o):=by
 refine⟨by unfold bh;rw[List.length_set,List.length_set];exact hA.len,fun r hr=>?_⟩;unfold bh at hr;rcases List.mem_or_eq_of_mem_set hr with h|rfl
 . rcases List.mem_or_eq_of_mem_set h with h|rfl
   . exact hA.gN r h
   . exact cA hA ho
 . exact cA hA hk
theorem ja{A:Rows}{N w k o:Nat}(hA:a5 N w A)(hk:k<N)(ho:o<N)(i c:Nat):g (bh A k o) i c=g A (sw k o i) c:=by
 unfold g;rw[yW (by have:=hA.len;omega) (by have:=hA.len;omega)]
theorem qp{k o N i:Nat}(hk:k<N)(ho:o<N)(hi:i<N):sw k o i<N:=by unfold sw;split<;>(try split)<;>assumption
theorem Dp(k o x:Nat):sw k o (sw k o x)=x:=by
 unfold sw;by_cases h1:x=k
 . subst h1;rw[if_pos rfl];by_cases h2:o=x
   . rw[if_pos h2];exact h2
   . rw[if_neg h2,if_pos rfl]
 . rw[if_neg h1];by_cases h2:x=o
   . subst h2;rw[if_pos rfl,if_pos rfl]
   . rw[if_neg h2,if_neg h1,if_neg h2]
theorem LZ{k o a b:Nat}:dl (sw k o a) (sw k o b)=dl a b:=by
 by_cases h:a=b
 . rw[h,dw,dw]
 . rw[d7 h,d7 fun z=>h (by rw[<-Dp k o a,<-Dp k o b,z])]
theorem AB(k x:Nat):sw k k x=x:=by
 unfold sw;by_cases h:x=k
 . rw[if_pos h,h]
 . rw[if_neg h,if_neg h]
theorem L8{n i j:Nat}(hi:i<n)(hj:j<n)(f:Nat->Int):S n (fun k=>f (sw i j k))=S n f:=by
 by_cases h:i=j
 . subst h;exact aG fun k _=>by rw[AB]
 . exact Nr hi hj h f
theorem Tn.Gs{A0 A U C:Rows}{N w k o:Nat}(T:Tn A0 A U C N w)(hk:k<N)(ho:o<N):Tn A0 (bh A k o) (bh U k o) (bh C k o) N w where
 isA:=pX T.isA hk ho
 fL:=pX T.fL hk ho
 gE:=pX T.gE hk ho
 ua:=fun i c hi hc=>by
  rw[ja T.isA hk ho,T.ua _ c (qp hk ho hi) hc];exact aG fun m _=>by rw[ja T.fL hk ho]
 ub:=fun i j hi hj=>by
  rw[<-LZ (k:=k) (o:=o),<-T.ub _ _ (qp hk ho hi) (qp hk ho hj)];exact aG fun m _=>by rw[ja T.fL hk ho,ja T.gE hk ho]
 bu:=fun i j hi hj=>by
  rw[<-T.bu i j hi hj,<-L8 hk ho fun m=>g C m i*g U m j];exact aG fun m _=>by rw[ja T.fL hk ho,ja T.gE hk ho]
def fj(A:Rows)(k:Nat):Rows:=A.set k ((A.getD k []).map fun x=> -x)
theorem oU{A:Rows}{N w k:Nat}(hA:a5 N w A)(hk:k<N):a5 N w (fj A k):=by
 refine⟨by unfold fj;rw[List.length_set];exact hA.len,fun r hr=>?_⟩;unfold fj at hr;rcases List.mem_or_eq_of_mem_set hr with h|rfl
 . exact hA.gN r h
 . rw[List.length_map];exact cA hA hk
theorem Fj(r:Row)(c:Nat):(r.map fun x=> -x).getD c 0= -r.getD c 0:=by
 rw[List.getD_eq_getElem?_getD,List.getD_eq_getElem?_getD,List.getElem?_map];cases r[c]?<;>rfl
theorem fX{A:Rows}{N w k:Nat}(hA:a5 N w A)(hk:k<N)(i c:Nat):g (fj A k) i c=if i=k then-g A k c else g A i c:=by
 unfold g fj;rw[kY (by have:=hA.len;omega)];by_cases h:i=k
 . rw[if_pos h,if_pos h,Fj]
 . rw[if_neg h,if_neg h]
theorem Tn.neg{A0 A U C:Rows}{N w k:Nat}(T:Tn A0 A U C N w)(hk:k<N):Tn A0 (fj A k) (fj U k) (fj C k) N w where
 isA:=oU T.isA hk
 fL:=oU T.fL hk
 gE:=oU T.gE hk
 ua:=fun i c hi hc=>by
  rw[fX T.isA hk];by_cases h:i=k
  . rw[if_pos h,T.ua k c hk hc,<-pY];exact aG fun m _=>by rw[fX T.fL hk,if_pos h,Int.neg_mul]
  . rw[if_neg h,T.ua i c hi hc];exact aG fun m _=>by rw[fX T.fL hk,if_neg h]
 ub:=fun i j hi hj=>by
  have e:S N (fun m=>g (fj U k) i m*g (fj C k) j m)=S N fun m=>(if i=k then-1 else 1)*(if j=k then-1 else 1)*(g U i m*g C j m):=aG fun m _=>by
   rw[fX T.fL hk,fX T.gE hk];by_cases h1:i=k<;>by_cases h2:j=k<;>simp only[h1,h2,if_true,if_false]<;>grind
  rw[e,fE,T.ub i j hi hj];by_cases h1:i=k
  . by_cases h2:j=k
    . simp[h1,h2]
    . rw[d7 (by omega)];simp
  . by_cases h2:j=k
    . rw[d7 (by omega)];simp
    . simp[h1,h2]
 bu:=fun i j hi hj=>by
  rw[<-T.bu i j hi hj]
  exact aG fun m _=>by
   rw[fX T.fL hk,fX T.gE hk];by_cases h:m=k
   . subst h;rw[if_pos rfl,if_pos rfl];grind
   . rw[if_neg h,if_neg h]
structure fg(A:Rows)(N top p:Nat)(L:List Nat):Prop where
 mem:∀k,k∈L↔top<=k/\k<N/\g A k p≠0
 ord:L.Pairwise fun i j=>(g A i p).natAbs<(g A j p).natAbs\/((g A i p).natAbs=(g A j p).natAbs/\i<j)
theorem uE{f:Nat->Nat}:∀ {l m:List Nat},(∀k,k∈l↔k∈m)->l.Pairwise (fun i j=>f i<f j\/(f i=f j/\i<j))->m.Pairwise (fun i j=>f i<f j\/(f i=f j/\i<j))->l=m
 | [],[],_,_,_=>rfl
 | [],b::m,h,_,_=>by have:=(h b).mpr (List.mem_cons_self ..);simp at this
 |a::l,[],h,_,_=>by have:=(h a).mp (List.mem_cons_self ..);simp at this
 |a::l,b::m,h,h1,h2=>by
  obtain⟨p1,q1⟩:=List.pairwise_cons.mp h1;obtain⟨p2,q2⟩:=List.pairwise_cons.mp h2
  have e:a=b:=by
   rcases List.mem_cons.mp ((h a).mp (List.mem_cons_self ..))with z|z
   . exact z
   . rcases List.mem_cons.mp ((h b).mpr (List.mem_cons_self ..))with y|y
     . exact y.symm
     . have x1:=p1 b y;have x2:=p2 a z;omega
  subst e;have na:a∉l:=fun z=>by have:=p1 a z;omega
  have nb:a∉m:=fun z=>by have:=p2 a z;omega
  rw[uE (l:=l) (m:=m) (fun k=>?_) q1 q2];have:=h k;rw[List.mem_cons,List.mem_cons]at this;constructor
  . intro z;rcases this.mp (.inr z)with y|y
    . subst y;exact absurd z na
    . exact y
  . intro z;rcases this.mpr (.inr z)with y|y
    . subst y;exact absurd z nb
    . exact y
theorem fg.unique{A:Rows}{N top p:Nat}{L M:List Nat}(h:fg A N top p L)(h':fg A N top p M):L=M:=
 uE (f:=fun i=>(g A i p).natAbs) (fun k=>(h.mem k).trans (h'.mem k).symm) h.ord h'.ord
structure B3 where
 A:Rows
 U:Rows
 C:Rows
def qn(x y:Int):Int:=(2*x+y).fdiv (2*y)
def mv(b:B3)(p k j:Nat):B3:=⟨aN b.A k (qn (g b.A k p) (g b.A j p)) j,aN b.U k (qn (g b.A k p) (g b.A j p)) j,aN b.C j (-(qn (g b.A k p) (g b.A j p))) k⟩
def BZ(N top p:Nat)(b c:B3):Prop:=∃(L:List Nat) (k j:Nat),fg b.A N top p (L++[j,k])/\c=mv b p k j
inductive dR(N top p:Nat):B3->B3->Prop
 |refl (b:B3):dR N top p b b
 |head {b c d:B3} (h:BZ N top p b c) (t:dR N top p c d):dR N top p b d
theorem dR.tail{N top p:Nat}{b c d:B3}(h:dR N top p b c)(t:BZ N top p c d):dR N top p b d:=by
 induction h with
 |refl b=>exact .head t (.refl _)
 |head x _ ih=>exact .head x (ih t)
def mI(N top p:Nat)(b:B3):Prop:=∃L,fg b.A N top p L/\L.length<=1
theorem mI.stop{N top p:Nat}{b c:B3}(h:mI N top p b)(s:BZ N top p b c):False:=by
 obtain⟨L,h1,h2⟩:=h;obtain⟨M,k,j,h3,_⟩:=s;rw[h1.unique h3]at h2;simp at h2
def fu(X:Rows)(N top m:Nat):Prop:=∀i c,top<=i->i<N->(g X i c).natAbs<=m
theorem oY{x y:Int}(hy:y≠0):2*(x-qn x y*y).natAbs<=y.natAbs:=by
 unfold qn;have h1:=Int.mul_fdiv_add_fmod (2*x+y) (2*y);have h2:(2*x+y).fmod (2*y)=2*x+y-2*y*(2*x+y).fdiv (2*y):=by omega
 generalize(2*x+y).fdiv (2*y)=q at*;have e:2*(x-q*y)=(2*x+y).fmod (2*y)-y:=by rw[h2];grind
 rcases Int.lt_or_gt_of_ne hy with h|h
 . have a0:=Int.neg_fmod_neg (2*x+y) (2*y);have a1:=Int.fmod_nonneg_of_pos (-(2*x+y)) (show 0< -(2*y) by omega);have a2:=Int.fmod_lt_of_pos (-(2*x+y)) (show 0< -(2*y) by omega);omega
 . have a1:=Int.fmod_nonneg_of_pos (2*x+y) (show 0<2*y by omega);have a2:=Int.fmod_lt_of_pos (2*x+y) (show 0<2*y by omega);omega
theorem jW{X:Rows}{k j i:Nat}{q:Int}(hk:k<X.length)(h:i≠k):(aN X k q j).getD i []=X.getD i []:=by
 unfold aN;rw[kY hk,if_neg h]
structure we(A0:Rows)(N w:Nat)(b:B3)(top p:Nat)(ld:Nat->Nat)(e u:Nat):Prop where
 tn:Tn A0 b.A b.U b.C N w
 le:top<=N
 lo:fu b.A N top (2^e)/\fu b.U N top (2^e)/\fu b.C N top (2^e)
 hi:∀i c,i<top->(g b.A i c).natAbs<=2^u/\(g b.U i c).natAbs<=2^u/\(g b.C i c).natAbs<=2^u
 zs:∀i c,top<=i->i<N->c<p->g b.A i c=0
 lead:∀i,i<top->ld i<p/\0<g b.A i (ld i)/\∀c,c<ld i->g b.A i c=0
 mono:∀i j,i<j->j<top->ld i<ld j
 red:∀i j,i<j->j<top->0<=g b.A i (ld j)/\g b.A i (ld j)<g b.A j (ld j)
def setB(b:B3)(p top r:Nat):B3:=
 if g (bh b.A top r) top p<0 then⟨fj (bh b.A top r) top,fj (bh b.U top r) top,fj (bh b.C top r) top⟩else⟨bh b.A top r,bh b.U top r,bh b.C top r⟩
theorem tJ{X:Rows}{N w top r m:Nat}(hX:a5 N w X)(ht:top<N)(hr:r<N)(hrt:top<=r)(h:fu X N top m):fu (bh X top r) N top m:=fun i c hi hN=>by
 rw[ja hX ht hr];refine h _ c ?_ (qp ht hr hN);unfold sw;split
 . exact hrt
 . split
   . exact Nat.le_refl _
   . exact hi
theorem yb{X:Rows}{N w top m:Nat}(hX:a5 N w X)(ht:top<N)(h:fu X N top m):fu (fj X top) N top m:=fun i c hi hN=>by
 rw[fX hX ht];split
 . rw[Int.natAbs_neg];exact h top c (Nat.le_refl _) ht
 . exact h i c hi hN
theorem ud{X:Rows}{N w top r i:Nat}(hX:a5 N w X)(ht:top<N)(hr:r<N)(hrt:top<=r)(hi:i<top):(bh X top r).getD i []=X.getD i []:=by
 rw[yW (by have:=hX.len;omega) (by have:=hX.len;omega)];unfold sw;rw[if_neg (by omega),if_neg (by omega)]
theorem zw{X:Rows}{N w top i:Nat}(hX:a5 N w X)(ht:top<N)(hi:i<top):(fj X top).getD i []=X.getD i []:=by
 unfold fj;rw[kY (by have:=hX.len;omega),if_neg (by omega)]
structure tT(A0:Rows)(N w top p m:Nat)(b0 b:B3):Prop where
 tn:Tn A0 b.A b.U b.C N w
 up:∀i,i<top->b.A.getD i []=b0.A.getD i []/\b.U.getD i []=b0.U.getD i []/\b.C.getD i []=b0.C.getD i []
 lo:fu b.A N top m/\fu b.U N top m/\fu b.C N top m
 zs:∀i c,top<=i->i<N->c<p->g b.A i c=0
 tp:0<g b.A top p
 z1:∀i,top<i->i<N->g b.A i p=0
def fk(p top:Nat):Nat->B3->B3
 |0,b=>b
 |k+1,b=>
  let c:=fk p top k b
  ⟨aN c.A k ((g c.A k p).fdiv (g c.A top p)) top,aN c.U k ((g c.A k p).fdiv (g c.A top p)) top,aN c.C top (-((g c.A k p).fdiv (g c.A top p))) k⟩
theorem p_(a:Int){b:Int}(hb:0<b):(a.fdiv b).natAbs<=a.natAbs:=by
 have h1:=Int.mul_fdiv_add_fmod a b;have h2:=Int.fmod_nonneg_of_pos a hb;have h3:=Int.fmod_lt_of_pos a hb;generalize a.fdiv b=q at*;rcases Int.lt_trichotomy q 0 with h|h|h
 . have h4:0<=(b-1)*(-q-1):=Int.mul_nonneg (by omega) (by omega);have e:(b-1)*(-q-1)= -(b*q)-b+q+1:=by grind
   omega
 . subst h;simp
 . have:q<=b*q:=by
    have:0<=(b-1)*q:=Int.mul_nonneg (by omega) (by omega);grind
   omega
theorem zI{a b c:Nat}(h1:a<=2^c)(h2:b<=2^c):a+b<=2^(c+1):=by rw[Nat.pow_succ];omega
theorem Tn.start{A:Rows}{N w:Nat}(hA:a5 N w A):Tn A A (units N) (units N) N w where
 isA:=hA
 fL:=nh N
 gE:=nh N
 ua:=fun i c hi hc=>by
  rw[<-pf hi fun k=>g A k c];exact aG fun m hm=>by rw[iQ hi hm]
 ub:=fun i j hi hj=>by
  rw[vo i j,<-pf hi fun k=>dl j k]
  . exact aG fun m hm=>by rw[iQ hi hm,iQ hj hm]
 bu:=fun i j hi hj=>by
  rw[<-uq hi fun k=>dl k j];exact aG fun m hm=>by rw[iQ hm hi,iQ hm hj,Int.mul_comm]
theorem we.start{A:Rows}{N w e:Nat}(hA:a5 N w A)(h:fu A N 0 (2^e)):we A N w ⟨A,units N,units N⟩ 0 0 (fun _=>0) e 0:=by
 have hu:fu (units N) N 0 (2^e):=fun i c _ hi=>by
  by_cases hc:c<N
  . rw[iQ hi hc];unfold dl;split
    . exact Nat.one_le_two_pow
    . exact Nat.zero_le _
  . unfold g;rw[kB (l:=(units N).getD i []) (by rw[cA (nh N) hi];omega)];exact Nat.zero_le _
 exact⟨Tn.start hA,Nat.zero_le _,⟨h,hu,hu⟩,fun _ _ h=>absurd h (Nat.not_lt_zero _),fun _ _ _ _ h=>absurd h (Nat.not_lt_zero _),fun _ h=>absurd h (Nat.not_lt_zero _),fun _ _ _ h=>absurd h (Nat.not_lt_zero _),fun _ _ _ h=>absurd h (Nat.not_lt_zero _)⟩
def SU(f:Nat->Nat):Nat->Nat
 |0=>0
 |n+1=>SU f n+f n
theorem xT{f f':Nat->Nat}:∀ {n:Nat},(∀i,i<n->f' i<=f i)->SU f' n<=SU f n
 |0,_=>Nat.le_refl _
 |n+1,h=>Nat.add_le_add (xT fun i hi=>h i (Nat.lt_succ_of_lt hi)) (h n (Nat.lt_succ_self n))
theorem FK{f f':Nat->Nat}{k:Nat}(hlt:f' k<f k):∀ {n:Nat},k<n->(∀i,i<n->f' i<=f i)->SU f' n<SU f n
 |0,hk,_=>absurd hk (Nat.not_lt_zero _)
 |n+1,hk,h=>by
  by_cases e:k=n
  . subst e;exact Nat.add_lt_add_of_le_of_lt (xT fun i hi=>h i (Nat.lt_succ_of_lt hi)) hlt
  . exact Nat.add_lt_add_of_lt_of_le (FK hlt (by omega) fun i hi=>h i (Nat.lt_succ_of_lt hi)) (h n (Nat.lt_succ_self n))
def mu(A:Rows)(N p:Nat):Nat:=SU (fun i=>(g A i p).natAbs) N
inductive IT(N p:Nat):Nat->B3->Nat->B3->Prop
 |none {top:Nat} {b:B3} (h:fg b.A N top p []):IT N p top b top b
 |one {top r:Nat} {b c:B3} (h:dR N top p b c) (l:fg c.A N top p [r]):IT N p top b (top+1) (fk p top top (setB c p top r))
inductive jr(A:Rows)(N:Nat):Nat->Nat->B3->Prop
 |start:jr A N 0 0 ⟨A,units N,units N⟩
 |next {p t t':Nat} {b b':B3} (h:jr A N p t b) (c:IT N p t b t' b'):jr A N (p+1) t' b'
def a7(X:Rows)(n w:Nat)(v:Nat->Int):Prop:=∃z:Nat->Int,∀c,c<w->v c=S n fun k=>z k*g X k c
theorem a7.row{X:Rows}{n w k:Nat}(hk:k<n):a7 X n w (g X k):=⟨fun i=>dl k i,fun c _=>(pf hk fun i=>g X i c).symm⟩
theorem a7.sub{X:Rows}{n w:Nat}{u v:Nat->Int}(hu:a7 X n w u)(hv:a7 X n w v):a7 X n w fun c=>u c-v c:=by
 obtain⟨y,hy⟩:=hu;obtain⟨z,hz⟩:=hv;refine⟨fun k=>y k-z k,fun c hc=>?_⟩;show u c-v c=S n fun k=>(y k-z k)*g X k c;rw[hy c hc,hz c hc,Int.sub_eq_add_neg,<-pY,<-g4];exact aG fun k _=>by rw[Int.sub_mul,Int.sub_eq_add_neg]
theorem a7.trans{X Y:Rows}{m n w:Nat}{v:Nat->Int}(h:∀k,k<m->a7 Y n w (g X k))(hv:a7 X m w v):a7 Y n w v:=by
 obtain⟨z,hz⟩:=hv
 have h':∀k,∃y:Nat->Int,k<m->∀c,c<w->g X k c=S n fun i=>y i*g Y i c:=fun k=>by
  by_cases hk:k<m
  . obtain⟨y,hy⟩:=h k hk;exact⟨y,fun _=>hy⟩
  . exact⟨fun _=>0,fun h=>absurd h hk⟩
 refine⟨fun i=>S m fun k=>z k*Classical.choose (h' k) i,fun c hc=>?_⟩;rw[hz c hc]
 have e1:S m (fun k=>z k*g X k c)=S m fun k=>S n fun i=>z k*Classical.choose (h' k) i*g Y i c:=aG fun k hk=>by
  rw[Classical.choose_spec (h' k) hk c hc,<-fE];exact aG fun i _=>(Int.mul_assoc _ _ _).symm
 rw[e1,vd];exact aG fun i _=>yR _ _ _
structure aO(X:Rows)(n w:Nat)(ld:Nat->Nat):Prop where
 lead:∀i,i<n->ld i<w/\0<g X i (ld i)/\∀c,c<ld i->g X i c=0
 mono:∀i j,i<j->j<n->ld i<ld j
theorem aO.inj{X:Rows}{n w:Nat}{ld:Nat->Nat}(s:aO X n w ld){i j:Nat}(hi:i<n)(hj:j<n)(h:ld i=ld j):i=j:=by
 rcases Nat.lt_trichotomy i j with q|q|q
 . exact absurd h (Nat.ne_of_lt (s.mono i j q hj))
 . exact q
 . exact absurd h.symm (Nat.ne_of_lt (s.mono j i q hi))
theorem aO.lt{X:Rows}{n w:Nat}{ld:Nat->Nat}(s:aO X n w ld){i j:Nat}(hi:i<n)(hj:j<n)(h:ld i<ld j):i<j:=by
 rcases Nat.lt_trichotomy i j with q|q|q
 . exact q
 . rw[q]at h;exact absurd h (Nat.lt_irrefl _)
 . exact absurd (Nat.lt_trans h (s.mono j i q hi)) (Nat.lt_irrefl _)
theorem aO.gone{X:Rows}{n w q:Nat}{ld:Nat->Nat}{v z:Nat->Int}(s:aO X n w ld)(hz:∀c,c<w->v c=S n fun k=>z k*g X k c)(h0:∀c,c<q->v c=0)(k:Nat):k<n->ld k<q->z k=0:=by
 induction k using Nat.strongRecOn with
 |ind k ih=>
  intro hk hq;obtain⟨h1,h2,h3⟩:=s.lead k hk;have e:=hz (ld k) h1;rw[h0 _ hq,jz hk fun i hi ne=>?_]at e
  . exact(Int.mul_eq_zero.mp e.symm).resolve_right (Int.ne_of_gt h2)
  . rcases Nat.lt_or_gt_of_ne ne with l|l
    . rw[ih i l hi (Nat.lt_trans (s.mono i k l hk) hq),Int.zero_mul]
    . rw[(s.lead i hi).2.2 _ (s.mono k i l hi),Int.mul_zero]
theorem aO.at{X:Rows}{n w q:Nat}{ld:Nat->Nat}{v:Nat->Int}(s:aO X n w ld)(hv:a7 X n w v)(hq:q<w)(h0:∀c,c<q->v c=0):(∃i,i<n/\ld i=q/\g X i q∣v q)\/v q=0:=by
 obtain⟨z,hz⟩:=hv
 have go:∀k,k<n->ld k≠q->z k*g X k q=0:=fun k hk ne=>by
  rcases Nat.lt_or_gt_of_ne ne with l|l
  . rw[s.gone hz h0 k hk l,Int.zero_mul]
  . rw[(s.lead k hk).2.2 _ l,Int.mul_zero]
 by_cases h:∃i,i<n/\ld i=q
 . obtain⟨i,hi,e⟩:=h;refine .inl ⟨i,hi,e,z i,?_⟩;rw[hz q hq,jz hi fun k hk ne=>go k hk fun z=>ne (s.inj hk hi (z.trans e.symm)),Int.mul_comm]
 . refine .inr ?_;rw[hz q hq];exact gy fun k hk=>go k hk fun e=>h ⟨k,hk,e⟩
theorem aO.sees{X Y:Rows}{n m w:Nat}{ld ld':Nat->Nat}(sX:aO X n w ld)(sY:aO Y m w ld')(h:∀k,k<n->a7 Y m w (g X k))(i:Nat)(hi:i<n):∃j,j<m/\ld' j=ld i/\g Y j (ld i)∣g X i (ld i):=by
 obtain⟨h1,h2,h3⟩:=sX.lead i hi;rcases sY.at (h i hi) h1 h3 with q|q
 . exact q
 . rw[q]at h2;exact absurd h2 (by decide)
theorem aO.same{X Y:Rows}{n m w:Nat}{ld ld':Nat->Nat}(sX:aO X n w ld)(sY:aO Y m w ld')(h1:∀k,k<n->a7 Y m w (g X k))(h2:∀k,k<m->a7 X n w (g Y k))(i:Nat):i<n->i<m/\ld' i=ld i/\g Y i (ld i)=g X i (ld i):=by
 induction i using Nat.strongRecOn with
 |ind i ih=>
  intro hi;obtain⟨j,hj,ej,dj⟩:=sX.sees sY h1 i hi
  have e:j=i:=by
   rcases Nat.lt_trichotomy j i with l|l|l
   . have:=(ih j l (Nat.lt_trans l hi)).2.1;exact absurd (this.symm.trans ej) (Nat.ne_of_lt (sX.mono j i l hi))
   . exact l
   . obtain⟨k,hk,ek,_⟩:=sY.sees sX h2 i (Nat.lt_trans l hj);have lk:k<i:=sX.lt hk hi (by rw[ek,<-ej];exact sY.mono i j l hj);have:=(ih k lk hk).2.1;exact absurd (this.trans ek) (Nat.ne_of_lt (sY.mono k i lk (Nat.lt_trans l hj)))
  subst e;refine⟨hj,ej,?_⟩;obtain⟨k,hk,ek,dk⟩:=sY.sees sX h2 j hj;have:=sX.inj hk hi (ek.trans ej);subst this;rw[ej]at dk;exact Int.dvd_antisymm (by rw[<-ej];exact Int.le_of_lt (sY.lead k hj).2.1) (Int.le_of_lt (sX.lead k hi).2.1) dj dk
theorem aO.many{X Y:Rows}{n m w:Nat}{ld ld':Nat->Nat}(sX:aO X n w ld)(sY:aO Y m w ld')(h1:∀k,k<n->a7 Y m w (g X k))(h2:∀k,k<m->a7 X n w (g Y k)):n=m:=by
 refine Nat.le_antisymm ?_ ?_
 . cases n with
   |zero=>exact Nat.zero_le _
   |succ n=>exact(sX.same sY h1 h2 n (Nat.lt_succ_self n)).1
 . cases m with
   |zero=>exact Nat.zero_le _
   |succ m=>exact(sY.same sX h2 h1 m (Nat.lt_succ_self m)).1
def fD(X:Rows)(n:Nat)(ld:Nat->Nat):Prop:=∀i j,i<j->j<n->0<=g X i (ld j)/\g X i (ld j)<g X j (ld j)
theorem aO.only{X Y:Rows}{n m w:Nat}{ld ld':Nat->Nat}(sX:aO X n w ld)(sY:aO Y m w ld')(h1:∀k,k<n->a7 Y m w (g X k))(h2:∀k,k<m->a7 X n w (g Y k))(rX:fD X n ld)(rY:fD Y m ld'){i:Nat}(hi:i<n)(c:Nat):c<w->g X i c=g Y i c:=by
 induction c using Nat.strongRecOn with
 |ind c ih=>
  intro hc;obtain⟨im,il,ig⟩:=sX.same sY h1 h2 i hi;have hv:a7 X n w fun c=>g X i c-g Y i c:=(a7.row hi).sub (h2 i im);rcases sX.at hv hc fun d hd=>by rw[ih d hd (Nat.lt_trans hd hc),Int.sub_self]with⟨j,hj,rfl,d⟩|q
  . obtain⟨jm,jl,jg⟩:=sX.same sY h1 h2 j hj;rcases Nat.lt_trichotomy i j with l|l|l
    . have a:=rX i j l hj;have b:=rY i j l jm;rw[jl,jg]at b;exact Int.eq_of_sub_eq_zero (Int.eq_zero_of_dvd_of_natAbs_lt_natAbs d (by omega))
    . subst l;exact ig.symm
    . rw[(sX.lead i hi).2.2 _ (sX.mono j i l hi),(sY.lead i im).2.2 _ (by rw[il];exact sX.mono j i l hi)]
  . exact Int.eq_of_sub_eq_zero q
theorem tT.GB{A0:Rows}{N w top p m:Nat}{b0 b:B3}(s:tT A0 N w top p m b0 b){i:Nat}(hi:i<top)(q:Nat):g b.A i q=g b0.A i q/\g b.U i q=g b0.U i q/\g b.C i q=g b0.C i q:=by
 obtain⟨a1,a2,a3⟩:=s.up i hi;unfold g;rw[a1,a2,a3];exact⟨rfl,rfl,rfl⟩
def Sm(b:B3)(N m:Nat):Prop:=∀i c,i<N->(g b.A i c).natAbs<=m/\(g b.U i c).natAbs<=m/\(g b.C i c).natAbs<=m
structure u_(N p t z:Nat)(b:B3):Prop where
 ga:∀c,dR N t p b c->Sm c N (2^z)
 lo:∀c r k,dR N t p b c->fg c.A N t p [r]->k<=t->Sm (fk p t k (setB c p t r)) N (2^z)
theorem Mn{x y:Int}(hy:y≠0):(qn x y).natAbs<=x.natAbs+y.natAbs:=by
 have h:=oY (x:=x) hy;have h2:(qn x y*y).natAbs=(qn x y).natAbs*y.natAbs:=Int.natAbs_mul _ _;have h3:(qn x y).natAbs<=(qn x y).natAbs*y.natAbs:=Nat.le_mul_of_pos_right _ (Int.natAbs_pos.mpr hy);generalize qn x y*y=t at h h2;omega
def nl(A:Rows)(N t p:Nat):Nat:=SU (fun i=>if t<=i/\g A i p≠0 then 1 else 0) N
theorem Gp{n:Nat}{f:Nat->Int}:∀ {N:Nat},n<=N->(∀i,n<=i->i<N->f i=0)->S N f=S n f
 |0,h,_=>by rw[Nat.le_zero.mp h]
 |N+1,h,z=>by
  by_cases e:n=N+1
  . rw[e]
  . have hn:n<=N:=by omega
    show S N f+f N=_;rw[z N hn (Nat.lt_succ_self N),Int.add_zero];exact Gp hn fun i h1 h2=>z i h1 (Nat.lt_succ_of_lt h2)
theorem we.in{A:Rows}{N w top e u:Nat}{c:B3}{ld:Nat->Nat}(s:we A N w c top w ld e u)(k:Nat)(hk:k<top):a7 A N w (g c.A k):=
 ⟨g c.U k,fun q hq=>s.tn.ua k q (Nat.lt_of_lt_of_le hk s.le) hq⟩
theorem we.out{A:Rows}{N w top e u:Nat}{c:B3}{ld:Nat->Nat}(s:we A N w c top w ld e u)(k:Nat)(hk:k<N):a7 c.A top w (g A k):=by
 refine⟨fun i=>g c.C i k,fun q hq=>?_⟩
 have e1:S N (fun i=>g c.C i k*g c.A i q)=g A k q:=by
  have:S N (fun i=>g c.C i k*g c.A i q)=S N fun i=>S N fun j=>g c.C i k*g c.U i j*g A j q:=aG fun i hi=>by
   rw[s.tn.ua i q hi hq,<-fE];exact aG fun j _=>(Int.mul_assoc _ _ _).symm
  rw[this,vd]
  have e2:S N (fun j=>S N fun i=>g c.C i k*g c.U i j*g A j q)=S N fun j=>dl k j*g A j q:=aG fun j hj=>by
   rw[yR,s.tn.bu k j hk hj]
  rw[e2,pf hk fun j=>g A j q]
 rw[<-e1];exact Gp s.le fun i h1 h2=>by rw[s.zs i q h1 h2 hq,Int.mul_zero]
theorem kT{X:Rows}{n i q:Nat}(h:i<n):g (X.take n) i q=g X i q:=by
 unfold g;rw[List.getD_eq_getElem?_getD (l:=X.take n),List.getD_eq_getElem?_getD (l:=X),List.getElem?_take_of_lt h]
theorem a7.IY{X:Rows}{n w:Nat}{u v:Nat->Int}(x:Int)(hu:a7 X n w u)(hv:a7 X n w v):a7 X n w fun c=>u c+x*v c:=by
 obtain⟨y,hy⟩:=hu;obtain⟨z,hz⟩:=hv;refine⟨fun k=>y k+x*z k,fun c hc=>?_⟩;show u c+x*v c=S n fun k=>(y k+x*z k)*g X k c;rw[hy c hc,hz c hc,<-fE,<-g4];exact aG fun k _=>by rw[Int.add_mul,Int.mul_assoc]
theorem a7.eq{X:Rows}{n w:Nat}{u v:Nat->Int}(hu:a7 X n w u)(h:∀c,c<w->v c=u c):a7 X n w v:=by
 obtain⟨y,hy⟩:=hu;exact⟨y,fun c hc=>(h c hc).trans (hy c hc)⟩
structure mr(X:Rows)(n:Nat)(Y:Rows)(m w:Nat):Prop where
 to:∀k,k<n->a7 Y m w (g X k)
 of:∀k,k<m->a7 X n w (g Y k)
theorem a7.zero{X:Rows}{n w:Nat}{v:Nat->Int}(h:∀c,c<w->v c=0):a7 X n w v:=
 ⟨fun _=>0,fun c hc=>by rw[h c hc,gy fun k _=>Int.zero_mul _]⟩
theorem pa{X:Rows}{r:Row}{k:Nat}(hk:k<=X.length)(i:Nat):(X.take k++r::X.drop k).getD i []=if i<k then X.getD i []else if i=k then r else X.getD (i-1) []:=by
 have lt:(X.take k).length=k:=by rw[List.length_take];omega
 rw[List.getD_eq_getElem?_getD,List.getD_eq_getElem?_getD,List.getD_eq_getElem?_getD];by_cases h:i<k
 . rw[if_pos h,List.getElem?_append_left (by rw[lt];exact h),List.getElem?_take_of_lt h]
 . rw[if_neg h,List.getElem?_append_right (by rw[lt];omega),lt];by_cases h2:i=k
   . rw[if_pos h2,h2,Nat.sub_self];rfl
   . rw[if_neg h2];have:i-k=(i-1-k)+1:=by omega
     rw[this,List.getElem?_cons_succ,List.getElem?_drop];congr 2;omega
theorem FC{r:Row}{x:Int}(q:Nat):(r.map fun y=>x*y).getD q 0=x*r.getD q 0:=by
 rw[List.getD_eq_getElem?_getD,List.getElem?_map,List.getD_eq_getElem?_getD];cases r[q]? with
 |none=>exact(Int.mul_zero x).symm
 |some y=>rfl
theorem a7.smul{X:Rows}{n w:Nat}{v:Nat->Int}(x:Int)(h:a7 X n w v):a7 X n w fun c=>x*v c:=
 ((a7.zero (v:=fun _=>0) fun _ _=>rfl).IY x h).eq fun c _=>(Int.zero_add _).symm
structure sO(F:Rows)(w:Nat)(ld:Nat->Nat)(row:Nat->Int)(i:Nat)(o:Int)(L:Nat->Int):Prop where
 pos:0<o
 sum:a7 F i w fun c=>o*row c-L c
 off:∀k,k<i->L (ld k)=0
 least:∀(m:Int) (v:Nat->Int),a7 F i w v->(∀k,k<i->m*row (ld k)=v (ld k))->o∣m
theorem aO.LN{F:Rows}{n w:Nat}{ld:Nat->Nat}{v:Nat->Int}(s:aO F n w ld)(hv:a7 F n w v)(h:∀k,k<n->0<=v (ld k)/\v (ld k)<g F k (ld k))(c:Nat):c<w->v c=0:=by
 induction c using Nat.strongRecOn with
 |ind c ih=>
  intro hc;rcases s.at hv hc fun d hd=>ih d hd (Nat.lt_trans hd hc)with⟨k,hk,rfl,d⟩|q
  . have:=h k hk;exact Int.eq_zero_of_dvd_of_natAbs_lt_natAbs d (by omega)
  . exact q
structure uR(F:Rows)(n w:Nat)(ld:Nat->Nat)(row:Nat->Int)(i:Nat)(L:Nat->Int):Prop where
 sum:a7 F n w fun c=>row c-L c
 red:∀k,k<i->0<=L (ld k)/\L (ld k)<g F k (ld k)
theorem uR.start{F:Rows}{n w:Nat}{ld:Nat->Nat}{row:Nat->Int}:uR F n w ld row 0 row:=⟨a7.zero fun c _=>Int.sub_self _,fun _ h=>absurd h (Nat.not_lt_zero _)⟩
theorem uR.step{F:Rows}{n w i:Nat}{ld:Nat->Nat}{row L:Nat->Int}(s:aO F n w ld)(hi:i<n)(f:uR F n w ld row i L):uR F n w ld row (i+1) fun c=>L c-(L (ld i)).fdiv (g F i (ld i))*g F i c:=by
 obtain⟨l1,l2,l3⟩:=s.lead i hi;refine⟨(f.sum.IY ((L (ld i)).fdiv (g F i (ld i))) (a7.row hi)).eq fun c _=>by omega,fun k hk=>?_⟩;show 0<=L (ld k)-_*g F i (ld k)/\L (ld k)-_*g F i (ld k)<_;rcases Nat.lt_or_ge k i with h|h
 . rw[l3 _ (s.mono k i h hi),Int.mul_zero,Int.sub_zero];exact f.red k h
 . have:k=i:=Nat.le_antisymm (Nat.le_of_lt_succ hk) h;subst this;have e:=Int.fmod_add_mul_fdiv (L (ld k)) (g F k (ld k));have a:=Int.fmod_nonneg_of_pos (L (ld k)) l2;have b:=Int.fmod_lt_of_pos (L (ld k)) l2;rw[Int.mul_comm]at e;omega
theorem uR.zero{F:Rows}{n w:Nat}{ld:Nat->Nat}{row L:Nat->Int}(s:aO F n w ld)(f:uR F n w ld row n L):(∀c,c<w->L c=0)↔a7 F n w row:=by
 constructor
 . exact fun h=>f.sum.eq fun c hc=>by rw[h c hc,Int.sub_zero]
 . exact fun h=>s.LN ((h.sub f.sum).eq fun c _=>by omega) f.red
theorem Dw{K m:Nat}:∀ {n:Nat} {M:Fn},n<=K->(∀r c,r<n->c<n->(M r c).natAbs<=m)->(D n M).natAbs<=(K*m)^n
 |0,_,_,_=>by simp[D]
 |n+1,M,hn,h=>by
  rw[eE]
  have key:∀j,j<n+1->(sg j*M 0 j*D n fun r c=>M (r+1) (sk j c)).natAbs<=m*(K*m)^n:=fun j hj=>by
   have a:=Dw (K:=K) (m:=m) (n:=n) (M:=fun r c=>M (r+1) (sk j c)) (by omega) fun r c hr hc=>h (r+1) (sk j c) (by omega) (lg hc);have b:=h 0 j (by omega) hj;have s:(sg j).natAbs=1:=by unfold sg;split<;>rfl
   rw[Int.natAbs_mul,Int.natAbs_mul,s,Nat.one_mul];exact Nat.mul_le_mul b a
  refine Nat.le_trans (xH key) ?_;rw[Nat.pow_succ,Nat.mul_comm ((K*m)^n),Nat.mul_assoc];exact Nat.mul_le_mul_right _ hn
theorem pick{t N:Nat}{U B:Fn}(h:∀k l,k<t->l<t->S N (fun i=>U k i*B i l)=dl k l):∃I:Nat->Nat,(∀k,k<t->I k<N)/\D t (fun k l=>B (I k) l)≠0:=by
 apply Classical.byContradiction;intro no
 have go:∀s,s<=t->∀I:Nat->Nat,(∀k,k<t->s<=k->I k<N)->D t (fun k l=>if k<s then dl k l else B (I k) l)=0:=by
  intro s;induction s with
  |zero=>
   intro _ I hI;exact Classical.byContradiction fun z=>no ⟨I,fun k hk=>hI k hk (Nat.zero_le _),z⟩
  |succ s ih=>
   intro hs I hI
   have e:D t (fun k l=>if k<s+1 then dl k l else B (I k) l)=D t (upd (fun k l=>if k<s then dl k l else B (I k) l) s fun l=>S N fun j=>U s j*B j l):=dH fun k l hk hl=>by
    unfold upd;by_cases h1:k=s
    . subst h1;rw[if_pos rfl,if_pos (Nat.lt_succ_self _)];exact(h k l hk hl).symm
    . rw[if_neg h1];show _=if k<s then dl k l else B (I k) l
      by_cases h2:k<s
      . rw[if_pos (by omega),if_pos h2]
      . rw[if_neg (by omega),if_neg h2]
   rw[e,(uV t).uH (by omega)];refine gy fun j hj=>?_
   have e2:=ih (by omega) (fun k=>if k=s then j else I k) fun k hk hsk=>by
    by_cases h1:k=s
    . rw[if_pos h1];exact hj
    . rw[if_neg h1];exact hI k hk (by omega)
   have e3:D t (upd (fun k l=>if k<s then dl k l else B (I k) l) s (B j))=D t (fun k l=>if k<s then dl k l else B (if k=s then j else I k) l):=dH fun k l hk hl=>by
    unfold upd;by_cases h1:k=s
    . subst h1;rw[if_pos rfl,if_neg (Nat.lt_irrefl _),if_pos rfl]
    . rw[if_neg h1,if_neg h1]
   rw[e3,e2,Int.mul_zero]
 have z:=go t (Nat.le_refl _) (fun _=>0) fun k h1 h2=>absurd h1 (Nat.not_lt.mpr h2);rw[dH (M':=dl) fun r c hr hc=>if_pos hr,vE]at z;exact absurd z (by decide)
theorem DJ:∀ {n:Nat} {f:Nat->Int},(∀i,i<n->0<f i)->0<Pr n f
 |0,_,_=>show(0:Int)<1 by decide
 |n+1,f,h=>Int.mul_pos (DJ fun i hi=>h i (Nat.lt_succ_of_lt hi)) (h n (Nat.lt_succ_self n))
def ck(F:Rows)(i:Nat):Nat:=(F.getD i []).findIdx (fun x=>x != 0)
theorem uA:∀ {r:Row} {l:Nat},(∀c,c<l->r.getD c 0=0)->r.getD l 0≠0->r.findIdx (fun x=>x != 0)=l
 | [],l,_,h=>(h rfl).elim
 |x::r,0,_,h=>by
  have h':(x != 0)=true:=bne_iff_ne.mpr h;rw[List.findIdx_cons,h'];rfl
 |x::r,l+1,hz,h=>by
  have x0:(x != 0)=false:=bne_eq_false_iff_eq.mpr (hz 0 (Nat.zero_lt_succ _));rw[List.findIdx_cons,x0,uA (r:=r) (l:=l) (fun c hc=>hz (c+1) (Nat.succ_lt_succ hc)) h];rfl
theorem aO.ck{F:Rows}{n w:Nat}{ld:Nat->Nat}(s:aO F n w ld){i:Nat}(hi:i<n):Mx.ck F i=ld i:=by
 obtain⟨_,h2,h3⟩:=s.lead i hi;exact uA h3 (Int.ne_of_gt h2)
theorem aO.MG{F:Rows}{n w:Nat}{ld:Nat->Nat}(s:aO F n w ld):aO F n w (Mx.ck F):=
 ⟨fun i hi=>by rw[s.ck hi];exact s.lead i hi,fun i j h hj=>by rw[s.ck hj,s.ck (Nat.lt_trans h hj)];exact s.mono i j h hj⟩
def AI(F:Rows)(L:Row)(i:Nat):Int:=(L.getD (ck F i) 0).fdiv (g F i (ck F i))
def eL(F:Rows)(r:Row):Nat->Row
 |0=>r
 |i+1=>fN (eL F r i) (-(AI F (eL F r i) i)) (F.getD i [])
section
variable {F:Rows}{r:Row}{m w:Nat}(isF:a5 m w F)(lr:r.length=w)
include isF lr
theorem kJ:∀ {i:Nat},i<=m->(eL F r i).length=w
 |0,_=>lr
 |i+1,h=>by
  unfold eL;rw[kE (by rw[kJ (by omega),isF.row (by omega)])];exact kJ (by omega)
theorem ya{i:Nat}(hi:i<m)(c:Nat):(eL F r (i+1)).getD c 0=(eL F r i).getD c 0-AI F (eL F r i) i*g F i c:=by
 conv=>lhs;unfold eL
 rw[rM (by rw[kJ isF lr (by omega),isF.row hi]),Int.neg_mul];rfl
theorem AE(s:aO F m w (ck F)):∀ {i:Nat},i<=m->uR F m w (ck F) (fun c=>r.getD c 0) i (fun c=>(eL F r i).getD c 0)
 |0,_=>uR.start
 |i+1,h=>by
  have:=(AE s (i:=i) (by omega)).step s h
  have e:(fun c=>(eL F r (i+1)).getD c 0)=fun c=>(eL F r i).getD c 0-((eL F r i).getD (ck F i) 0).fdiv (g F i (ck F i))*g F i c:=by
   funext c;rw[ya isF lr h];rfl
  rw[e];exact this
theorem AF{f e:Nat}(s:aO F m w (ck F))(hF:∀k c,k<m->c<w->(g F k c).natAbs<=2^f)(hr:∀c,c<w->(r.getD c 0).natAbs<=2^e):∀ {i:Nat},i<=m->∀c,c<w->((eL F r i).getD c 0).natAbs<=2^(e+i*(f+1))
 |0,_,c,hc=>by rw[Nat.zero_mul];exact hr c hc
 |i+1,h,c,hc=>by
  have ih:=AF s hF hr (i:=i) (by omega);obtain⟨l1,l2,_⟩:=s.lead i h;have q:=Nat.le_trans (p_ ((eL F r i).getD (ck F i) 0) l2) (ih _ l1);rw[ya isF lr h]
  have p:(AI F (eL F r i) i*g F i c).natAbs<=2^(e+i*(f+1))*2^f:=by
   rw[Int.natAbs_mul];exact Nat.mul_le_mul q (hF i c h hc)
  have b:=ih c hc
  have e1:2^(e+(i+1)*(f+1))=2^(e+i*(f+1))*2^f*2:=by
   rw[show e+(i+1)*(f+1)=e+i*(f+1)+f+1 by rw[Nat.succ_mul];omega,Nat.pow_succ,Nat.pow_add]
  have e2:2^(e+i*(f+1))<=2^(e+i*(f+1))*2^f:=Nat.le_mul_of_pos_right _ (Nat.pow_pos (by decide));rw[e1];omega
end
def l1:Row->Nat
 | []=>0
 |x::r=>x.natAbs+l1 r
structure iy(A0:Rows)(N w:Nat)(b:B3)(top p:Nat)(ld:Nat->Nat)(e u v:Nat):Prop where
 tn:Tn A0 b.A b.U b.C N w
 le:top<=N
 lo:fu b.A N top (2^e)/\fu b.U N top (2^e)/\fu b.C N top (2^e)
 hi:∀i c,i<top->(g b.A i c).natAbs<=2^u/\(g b.U i c).natAbs<=2^u/\(g b.C i c).natAbs<=2^v
 zs:∀i c,top<=i->i<N->c<p->g b.A i c=0
 lead:∀i,i<top->ld i<p/\0<g b.A i (ld i)/\∀c,c<ld i->g b.A i c=0
 mono:∀i j,i<j->j<top->ld i<ld j
 red:∀i j,i<j->j<top->0<=g b.A i (ld j)/\g b.A i (ld j)<g b.A j (ld j)
theorem iy.skip{A0:Rows}{N w top p e u v:Nat}{b:B3}{ld:Nat->Nat}(S:iy A0 N w b top p ld e u v)(h:fg b.A N top p []):iy A0 N w b top (p+1) ld e u v:=
 ⟨S.tn,S.le,S.lo,S.hi,fun i c h1 h2 h3=>by
  by_cases hc:c=p
  . subst hc;exact Classical.byContradiction fun z=>absurd ((h.mem i).mpr ⟨h1,h2,z⟩) (by simp)
  . exact S.zs i c h1 h2 (by omega),fun i hi=>⟨Nat.lt_succ_of_lt (S.lead i hi).1,(S.lead i hi).2⟩,S.mono,S.red⟩
structure ly(A0:Rows)(N w top p e u v:Nat)(b:B3)(k:Nat)(c:B3):Prop where
 tn:Tn A0 c.A c.U c.C N w
 rA:∀i,k<=i->c.A.getD i []=b.A.getD i []/\c.U.getD i []=b.U.getD i []
 rC:∀i,i≠top->c.C.getD i []=b.C.getD i []
 ah:∀i q,i<k->q<p->g c.A i q=g b.A i q
 rd:∀i,i<k->0<=g c.A i p/\g c.A i p<g c.A top p
 sz:∀i q,i<k->(g c.A i q).natAbs<=2^(u+e+1)/\(g c.U i q).natAbs<=2^(u+e+1)
 sC:∀q,(g c.C top q).natAbs<=2^e+k*2^(u+v)
theorem ly.step{A0:Rows}{N w top p e u v k:Nat}{b c:B3}(I:ly A0 N w top p e u v b k c)(hk:k<top)(ht:top<N)(hp:p<w)(htp:0<g b.A top p)(hz:∀q,q<p->g b.A top q=0)
 (hlo:∀q,(g b.A top q).natAbs<=2^e/\(g b.U top q).natAbs<=2^e) (hhi:∀i q,i<top->(g b.A i q).natAbs<=2^u/\(g b.U i q).natAbs<=2^u/\(g b.C i q).natAbs<=2^v):
 ly A0 N w top p e u v b (k+1) ⟨aN c.A k ((g c.A k p).fdiv (g c.A top p)) top,aN c.U k ((g c.A k p).fdiv (g c.A top p)) top,aN c.C top (-((g c.A k p).fdiv (g c.A top p))) k⟩:=by
 have hkN:k<N:=by omega
 have gA:∀i q,k<=i->g c.A i q=g b.A i q:=fun i q hi=>by unfold g;rw[(I.rA i hi).1]
 have gU:∀i q,k<=i->g c.U i q=g b.U i q:=fun i q hi=>by unfold g;rw[(I.rA i hi).2]
 have gC:∀i q,i≠top->g c.C i q=g b.C i q:=fun i q hi=>by unfold g;rw[I.rC i hi]
 have qe:((g c.A k p).fdiv (g c.A top p)).natAbs<=2^u:=by
  rw[gA k p (Nat.le_refl _),gA top p (by omega)];exact Nat.le_trans (p_ _ htp) (hhi k p hk).1
 have hq:∀x:Int,x.natAbs<=2^e->((g c.A k p).fdiv (g c.A top p)*x).natAbs<=2^(u+e):=fun x hx=>by
  rw[Int.natAbs_mul,Nat.pow_add];exact Nat.mul_le_mul qe hx
 have le1:2^u<=2^(u+e):=Nat.pow_le_pow_right (by decide) (by omega);refine⟨I.tn.take hkN ht (by omega),fun i hi=>?_,fun i hi=>?_,fun i q hi hqp=>?_,fun i hi=>?_,fun i q hi=>?_,fun q=>?_⟩
 . exact⟨(jW (by rw[I.tn.isA.len];exact hkN) (by omega)).trans (I.rA i (by omega)).1,(jW (by rw[I.tn.fL.len];exact hkN) (by omega)).trans (I.rA i (by omega)).2⟩
 . exact(jW (by rw[I.tn.gE.len];exact ht) hi).trans (I.rC i hi)
 . show g (aN c.A k _ top) i q=_;rw[cF I.tn.isA hkN ht];split
   . rename_i h;rw[gA top q (by omega),hz q hqp,Int.mul_zero,gA k q (Nat.le_refl _),h];omega
   . exact I.ah i q (by omega) hqp
 . show 0<=g (aN c.A k _ top) i p/\g (aN c.A k _ top) i p<g (aN c.A k _ top) top p;rw[cF I.tn.isA hkN ht,cF I.tn.isA hkN ht,if_neg (show¬top=k by omega)];split
   . have h1:=Int.mul_fdiv_add_fmod (g c.A k p) (g c.A top p);have htp':0<g c.A top p:=by rw[gA top p (by omega)];exact htp
     have h2:=Int.fmod_nonneg_of_pos (g c.A k p) htp';have h3:=Int.fmod_lt_of_pos (g c.A k p) htp';rw[Int.mul_comm]at h1;omega
   . exact I.rd i (by omega)
 . show(g (aN c.A k _ top) i q).natAbs<=_/\(g (aN c.U k _ top) i q).natAbs<=_;rw[cF I.tn.isA hkN ht,cF I.tn.fL hkN ht];split
   . have a1:=hq (g c.A top q) (by rw[gA top q (by omega)];exact(hlo q).1);have a2:=hq (g c.U top q) (by rw[gU top q (by omega)];exact(hlo q).2);rw[gA k q (Nat.le_refl _),gU k q (Nat.le_refl _)];have b1:=(hhi k q hk).1;have b2:=(hhi k q hk).2.1;rw[Nat.pow_succ];omega
   . exact I.sz i q (by omega)
 . show(g (aN c.C top _ k) top q).natAbs<=_;rw[cF I.tn.gE ht hkN,if_pos rfl,gC k q (by omega),Int.neg_mul];have a1:=I.sC q
   have a2:((g c.A k p).fdiv (g c.A top p)*g b.C k q).natAbs<=2^(u+v):=by
    rw[Int.natAbs_mul,Nat.pow_add];exact Nat.mul_le_mul qe (hhi k q hk).2.2
   rw[Nat.add_mul,Nat.one_mul];omega
theorem ly.start{A0:Rows}{N w top p e u v:Nat}{b:B3}(T:Tn A0 b.A b.U b.C N w)(h:∀q,(g b.C top q).natAbs<=2^e):ly A0 N w top p e u v b 0 b:=
 ⟨T,fun _ _=>⟨rfl,rfl⟩,fun _ _=>rfl,fun _ _ h=>absurd h (Nat.not_lt_zero _),fun _ h=>absurd h (Nat.not_lt_zero _),fun _ _ h=>absurd h (Nat.not_lt_zero _),fun q=>by rw[Nat.zero_mul];exact h q⟩
theorem iy.start{A:Rows}{N w e:Nat}(hA:a5 N w A)(h:fu A N 0 (2^e)):iy A N w ⟨A,units N,units N⟩ 0 0 (fun _=>0) e 0 0:=by
 have S:=we.start hA h;exact⟨S.tn,S.le,S.lo,S.hi,S.zs,S.lead,S.mono,S.red⟩
theorem iy.NZ{A0:Rows}{N w top p e u v:Nat}{b:B3}{ld:Nat->Nat}(S:iy A0 N w b top p ld e u v):we A0 N w b top p ld e (u+v):=
 ⟨S.tn,S.le,S.lo,fun i c hi=>⟨Nat.le_trans (S.hi i c hi).1 (Nat.pow_le_pow_right (by decide) (by omega)),Nat.le_trans (S.hi i c hi).2.1 (Nat.pow_le_pow_right (by decide) (by omega)),Nat.le_trans (S.hi i c hi).2.2 (Nat.pow_le_pow_right (by decide) (by omega))⟩,S.zs,S.lead,S.mono,S.red⟩
theorem EO{X B:Rows}{n w w' a b:Nat}(hX:a5 n w X)(hB:a5 w w' B)(w8:w<=8)(bX:∀i c,i<n->c<w->(g X i c).natAbs<=2^a)(bB:∀i c,i<w->c<w'->(g B i c).natAbs<=2^b):∀i c,i<n->c<w'->(g (mulM X B w') i c).natAbs<=2^(a+b+3):=fun i c hi hc=>by
 rw[Hx hX hB hi]
 have:=xH (n:=w) (f:=fun k=>g X i k*g B k c) (m:=2^a*2^b) fun k hk=>by
  rw[Int.natAbs_mul];exact Nat.mul_le_mul (bX i k hi hk) (bB k c hk hc)
 refine Nat.le_trans this ?_;rw[show a+b+3=3+(a+b) by omega,Nat.pow_add _ 3,Nat.pow_add];exact Nat.mul_le_mul_right _ w8
def SQ:Nat->(Nat->Rat)->Rat
 |0,_=>0
 |n+1,f=>SQ n f+f n
def dq(ps:List Rat)(w:Nat)(v:Nat->Int):Rat:=SQ w fun c=>ps.getD c 0*(v c:Rat)
theorem pe(a:Nat)(f:Nat->Int):∀b,S (a+b) f=S a f+S b fun i=>f (a+i)
 |0=>(Int.add_zero _).symm
 |b+1=>by
  show S (a+b) f+f (a+b)=S a f+(S b (fun i=>f (a+i))+f (a+b));rw[pe a f b,Int.add_assoc]
theorem aO.C9{X:Rows}{n w:Nat}{ld:Nat->Nat}{v z:Nat->Int}(s:aO X n w ld)(hz:∀c,c<w->v c=S n fun k=>z k*g X k c){j:Nat}(hj:j<=n)(h0:∀l,l<j->v (ld l)=0)(l:Nat):l<j->z l=0:=by
 induction l using Nat.strongRecOn with
 |_ l ih=>
  intro hl;obtain⟨h1,h2,_⟩:=s.lead l (by omega);have e:=hz _ h1
  rw[h0 l hl,jz (k:=l) (by omega) fun k hk hne=>by
   rcases Nat.lt_or_gt_of_ne hne with q|q
   . rw[ih k q (by omega),Int.zero_mul]
   . rw[(s.lead k hk).2.2 _ (s.mono l k q hk),Int.mul_zero]]at e
  rcases Int.mul_eq_zero.mp e.symm with q|q
  . exact q
  . omega
theorem aO.Of{X:Rows}{n w:Nat}{ld:Nat->Nat}{v z:Nat->Int}(s:aO X n w ld)(hz:∀c,c<w->v c=S n fun k=>z k*g X k c){j:Nat}(hj:j<n)(h0:∀l,l<j->v (ld l)=0):v (ld j)=z j*g X j (ld j):=by
 obtain⟨h1,h2,_⟩:=s.lead j hj;rw[hz _ h1]
 exact jz hj fun k hk hne=>by
  rcases Nat.lt_or_gt_of_ne hne with q|q
  . rw[s.C9 hz (Nat.le_of_lt hj) h0 k q,Int.zero_mul]
  . rw[(s.lead k hk).2.2 _ (s.mono j k q hk),Int.mul_zero]
theorem aO.nil{X:Rows}{n w:Nat}{ld:Nat->Nat}{v:Nat->Int}(s:aO X n w ld)(hv:a7 X n w v)(h0:∀l,l<n->v (ld l)=0)(c:Nat)(hc:c<w):v c=0:=by
 obtain⟨z,hz⟩:=hv;rw[hz c hc];exact gy fun k hk=>by rw[s.C9 hz (Nat.le_refl n) h0 k hk,Int.zero_mul]
theorem a7.l_{X:Rows}{n w:Nat}{u v:Nat->Int}(a:Int)(hu:a7 X n w u)(hv:a7 X n w v):a7 X n w fun c=>u c+a*v c:=by
 obtain⟨y,hy⟩:=hu;obtain⟨z,hz⟩:=hv;refine⟨fun k=>y k+a*z k,fun c hc=>?_⟩;show u c+a*v c=S n fun k=>(y k+a*z k)*g X k c;rw[hy c hc,hz c hc,<-fE,<-g4];exact aG fun k _=>by rw[Int.add_mul,Int.mul_assoc]
theorem a7.comb{X:Rows}{n w:Nat}{a:Nat->Int}{v:Nat->Nat->Int}:∀ {m:Nat},(∀l,l<m->a7 X n w (v l))->a7 X n w fun c=>S m fun l=>a l*v l c
 |0,_=>⟨fun _=>0,fun c _=>(gy fun k _=>Int.zero_mul _).symm⟩
 |m+1,h=>a7.l_ (a m) (a7.comb (m:=m) fun l hl=>h l (by omega)) (h m (Nat.lt_succ_self m))
theorem N4{X:Rows}{n w M:Nat}{ld:Nat->Nat}{d:Int}{v:Nat->Nat->Int}(s:aO X n w ld)(r:fD X n ld)(hd:d≠0)(hv:∀l,l<n->a7 X n w (v l))(hl:∀l j,l<n->j<n->v l (ld j)=d*dl l j)(hb:∀l c,l<n->c<w->(v l c).natAbs<=M):∀i c,i<n->c<w->(g X i c).natAbs<=n*M:=fun i c hi hc=>by
 have le:∀j,j<n->(g X j (ld j)).natAbs<=d.natAbs:=fun j hj=>by
  obtain⟨z,hz⟩:=hv j hj;have e:=s.Of hz hj fun l h=>by rw[hl j l hj (by omega),d7 (by omega),Int.mul_zero]
  rw[hl j j hj hj,dw,Int.mul_one]at e;rw[e,Int.natAbs_mul];refine Nat.le_mul_of_pos_left _ (Int.natAbs_pos.mpr fun q=>hd ?_);rw[e,q,Int.zero_mul]
 have bd:∀l,l<n->(g X i (ld l)).natAbs<=d.natAbs:=fun l h=>by
  have h1:=le l h;rcases Nat.lt_trichotomy i l with q|q|q
  . have:=r i l q h;omega
  . rw[q];exact h1
  . rw[(s.lead i hi).2.2 _ (s.mono l i q hi)];exact Nat.zero_le _
 have e:d*g X i c=S n fun l=>g X i (ld l)*v l c:=by
  have y:a7 X n w fun c=>(0*g X i c+d*g X i c)-S n fun l=>g X i (ld l)*v l c:=a7.sub (a7.l_ d (a7.eq (u:=fun c=>S 0 fun _=>0) (a7.comb (m:=0) (a:=fun _=>0) (v:=fun _ _=>0) fun l h=>absurd h (Nat.not_lt_zero _)) fun c _=>Int.zero_mul _) (a7.row hi)) (a7.comb hv)
  have:=s.nil y (fun l h=>by
   obtain⟨h1,_⟩:=s.lead l h
   have e:(S n fun k=>g X i (ld k)*v k (ld l))=d*g X i (ld l):=by
    rw[jz h fun k hk hne=>by rw[hl k l hk h,d7 hne,Int.mul_zero,Int.mul_zero],hl l l h h,dw,Int.mul_one,Int.mul_comm]
   show(0*g X i (ld l)+d*g X i (ld l))-(S n fun k=>g X i (ld k)*v k (ld l))=0;rw[e];omega) c hc
  simp only[Int.zero_mul,Int.zero_add]at this;omega
 have b2:(d*g X i c).natAbs<=n*(d.natAbs*M):=by
  rw[e];exact xH fun l h=>by rw[Int.natAbs_mul];exact Nat.mul_le_mul (bd l h) (hb l c h hc)
 rw[Int.natAbs_mul,Nat.mul_left_comm]at b2;exact Nat.le_of_mul_le_mul_left b2 (Int.natAbs_pos.mpr hd)
theorem Lq{t l j:Nat}{M:Fn}(hl:l<t)(hj:j<t):D t (upd M l (M j))=D t M*dl l j:=by
 by_cases h:l=j
 . subst h;rw[dw,Int.mul_one]
   exact dH fun r c _ _=>by
    by_cases q:r=l
    . subst q;exact cz ..
    . exact ay q c
 . rw[d7 h,Int.mul_zero];exact(uV t).alt l j _ hl hj h fun c _=>by rw[cz,ay (Ne.symm h)]
theorem NL{t l:Nat}{M:Fn}{x y:Nat->Int}(h:∀c,c<t->x c=y c):D t (upd M l x)=D t (upd M l y):=dH fun r c _ hc=>by
 unfold upd;split
 . exact h c hc
 . rfl
theorem NO{A B:Fn}{G:Rows}{t w b:Nat}{ld:Nat->Nat}(s:aO G t w ld)(r:fD G t ld)(t8:t<=9)(hA:∀i c,i<t->c<w->(A i c).natAbs<=b)(hAB:∀i c,i<t->c<w->A i c=S t fun k=>B i k*g G k c)(hB:D t B≠0):∀k c,k<t->c<w->(g G k c).natAbs<=t*(9*b)^t:=by
 have hd:D t (fun r i=>A i (ld r))≠0:=by
  have e1:D t (fun r i=>A i (ld r))=D t (fun i r=>A i (ld r)):=Ka t fun i r=>A i (ld r)
  have e2:D t (fun i r=>A i (ld r))=D t B*D t fun k r=>g G k (ld r):=by
   rw[<-La];exact dH fun i r hi hr=>hAB i _ hi (s.lead r hr).1
  rw[e1,e2,Nj fun r c hr hc h=>(s.lead r hr).2.2 _ (s.mono c r h hr)];exact Int.mul_ne_zero hB (Int.ne_of_gt (DJ fun i hi=>(s.lead i hi).2.1))
 refine N4 (v:=fun l c=>D t (upd (fun r i=>A i (ld r)) l fun i=>A i c)) s r hd (fun l hl=>?_) (fun l j hl hj=>Lq (M:=fun r i=>A i (ld r)) hl hj) fun l c hl hc=>Dw (K:=9) t8 fun r i hr hi=>?_
 . refine⟨fun k=>D t (upd (fun r i=>A i (ld r)) l fun i=>B i k),fun c hc=>?_⟩;have e:=(uV t).uH hl (fun r i=>A i (ld r)) (fun k=>g G k c) (fun k i=>B i k) t;show D t (upd (fun r i=>A i (ld r)) l fun i=>A i c)=_;rw[NL fun i hi=>(hAB i c hi hc).trans (aG fun k _=>Int.mul_comm _ _),e];exact aG fun k _=>Int.mul_comm _ _
 . unfold upd;split
   . exact hA i c hi hc
   . exact hA i _ hi (s.lead r hr).1
theorem mr.picked{A F:Rows}{N m w:Nat}{ld:Nat->Nat}(st:aO F m w ld)(same:mr A N F m w):∃(I:Nat->Nat) (B:Fn),(∀k,k<m->I k<N)/\(∀i c,i<m->c<w->g A (I i) c=S m fun k=>B i k*g F k c)/\D m B≠0:=by
 have hB:∀i,∃z:Nat->Int,i<N->∀c,c<w->g A i c=S m fun k=>z k*g F k c:=fun i=>by
  by_cases h:i<N
  . obtain⟨z,hz⟩:=same.to i h;exact⟨z,fun _=>hz⟩
  . exact⟨fun _=>0,fun z=>absurd z h⟩
 have hU:∀k,∃z:Nat->Int,k<m->∀c,c<w->g F k c=S N fun i=>z i*g A i c:=fun k=>by
  by_cases h:k<m
  . obtain⟨z,hz⟩:=same.of k h;exact⟨z,fun _=>hz⟩
  . exact⟨fun _=>0,fun z=>absurd z h⟩
 let B:Fn:=fun i=>Classical.choose (hB i)
 let U:Fn:=fun k=>Classical.choose (hU k)
 have eB:∀i,i<N->∀c,c<w->g A i c=S m fun k=>B i k*g F k c:=fun i=>Classical.choose_spec (hB i);have eU:∀k,k<m->∀c,c<w->g F k c=S N fun i=>U k i*g A i c:=fun k=>Classical.choose_spec (hU k)
 obtain⟨I,h1,h2⟩:=pick (t:=m) (N:=N) (U:=U) (B:=B) fun k l hk hl=>by
  have e1:∀c,c<w->S m (fun l=>(S N fun i=>U k i*B i l)*g F l c)=g F k c:=fun c hc=>by
   rw[eU k hk c hc]
   have:(S N fun i=>U k i*g A i c)=S N fun i=>S m fun l=>U k i*B i l*g F l c:=aG fun i hi=>by
    rw[eB i hi c hc,<-fE];exact aG fun l _=>(Int.mul_assoc _ _ _).symm
   rw[this,vd];exact aG fun l _=>(yR _ _ _).symm
  have e2:∀c,c<w->(0:Int)=S m fun l=>((S N fun i=>U k i*B i l)-dl k l)*g F l c:=fun c hc=>by
   have h1:(S m fun l=>((S N fun i=>U k i*B i l)-dl k l)*g F l c)=S m (fun l=>(S N fun i=>U k i*B i l)*g F l c)-S m fun l=>dl k l*g F l c:=by
    rw[Int.sub_eq_add_neg,<-pY,<-g4];exact aG fun l _=>by rw[Int.sub_mul,Int.sub_eq_add_neg]
   rw[h1,e1 c hc,pf hk,Int.sub_self]
  have e3:(S N fun i=>U k i*B i l)-dl k l=0:=st.gone (v:=fun _=>0) (z:=fun l=>(S N fun i=>U k i*B i l)-dl k l) (q:=w) e2 (fun _ _=>rfl) l hl (st.lead l hl).1;omega
 exact⟨I,fun i=>B (I i),h1,fun i c hi hc=>eB _ (h1 i hi) c hc,h2⟩
theorem mr.abs{A F:Rows}{N m w b:Nat}(m8:m<=8)(sF:aO F m w (ck F))(rF:fD F m (ck F))(same:mr A N F m w)(hA:∀i c,i<N->c<w->(g A i c).natAbs<=b):∀i c,i<m->c<w->(g F i c).natAbs<=m*(9*b)^m:=by
 obtain⟨I,B,h1,h2,h3⟩:=same.picked sF;exact NO (A:=fun i=>g A (I i)) sF rF (by omega) (fun i c hi hc=>hA _ c (h1 i hi) hc) h2 h3
def Ln(A:Rows)(N:Nat):Rows:=(List.range N).map fun n=>A.getD n []++i_ N n
structure N3(A F:Rows)(N w m h:Nat):Prop where
 hA:a5 N w A
 is:a5 m (w+N) F
 st:aO F m (w+N) (ck F)
 red:fD F m (ck F)
 same:mr (Ln A N) N F m (w+N)
 le:h<=m
 lo:∀i,i<h->ck F i<w
 hi:∀i,h<=i->i<m->w<=ck F i
section
variable {A F:Rows}{N w m h:Nat}(L:N3 A F N w m h)
include L
end
theorem Ek{a b a' q s t s' C:Nat}(hb:0<b)(hba:b<=a)(hq:2*(q*b)<=2*a+b)(ha':2*a'<=b)(hs:s*(a*(a*a))<=C)(ht:t*(a*(b*b))<=C)(h:s'<=s+q*t):s'*(b*(a'*a'))<=C/\2*s'<=5*C:=by
 have ha:0<a:=Nat.lt_of_lt_of_le hb hba;have e1:2*(q*b)*t<=3*a*t:=Nat.mul_le_mul_right t (by omega)
 have e2:2*(q*b)*t*(b*b)<=3*C:=by
  refine Nat.le_trans (Nat.mul_le_mul_right (b*b) e1) ?_
  have:3*a*t*(b*b)=3*(t*(a*(b*b))):=by
   rw[Nat.mul_assoc 3 a t,Nat.mul_comm a t,Nat.mul_assoc 3,Nat.mul_assoc t a]
  rw[this];exact Nat.mul_le_mul_left 3 ht
 have e3:s*(b*(b*b))<=C:=Nat.le_trans (Nat.mul_le_mul_left s (Nat.mul_le_mul hba (Nat.mul_le_mul hba hba))) hs;constructor
 . have f1:4*(a'*a')<=b*b:=by
    have:=Nat.mul_le_mul ha' ha'
    have e:2*a'*(2*a')=4*(a'*a'):=by
     rw[Nat.mul_assoc,<-Nat.mul_assoc a' 2 a',Nat.mul_comm a' 2,Nat.mul_assoc 2 a' a',<-Nat.mul_assoc]
    rwa [e]at this
   have f2:s'*(b*(b*b))<=s*(b*(b*b))+q*t*(b*(b*b)):=by
    rw[<-Nat.add_mul];exact Nat.mul_le_mul_right _ h
   have f3:2*(q*t*(b*(b*b)))=2*(q*b)*t*(b*b):=by
    rw[<-Nat.mul_assoc (q*t) b (b*b),<-Nat.mul_assoc 2,Nat.mul_right_comm q t b,<-Nat.mul_assoc 2]
   have f4:4*(s'*(b*(a'*a')))<=s'*(b*(b*b)):=by
    have e:4*(s'*(b*(a'*a')))=s'*(b*(4*(a'*a'))):=by
     rw[Nat.mul_left_comm 4 s',Nat.mul_left_comm 4 b]
    rw[e];exact Nat.mul_le_mul_left _ (Nat.mul_le_mul_left _ f1)
   omega
 . have g1:s<=C:=Nat.le_trans (Nat.le_mul_of_pos_right s (Nat.mul_pos ha (Nat.mul_pos ha ha))) hs
   have g2:q*t<=q*b*t*(b*b):=by
    have h1:q*t<=q*b*t:=by
     rw[Nat.mul_right_comm];exact Nat.le_mul_of_pos_right _ hb
    exact Nat.le_trans h1 (Nat.le_mul_of_pos_right _ (Nat.mul_pos hb hb))
   have g3:2*(q*b*t*(b*b))=2*(q*b)*t*(b*b):=by
    rw[<-Nat.mul_assoc 2,<-Nat.mul_assoc 2]
   omega
theorem EI{a b a' q cg cs:Nat}(hb:0<b)(hba:b<=a)(ha':2*a'<=b)(hq:a=q*b+a'\/q*b=a+a'):b*b*(cg*a'+(cs+q*cg)*b)<=a*a*(cg*a+cs*b):=by
 have bb:b*b<=a*a:=Nat.mul_le_mul hba hba
 have e0:cg*a'+(cs+q*cg)*b=cg*(a'+q*b)+cs*b:=by
  rw[Nat.add_mul,Nat.mul_add,Nat.mul_right_comm q cg b,Nat.mul_comm (q*b) cg];omega
 rw[e0];by_cases z:a'=0
 . subst z;have:a=q*b:=by omega
   rw[Nat.zero_add,<-this];exact Nat.mul_le_mul_right _ bb
 rcases hq with h|h
 . rw[show a'+q*b=a by omega];exact Nat.mul_le_mul_right _ bb
 have q2:2<=q:=by
  rcases Nat.lt_or_ge q 2 with y|y
  . have:q=0\/q=1:=by omega
    rcases this with rfl|rfl
    . omega
    . omega
  . exact y
 have qb:2*b<=q*b:=Nat.mul_le_mul_right b q2;have a3:3*b<=2*a:=by omega
 have sq:9*(b*b)<=4*(a*a):=by
  have:=Nat.mul_le_mul a3 a3;have e1:3*b*(3*b)=9*(b*b):=by rw[Nat.mul_assoc,Nat.mul_left_comm b 3 b,<-Nat.mul_assoc]
  have e2:2*a*(2*a)=4*(a*a):=by rw[Nat.mul_assoc,Nat.mul_left_comm a 2 a,<-Nat.mul_assoc]
  rwa [e1,e2]at this
 have key:b*b*(a'+q*b)<=a*a*a:=by
  have h1:a'+q*b<=a+b:=by omega
  have h2:b*b*(a'+q*b)<=b*b*(a+b):=Nat.mul_le_mul_left _ h1;have h3:9*(b*b)*a<=4*(a*a)*a:=Nat.mul_le_mul_right a sq;have h4:b*b*b<=b*b*a:=Nat.mul_le_mul_left _ hba;rw[Nat.mul_add (b*b) a b]at h2;rw[Nat.mul_assoc 9,Nat.mul_assoc 4]at h3;omega
 rw[Nat.mul_add (b*b),Nat.mul_add (a*a)];refine Nat.add_le_add ?_ (Nat.mul_le_mul_right _ bb);rw[Nat.mul_left_comm (b*b) cg,Nat.mul_left_comm (a*a) cg];exact Nat.mul_le_mul_left cg key
theorem vt{x y:Int}(hy:y≠0)(hxy:y.natAbs<=x.natAbs):x.natAbs=(qn x y).natAbs*y.natAbs+(x-qn x y*y).natAbs\/(qn x y).natAbs*y.natAbs=x.natAbs+(x-qn x y*y).natAbs:=by
 have h:=oY (x:=x) hy;rw[<-Int.natAbs_mul];generalize qn x y*y=z at h;omega
def Gz(X A:Rows)(N top p gm K:Nat):Prop:=∀i c,top<=i->i<N->(g X i c).natAbs*(gm*((g A i p).natAbs*(g A i p).natAbs))<=K/\2*(g X i c).natAbs<=5*K
theorem Gz.step{X A:Rows}{N w wA top p gm K k j:Nat}(hX:a5 N w X)(hA:a5 N wA A)(hk:k<N)(hj:j<N)(hkt:top<=k)(hjt:top<=j)(hj0:g A j p≠0)(hle:(g A j p).natAbs<=(g A k p).natAbs)(hgm:(g A k p).natAbs<=gm)(h:Gz X A N top p gm K):Gz (aN X k (qn (g A k p) (g A j p)) j) (aN A k (qn (g A k p) (g A j p)) j) N top p (g A j p).natAbs K:=fun i c hi hN=>by
 by_cases hik:i=k
 . rw[hik,cF hX hk hj,if_pos rfl,cF hA hk hj,if_pos rfl];have r:=oY (x:=g A k p) hj0
   have q2:2*((qn (g A k p) (g A j p)).natAbs*(g A j p).natAbs)<=2*(g A k p).natAbs+(g A j p).natAbs:=by
    rcases vt hj0 hle with z|z<;>omega
   refine Ek (by omega) hle q2 r (Nat.le_trans (Nat.mul_le_mul_left _ (Nat.mul_le_mul_right _ hgm)) (h k c hkt hk).1) (Nat.le_trans (Nat.mul_le_mul_left _ (Nat.mul_le_mul_right _ hgm)) (h j c hjt hj).1) ?_;have h1:=Int.natAbs_sub_le (g X k c) (qn (g A k p) (g A j p)*g X j c);rw[Int.natAbs_mul]at h1;exact h1
 . rw[cF hX hk hj,if_neg hik,cF hA hk hj,if_neg hik];exact⟨Nat.le_trans (Nat.mul_le_mul_left _ (Nat.mul_le_mul_right _ (Nat.le_trans hle hgm))) (h i c hi hN).1,(h i c hi hN).2⟩
theorem yH{f f':Nat->Nat}{k:Nat}(h:∀i,i≠k->f' i=f i):∀ {n:Nat},k<n->SU f' n+f k=SU f n+f' k
 |0,hk=>absurd hk (Nat.not_lt_zero _)
 |n+1,hk=>by
  show SU f' n+f' n+f k=SU f n+f n+f' k;by_cases e:k=n
  . subst e;have:SU f' k=SU f k:=Nat.le_antisymm (xT fun i hi=>by rw[h i (by omega)];exact Nat.le_refl _) (xT fun i hi=>by rw[h i (by omega)];exact Nat.le_refl _);omega
  . have:=yH h (n:=n) (by omega);have:=h n (by omega);omega
theorem CM{f f':Nat->Nat}{j k n:Nat}(hj:j<n)(hk:k<n)(hjk:j≠k)(h:∀i,i≠j->i≠k->f' i=f i):SU f' n+(f j+f k)=SU f n+(f' j+f' k):=by
 have h1:=yH (f:=f) (f':=fun i=>if i=j then f' j else f i) (k:=j) (fun i hi=>if_neg hi) hj
 have h2:=yH (f:=fun i=>if i=j then f' j else f i) (f':=f') (k:=k) (fun i hi=>by
  by_cases z:i=j
  . rw[if_pos z,z]
  . rw[if_neg z];exact h i z hi) hk
 rw[if_pos rfl]at h1;rw[if_neg (Ne.symm hjk)]at h2;omega
theorem F1{f:Nat->Nat}{k:Nat}:∀ {n:Nat},k<n->f k<=SU f n
 |0,hk=>absurd hk (Nat.not_lt_zero _)
 |n+1,hk=>by
  show f k<=SU f n+f n;by_cases e:k=n
  . subst e;omega
  . have:=F1 (f:=f) (k:=k) (n:=n) (by omega);omega
def Fc(C A:Rows)(top p c i:Nat):Nat:=if top<=i then(g C i c).natAbs*(g A i p).natAbs else 0
structure Sc(C A:Rows)(N top p gm K:Nat):Prop where
 sum:∀c,gm*gm*SU (Fc C A top p c) N<=K
 all:∀i c,top<=i->i<N->(g C i c).natAbs<=K
theorem Sc.step{C A:Rows}{N w wA top p gm K k j:Nat}(hC:a5 N w C)(hA:a5 N wA A)(hk:k<N)(hj:j<N)(hkt:top<=k)(hjt:top<=j)(hjk:j≠k)(hj0:g A j p≠0)(hle:(g A j p).natAbs<=(g A k p).natAbs)(hgm:(g A k p).natAbs<=gm)(h:Sc C A N top p gm K):Sc (aN C j (-(qn (g A k p) (g A j p))) k) (aN A k (qn (g A k p) (g A j p)) j) N top p (g A j p).natAbs K:=by
 have r:=oY (x:=g A k p) hj0;have side:=vt hj0 hle;have b0:0<(g A j p).natAbs:=by omega
 have gC:∀i c,g (aN C j (-(qn (g A k p) (g A j p))) k) i c=if i=j then g C j c- -(qn (g A k p) (g A j p))*g C k c else g C i c:=fun i c=>cF hC hj hk i c
 have gA:∀i c,g (aN A k (qn (g A k p) (g A j p)) j) i c=if i=k then g A k c-qn (g A k p) (g A j p)*g A j c else g A i c:=fun i c=>cF hA hk hj i c
 have sum:∀c,(g A j p).natAbs*(g A j p).natAbs*SU (Fc (aN C j (-(qn (g A k p) (g A j p))) k) (aN A k (qn (g A k p) (g A j p)) j) top p c) N<=K:=fun c=>by
  have k1:Fc (aN C j (-(qn (g A k p) (g A j p))) k) (aN A k (qn (g A k p) (g A j p)) j) top p c k=(g C k c).natAbs*(g A k p-qn (g A k p) (g A j p)*g A j p).natAbs:=by
   unfold Fc;rw[if_pos hkt,gC,if_neg (Ne.symm hjk),gA,if_pos rfl]
  have j1:Fc (aN C j (-(qn (g A k p) (g A j p))) k) (aN A k (qn (g A k p) (g A j p)) j) top p c j<=((g C j c).natAbs+(qn (g A k p) (g A j p)).natAbs*(g C k c).natAbs)*(g A j p).natAbs:=by
   unfold Fc;rw[if_pos hjt,gC,if_pos rfl,gA,if_neg hjk];refine Nat.mul_le_mul_right _ ?_;have h1:=Int.natAbs_sub_le (g C j c) (-(qn (g A k p) (g A j p))*g C k c);rw[Int.natAbs_mul,Int.natAbs_neg]at h1;exact h1
  have k0:Fc C A top p c k=(g C k c).natAbs*(g A k p).natAbs:=by unfold Fc;rw[if_pos hkt]
  have j0:Fc C A top p c j=(g C j c).natAbs*(g A j p).natAbs:=by unfold Fc;rw[if_pos hjt]
  have same:∀i,i≠j->i≠k->Fc (aN C j (-(qn (g A k p) (g A j p))) k) (aN A k (qn (g A k p) (g A j p)) j) top p c i=Fc C A top p c i:=fun i h1 h2=>by
   unfold Fc;rw[gC,if_neg h1,gA,if_neg h2]
  have main:=EI (cg:=(g C k c).natAbs) (cs:=(g C j c).natAbs) b0 hle r side;have H:=h.sum c;generalize Fc (aN C j (-(qn (g A k p) (g A j p))) k) (aN A k (qn (g A k p) (g A j p)) j) top p c=f' at k1 j1 same;generalize Fc C A top p c=f at k0 j0 same H;have t1:=CM (f:=fun i=>if i=j\/i=k then 0 else f i) (f':=f) hj hk hjk fun i h1 h2=>(if_neg (by omega)).symm;have t2:=CM (f:=fun i=>if i=j\/i=k then 0 else f i) (f':=f') hj hk hjk fun i h1 h2=>(same i h1 h2).trans (if_neg (by omega)).symm;rw[if_pos (.inl rfl),if_pos (.inr rfl)]at t1 t2;generalize SU (fun i=>if i=j\/i=k then 0 else f i) N=R at t1 t2;have e1:SU f' N=R+(f' k+f' j):=by omega
  have e2:SU f N=R+(f k+f j):=by omega
  rw[e2,k0,j0]at H;rw[e1];refine Nat.le_trans ?_ H;have bg:(g A j p).natAbs*(g A j p).natAbs<=gm*gm:=Nat.mul_le_mul (Nat.le_trans hle hgm) (Nat.le_trans hle hgm);have ag:(g A k p).natAbs*(g A k p).natAbs<=gm*gm:=Nat.mul_le_mul hgm hgm;rw[Nat.mul_add _ R,Nat.mul_add (gm*gm) R];refine Nat.add_le_add (Nat.mul_le_mul_right _ bg) ?_;refine Nat.le_trans (Nat.mul_le_mul_left _ (Nat.add_le_add (Nat.le_of_eq k1) j1)) (Nat.le_trans main (Nat.mul_le_mul_right _ ag))
 refine⟨sum,fun i c hi hN=>?_⟩;by_cases hij:i=j
 . rw[hij];refine Nat.le_trans ?_ (sum c)
   have h1:Fc (aN C j (-(qn (g A k p) (g A j p))) k) (aN A k (qn (g A k p) (g A j p)) j) top p c j=(g (aN C j (-(qn (g A k p) (g A j p))) k) j c).natAbs*(g A j p).natAbs:=by
    unfold Fc;rw[if_pos hjt,gA,if_neg hjk]
   have h2:=F1 (f:=Fc (aN C j (-(qn (g A k p) (g A j p))) k) (aN A k (qn (g A k p) (g A j p)) j) top p c) hj;rw[h1]at h2;refine Nat.le_trans (Nat.le_trans (Nat.le_mul_of_pos_right _ b0) h2) (Nat.le_mul_of_pos_left _ (Nat.mul_pos b0 b0))
 . rw[gC,if_neg hij];exact h.all i c hi hN
structure Gb(A0:Rows)(N w top p K KC gm:Nat)(b0 b:B3):Prop where
 tn:Tn A0 b.A b.U b.C N w
 up:∀i,i<top->b.A.getD i []=b0.A.getD i []/\b.U.getD i []=b0.U.getD i []/\b.C.getD i []=b0.C.getD i []
 mx:∀i,top<=i->i<N->(g b.A i p).natAbs<=gm
 sA:Gz b.A b.A N top p gm K
 sU:Gz b.U b.A N top p gm K
 sC:Sc b.C b.A N top p gm KC
 zs:∀i c,top<=i->i<N->c<p->g b.A i c=0
 Mp:b=b0\/∃j,top<=j/\j<N/\g b.A j p≠0
theorem Gb.step{A0:Rows}{N w top p K KC gm:Nat}{b0 b:B3}{L:List Nat}{k j:Nat}(G:Gb A0 N w top p K KC gm b0 b)(hL:fg b.A N top p (L++[j,k])):
 Gb A0 N w top p K KC (g b.A j p).natAbs b0 (mv b p k j)/\(g (mv b p k j).A k p).natAbs<(g b.A k p).natAbs/\(∀i,i≠k->g (mv b p k j).A i p=g b.A i p)/\top<=k/\k<N/\top<=j/\j<N/\j≠k/\g b.A j p≠0/\(qn (g b.A k p) (g b.A j p)).natAbs<=2*(g b.A k p).natAbs:=by
 obtain⟨hk1,hk2,hk3⟩:=(hL.mem k).mp (by simp);obtain⟨hj1,hj2,hj3⟩:=(hL.mem j).mp (by simp);have hord:=hL.ord;rw[List.pairwise_append]at hord;have o2:=(List.pairwise_cons.mp hord.2.1).1 k (by simp);have hjk:j≠k:=by intro z;subst z;omega
 have hle:(g b.A j p).natAbs<=(g b.A k p).natAbs:=by omega
 have hgm:=G.mx k hk1 hk2
 have gk:g (mv b p k j).A k p=g b.A k p-qn (g b.A k p) (g b.A j p)*g b.A j p:=by
  show g (aN b.A k _ j) k p=_;rw[cF G.tn.isA hk2 hj2,if_pos rfl]
 have gi:∀i,i≠k->g (mv b p k j).A i p=g b.A i p:=fun i hi=>by
  show g (aN b.A k _ j) i p=_;rw[cF G.tn.isA hk2 hj2,if_neg hi]
 have hrest:=oY (x:=g b.A k p) hj3;refine⟨⟨G.tn.take hk2 hj2 hjk,fun i hi=>?_,fun i h1 h2=>?_,G.sA.step G.tn.isA G.tn.isA hk2 hj2 hk1 hj1 hj3 hle hgm,G.sU.step G.tn.fL G.tn.isA hk2 hj2 hk1 hj1 hj3 hle hgm,G.sC.step G.tn.gE G.tn.isA hk2 hj2 hk1 hj1 hjk hj3 hle hgm,fun i c hi hN hc=>?_,.inr ⟨j,hj1,hj2,by rw[gi j hjk];exact hj3⟩⟩,?_,gi,hk1,hk2,hj1,hj2,hjk,hj3,?_⟩
 . obtain⟨a1,a2,a3⟩:=G.up i hi;refine⟨(jW (by rw[G.tn.isA.len];exact hk2) (by omega)).trans a1,(jW (by rw[G.tn.fL.len];exact hk2) (by omega)).trans a2,(jW (by rw[G.tn.gE.len];exact hj2) (by omega)).trans a3⟩
 . by_cases h:i=k
   . rw[h,gk];omega
   . rw[gi i h];by_cases z:g b.A i p=0
     . rw[z];exact Nat.zero_le _
     . have m:=(hL.mem i).mpr ⟨h1,h2,z⟩;rcases List.mem_append.mp m with y|y
       . have:=hord.2.2 i y j (by simp);omega
       . rcases List.mem_cons.mp y with y|y
         . rw[y];exact Nat.le_refl _
         . exact absurd (List.mem_singleton.mp y) h
 . show g (aN b.A k _ j) i c=0;rw[cF G.tn.isA hk2 hj2];by_cases h:i=k
   . rw[if_pos h,G.zs k c hk1 hk2 hc,G.zs j c hj1 hj2 hc,Int.mul_zero];rfl
   . rw[if_neg h];exact G.zs i c hi hN hc
 . rw[gk];omega
 . have b1:1<=(g b.A j p).natAbs:=by omega
   have:=Nat.mul_le_mul_left (qn (g b.A k p) (g b.A j p)).natAbs b1;rcases vt hj3 hle with z|z<;>omega
theorem FJ{f:Nat->Nat}{M:Nat}:∀ {n:Nat},(∀i,i<n->f i<=M)->SU f n<=n*M
 |0,_=>Nat.zero_le _
 |n+1,h=>by
  have h1:=FJ (n:=n) fun i hi=>h i (Nat.lt_succ_of_lt hi);have h2:=h n (Nat.lt_succ_self n);rw[Nat.succ_mul];exact Nat.add_le_add h1 h2
theorem Gb.start{A0:Rows}{N w top p e u v:Nat}{b:B3}{ld:Nat->Nat}(S:iy A0 N w b top p ld e u v):Gb A0 N w top p (2^(4*e)) (N*2^(4*e)) (2^e) b b:=by
 obtain⟨lA,lU,lC⟩:=S.lo
 have e4:2^e*(2^e*(2^e*2^e))=2^(4*e):=by
  rw[<-Nat.pow_add,<-Nat.pow_add,<-Nat.pow_add];congr 1;omega
 have e1:2^e<=2^(4*e):=Nat.pow_le_pow_right (by decide) (by omega)
 have gz:∀X:Rows,fu X N top (2^e)->Gz X b.A N top p (2^e) (2^(4*e)):=fun X h i c hi hN=>by
  have h1:=h i c hi hN;have h2:=lA i p hi hN;refine⟨?_,by omega⟩;rw[<-e4];exact Nat.mul_le_mul h1 (Nat.mul_le_mul_left _ (Nat.mul_le_mul h2 h2))
 refine⟨S.tn,fun _ _=>⟨rfl,rfl,rfl⟩,fun i hi hN=>lA i p hi hN,gz _ lA,gz _ lU,⟨fun c=>?_,fun i c hi hN=>?_⟩,S.zs,.inl rfl⟩
 . have h1:SU (Fc b.C b.A top p c) N<=N*(2^e*2^e):=FJ fun i hi=>by
    unfold Fc;by_cases h:top<=i
    . rw[if_pos h];exact Nat.mul_le_mul (lC i c h hi) (lA i p h hi)
    . rw[if_neg h];exact Nat.zero_le _
   refine Nat.le_trans (Nat.mul_le_mul_left _ h1) ?_;rw[Nat.mul_left_comm,Nat.mul_assoc,e4];exact Nat.le_refl _
 . refine Nat.le_trans (lC i c hi hN) (Nat.le_trans e1 ?_);exact Nat.le_mul_of_pos_left _ (by omega)
theorem Gb.low{A0:Rows}{N w top p e gm:Nat}{b0 b:B3}(G:Gb A0 N w top p (2^(4*e)) (N*2^(4*e)) gm b0 b)(hN:N<=16):fu b.A N top (2^(4*e+4))/\fu b.U N top (2^(4*e+4))/\fu b.C N top (2^(4*e+4)):=by
 have e4:2^(4*e+4)=16*2^(4*e):=by rw[Nat.pow_add,Nat.mul_comm]
 rw[e4];refine⟨fun i c hi h=>?_,fun i c hi h=>?_,fun i c hi h=>?_⟩
 . have:=(G.sA i c hi h).2;omega
 . have:=(G.sU i c hi h).2;omega
 . exact Nat.le_trans (G.sC.all i c hi h) (Nat.mul_le_mul_right _ hN)
theorem Gb.set{A0:Rows}{N w top p K KC gm m r:Nat}{b0 b:B3}(G:Gb A0 N w top p K KC gm b0 b)(lw:fu b.A N top m/\fu b.U N top m/\fu b.C N top m)(hL:fg b.A N top p [r]):tT A0 N w top p m b0 (setB b p top r)/\top<=r/\r<N:=by
 obtain⟨hr1,hr2,hr3⟩:=(hL.mem r).mp (by simp);have ht:top<N:=by omega
 have z:∀i,top<=i->i<N->i≠r->g b.A i p=0:=fun i h1 h2 h3=>Classical.byContradiction fun y=>h3 (by simpa using(hL.mem i).mpr ⟨h1,h2,y⟩);have swg:∀i c,g (bh b.A top r) i c=g b.A (sw top r i) c:=fun i c=>ja G.tn.isA ht hr2 i c;have gt:g (bh b.A top r) top p=g b.A r p:=by rw[swg];unfold sw;rw[if_pos rfl]
 have T1:=G.tn.Gs ht hr2
 have z1:∀i,top<i->i<N->g (bh b.A top r) i p=0:=fun i h1 h2=>by
  rw[swg];unfold sw;rw[if_neg (by omega)];by_cases h:i=r
  . rw[if_pos h];exact z top (Nat.le_refl _) ht (by omega)
  . rw[if_neg h];exact z i (by omega) h2 h
 have zs:∀i c,top<=i->i<N->c<p->g (bh b.A top r) i c=0:=fun i c h1 h2 h3=>by
  rw[swg];refine G.zs _ c ?_ (qp ht hr2 h2) h3;unfold sw;split
  . exact hr1
  . split
    . exact Nat.le_refl _
    . exact h1
 have up:∀i,i<top->(bh b.A top r).getD i []=b0.A.getD i []/\(bh b.U top r).getD i []=b0.U.getD i []/\(bh b.C top r).getD i []=b0.C.getD i []:=fun i hi=>by
  obtain⟨a1,a2,a3⟩:=G.up i hi;exact⟨(ud G.tn.isA ht hr2 hr1 hi).trans a1,(ud G.tn.fL ht hr2 hr1 hi).trans a2,(ud G.tn.gE ht hr2 hr1 hi).trans a3⟩
 have lo:=And.intro (tJ G.tn.isA ht hr2 hr1 lw.1) (And.intro (tJ G.tn.fL ht hr2 hr1 lw.2.1) (tJ G.tn.gE ht hr2 hr1 lw.2.2));refine⟨?_,hr1,hr2⟩;unfold setB;by_cases hs:g (bh b.A top r) top p<0
 . rw[if_pos hs];refine⟨T1.neg ht,fun i hi=>?_,⟨yb T1.isA ht lo.1,yb T1.fL ht lo.2.1,yb T1.gE ht lo.2.2⟩,fun i c h1 h2 h3=>?_,?_,fun i h1 h2=>?_⟩
   . obtain⟨a1,a2,a3⟩:=up i hi;exact⟨(zw T1.isA ht hi).trans a1,(zw T1.fL ht hi).trans a2,(zw T1.gE ht hi).trans a3⟩
   . show g (fj (bh b.A top r) top) i c=0;rw[fX T1.isA ht];split
     . rw[zs top c (Nat.le_refl _) ht h3];rfl
     . exact zs i c h1 h2 h3
   . show 0<g (fj (bh b.A top r) top) top p;rw[fX T1.isA ht,if_pos rfl];omega
   . show g (fj (bh b.A top r) top) i p=0;rw[fX T1.isA ht,if_neg (by omega)];exact z1 i h1 h2
 . rw[if_neg hs];exact⟨T1,up,lo,zs,by show 0<g (bh b.A top r) top p;rw[gt]at hs⊢;omega,z1⟩
def Ey(e0:Nat):Nat->Nat
 |0=>e0
 |t+1=>4*Ey e0 t+4
def Uy(e0:Nat):Nat->Nat
 |0=>0
 |t+1=>Uy e0 t+Ey e0 (t+1)+1
def Cy(e0:Nat):Nat->Nat
 |0=>0
 |t+1=>Uy e0 t+Cy e0 t+Ey e0 (t+1)+4
def Ry(N w e0:Nat):Prop:=∀t,t<N->t<w->Ey e0 (t+1)<60000000/\Uy e0 t+Ey e0 (t+1)<=120000000/\Uy e0 t+Cy e0 t<=120000000
instance (N w e0:Nat):Decidable (Ry N w e0):=by
 unfold Ry;exact decidable_of_iff (∀t,t<N->t<w->(Ey e0 (t+1)<60000000/\Uy e0 t+Ey e0 (t+1)<=120000000/\Uy e0 t+Cy e0 t<=120000000)) Iff.rfl
theorem tT.LU{A0:Rows}{N w top p e u v e' u' v':Nat}{b0 b c:B3}{ld:Nat->Nat}(S:iy A0 N w b0 top p ld e u v)(s:tT A0 N w top p (2^e') b0 b)(ht:top<N)(I:ly A0 N w top p e' u v b top c)(hN:top<=16)
 (h1:u+e'+1<=u') (h2:u+v+5<=v') (h9:e'+1<=v'):iy A0 N w c (top+1) (p+1) (fun i=>if i=top then p else ld i) e' u' v':=by
 have hup:∀i q,i<top->g b.A i q=g b0.A i q:=fun i q hi=>by unfold g;rw[(s.up i hi).1]
 have hA:∀i q,top<=i->g c.A i q=g b.A i q:=fun i q hi=>by unfold g;rw[(I.rA i hi).1]
 have hU:∀i q,top<=i->g c.U i q=g b.U i q:=fun i q hi=>by unfold g;rw[(I.rA i hi).2]
 have hC:∀i q,i≠top->g c.C i q=g b.C i q:=fun i q hi=>by unfold g;rw[I.rC i hi]
 have le:∀ {a x:Nat},a<=2^x->x<=u'->a<=2^u':=fun h hx=>Nat.le_trans h (Nat.pow_le_pow_right (by decide) hx);refine⟨I.tn,ht,⟨fun i q hi hN=>?_,fun i q hi hN=>?_,fun i q hi hN=>?_⟩,fun i q hi=>?_,fun i q hi hN hq=>?_,fun i hi=>?_,fun i j hij hj=>?_,fun i j hij hj=>?_⟩
 . rw[hA i q (by omega)];exact s.lo.1 i q (by omega) hN
 . rw[hU i q (by omega)];exact s.lo.2.1 i q (by omega) hN
 . rw[hC i q (by omega)];exact s.lo.2.2 i q (by omega) hN
 . by_cases h:i=top
   . subst h;refine⟨?_,?_,?_⟩
     . rw[hA i q (Nat.le_refl _)];exact le (s.lo.1 i q (Nat.le_refl _) ht) (by omega)
     . rw[hU i q (Nat.le_refl _)];exact le (s.lo.2.1 i q (Nat.le_refl _) ht) (by omega)
     . have h3:=I.sC q;have h4:i*2^(u+v)<=2^(u+v+4):=by rw[Nat.pow_add _ _ 4,Nat.mul_comm];exact Nat.mul_le_mul_left _ (by omega)
       have h5:2^(u+v+4)*2<=2^v':=by rw[<-Nat.pow_succ];exact Nat.pow_le_pow_right (by decide) h2
       have h6:2^e'*2<=2^v':=by rw[<-Nat.pow_succ];exact Nat.pow_le_pow_right (by decide) h9
       omega
   . have hi':i<top:=by omega
     refine⟨le (I.sz i q hi').1 h1,le (I.sz i q hi').2 h1,?_⟩;rw[hC i q h];have:g b.C i q=g b0.C i q:=by unfold g;rw[(s.up i hi').2.2]
     rw[this];exact Nat.le_trans (S.hi i q hi').2.2 (Nat.pow_le_pow_right (by decide) (by omega))
 . rw[hA i q (by omega)];by_cases h:q=p
   . rw[h];exact s.z1 i (by omega) hN
   . exact s.zs i q (by omega) hN (by omega)
 . by_cases h:i=top
   . subst h;rw[if_pos rfl];refine⟨Nat.lt_succ_self p,?_,fun q hq=>?_⟩
     . rw[hA i p (Nat.le_refl _)];exact s.tp
     . rw[hA i q (Nat.le_refl _)];exact s.zs i q (Nat.le_refl _) ht hq
   . have hi':i<top:=by omega
     rw[if_neg h];obtain⟨a1,a2,a3⟩:=S.lead i hi';refine⟨Nat.lt_succ_of_lt a1,?_,fun q hq=>?_⟩
     . rw[I.ah i _ hi' a1,hup i _ hi'];exact a2
     . rw[I.ah i _ hi' (Nat.lt_trans hq a1),hup i _ hi'];exact a3 q hq
 . by_cases h:j=top
   . rw[if_pos h,if_neg (by omega)];exact(S.lead i (by omega)).1
   . rw[if_neg h,if_neg (by omega)];exact S.mono i j hij (by omega)
 . by_cases h:j=top
   . subst h;rw[if_pos rfl];exact I.rd i hij
   . have hj':j<top:=by omega
     rw[if_neg h];have:=S.red i j hij hj';have hl:=(S.lead j hj').1;rw[I.ah i _ (by omega) hl,I.ah j _ hj' hl,hup i _ (by omega),hup j _ hj'];exact this
def Cx(e0:Nat):Nat->Nat
 |0=>0
 |t+1=>Uy e0 t+Cx e0 t+Ey e0 (t+1)+5
theorem dR.gb{A0:Rows}{N w top p K KC:Nat}{b0 b c:B3}(h:dR N top p b c):∀ {gm:Nat},Gb A0 N w top p K KC gm b0 b->∃gm',Gb A0 N w top p K KC gm' b0 c:=by
 induction h with
 |refl b=>exact fun G=>⟨_,G⟩
 |head s _ ih=>
  intro gm G;obtain⟨L,k,j,hL,rfl⟩:=s;exact ih (G.step hL).1
theorem iy.Fl{A0:Rows}{N w t p e u v r:Nat}{b c:B3}{ld:Nat->Nat}(S:iy A0 N w b t p ld e u v)(hN:N<=16)(hp:p<w)(h:dR N t p b c)(l:fg c.A N t p [r]):
 tT A0 N w t p (2^(4*e+4)) b (setB c p t r)/\t<N/\∀k,k<=t->ly A0 N w t p (4*e+4) u v (setB c p t r) k (fk p t k (setB c p t r)):=by
 obtain⟨gm,G⟩:=h.gb (Gb.start S);obtain⟨s1,h1,h2⟩:=G.set (G.low hN) l;have ht:t<N:=Nat.lt_of_le_of_lt h1 h2;refine⟨s1,ht,fun k=>?_⟩;induction k with
 |zero=>exact fun _=>ly.start s1.tn fun q=>s1.lo.2.2 t q (Nat.le_refl _) ht
 |succ k ih=>
  intro hk;refine(ih (Nat.le_of_lt hk)).step hk ht hp s1.tp (fun q hq=>s1.zs t q (Nat.le_refl _) ht hq) (fun q=>⟨s1.lo.1 t q (Nat.le_refl _) ht,s1.lo.2.1 t q (Nat.le_refl _) ht⟩) fun i q hi=>?_;obtain⟨a1,a2,a3⟩:=s1.GB hi q;rw[a1,a2,a3];exact S.hi i q hi
theorem jr.str{A:Rows}{N w e0:Nat}(hA:a5 N w A)(hlo:fu A N 0 (2^e0))(hN:N<=16){p t:Nat}{b:B3}(h:jr A N p t b):p<=w->∃ld,iy A N w b t p ld (Ey e0 t) (Uy e0 t) (Cx e0 t):=by
 induction h with
 |start=>exact fun _=>⟨_,iy.start hA hlo⟩
 |next _ c ih=>
  intro hp;obtain⟨ld,S⟩:=ih (Nat.le_of_lt hp);cases c with
  |none l=>exact⟨ld,S.skip l⟩
  |one g l=>
   obtain⟨s1,ht,I⟩:=S.Fl hN hp g l;exact⟨_,tT.LU (e':=Ey e0 (_+1)) (u':=Uy e0 (_+1)) (v':=Cx e0 (_+1)) S s1 ht (I _ (Nat.le_refl _)) (by omega) (Nat.le_refl _) (by show _<=Uy e0 _+Cx e0 _+Ey e0 (_+1)+5;omega) (by show _<=Uy e0 _+Cx e0 _+Ey e0 (_+1)+5;omega)⟩
theorem iy.Mi{A0:Rows}{N w t p e u v z:Nat}{b:B3}{ld:Nat->Nat}(S:iy A0 N w b t p ld e u v)(hp:p<w)(hN:N<=16)(hu:u<=z)(hv:v<=z)(hz:t<N->u+v+(4*e+4)+6<=z):u_ N p t z b:=by
 have up:∀ {a x:Nat},a<=2^x->x<=z->a<=2^z:=fun h hx=>Nat.le_trans h (Nat.pow_le_pow_right (by decide) hx);refine⟨fun c h i q hi=>?_,fun c r k h l hk i q hi=>?_⟩
 . obtain⟨gm,G⟩:=h.gb (Gb.start S);by_cases ht:i<t
   . obtain⟨a1,a2,a3⟩:=G.up i ht;have:=S.hi i q ht;unfold g at this⊢;rw[a1,a2,a3];exact⟨up this.1 hu,up this.2.1 hu,up this.2.2 hv⟩
   . have ht':=Nat.le_of_not_lt ht;have hz:=hz (by omega);have w1:=G.low hN;exact⟨up (w1.1 i q ht' hi) (by omega),up (w1.2.1 i q ht' hi) (by omega),up (w1.2.2 i q ht' hi) (by omega)⟩
 . obtain⟨s,ht,I'⟩:=S.Fl hN hp h l;have hz9:=hz ht;have I:=I' k hk
   have aA:(g (fk p t k (setB c p t r)).A i q).natAbs<=2^z/\(g (fk p t k (setB c p t r)).U i q).natAbs<=2^z:=by
    by_cases hik:i<k
    . exact⟨up (I.sz i q hik).1 (by omega),up (I.sz i q hik).2 (by omega)⟩
    . obtain⟨b1,b2⟩:=I.rA i (Nat.le_of_not_lt hik);unfold g;rw[b1,b2];by_cases hit:i<t
      . obtain⟨a1,a2,a3⟩:=s.GB hit q;have:=S.hi i q hit;rw[<-a1,<-a2]at this;exact⟨up this.1 hu,up this.2.1 hu⟩
      . have hit':=Nat.le_of_not_lt hit;exact⟨up (s.lo.1 i q hit' hi) (by omega),up (s.lo.2.1 i q hit' hi) (by omega)⟩
   refine⟨aA.1,aA.2,?_⟩;by_cases hit:i=t
   . subst hit;refine Nat.le_trans (I.sC q) ?_;have f1:2^(4*e+4)<=2^(u+v+(4*e+4)):=Nat.pow_le_pow_right (by decide) (by omega);have f2:k*2^(u+v)<=16*2^(u+v+(4*e+4)):=Nat.mul_le_mul (by omega) (Nat.pow_le_pow_right (by decide) (by omega));have f3:2^(u+v+(4*e+4)+6)<=2^z:=Nat.pow_le_pow_right (by decide) hz9;rw[Nat.pow_add _ _ 6]at f3;omega
   . have:=I.rC i hit;unfold g;rw[this];by_cases hlt:i<t
     . have a:=(s.GB hlt q).2.2;have:=(S.hi i q hlt).2.2;rw[<-a]at this;exact up this hv
     . exact up (s.lo.2.2 i q (Nat.le_of_not_lt hlt) hi) (by omega)
theorem Mj:∀t,t<9->Uy 200 t<=60000000/\Cx 200 t<=60000000/\(t<8->Uy 200 t+Cx 200 t+(4*Ey 200 t+4)+6<=60000000):=by decide+kernel
theorem jr.DY{A:Rows}{N w:Nat}(hA:a5 N w A)(hlo:fu A N 0 (2^200))(hN:N<=8){p t:Nat}{b:B3}(hp:p<w)(h:jr A N p t b):u_ N p t 60000000 b:=by
 obtain⟨ld,S⟩:=h.str hA hlo (by omega) (Nat.le_of_lt hp);have le:=S.le;obtain⟨h1,h2,h3⟩:=Mj t (by omega);exact S.Mi hp (by omega) h1 h2 fun h=>h3 (by omega)
def md(n w:Nat)(f:Nat->Nat->Int):Rows:=(List.range n).map fun i=>(List.range w).map (f i)
theorem bN{n w:Nat}{f:Nat->Nat->Int}:a5 n w (md n w f):=⟨by simp[md],fun r hr=>by
 obtain⟨i,_,rfl⟩:=List.mem_map.mp hr;simp⟩
theorem d6{n w i c:Nat}{f:Nat->Nat->Int}(hi:i<n)(hc:c<w):g (md n w f) i c=f i c:=by
 have h1:(md n w f).getD i []=(List.range w).map (f i):=by
  unfold md;rw[bJ (by simpa using hi),List.getElem_map,List.getElem_range]
 unfold g;rw[h1,bJ (by simpa using hc),List.getElem_map,List.getElem_range]
theorem vn{n w M:Nat}{f:Nat->Nat->Int}(h:∀i c,i<n->c<w->(f i c).natAbs<=M)(i c:Nat)(hi:i<n):(g (md n w f) i c).natAbs<=M:=by
 by_cases hc:c<w
 . rw[d6 hi hc];exact h i c hi hc
 . unfold g;rw[kB (by rw[cA bN hi];omega)];exact Nat.zero_le _
theorem qR{A:Rows}{N w k j:Nat}{q:Int}(hA:a5 N w A)(hk:k<N)(hj:j<N)(hq:q=0):aN A k q j=A:=by
 subst hq;refine(gf hA hk hj).ext hA fun i c _ _=>?_;rw[cF hA hk hj];split
 . rename_i h;rw[h,Int.zero_mul,Int.sub_zero]
 . rfl
theorem i9{A:Rows}{N w k:Nat}(hA:a5 N w A)(hk:k<N):bh A k k=A:=
 (pX hA hk hk).ext hA fun i c _ _=>by rw[ja hA hk hk,AB]
section
variable (F:Rows)(m w t s:Nat)
def ni(i c:Nat):Int:=
 if i<m then(if c<w then g F i c else if i<s then 0 else g F i (c-w))
 else if c<w then(if i-m<t then 0 else g F (i-m) c)
 else if i-m<s then g F (i-m) (c-w)else if i-m<t then-g F (i-m) (c-w)else 0
def wo(i c:Nat):Int:=
 if i<m then(if i<s then dl (m+i) c else dl i c)
 else if i-m<s then dl (i-m) c-dl i c else if i-m<t then dl i c-dl (i-m) c else dl i c
def w9(i c:Nat):Int:=
 if i<m then(if i<t then dl i c+dl (m+i) c else dl i c)
 else if i-m<s then dl (i-m) c else dl i c
def tw:B3:=⟨md (m+m) (w+w) (ni F m w t s),md (m+m) (m+m) (wo m t s),md (m+m) (m+m) (w9 m t s)⟩
end
section
variable {F:Rows}{m w t s:Nat}{ld:Nat->Nat}
theorem tO{i c:Nat}(hi:i<m+m)(hc:c<w+w):g (tw F m w t s).A i c=ni F m w t s i c:=d6 hi hc
theorem EY:tw F m w 0 0=⟨md (m+m) (w+w) (ni F m w 0 0),units (m+m),units (m+m)⟩:=by
 unfold tw
 have h1:md (m+m) (m+m) (wo m 0 0)=units (m+m):=bN.ext (nh _) fun i c hi hc=>by
  rw[d6 hi hc,iQ hi hc];simp[wo]
 have h2:md (m+m) (m+m) (w9 m 0 0)=units (m+m):=bN.ext (nh _) fun i c hi hc=>by
  rw[d6 hi hc,iQ hi hc];simp[w9]
 rw[h1,h2]
theorem aO.z(S:aO F m w ld){i c:Nat}(hi:i<m)(hc:c<ld i):g F i c=0:=(S.lead i hi).2.2 c hc
theorem HG(ht:t<m)(hx:0<g F t (ld t))(lw:ld t<w):mv (tw F m w t 0) (ld t) (m+t) t=tw F m w (t+1) 0:=by
 have e1:g (tw F m w t 0).A (m+t) (ld t)=g F t (ld t):=by
  rw[tO (by omega) (by omega)];unfold ni;rw[if_neg (by omega),if_pos lw,if_neg (by omega),Nat.add_sub_cancel_left]
 have e2:g (tw F m w t 0).A t (ld t)=g F t (ld t):=by
  rw[tO (by omega) (by omega)];unfold ni;rw[if_pos ht,if_pos lw]
 have eq:qn (g F t (ld t)) (g F t (ld t))=1:=by
  unfold qn;rw[Int.fdiv_eq_ediv_of_nonneg _ (by omega)];generalize g F t (ld t)=x at hx;have:2*x+x=x+1*(2*x):=by omega
  rw[this,Int.add_mul_ediv_right _ _ (by omega),Int.ediv_eq_zero_of_lt (by omega) (by omega)];rfl
 unfold mv;rw[e1,e2,eq];unfold tw;congr 1
 . refine(gf bN (by omega) (by omega)).ext bN fun i c hi hc=>?_;rw[cF bN (by omega) (by omega),d6 hi hc,d6 hi hc,d6 (by omega) hc,d6 (by omega) hc];unfold ni;by_cases h:i=m+t
   . subst h;rw[if_pos rfl];grind
   . rw[if_neg h];grind
 . refine(gf bN (by omega) (by omega)).ext bN fun i c hi hc=>?_;rw[cF bN (by omega) (by omega),d6 hi hc,d6 hi hc,d6 (by omega) hc,d6 (by omega) hc];unfold wo;by_cases h:i=m+t
   . subst h;rw[if_pos rfl];grind
   . rw[if_neg h];grind
 . refine(gf bN (by omega) (by omega)).ext bN fun i c hi hc=>?_;rw[cF bN (by omega) (by omega),d6 hi hc,d6 hi hc,d6 (by omega) hc,d6 (by omega) hc];unfold w9;by_cases h:i=t
   . subst h;rw[if_pos rfl];grind
   . rw[if_neg h];grind
theorem j7{k c:Nat}(hk:k<m+m)(hc:c<w):g (tw F m w t s).A k c=if k<m then g F k c else if k-m<t then 0 else g F (k-m) c:=by
 rw[tO hk (by omega)];unfold ni;rw[if_pos hc,if_pos hc]
theorem tI(S:aO F m w ld)(ht:t<m):fg (tw F m w t 0).A (m+m) t (ld t) [t,m+t]:=by
 obtain⟨lw,hx,_⟩:=S.lead t ht;have gi:∀i,i<m->t<=i->i≠t->g F i (ld t)=0:=fun i h1 h2 h3=>S.z h1 (S.mono t i (by omega) h1);refine⟨fun k=>?_,?_⟩
 . constructor
   . intro h;rcases List.mem_cons.mp h with rfl|h
     . refine⟨Nat.le_refl _,by omega,?_⟩;rw[j7 (by omega) lw,if_pos ht];omega
     . have:=List.mem_singleton.mp h;subst this;refine⟨by omega,by omega,?_⟩;rw[j7 (by omega) lw,if_neg (by omega),if_neg (by omega),Nat.add_sub_cancel_left];omega
   . rintro⟨h1,h2,h3⟩;rw[j7 h2 lw]at h3;have:=gi k;have:=gi (k-m);grind
 . refine List.pairwise_cons.mpr ⟨fun j hj=>?_,List.pairwise_cons.mpr ⟨fun j hj=>by simp at hj,List.Pairwise.nil⟩⟩;have:=List.mem_singleton.mp hj;subst this;right;rw[j7 (by omega) lw,j7 (by omega) lw,if_pos ht,if_neg (by omega),if_neg (by omega),Nat.add_sub_cancel_left];exact⟨rfl,by omega⟩
theorem ye(S:aO F m w ld)(ht:t<m):fg (tw F m w (t+1) 0).A (m+m) t (ld t) [t]:=by
 obtain⟨lw,hx,_⟩:=S.lead t ht;have gi:∀i,i<m->t<=i->i≠t->g F i (ld t)=0:=fun i h1 h2 h3=>S.z h1 (S.mono t i (by omega) h1);refine⟨fun k=>?_,List.pairwise_singleton _ _⟩;constructor
 . intro h;have:=List.mem_singleton.mp h;subst this;refine⟨Nat.le_refl _,by omega,?_⟩;rw[j7 (by omega) lw,if_pos ht];omega
 . rintro⟨h1,h2,h3⟩;rw[j7 h2 lw]at h3;have:=gi k;have:=gi (k-m);grind
theorem w_(S:aO F m w ld)(ht:t<m){c:B3}(h:dR (m+m) t (ld t) (tw F m w t 0) c):c=tw F m w t 0\/c=tw F m w (t+1) 0:=by
 cases h with
 |refl=>exact .inl rfl
 |head st tl=>
  obtain⟨L,k,j,hL,rfl⟩:=st;have e:=hL.unique (tI S ht);have e2:=congrArg List.reverse e;simp only[List.reverse_append,List.reverse_cons,List.reverse_nil,List.nil_append,List.cons_append,List.cons.injEq]at e2;rw[e2.1,e2.2.1,HG ht (S.lead t ht).2.1 (S.lead t ht).1]at tl;cases tl with
  |refl=>exact .inr rfl
  |head st2 _=>exact(mI.stop ⟨_,ye S ht,by simp⟩ st2).elim
theorem Au(S:aO F m w ld)(ht:t<m){c:B3}{r:Nat}(h:dR (m+m) t (ld t) (tw F m w t 0) c)(l:fg c.A (m+m) t (ld t) [r]):setB c (ld t) t r=tw F m w (t+1) 0:=by
 rcases w_ S ht h with rfl|rfl
 . have:=l.unique (tI S ht);simp at this
 . have:=l.unique (ye S ht);have e:r=t:=by simpa using this
   subst e;obtain⟨lw,hx,_⟩:=S.lead r ht
   have ng:¬g (tw F m w (r+1) 0).A r (ld r)<0:=by
    rw[j7 (by omega) lw,if_pos ht];omega
   unfold setB;rw[show bh (tw F m w (r+1) 0).A r r=(tw F m w (r+1) 0).A from i9 bN (by omega),show bh (tw F m w (r+1) 0).U r r=(tw F m w (r+1) 0).U from i9 bN (by omega),show bh (tw F m w (r+1) 0).C r r=(tw F m w (r+1) 0).C from i9 bN (by omega),if_neg ng]
theorem qc{N p top:Nat}{b b':B3}{w' v':Nat}(hA:a5 N w' b'.A)(hU:a5 N v' b'.U)(hC:a5 N v' b'.C)(ht:top<N)(k0:Nat):∀k,k0<=k->k<=top->fk p top k0 b=b'->(∀i,k0<=i->i<k->(g b'.A i p).fdiv (g b'.A top p)=0)->fk p top k b=b'
 |0,h0,_,e,_=>by
  have:k0=0:=by omega
  subst this;exact e
 |k+1,h0,hk,e,h=>by
  by_cases hh:k0=k+1
  . subst hh;exact e
  . have ih:=qc hA hU hC ht k0 k (by omega) (by omega) e fun i h1 h2=>h i h1 (by omega);have hq:=h k (by omega) (Nat.lt_succ_self k);unfold fk;rw[ih];show B3.mk (aN b'.A k ((g b'.A k p).fdiv (g b'.A top p)) top) (aN b'.U k ((g b'.A k p).fdiv (g b'.A top p)) top) (aN b'.C top (-((g b'.A k p).fdiv (g b'.A top p))) k)=_;rw[hq,qR hA (by omega) ht rfl,qR hU (by omega) ht rfl,qR hC ht (by omega) (by decide)]
theorem y8{a b:Int}(h1:0<=a)(h2:a<b):a.fdiv b=0:=by
 rw[Int.fdiv_eq_ediv_of_nonneg _ (by omega)];exact Int.ediv_eq_zero_of_lt h1 h2
theorem Aa(S:aO F m w ld)(R:fD F m ld)(ht:t<m)(k:Nat)(hk:k<=t):fk (ld t) t k (tw F m w (t+1) 0)=tw F m w (t+1) 0:=by
 obtain⟨lw,hx,_⟩:=S.lead t ht;refine qc bN bN bN (by omega) 0 k (Nat.zero_le _) hk rfl fun i _ hi=>?_;rw[j7 (by omega) lw,j7 (by omega) lw,if_pos (by omega),if_pos ht];exact y8 (R i t (by omega) ht).1 (R i t (by omega) ht).2
theorem yx(S:aO F m w ld){p:Nat}(hp:p<w)(ht:t<=m)(h:∀i,t<=i->i<m->p<ld i):fg (tw F m w t 0).A (m+m) t p []:=by
 refine⟨fun k=>⟨fun h=>by simp at h,fun⟨h1,h2,h3⟩=>?_⟩,List.Pairwise.nil⟩;rw[j7 h2 hp]at h3;have gi:∀i,t<=i->i<m->g F i p=0:=fun i h1 h2=>S.z h2 (h i h1 h2);have:=gi k;have:=gi (k-m);grind
theorem mS{k c:Nat}(hk:k<m+m)(hc:c<w):g (tw F m w m s).A k (w+c)=if k<m then(if k<s then 0 else g F k c)else if k-m<s then g F (k-m) c else-g F (k-m) c:=by
 rw[tO hk (by omega)];unfold ni;rw[if_neg (show¬w+c<w by omega),if_neg (show¬w+c<w by omega),Nat.add_sub_cancel_left,if_pos (show k-m<m by omega)]
theorem pF(S:aO F m w ld)(hs:s<m):fg (tw F m w m s).A (m+m) (m+s) (w+ld s) [m+s]:=by
 obtain⟨lw,hx,_⟩:=S.lead s hs;have gi:∀i,i<m->s<=i->i≠s->g F i (ld s)=0:=fun i h1 h2 h3=>S.z h1 (S.mono s i (by omega) h1);refine⟨fun k=>?_,List.pairwise_singleton _ _⟩;constructor
 . intro h;have:=List.mem_singleton.mp h;subst this;refine⟨Nat.le_refl _,by omega,?_⟩;rw[mS (by omega) lw,if_neg (by omega),if_neg (by omega),Nat.add_sub_cancel_left];omega
 . rintro⟨h1,h2,h3⟩;rw[mS h2 lw]at h3;have:=gi (k-m);grind
theorem zc(S:aO F m w ld){p:Nat}(hp:p<w)(hs:s<=m)(h:∀i,s<=i->i<m->p<ld i):fg (tw F m w m s).A (m+m) (m+s) (w+p) []:=by
 refine⟨fun k=>⟨fun h=>by simp at h,fun⟨h1,h2,h3⟩=>?_⟩,List.Pairwise.nil⟩;rw[mS h2 hp]at h3;have gi:∀i,s<=i->i<m->g F i p=0:=fun i h1 h2=>S.z h2 (h i h1 h2);have:=gi (k-m);grind
def tv(F:Rows)(m w s:Nat):B3:=⟨fj (tw F m w m s).A (m+s),fj (tw F m w m s).U (m+s),fj (tw F m w m s).C (m+s)⟩
theorem AL(S:aO F m w ld)(hs:s<m){c:B3}{r:Nat}(h:dR (m+m) (m+s) (w+ld s) (tw F m w m s) c)(l:fg c.A (m+m) (m+s) (w+ld s) [r]):c=tw F m w m s/\setB c (w+ld s) (m+s) r=tv F m w s:=by
 have e:c=tw F m w m s:=by
  cases h with
  |refl=>rfl
  |head st2 _=>exact(mI.stop ⟨_,pF S hs,by simp⟩ st2).elim
 refine⟨e,?_⟩;subst e;have e:r=m+s:=by simpa using l.unique (pF S hs)
 subst e;obtain⟨lw,hx,_⟩:=S.lead s hs
 have ng:g (tw F m w m s).A (m+s) (w+ld s)<0:=by
  rw[mS (by omega) lw,if_neg (by omega),if_neg (by omega),Nat.add_sub_cancel_left];omega
 unfold setB;rw[show bh (tw F m w m s).A (m+s) (m+s)=(tw F m w m s).A from i9 bN (by omega),show bh (tw F m w m s).U (m+s) (m+s)=(tw F m w m s).U from i9 bN (by omega),show bh (tw F m w m s).C (m+s) (m+s)=(tw F m w m s).C from i9 bN (by omega),if_pos ng];rfl
theorem vG{i c:Nat}(hs:s<m):g (tv F m w s).A i c=if i=m+s then-g (tw F m w m s).A (m+s) c else g (tw F m w m s).A i c:=fX bN (by omega) i c
theorem Al(S:aO F m w ld)(R:fD F m ld)(hs:s<m)(k:Nat)(hk:k<=m+s):fk (w+ld s) (m+s) k (tv F m w s)=if k<=s then tv F m w s else tw F m w m (s+1):=by
 obtain⟨lw,hx,_⟩:=S.lead s hs;have iA:a5 (m+m) (w+w) (tv F m w s).A:=oU bN (by omega);have iU:a5 (m+m) (m+m) (tv F m w s).U:=oU bN (by omega);have iC:a5 (m+m) (m+m) (tv F m w s).C:=oU bN (by omega)
 have ep:g (tv F m w s).A (m+s) (w+ld s)=g F s (ld s):=by
  rw[vG hs,if_pos rfl,mS (by omega) lw,if_neg (by omega),if_neg (by omega),Nat.add_sub_cancel_left];omega
 have a:∀k,k<=s->fk (w+ld s) (m+s) k (tv F m w s)=tv F m w s:=fun k hk=>by
  refine qc iA iU iC (by omega) 0 k (Nat.zero_le _) (by omega) rfl fun i _ hi=>?_;rw[vG hs,if_neg (by omega),mS (by omega) lw,if_pos (by omega),if_pos (by omega)];exact Int.zero_fdiv _
 have b:fk (w+ld s) (m+s) (s+1) (tv F m w s)=tw F m w m (s+1):=by
  unfold fk;rw[a s (Nat.le_refl _)]
  have eq:(g (tv F m w s).A s (w+ld s)).fdiv (g (tv F m w s).A (m+s) (w+ld s))=1:=by
   rw[ep,vG hs,if_neg (by omega),mS (by omega) lw,if_pos hs,if_neg (by omega)];exact Int.fdiv_self (by omega)
  show B3.mk (aN (tv F m w s).A s ((g (tv F m w s).A s (w+ld s)).fdiv (g (tv F m w s).A (m+s) (w+ld s))) (m+s)) (aN (tv F m w s).U s ((g (tv F m w s).A s (w+ld s)).fdiv (g (tv F m w s).A (m+s) (w+ld s))) (m+s)) (aN (tv F m w s).C (m+s) (-((g (tv F m w s).A s (w+ld s)).fdiv (g (tv F m w s).A (m+s) (w+ld s)))) s)=_;rw[eq];unfold tw;congr 1
  . refine(gf iA (by omega) (by omega)).ext bN fun i c hi hc=>?_;rw[cF iA (by omega) (by omega),vG hs,vG hs,vG hs,tO hi hc,tO (by omega) hc,tO (by omega) hc,d6 hi hc];unfold ni;grind
  . refine(gf iU (by omega) (by omega)).ext bN fun i c hi hc=>?_
    have gU:∀i,i<m+m->g (tv F m w s).U i c=if i=m+s then-wo m m s (m+s) c else wo m m s i c:=fun i hi=>by
     rw[show g (tv F m w s).U i c=_ from fX bN (show m+s<m+m by omega) i c,d6 (by omega) hc,d6 hi hc]
    rw[cF iU (by omega) (by omega),gU i hi,gU s (by omega),gU (m+s) (by omega),d6 hi hc];unfold wo;grind
  . refine(gf iC (by omega) (by omega)).ext bN fun i c hi hc=>?_
    have gC:∀i,i<m+m->g (tv F m w s).C i c=if i=m+s then-w9 m m s (m+s) c else w9 m m s i c:=fun i hi=>by
     rw[show g (tv F m w s).C i c=_ from fX bN (show m+s<m+m by omega) i c,d6 (by omega) hc,d6 hi hc]
    rw[cF iC (by omega) (by omega),gC i hi,gC s (by omega),gC (m+s) (by omega),d6 hi hc];unfold w9;grind
 by_cases h:k<=s
 . rw[if_pos h];exact a k h
 . rw[if_neg h];refine qc bN bN bN (by omega) (s+1) k (by omega) hk b fun i h1 h2=>?_;rw[mS (by omega) lw,mS (by omega) lw,if_neg (show¬m+s<m by omega),if_pos (show m+s-m<s+1 by omega),Nat.add_sub_cancel_left];by_cases him:i<m
   . rw[if_pos him,if_neg (by omega),S.z him (S.mono s i (by omega) him)];exact Int.zero_fdiv _
   . rw[if_neg him,if_pos (by omega)];exact y8 (R (i-m) s (by omega) hs).1 (R (i-m) s (by omega) hs).2
theorem jr.twin(S:aO F m w ld)(R:fD F m ld){p t:Nat}{c:B3}(h:jr (md (m+m) (w+w) (ni F m w 0 0)) (m+m) p t c):p<=w+w->
 (p<=w->c=tw F m w t 0/\t<=m/\(∀i,i<t->ld i<p)/\∀i,t<=i->i<m->p<=ld i)/\(w<=p->∃s,t=m+s/\c=tw F m w m s/\s<=m/\(∀i,i<s->w+ld i<p)/\∀i,s<=i->i<m->p<=w+ld i):=by
 have mid:∀ {p t:Nat} {c:B3},p<=w->(c=tw F m w t 0/\t<=m/\(∀i,i<t->ld i<p)/\∀i,t<=i->i<m->p<=ld i)->w<=p->∃s,t=m+s/\c=tw F m w m s/\s<=m/\(∀i,i<s->w+ld i<p)/\∀i,s<=i->i<m->p<=w+ld i:=fun{p t c} h1 ⟨e,h2,_,h4⟩ h5=>by
  have et:t=m:=Nat.le_antisymm h2 (Nat.le_of_not_lt fun z=>by
   have:=h4 t (Nat.le_refl _) z;have:=(S.lead t z).1;omega)
  subst et;exact⟨0,rfl,e,Nat.zero_le _,fun i hi=>absurd hi (Nat.not_lt_zero _),fun i _ _=>by omega⟩
 induction h with
 |start=>
  intro _;have a:(⟨md (m+m) (w+w) (ni F m w 0 0),units (m+m),units (m+m)⟩:B3)=tw F m w 0 0/\0<=m/\(∀i,i<0->ld i<0)/\∀i,0<=i->i<m->0<=ld i:=⟨EY.symm,Nat.zero_le _,fun i hi=>absurd hi (Nat.not_lt_zero _),fun _ _ _=>Nat.zero_le _⟩
  exact⟨fun _=>a,fun h=>mid (Nat.zero_le _) a h⟩
 |next _ cl ih=>
  rename_i p t t' b b' _;intro hp;obtain⟨i1,i2⟩:=ih (by omega);by_cases hpw:p<w
  . obtain⟨rfl,tm,lo,hi⟩:=i1 (Nat.le_of_lt hpw)
    have a:b'=tw F m w t' 0/\t'<=m/\(∀i,i<t'->ld i<p+1)/\∀i,t'<=i->i<m->p+1<=ld i:=by
     cases cl with
     |none l=>
      refine⟨rfl,tm,fun i h=>by have:=lo i h;omega,fun i h1 h2=>?_⟩;have h3:=hi i h1 h2;refine Nat.lt_of_le_of_ne h3 fun z=>?_;subst z
      have h4:i=t:=Nat.le_antisymm (Nat.le_of_not_lt fun y=>by
       have:=hi t (Nat.le_refl _) (by omega);have:=S.mono t i y h2;omega) h1
      subst h4;have:=l.unique (tI S h2);simp at this
     |one gr l=>
      rename_i r c0
      have hlt:t<m/\ld t=p:=by
       by_cases z:∀i,t<=i->i<m->p<ld i
       . have nl:=yx S hpw tm z;cases gr with
         |refl=>have:=l.unique nl;simp at this
         |head st2 _=>exact(mI.stop ⟨_,nl,by simp⟩ st2).elim
       . obtain⟨i,z⟩:=Classical.not_forall.mp z;obtain⟨h1,z⟩:=Classical.not_imp.mp z;obtain⟨h2,z⟩:=Classical.not_imp.mp z;have h3:=hi i h1 h2
         have h4:i=t:=Nat.le_antisymm (Nat.le_of_not_lt fun y=>by
          have:=hi t (Nat.le_refl _) (by omega);have:=S.mono t i y h2;omega) h1
         subst h4;exact⟨h2,by omega⟩
      obtain⟨ht,rfl⟩:=hlt;rw[Au S ht gr l,Aa S R ht t (Nat.le_refl _)];refine⟨rfl,ht,fun i h=>?_,fun i h1 h2=>S.mono t i h1 h2⟩;by_cases z:i=t
      . rw[z];exact Nat.lt_succ_self _
      . have:=lo i (by omega);omega
    exact⟨fun _=>a,fun h=>mid hpw a h⟩
  . obtain⟨s,rfl,rfl,sm,lo,hi⟩:=i2 (by omega);refine⟨fun h=>absurd h (by omega),fun _=>?_⟩;obtain⟨q,rfl⟩:∃q,p=w+q:=⟨p-w,by omega⟩
    have hq:q<w:=by omega
    cases cl with
    |none l=>
     refine⟨s,rfl,rfl,sm,fun i h=>by have:=lo i h;omega,fun i h1 h2=>?_⟩;have h3:=hi i h1 h2;refine Nat.lt_of_le_of_ne h3 fun z=>?_;have z:q=ld i:=by omega
     subst z
     have h4:i=s:=Nat.le_antisymm (Nat.le_of_not_lt fun y=>by
      have:=hi s (Nat.le_refl _) (by omega);have:=S.mono s i y h2;omega) h1
     subst h4;have:=l.unique (pF S h2);simp at this
    |one gr l=>
     rename_i r c0
     have hlt:s<m/\ld s=q:=by
      by_cases z:∀i,s<=i->i<m->q<ld i
      . have nl:=zc S hq sm z;cases gr with
        |refl=>have:=l.unique nl;simp at this
        |head st2 _=>exact(mI.stop ⟨_,nl,by simp⟩ st2).elim
      . obtain⟨i,z⟩:=Classical.not_forall.mp z;obtain⟨h1,z⟩:=Classical.not_imp.mp z;obtain⟨h2,z⟩:=Classical.not_imp.mp z;have h3:=hi i h1 h2
        have h4:i=s:=Nat.le_antisymm (Nat.le_of_not_lt fun y=>by
         have:=hi s (Nat.le_refl _) (by omega);have:=S.mono s i y h2;omega) h1
        subst h4;exact⟨h2,by omega⟩
     obtain⟨hs,rfl⟩:=hlt;rw[(AL S hs gr l).2,Al S R hs (m+s) (Nat.le_refl _),if_neg (by omega)];refine⟨s+1,rfl,rfl,hs,fun i h=>?_,fun i h1 h2=>?_⟩
     . by_cases z:i=s
       . rw[z];exact Nat.lt_succ_self _
       . have:=lo i (by omega);omega
     . have:=S.mono s i h1 h2;omega
theorem p8{z:Nat}(hb:∀i c,i<m->c<w->(g F i c).natAbs<=2^z)(z1:1<=z):Sm (tw F m w t s) (m+m) (2^z):=fun i c hi=>by
 have two:2<=2^z:=Nat.pow_le_pow_right (n:=2) (by decide) z1;have d1:∀a b,(dl a b).natAbs<=1:=fun a b=>by unfold dl;split<;>decide
 refine⟨vn (fun i c hi hc=>?_) i c hi,vn (fun i c hi hc=>?_) i c hi,vn (fun i c hi hc=>?_) i c hi⟩
 . unfold ni;have h1:=hb i c;have h2:=hb i (c-w);have h3:=hb (i-m) c;have h4:=hb (i-m) (c-w);split
   . split
     . exact h1 (by assumption) (by assumption)
     . split
       . exact Nat.zero_le _
       . exact h2 (by assumption) (by omega)
   . split
     . split
       . exact Nat.zero_le _
       . exact h3 (by omega) (by assumption)
     . split
       . exact h4 (by omega) (by omega)
       . split
         . rw[Int.natAbs_neg];exact h4 (by omega) (by omega)
         . exact Nat.zero_le _
 . unfold wo;have h1:=d1 i c;have h2:=d1 (m+i) c;have h3:=d1 (i-m) c;refine Nat.le_trans ?_ two;split<;>split<;>(try split)<;>omega
 . unfold w9;have h1:=d1 i c;have h2:=d1 (m+i) c;have h3:=d1 (i-m) c;refine Nat.le_trans ?_ two;split<;>split<;>omega
theorem Lv{z:Nat}(hs:s<m)(h:Sm (tw F m w m s) (m+m) (2^z)):Sm (tv F m w s) (m+m) (2^z):=fun i c hi=>by
 have a:=h i c hi;have b:=h (m+s) c (by omega);unfold tv;refine⟨?_,?_,?_⟩
 . rw[show g (fj (tw F m w m s).A (m+s)) i c=_ from fX bN (show m+s<m+m by omega) i c];split
   . rw[Int.natAbs_neg];exact b.1
   . exact a.1
 . rw[show g (fj (tw F m w m s).U (m+s)) i c=_ from fX bN (show m+s<m+m by omega) i c];split
   . rw[Int.natAbs_neg];exact b.2.1
   . exact a.2.1
 . rw[show g (fj (tw F m w m s).C (m+s)) i c=_ from fX bN (show m+s<m+m by omega) i c];split
   . rw[Int.natAbs_neg];exact b.2.2
   . exact a.2.2
theorem jr.IG{z:Nat}(S:aO F m w ld)(R:fD F m ld)(hb:∀i c,i<m->c<w->(g F i c).natAbs<=2^z)(z1:1<=z){p t:Nat}{c:B3}(hp:p<w+w)(h:jr (md (m+m) (w+w) (ni F m w 0 0)) (m+m) p t c):u_ (m+m) p t z c:=by
 obtain⟨i1,i2⟩:=h.twin S R (Nat.le_of_lt hp);by_cases hpw:p<w
 . obtain⟨rfl,tm,lo,hi⟩:=i1 (Nat.le_of_lt hpw);by_cases zz:∀i,t<=i->i<m->p<ld i
   . have nl:=yx S hpw tm zz
     have e:∀c,dR (m+m) t p (tw F m w t 0) c->c=tw F m w t 0:=fun c gr=>by
      cases gr with
      |refl=>rfl
      |head st2 _=>exact(mI.stop ⟨_,nl,by simp⟩ st2).elim
     refine⟨fun c gr=>by rw[e c gr];exact p8 hb z1,fun c r k gr l _=>?_⟩;rw[e c gr]at l;have:=l.unique nl;simp at this
   . obtain⟨i,zz⟩:=Classical.not_forall.mp zz;obtain⟨h1,zz⟩:=Classical.not_imp.mp zz;obtain⟨h2,zz⟩:=Classical.not_imp.mp zz;have h3:=hi i h1 h2
     have h4:i=t:=Nat.le_antisymm (Nat.le_of_not_lt fun y=>by
      have:=hi t (Nat.le_refl _) (by omega);have:=S.mono t i y h2;omega) h1
     subst h4;have e:ld i=p:=by omega
     subst e;refine⟨fun c gr=>?_,fun c r k gr l hk=>?_⟩
     . rcases w_ S h2 gr with rfl|rfl<;>exact p8 hb z1
     . rw[Au S h2 gr l,Aa S R h2 k hk];exact p8 hb z1
 . obtain⟨s,rfl,rfl,sm,lo,hi⟩:=i2 (by omega);obtain⟨q,rfl⟩:∃q,p=w+q:=⟨p-w,by omega⟩
   have hq:q<w:=by omega
   by_cases zz:∀i,s<=i->i<m->q<ld i
   . have nl:=zc S hq sm zz
     have e:∀c,dR (m+m) (m+s) (w+q) (tw F m w m s) c->c=tw F m w m s:=fun c gr=>by
      cases gr with
      |refl=>rfl
      |head st2 _=>exact(mI.stop ⟨_,nl,by simp⟩ st2).elim
     refine⟨fun c gr=>by rw[e c gr];exact p8 hb z1,fun c r k gr l _=>?_⟩;rw[e c gr]at l;have:=l.unique nl;simp at this
   . obtain⟨i,zz⟩:=Classical.not_forall.mp zz;obtain⟨h1,zz⟩:=Classical.not_imp.mp zz;obtain⟨h2,zz⟩:=Classical.not_imp.mp zz;have h3:=hi i h1 h2
     have h4:i=s:=Nat.le_antisymm (Nat.le_of_not_lt fun y=>by
      have:=hi s (Nat.le_refl _) (by omega);have:=S.mono s i y h2;omega) h1
     subst h4;have e:ld i=q:=by omega
     subst e;refine⟨fun c gr=>?_,fun c r k gr l hk=>?_⟩
     . cases gr with
       |refl=>exact p8 hb z1
       |head st2 _=>exact(mI.stop ⟨_,pF S h2,by simp⟩ st2).elim
     . rw[(AL S h2 gr l).2,Al S R h2 k hk];split
       . exact Lv h2 (p8 hb z1)
       . exact p8 hb z1
end
def dbl(F G:Rows)(w:Nat):Rows:=(F.map fun r=>r++r)++(G.map fun r=>r++List.replicate w 0)
theorem Dd{F G:Rows}{m n w:Nat}(hF:a5 m w F)(hG:a5 n w G):a5 (m+n) (w+w) (dbl F G w):=⟨by simp[dbl,hF.len,hG.len],fun r hr=>by
 rcases List.mem_append.mp hr with h|h
 . obtain⟨q,hq,rfl⟩:=List.mem_map.mp h;rw[List.length_append,hF.gN q hq]
 . obtain⟨q,hq,rfl⟩:=List.mem_map.mp h;rw[List.length_append,hG.gN q hq,List.length_replicate]⟩
theorem getD_map{α β:Type}{f:α->β}{l:List α}{i:Nat}{d:β}{e:α}(h:i<l.length):(l.map f).getD i d=f (l.getD i e):=by
 rw[List.getD_eq_getElem?_getD,List.getD_eq_getElem?_getD,List.getElem?_map,List.getElem?_eq_getElem h];rfl
theorem tu{α:Type}{a b:List α}{i:Nat}{d:α}:(a++b).getD i d=if i<a.length then a.getD i d else b.getD (i-a.length) d:=by
 rw[List.getD_eq_getElem?_getD];split
 . rename_i h;rw[List.getElem?_append_left h,List.getD_eq_getElem?_getD]
 . rename_i h;rw[List.getElem?_append_right (by omega),List.getD_eq_getElem?_getD]
theorem uZ{F G:Rows}{m n w i c:Nat}(hF:a5 m w F)(hG:a5 n w G)(hi:i<m+n)(hc:c<w+w):g (dbl F G w) i c=if i<m then(if c<w then g F i c else g F i (c-w))else if c<w then g G (i-m) c else 0:=by
 have lF:=hF.len;have lG:=hG.len;unfold g dbl;rw[tu,List.length_map,lF];by_cases h:i<m
 . rw[if_pos h,if_pos h,getD_map (e:=[]) (by omega),tu,cA hF h]
 . rw[if_neg h,if_neg h,getD_map (e:=[]) (by omega),tu,cA hG (by omega)];by_cases h2:c<w
   . rw[if_pos h2,if_pos h2]
   . rw[if_neg h2,if_neg h2,List.getD_eq_getElem?_getD,List.getElem?_replicate];split<;>rfl
theorem Kk{F:Rows}{m w:Nat}(hF:a5 m w F):dbl F F w=md (m+m) (w+w) (ni F m w 0 0):=(Dd hF hF).ext bN fun i c hi hc=>by
 rw[uZ hF hF hi hc,d6 hi hc];unfold ni;grind
def tl(H:Rows)(a w:Nat):Rows:=(H.drop a).map (List.drop w)
theorem drop_getD{α:Type}{l:List α}{a i:Nat}{d:α}:(l.drop a).getD i d=l.getD (a+i) d:=by
 rw[List.getD_eq_getElem?_getD,List.getD_eq_getElem?_getD,List.getElem?_drop]
theorem Mm{H:Rows}{h a w w':Nat}(hH:a5 h (w+w') H):a5 (h-a) w' (tl H a w):=⟨by simp[tl,hH.len],fun r hr=>by
 obtain⟨q,hq,rfl⟩:=List.mem_map.mp hr;rw[List.length_drop,hH.gN q (List.mem_of_mem_drop hq)];omega⟩
theorem tN{H:Rows}{h a w w' i c:Nat}(hH:a5 h (w+w') H)(hi:i<h-a):g (tl H a w) i c=g H (a+i) (w+c):=by
 have lH:=hH.len;unfold g tl;rw[getD_map (e:=[]) (by rw[List.length_drop];omega),drop_getD,drop_getD]
theorem Dl{ld:Nat->Nat}{w:Nat}:∀ {h:Nat},(∀i j,i<j->j<h->ld i<ld j)->∃a,a<=h/\∀i,i<h->(ld i<w↔i<a)
 |0,_=>⟨0,Nat.le_refl _,fun i hi=>absurd hi (Nat.not_lt_zero _)⟩
 |h+1,mono=>by
  obtain⟨a,ha,q⟩:=Dl (w:=w) (h:=h) fun i j h1 h2=>mono i j h1 (by omega);by_cases z:ld h<w
  . refine⟨h+1,Nat.le_refl _,fun i hi=>⟨fun _=>hi,fun _=>?_⟩⟩;by_cases e:i=h
    . rw[e];exact z
    . have:=mono i h (by omega) (by omega);omega
  . refine⟨a,by omega,fun i hi=>?_⟩;by_cases e:i=h
    . subst e;exact⟨fun y=>absurd y z,fun y=>by omega⟩
    . exact q i (by omega)
theorem EW{H:Rows}{h a w w':Nat}{ld:Nat->Nat}(hH:a5 h (w+w') H)(S:aO H h (w+w') ld)(R:fD H h ld)(q:∀i,i<h->(ld i<w↔i<a)):aO (tl H a w) (h-a) w' (fun i=>ld (a+i)-w)/\fD (tl H a w) (h-a) (fun i=>ld (a+i)-w):=by
 have ge:∀i,i<h-a->w<=ld (a+i):=fun i hi=>Nat.le_of_not_lt fun z=>by have:=(q (a+i) (by omega)).mp z;omega
 refine⟨⟨fun i hi=>?_,fun i j hij hj=>?_⟩,fun i j hij hj=>?_⟩
 . obtain⟨h1,h2,h3⟩:=S.lead (a+i) (by omega);have:=ge i hi;refine⟨by omega,?_,fun c hc=>?_⟩
   . rw[tN hH hi,show w+(ld (a+i)-w)=ld (a+i) by omega];exact h2
   . rw[tN hH hi];exact h3 _ (by omega)
 . have:=S.mono (a+i) (a+j) (by omega) (by omega);have:=ge i (by omega);have:=ge j hj;show ld (a+i)-w<ld (a+j)-w;omega
 . have:=ge j hj;rw[tN hH (by omega),tN hH hj];show 0<=g H (a+i) (w+(ld (a+j)-w))/\g H (a+i) (w+(ld (a+j)-w))<g H (a+j) (w+(ld (a+j)-w));rw[show w+(ld (a+j)-w)=ld (a+j) by omega];exact R (a+i) (a+j) (by omega) (by omega)
theorem Kr{H:Rows}{h a w w':Nat}{ld:Nat->Nat}(hH:a5 h (w+w') H)(T:aO H h (w+w') ld)(ha:a<=h)(q:∀i,i<h->(ld i<w↔i<a))(v:Nat->Int):a7 (tl H a w) (h-a) w' v↔a7 H h (w+w') fun c=>if c<w then 0 else v (c-w):=by
 have ge:∀i,i<h-a->w<=ld (a+i):=fun i hi=>Nat.le_of_not_lt fun z=>by have:=(q (a+i) (by omega)).mp z;omega
 have eh:h=a+(h-a):=by omega
 constructor
 . rintro⟨z,hz⟩;refine⟨fun k=>if k<a then 0 else z (k-a),fun c hc=>?_⟩
   have e:S h (fun k=>(if k<a then 0 else z (k-a))*g H k c)=S (h-a) fun i=>z i*g H (a+i) c:=by
    conv=>lhs;rw[eh]
    rw[pe,gy fun i hi=>by rw[if_pos hi,Int.zero_mul],Int.zero_add];exact aG fun i _=>by rw[if_neg (by omega),Nat.add_sub_cancel_left]
   rw[e];show(if c<w then 0 else v (c-w))=_;by_cases hcw:c<w
   . rw[if_pos hcw];refine(gy fun i hi=>?_).symm;rw[(T.lead (a+i) (by omega)).2.2 c (by have:=ge i hi;omega),Int.mul_zero]
   . rw[if_neg hcw,hz (c-w) (by omega)];refine aG fun i hi=>?_;rw[tN hH hi,show w+(c-w)=c by omega]
 . rintro⟨z,hz⟩;have hz:∀c,c<w+w'->(if c<w then 0 else v (c-w))=S h fun k=>z k*g H k c:=hz;refine⟨fun i=>z (a+i),fun c hc=>?_⟩;have z0:∀k,k<a->z k=0:=fun k hk=>T.gone (q:=w) hz (fun c hc=>if_pos hc) k (by omega) ((q k (by omega)).mpr hk);have h1:=hz (w+c) (by omega);rw[if_neg (by omega),Nat.add_sub_cancel_left]at h1;rw[h1];conv=>lhs;rw[eh]
   rw[pe,gy fun i hi=>by rw[z0 i hi,Int.zero_mul],Int.zero_add];exact aG fun i hi=>by rw[tN hH hi]
theorem HW{F G:Rows}{m n w:Nat}(hF:a5 m w F)(hG:a5 n w G)(v:Nat->Int):a7 (dbl F G w) (m+n) (w+w) (fun c=>if c<w then 0 else v (c-w))↔a7 F m w v/\a7 G n w v:=by
 have sp:∀(z:Nat->Int) c,c<w->S (m+n) (fun k=>z k*g (dbl F G w) k c)=S m (fun k=>z k*g F k c)+S n fun k=>z (m+k)*g G k c:=fun z c hc=>by
  rw[pe];congr 1
  . exact aG fun i hi=>by rw[uZ hF hG (by omega) (by omega),if_pos hi,if_pos hc]
  . exact aG fun i hi=>by rw[uZ hF hG (by omega) (by omega),if_neg (by omega),if_pos hc,Nat.add_sub_cancel_left]
 have sq:∀(z:Nat->Int) c,c<w->S (m+n) (fun k=>z k*g (dbl F G w) k (w+c))=S m (fun k=>z k*g F k c):=fun z c hc=>by
  rw[pe,gy (n:=n) fun i hi=>by rw[uZ hF hG (by omega) (by omega),if_neg (by omega),if_neg (by omega),Int.mul_zero],Int.add_zero];exact aG fun i hi=>by rw[uZ hF hG (by omega) (by omega),if_pos hi,if_neg (by omega),Nat.add_sub_cancel_left]
 constructor
 . rintro⟨z,hz⟩;have hz:∀c,c<w+w->(if c<w then 0 else v (c-w))=S (m+n) fun k=>z k*g (dbl F G w) k c:=hz
   have h1:∀c,c<w->v c=S m fun k=>z k*g F k c:=fun c hc=>by
    have:=hz (w+c) (by omega);rw[if_neg (by omega),Nat.add_sub_cancel_left,sq z c hc]at this;exact this
   refine⟨⟨z,h1⟩,fun k=> -z (m+k),fun c hc=>?_⟩;have:=hz c (by omega);rw[if_pos hc,sp z c hc,<-h1 c hc]at this
   have e:S n (fun k=> -z (m+k)*g G k c)= -S n fun k=>z (m+k)*g G k c:=by
    rw[<-pY];exact aG fun i _=>by rw[Int.neg_mul]
   rw[e];omega
 . rintro⟨⟨x,hx⟩,y,hy⟩;refine⟨fun k=>if k<m then x k else-y (k-m),fun c hc=>?_⟩;have e1:∀c,S m (fun k=>(if k<m then x k else-y (k-m))*g F k c)=S m fun k=>x k*g F k c:=fun c=>aG fun i hi=>by rw[if_pos hi]
   show(if c<w then 0 else v (c-w))=_;by_cases hcw:c<w
   . rw[if_pos hcw,sp _ c hcw,e1 c,<-hx c hcw]
     have e:S n (fun k=>(if m+k<m then x (m+k)else-y (m+k-m))*g G k c)= -S n fun k=>y k*g G k c:=by
      rw[<-pY];exact aG fun i _=>by rw[if_neg (by omega),Nat.add_sub_cancel_left,Int.neg_mul]
     rw[e,<-hy c hcw];omega
   . rw[if_neg hcw];have:=sq (fun k=>if k<m then x k else-y (k-m)) (c-w) (by omega);rw[show w+(c-w)=c by omega,e1,<-hx (c-w) (by omega)]at this;exact this.symm
structure o9(F:Rows)(m:Nat)(G:Rows)(n w:Nat)(R:Rows)(k:Nat):Prop where
 is:a5 k w R
 st:aO R k w (ck R)
 red:fD R k (ck R)
 uC:∀v:Nat->Int,a7 R k w v↔a7 F m w v/\a7 G n w v
theorem L0{F G H:Rows}{m n w h a:Nat}(hF:a5 m w F)(hG:a5 n w G)(hH:a5 h (w+w) H)(S:aO H h (w+w) (ck H))(R:fD H h (ck H))(same:mr (dbl F G w) (m+n) H h (w+w))(ha:a<=h)(q:∀i,i<h->(ck H i<w↔i<a)):o9 F m G n w (tl H a w) (h-a):=by
 obtain⟨s,r⟩:=EW hH S R q;refine⟨Mm hH,s.MG,fun i j hij hj=>?_,fun v=>(Kr hH S ha q v).trans (Iff.trans ⟨a7.trans same.of,a7.trans same.to⟩ (HW hF hG v))⟩;rw[s.ck hj];exact r i j hij hj
theorem o9.one{F G F' G' R R':Rows}{m n w m' n' k k':Nat}(s:o9 F m G n w R k)(s':o9 F' m' G' n' w R' k')(h:∀v,(a7 F m w v/\a7 G n w v)↔(a7 F' m' w v/\a7 G' n' w v)):R=R':=by
 have h1:∀i,i<k->a7 R' k' w (g R i):=fun i hi=>(s'.uC _).mpr ((h _).mp ((s.uC _).mp (a7.row hi)));have h2:∀i,i<k'->a7 R k w (g R' i):=fun i hi=>(s.uC _).mpr ((h _).mpr ((s'.uC _).mp (a7.row hi)));have e:=s.st.many s'.st h1 h2;subst e;exact s.is.ext s'.is fun i j hi hj=>s.st.only s'.st h1 h2 s.red s'.red hi j hj
theorem o9.self{F:Rows}{m w:Nat}(is:a5 m w F)(st:aO F m w (ck F))(red:fD F m (ck F)):o9 F m F m w F m:=⟨is,st,red,fun _=>⟨fun h=>⟨h,h⟩,fun h=>h.1⟩⟩
theorem a7.none{F:Rows}{w:Nat}{v:Nat->Int}:a7 F 0 w v↔∀c,c<w->v c=0:=⟨fun⟨_,h⟩ c hc=>h c hc,fun h=>a7.zero h⟩
theorem o9.nil{F G R:Rows}{m n w k:Nat}(s:o9 F m G n w R k)(h:m=0\/n=0):R=[]:=by
 have z:∀v,a7 R k w v->∀c,c<w->v c=0:=fun v hv=>by
  obtain⟨h1,h2⟩:=(s.uC v).mp hv;rcases h with rfl|rfl
  . exact a7.none.mp h1
  . exact a7.none.mp h2
 have k0:k=0:=Nat.eq_zero_of_not_pos fun hk=>by
  obtain⟨h1,h2,_⟩:=s.st.lead 0 hk;have:=z _ (a7.row hk) _ h1;omega
 have:=s.is.len;rw[k0]at this;exact List.eq_nil_of_length_eq_zero this
theorem o9.empty{F G:Rows}{w:Nat}:o9 F 0 G 0 w [] 0:=⟨⟨rfl,fun r hr=>by cases hr⟩,⟨fun i hi=>absurd hi (Nat.not_lt_zero _),fun i j _ hj=>absurd hj (Nat.not_lt_zero _)⟩,fun i j _ hj=>absurd hj (Nat.not_lt_zero _),fun v=>a7.none.trans ⟨fun h=>⟨a7.none.mpr h,a7.none.mpr h⟩,fun h=>a7.none.mp h.1⟩⟩
end Mx
namespace Prog
open PySem L2 L3
open PySem.Spec hiding items?
open PyProof.Rows hiding St
theorem h_{i j:Int}(h1: -(2^64)<i)(h2:i<2^64):IntMulOk i j:= .of_left (intBits_le_64 h1 h2)
theorem Ab{i j:Int}(h1: -(2^64)<j)(h2:j<2^64):IntMulOk i j:= .of_right (intBits_le_64 h1 h2)
def isInt:D->Bool
 | .int _=>true
 |_=>false
abbrev aB(r:List Int):List D:=r.map D.int
abbrev cm(r:List Int):D:= .tup (aB r)
abbrev a_(r:List Int):D:= .lst (aB r)
abbrev aY(A:List (List Int)):D:= .tup (A.map cm)
abbrev xX(A:List (List Int)):D:= .lst (A.map a_)
def bY(st:af):List D->List (List Int)->Prop
 | [],[]=>True
 |d::ds,r::rs=>items? st d=some (aB r)/\bY st ds rs
 |_,_=>False
structure eK(st:af)(d:D)(A:List (List Int)):Prop where
 ex:∃ds,items? st d=some ds/\bY st ds A
theorem bY.len{st:af}:∀ {ds:List D} {A:List (List Int)},bY st ds A->ds.length=A.length
 | [],[],_=>rfl
 |_::_,_::_,h=>by simp[bY.len h.2]
theorem bY.tup{st:af}:∀ {A:List (List Int)},bY st (A.map cm) A
 | []=>trivial
 |_::_=>⟨rfl,bY.tup⟩
theorem bY.lst{st:af}:∀ {A:List (List Int)},bY st (A.map a_) A
 | []=>trivial
 |_::_=>⟨rfl,bY.lst⟩
theorem bY.get{st:af}:∀ {ds:List D} {A:List (List Int)} {i:Nat} {d:D},bY st ds A->ds[i]?=some d->∃r,A[i]?=some r/\items? st d=some (aB r)
 |_::_,r::_,0,_,h,e=>by simp at e;subst e;exact⟨r,rfl,h.1⟩
 |_::_,_::_,i+1,d,h,e=>by
  obtain⟨r,e1,e2⟩:=bY.get (i:=i) (d:=d) h.2 (by simpa using e);exact⟨r,by simpa using e1,e2⟩
theorem d5{st:af}{A:List (List Int)}:eK st (aY A) A:=⟨_,rfl,bY.tup⟩
theorem vq{st:af}{A:List (List Int)}:eK st (xX A) A:=⟨_,rfl,bY.lst⟩
structure Ext(st st':af):Prop where
 len:st.length<=st'.length
 same:∀m,m<st.length->st'[m]?=st[m]?
theorem Ext.refl{st:af}:Ext st st:=⟨Nat.le_refl _,fun _ _=>rfl⟩
theorem Ext.trans{st st1 st2:af}(a:Ext st st1)(b:Ext st1 st2):Ext st st2:=⟨Nat.le_trans a.len b.len,fun m h=>(b.same m (Nat.lt_of_lt_of_le h a.len)).trans (a.same m h)⟩
theorem Ext.push{st:af}{c:List Cell}:Ext st (st++c):=⟨by simp,fun m h=>List.getElem?_append_left h⟩
theorem Ext.set{st:af}{n:Nat}{c:Cell}{st0:af}(a:Ext st0 st)(h:st0.length<=n):Ext st0 (st.set n c):=⟨by rw[List.length_set];exact a.len,fun m hm=>by rw[List.getElem?_set_ne (by omega)];exact a.same m hm⟩
theorem Ext.items{st st':af}{d:D}{xs:List D}(x:Ext st st')(e:items? st d=some xs):items? st' d=some xs:=by
 cases d with
 |ref n=>
  unfold items? at e⊢;simp only at e⊢;cases q:st[n]? with
  |none=>rw[q]at e;cases e
  |some c=>
   have hn:=(List.getElem?_eq_some_iff.mp q).1;rw[x.same n hn];exact e
 |_=>exact e
theorem gB{r:List Int}{k:Nat}(h:k<r.length):e9 (aB r) (k:Int)=some (.int (r.getD k 0)):=by
 refine jP ?_;rw[List.getElem?_map,List.getElem?_eq_getElem h,Mx.bJ h];rfl
theorem getD_mem{r:List Int}{k:Nat}(h:k<r.length):r.getD k 0∈r:=by rw[Mx.bJ h];exact List.getElem_mem _
theorem ints_app{r:List Int}{x:Int}:aB r++[D.int x]=aB (r++[x]):=by simp[aB]
theorem zj{A:List (List Int)}{r:List Int}:A.map cm++[cm r]=(A++[r]).map cm:=by simp
theorem Fx{r s:List Int}{d:D}(h:d∈iw (aB r) (aB s)):∃a b,a∈r/\b∈s/\d= .tup [.int a,.int b]:=by
 obtain⟨n,hn,e⟩:=List.mem_iff_getElem.mp h;have e':(iw (aB r) (aB s))[n]?=some d:=by rw[List.getElem?_eq_getElem hn,e]
 obtain⟨x,y,ex,ey,rfl⟩:=tW e';rw[List.getElem?_map]at ex ey;cases q1:r[n]? with
 |none=>rw[q1]at ex;cases ex
 |some a=>
  cases q2:s[n]? with
  |none=>rw[q2]at ey;cases ey
  |some b=>
   rw[q1]at ex;rw[q2]at ey;cases ex;cases ey;exact⟨a,b,List.mem_of_getElem? q1,List.mem_of_getElem? q2,rfl⟩
theorem tL(n:Nat):(List.replicate n [D.int 0]).flatten=aB (List.replicate n 0):=by
 induction n with
 |zero=>rfl
 |succ n ih=>rw[List.replicate_succ,List.flatten_cons,ih];rfl
theorem wV:∀r:List Int,(aB r).map (fun x=>match x with| .int i=>i|_=>0)=r
 | []=>rfl
 |a::r=>by rw[aB,List.map_cons,List.map_cons,wV r]
theorem E3{d:D}{ds:List D}:e9 (d::ds) 0=some d:=jP (j:=0) rfl
def intsOf(st:af)(d:D):List Int:=match items? st d with
 |some xs=>xs.map fun x=>match x with| .int i=>i|_=>0
 |none=>[]
theorem vY{st:af}{d:D}{r:List Int}(h:items? st d=some (aB r)):intsOf st d=r:=by
 unfold intsOf;rw[h];exact wV r
theorem wd{x y:D}{xs ys:List D}:iw (x::xs) (y::ys)= .tup [x,y]::iw xs ys:=rfl
theorem HK{n:Nat}{r:List Int}:(aB r).all (pl n)=true:=by
 refine List.all_eq_true.mpr fun d hd=>?_;obtain⟨i,_,rfl⟩:=List.mem_map.mp hd;cases n<;>rfl
def az:Addr:=144
abbrev eJ(b:Bool):Cell:=Cell.tab 124 ⟨63,32,63,66⟩ "Bench.live_rows.<locals>.<lambda>" b
abbrev JQ:List (Addr×Pos×Str):=[(124,⟨63,32,63,66⟩,"Bench.live_rows.<locals>.<lambda>")]
def oa:cE:=fun ds st K=>∃(d:D) (A:List (List Int)),ds=[d]/\eK st d A/\A.length<=1000/\K (aY A) st
def nU:List Str:=["rows"]
def Df:DS:=(bE (bM dS (ae (cZ (fe (ab 0)) [none] (bH 0) cH (bM dS (ae (ab 0) ak))) ak)))
theorem mL{tg:fM}{te:DE}{ok:af->Prop}{σc:cv}{st:af}{K:List D->af->Prop}{ds:List D}{A:List (List Int)}(f:List Int->D)(aJ:ok st)(hr:bY st ds A)(hx:∀d r,r∈A->items? st d=some (aB r)->∀K',K' (f r) st->∃σ2,tg d σc=some σ2/\te σ2 st K')(k:K (A.map f) st):cQ tg cH te ok σc ds [] st K:=by
 refine ef (fun rest acc st'=>∃(A1 A2:List (List Int)),st=st'/\A1++A2=A/\bY st rest A2/\acc=A1.map f) ?_ ?_ _ _ _ ⟨[],A,rfl,rfl,hr,rfl⟩
 . rintro acc st' ⟨A1,A2,rfl,he,h,rfl⟩;match A2,h with
   | [],_=>
     rw[List.append_nil]at he;subst he;exact⟨aJ,k⟩
 . rintro d rest acc st' ⟨A1,A2,rfl,he,h,rfl⟩ next
   match A2,h with
   |r::A2,h=>
    obtain⟨σ2,e2,q⟩:=hx d r (by rw[<-he];simp) h.1 (fun y st2=>cQ tg cH te ok σc rest (A1.map f++[y]) st2 K) (next _ _ ⟨A1++[r],A2,rfl,by rw[<-he];simp,h.2,by simp⟩);exact⟨aJ,σ2,e2,q⟩
theorem BF:∀ds st K,oa ds st K->ds.length=1/\Df {nx:=fun _ st'=>K .aL st',rt:=K} (ba nU ds) st:=by
 rintro ds st K ⟨d,A,rfl,⟨da,hd,ra⟩,hl,k⟩;refine⟨rfl,?_⟩;refine qY hd fun ok aJ=>⟨bZ (by rw[ra.len];exact hl),?_⟩
 refine mL cm aJ ra (fun e r hr he K' q=>⟨_,rfl,du he q⟩) ?_;exact du rfl k
def m4:cE:=fun ds st K=>∃x y t r s,ds=[x,.int t,y]/\items? st x=some (aB r)/\items? st y=some (aB s)/\r.length<=1000/\(∀b∈s,IntMulOk t b)/\K (a_ (Mx.fN r t s)) st
def r8:List Str:=["row","times","other"]
def G7:DS:=(bE (cZ (vU (ae (ab 0) (ae (ab 2) ak))) [none,none,some 1] (jb 0 1) cH (aq dm (ab 0) (aq eg (ab 2) (ab 1)))))
theorem wu{t:Int}:∀(r s:List Int),(iw (aB r) (aB s)).map (fun d=>match d with| .tup [.int a,.int b]=> .int (a+t*b)|_=> .aL)=aB (Mx.fN r t s)
 | [],_=>rfl
 |_::_,[]=>rfl
 |a::r,b::s=>by
  have:=wu (t:=t) r s;unfold iw Mx.fN at this⊢;simp only[aB,List.map_cons,List.zip_cons_cons,List.zipWith_cons_cons]at this⊢;rw[this]
theorem Eo:∀ds st K,m4 ds st K->ds.length=3/\G7 {nx:=fun _ st'=>K .aL st',rt:=K} (ba r8 ds) st:=by
 rintro ds st K ⟨x,y,t,r,s,rfl,hx,hy,hl,hm,k⟩;refine⟨rfl,?_⟩;refine uo hx hy fun ok aJ=>⟨bZ (by rw[tS];simp;omega),?_⟩
 refine comp_map (g:=fun d=>match d with| .tup [.int a,.int b]=> .int (a+t*b)|_=> .aL) (aJ st hx hy) _ (fun d hd K' q=>?_) ?_
 . obtain⟨a,b,ha,hb,rfl⟩:=Fx hd;exact⟨_,rfl,fV (hm b hb) (eO q)⟩
 . rw[wu];exact k
def tF:cE:=fun ds st K=>∃(x y:D) (n:Nat) (ws:List Int) (A:List (List Int)),ds=[x,y,.int n]/\items? st x=some (aB ws)/\eK st y A/\(∀r∈A,r.length=n)/\n<=1000/\(∀w∈ws,∀r∈A,∀b∈r,IntMulOk w b)/\K (cm (Mx.dA ws A (List.replicate n 0))) st
def pD:List Str:=["weights","rows","wide","total","weight","row"]
def ER:DS:=(aQ (cx 3 (aq eg (oG (ae (dC (.int 0)) ak)) (ab 2)))
 (aQ (iZ (vU (ae (ab 0) (ae (ab 1) ak))) (jb 4 5) (cx 3 (aK m4 (ae (ab 3) (ae (ab 4) (ae (ab 5) ak))))))
 (bE (bM dS (ae (ab 3) ak)))))
theorem C_:∀ds st K,tF ds st K->ds.length=3/\ER {nx:=fun _ st'=>K .aL st',rt:=K} (ba pD ds) st:=by
 rintro ds st K ⟨x,y,n,ws,A,rfl,hx,⟨dr,hy,hr⟩,hw,hn,hm,k⟩;refine⟨rfl,?_⟩;refine Jx (Nat.le_of_ble_eq_true rfl) (Hi ⟨by omega,by omega,bZ (by simp;omega)⟩ ?_);rw[Int.toNat_natCast,tL];refine uo hx hy fun ok aJ=>?_
 refine g_ (fun rest σ st'=>∃(v4 v5:Option D) (ws':List Int) (ds':List D) (A':List (List Int)) (acc:List Int),st=st'/\rest=iw (aB ws') ds'/\bY st ds' A'/\σ=[some x,some y,some (.int n),some (a_ acc),v4,v5]/\acc.length=n/\(∀r∈A',r∈A)/\(∀w∈ws',w∈ws)/\Mx.dA ws' A' acc=Mx.dA ws A (List.replicate n 0)) ?_ ?_ _ _ _
  ⟨none,none,ws,dr,A,List.replicate n 0,rfl,rfl,hr,rfl,by simp,fun _ h=>h,fun _ h=>h,rfl⟩
 . rintro σ st1 ⟨v4,v5,ws',ds',A',acc,rfl,he,hr',rfl,hl,_,_,hs⟩;refine⟨aJ _ hx hy,du rfl ?_⟩
   have:Mx.dA ws' A' acc=acc:=by
    match ws',ds',A',hr',he with
    | [],_,_,_,_=>unfold Mx.dA;rfl
    |_::_,[],[],_,_=>unfold Mx.dA;rfl
    |_::_,_::_,_::_,_,he=>cases he
   rw[this]at hs;rw[hs];exact k
 . rintro d rest σ st1 ⟨v4,v5,ws',ds',A',acc,rfl,he,hr',rfl,hl,ha,hw',hs⟩ next
   match ws',ds',A',hr',he with
   |w::ws',e::ds',r::A',hr',he=>
    simp only[aB,List.map_cons,wd,List.cons.injEq]at he;obtain⟨rfl,rfl⟩:=he;refine⟨aJ _ hx hy,_,rfl,?_⟩;have hrl:=hw r (ha r List.mem_cons_self);refine⟨_,_,_,acc,r,rfl,rfl,hr'.1,by omega,fun b hb=>hm w (hw' w List.mem_cons_self) r (ha r List.mem_cons_self) b hb,?_⟩;refine next _ _ ⟨_,_,ws',ds',A',Mx.fN acc w r,rfl,rfl,hr'.2,rfl,by rw[Mx.kE (by omega)];exact hl,fun q hq=>ha q (List.mem_cons_of_mem _ hq),fun q hq=>hw' q (List.mem_cons_of_mem _ hq),?_⟩
    rw[<-hs];rfl
   | [],_,_,_,he=>cases he
   |_::_,[],[],_,he=>cases he
def rf:cE:=fun ds st K=>∃(x y:D) (n:Nat) (A B:List (List Int)),ds=[x,y]/\eK st x A/\eK st y B/\B≠ []/\(∀r∈B,r.length=n)/\n<=1000/\A.length<=1000/\(∀w∈A,∀c∈w,∀r∈B,∀b∈r,IntMulOk c b)/\K (aY (Mx.mulM A B n)) st
def n_:List Str:=["one","other","wide"]
def Dk:DS:=(aQ (cx 2 (bM fC (ae (aq aV (ab 1) (dC (.int 0))) ak)))
 (bE (bM dS (ae (cZ (fe (ab 0)) [none,some 1,some 2] (bH 0) cH (aK tF (ae (ab 0) (ae (ab 1) (ae (ab 2) ak))))) ak))))
theorem yP{st:af}{n:Nat}{B:List (List Int)}{f:D->D}:∀ {ds:List D} {A:List (List Int)},bY st ds A->(∀d r,items? st d=some (aB r)->f d=cm (Mx.dA r B (List.replicate n 0)))->ds.map f=(Mx.mulM A B n).map cm
 | [],[],_,_=>rfl
 |d::ds,r::A,h,hf=>by
  rw[List.map_cons,hf d r h.1,yP h.2 hf];rfl
theorem Bp:∀ds st K,rf ds st K->ds.length=2/\Dk {nx:=fun _ st'=>K .aL st',rt:=K} (ba n_ ds) st:=by
 rintro ds st K ⟨x,y,n,A,B,rfl,⟨da,hx,ra⟩,hy,hB,hw,hn,hl,hm,k⟩;refine⟨rfl,?_⟩;obtain⟨db,ey,rb⟩:=hy.ex;match B,db,rb,hB,hw,hm,hy,k,ey with
 |r0::B,d0::db,rb,_,hw,hm,hy,k,ey=>
  have h0:r0.length=n:=hw r0 List.mem_cons_self;refine aD ey E3 (eM rb.1 ?_);rw[List.length_map,h0];refine qY hx fun ok aJ=>⟨bZ (by rw[ra.len];exact hl),?_⟩
  refine comp_map (g:=fun d=>cm (Mx.dA (intsOf st d) (r0::B) (List.replicate n 0))) aJ da (fun d hd K' q=>?_) ?_
  . obtain⟨i,hi,ed⟩:=List.mem_iff_getElem.mp hd;obtain⟨r,er,hr⟩:=ra.get (i:=i) (d:=d) (by rw[List.getElem?_eq_getElem hi,ed]);refine⟨_,rfl,d,y,n,r,r0::B,rfl,hr,hy,hw,hn,fun c hc=>hm r (List.mem_of_getElem? er) c hc,?_⟩;rw[vY hr]at q;exact q
  . refine du rfl ?_;rw[yP ra (n:=n) (B:=r0::B) fun d r h=>by rw[vY h]];exact k
 |_::_,[],rb,_,_,_,_,_,_=>exact rb.elim
def tP:cE:=fun ds st K=>∃(d:D) (A:List (List Int)) (j:Nat),ds=[d,.int j]/\eK st d A/\(∀r∈A,j<r.length)/\A.length<=1000/\K (cm (Mx.vT A j)) st
def pG:List Str:=["rows","place"]
def EE:DS:=(bE (bM dS (ae (cZ (fe (ab 0)) [none,some 1] (bH 0) cH (aq aV (ab 0) (ab 1))) ak)))
theorem wU{tg:fM}{te:DE}{ok:af->Prop}{σc:cv}{st:af}{K:List D->af->Prop}{ds:List D}{A:List (List Int)}(f:List Int->D)(aJ:ok st)(hr:bY st ds A)(hx:∀d r,r∈A->items? st d=some (aB r)->∀K',K' (f r) st->∃σ2,tg d σc=some σ2/\te σ2 st K')(k:K (A.map f) st):cQ tg cH te ok σc ds [] st K:=by
 refine ef (fun rest acc st'=>∃(A1 A2:List (List Int)),st=st'/\A1++A2=A/\bY st rest A2/\acc=A1.map f) ?_ ?_ _ _ _ ⟨[],A,rfl,rfl,hr,rfl⟩
 . rintro acc st' ⟨A1,A2,rfl,he,h,rfl⟩;match A2,h with
   | [],_=>
     rw[List.append_nil]at he;subst he;exact⟨aJ,k⟩
 . rintro d rest acc st' ⟨A1,A2,rfl,he,h,rfl⟩ next
   match A2,h with
   |r::A2,h=>
    obtain⟨σ2,e2,q⟩:=hx d r (by rw[<-he];simp) h.1 (fun y st2=>cQ tg cH te ok σc rest (A1.map f++[y]) st2 K) (next _ _ ⟨A1++[r],A2,rfl,by rw[<-he];simp,h.2,by simp⟩);exact⟨aJ,σ2,e2,q⟩
theorem C3(A:List (List Int))(j:Nat):A.map (fun r=>D.int (r.getD j 0))=aB (Mx.vT A j):=by unfold Mx.vT aB;rw[List.map_map];rfl
theorem C4:∀ds st K,tP ds st K->ds.length=2/\EE {nx:=fun _ st'=>K .aL st',rt:=K} (ba pG ds) st:=by
 rintro ds st K ⟨d,A,j,rfl,⟨da,hd,ra⟩,hj,hl,k⟩;refine⟨rfl,?_⟩;refine qY hd fun ok aJ=>⟨bZ (by rw[ra.len];exact hl),?_⟩
 refine wU (fun r=> .int (r.getD j 0)) aJ ra (fun e r hr he K' q=>⟨_,rfl,aD he (gB (hj r hr)) q⟩) ?_;rw[C3];exact du rfl k
def l6:cE:=fun ds st K=>∃(d:D) (A:List (List Int)) (n:Nat),ds=[d,.int n]/\eK st d A/\(∀r∈A,r.length=n)/\A.length<=1000/\n<=1000/\K (aY (Mx.F9 A n)) st
def jD:List Str:=["rows","wide"]
def xl:DS:=(bE (bM dS (ae (cZ (dz (ae (ab 1) ak)) [none,some 0] (bH 0) cH (aK tP (ae (ab 1) (ae (ab 0) ak)))) ak)))
theorem EA(A:List (List Int))(n:Nat):(List.range n).map (fun j=>cm (Mx.vT A j))=(Mx.F9 A n).map cm:=by unfold Mx.F9;rw[List.map_map];rfl
theorem vC:∀ds st K,l6 ds st K->ds.length=2/\xl {nx:=fun _ st'=>K .aL st',rt:=K} (ba jD ds) st:=by
 rintro ds st K ⟨d,A,n,rfl,hd,hw,hl,hn,k⟩;refine⟨rfl,?_⟩;refine eH ⟨by omega,by omega⟩ ⟨bZ (by rw[cJ];omega),?_⟩;rw[Int.toNat_natCast];refine j_ (fun j=>cm (Mx.vT A j)) n (fun i hi K' q=>⟨_,rfl,d,A,i,rfl,hd,fun r hr=>by rw[hw r hr];exact hi,hl,q⟩) ?_;rw[EA];exact du rfl k
def pA:cE:=fun ds st K=>∃(n i:Nat),ds=[.int n,.int i]/\n<=1000/\K (cm (Mx.i_ n i)) st
def mP:List Str:=["n","place"]
def A5:DS:=(bE (bM dS (ae (cZ (dz (ae (ab 0) ak)) [none,some 1] (bH 0) cH (Gu (a8 (aq jq (ab 0) (ab 1))) (dC (.int 1)) (dC (.int 0)))) ak)))
theorem zF:∀ds st K,pA ds st K->ds.length=2/\A5 {nx:=fun _ st'=>K .aL st',rt:=K} (ba mP ds) st:=by
 rintro ds st K ⟨n,i,rfl,hn,k⟩;refine⟨rfl,?_⟩;refine eH ⟨by omega,by omega⟩ ⟨bZ (by rw[cJ];omega),?_⟩;rw[Int.toNat_natCast];refine j_ (fun j=> .int (Mx.dl j i)) n (fun j hj K' q=>⟨_,rfl,?_⟩) ?_
 . refine eq2 (fun h=>fi ?_) fun h=>?_
   . have:j=i:=by omega
     subst this;rw[Mx.dw]at q;exact q
   . rw[Mx.d7 (by omega)]at q;exact q
 . have:(List.range n).map (fun j=>D.int (Mx.dl j i))=aB (Mx.i_ n i):=by unfold Mx.i_ aB;rw[List.map_map];rfl
   rw[this];exact du rfl k
def k_:cE:=fun ds st K=>∃(n:Nat),ds=[.int n]/\n<=1000/\K (aY (Mx.units n)) st
def lp:List Str:=["n"]
def zR:DS:=(bE (bM dS (ae (cZ (dz (ae (ab 0) ak)) [none,some 0] (bH 0) cH (aK pA (ae (ab 1) (ae (ab 0) ak)))) ak)))
theorem yy:∀ds st K,k_ ds st K->ds.length=1/\zR {nx:=fun _ st'=>K .aL st',rt:=K} (ba lp ds) st:=by
 rintro ds st K ⟨n,rfl,hn,k⟩;refine⟨rfl,?_⟩;refine eH ⟨by omega,by omega⟩ ⟨bZ (by rw[cJ];omega),?_⟩;rw[Int.toNat_natCast];refine j_ (fun i=>cm (Mx.i_ n i)) n (fun i hi K' q=>⟨_,rfl,n,i,rfl,hn,q⟩) ?_;have:(List.range n).map (fun i=>cm (Mx.i_ n i))=(Mx.units n).map cm:=by unfold Mx.units;rw[List.map_map];rfl
 rw[this];exact du rfl k
theorem Ia{w m:Nat}:(List.replicate m [D.tup (List.replicate w [D.int 0]).flatten]).flatten=(List.replicate m (List.replicate w (0:Int))).map cm:=by
 rw[tL];induction m with
 |zero=>rfl
 |succ m ih=>rw[List.replicate_succ,List.replicate_succ,List.flatten_cons,List.map_cons,ih];rfl
def vH(m w:Nat):List (List Int):=List.replicate m (List.replicate w 0)
def l8:cE:=fun ds st K=>∃(i:Int) (w:Nat),ds=[.int i,.int w]/\ -1000<=i/\i<=1000/\w<=1000/\K (aY (vH i.toNat w)) st
def jB:List Str:=["many","wide"]
def xo:DS:=(bE (aq eg (gL (ae (aq eg (gL (ae (dC (.int 0)) ak)) (ab 1)) ak)) (ab 0)))
theorem vg:∀ds st K,l8 ds st K->ds.length=2/\xo {nx:=fun _ st'=>K .aL st',rt:=K} (ba jB ds) st:=by
 rintro ds st K ⟨i,w,rfl,h1,h2,hw,k⟩;refine⟨rfl,?_⟩;refine Jx (Nat.le_of_ble_eq_true rfl) (As ⟨by omega,by omega,bZ (by simp;omega)⟩ ?_);rw[Int.toNat_natCast];refine Jx (Nat.le_of_ble_eq_true rfl) (As ⟨by omega,by omega,bZ (by simp;omega)⟩ ?_);rw[Ia];exact k
def fK:List Int->Nat->Option Nat
 | [],_=>none
 |x::xs,i=>if x=0 then fK xs (i+1)else some i
def jx(r:List Int):Option Nat:=fK r 0
def mq(r:List Int):D:=match jx r with
 |some k=> .int (k:Int)
 |none=> .aL
def rp:cE:=fun ds st K=>∃(d:D) (r:List Int),ds=[d]/\items? st d=some (aB r)/\K (mq r) st
def nV:List Str:=["row","place","number"]
def D6:DS:=(aQ (iZ (xR (ae (ab 0) ak)) (jb 1 2) (d9 (a8 (aq oq (ab 2) (dC (.int 0)))) (bE (ab 1)) c6))
 (bE (dC .aL)))
theorem BD:∀ds st K,rp ds st K->ds.length=1/\D6 {nx:=fun _ st'=>K .aL st',rt:=K} (ba nV ds) st:=by
 rintro ds st K ⟨d,r,rfl,hd,k⟩;refine⟨rfl,?_⟩;refine Ak hd fun ok aJ=>?_;refine g_ (fun rest σ st'=>st'=st/\∃(v1 v2:Option D) (s:List Int) (i:Nat),σ=[some d,v1,v2]/\rest=gq i (aB s)/\fK r 0=fK s i) ?_ ?_ _ _ _ ⟨rfl,none,none,r,0,rfl,rfl,rfl⟩
 . rintro σ st' ⟨rfl,v1,v2,s,i,rfl,hr,hl⟩;match s,hr with
   | [],_=>
     refine⟨aJ _ hd,?_⟩;have:mq r= .aL:=by unfold mq jx;rw[hl];rfl
     rw[this]at k;exact k
 . rintro x rest σ st' ⟨rfl,v1,v2,s,i,rfl,hr,hl⟩ next
   match s,hr,hl with
   |y::s,hr,hl=>
    simp only[aB,List.map_cons,gq,List.cons.injEq]at hr;obtain⟨rfl,rfl⟩:=hr;refine⟨aJ _ hd,_,rfl,?_⟩;refine ne2 (fun h=>fi ?_) fun h=>?_
    . have:mq r= .int (i:Int):=by unfold mq jx;rw[hl];unfold fK;rw[if_neg h]
      rw[this]at k;exact k
    . refine next _ _ ⟨rfl,_,_,s,i+1,rfl,rfl,?_⟩
      rw[hl];unfold fK;rw[if_pos h];cases s<;>rfl
   | [],hr,_=>cases hr
theorem zg:∀(r:List Int) (i l:Nat),(∀c,c<l->r.getD c 0=0)->r.getD l 0≠0->fK r i=some (i+l)
 | [],_,_,_,h=>(h rfl).elim
 |x::r,i,0,_,h=>by
  unfold fK;rw[if_neg (show¬x=0 from h)];rfl
 |x::r,i,l+1,hz,h=>by
  unfold fK;rw[if_pos (show x=0 from hz 0 (Nat.zero_lt_succ _)),zg r (i+1) l (fun c hc=>hz (c+1) (Nat.succ_lt_succ hc)) h,Nat.add_right_comm];rfl
theorem uw:∀(r:List Int) (i:Nat),fK r i=none->∀c,r.getD c 0=0
 | [],_,_,_=>rfl
 |x::r,i,h,c=>by
  unfold fK at h;split at h
  . cases c with
    |zero=>assumption
    |succ c=>exact uw r (i+1) h c
  . cases h
theorem nN{r:List Int}{l:Nat}(h:∀c,c<l->r.getD c 0=0)(h':r.getD l 0≠0):jx r=some l:=by
 have:=zg r 0 l h h';rw[Nat.zero_add]at this;exact this
def i6:cE:=fun ds st K=>∃(t d:Int),ds=[.int t,.int d]/\d≠0/\K (.int (Mx.qn t d)) st
def fZ:List Str:=["top","bottom"]
def rl:DS:=(bE (aq o3 (aq dm (aq eg (dC (.int 2)) (ab 0)) (ab 1)) (aq eg (dC (.int 2)) (ab 1))))
theorem E_{a:Int}{m:Nat}(h:a.natAbs<2^m):Builtin.Int.intBits a<=m:=by
 unfold Builtin.Int.intBits;by_cases h0:a.natAbs=0
 . have:a=0:=by omega
   subst this;simp
 . have:=(Nat.log2_lt h0).mpr h;split<;>omega
theorem kD{a b:Int}{m n:Nat}(ha:a.natAbs<=2^m)(hb:b.natAbs<=2^n)(h:m+n<=130000000):IntMulOk a b:=by
 have q:∀ {x:Int} {k:Nat},x.natAbs<=2^k->Builtin.Int.intBits x<=k+1:=fun{x k} h=>E_ (Nat.lt_of_le_of_lt h (Nat.pow_lt_pow_right (by decide) (Nat.lt_succ_self k)));have h1:=q ha;have h2:=q hb;have e:(2:Nat)^27=134217728:=by decide
 have z:Builtin.Int.intTooBig (Builtin.Int.intBits a+Builtin.Int.intBits b)=false:=by
  unfold Builtin.Int.intTooBig bitsLine;exact decide_eq_false (by omega)
 unfold IntMulOk;rw[z];simp
theorem qm:∀ds st K,i6 ds st K->ds.length=2/\rl {nx:=fun _ st'=>K .aL st',rt:=K} (ba fZ ds) st:=by
 rintro ds st K ⟨t,d,rfl,hd,k⟩;exact⟨rfl,fV (h_ (by decide) (by decide)) (eO (fV (h_ (by decide) (by decide)) (yg (by omega) k)))⟩
def jv:cE:=fun ds st K=>∃(n k o:Nat) (A:List (List Int)),ds=[.ref n,.int k,.int o]/\st[n]?=some (.lst (A.map a_))/\k<A.length/\o<A.length/\K (.ref st.length) (st++[.lst ((Mx.bh A k o).map a_)])
def lu:List Str:=["rows","k","other","order"]
def zO:DS:=(aQ (cx 3 (bM o8 (ae (ab 0) ak)))
 (aQ (eN (ab 3) (ab 1) (aq aV (ab 0) (ab 2)))
 (aQ (eN (ab 3) (ab 2) (aq aV (ab 0) (ab 1)))
 (bE (ab 3)))))
theorem dM{A:List (List Int)}{j:Nat}(h:j<A.length):e9 (A.map a_) (j:Int)=some (a_ (A.getD j [])):=by
 refine jP ?_;rw[List.getElem?_map,List.getElem?_eq_getElem h,Mx.bJ h];rfl
theorem lV{m k:Nat}(h:k<m):mh m (k:Int)=some k:=by
 have:=yF (i:=(k:Int)) (m:=m) (by omega) (by omega);rw[Int.toNat_natCast]at this;exact this
theorem hZ{A:List (List Int)}{k:Nat}{r:List Int}:(A.map a_).set k (a_ r)=(A.set k r).map a_:=by rw[List.map_set]
theorem yA:∀ds st K,jv ds st K->ds.length=3/\zO {nx:=fun _ st'=>K .aL st',rt:=K} (ba lu ds) st:=by
 rintro ds st K ⟨n,k,o,A,rfl,e,hk,ho,kk⟩;refine⟨rfl,?_⟩;have hn:n<st.length:=(List.getElem?_eq_some_iff.mp e).1;refine zu (aF e) ?_;have e1:(st++[Cell.lst (A.map a_)])[n]?=some (.lst (A.map a_)):=by rw[List.getElem?_append_left hn];exact e
 have e2:(st++[Cell.lst (A.map a_)])[st.length]?=some (.lst (A.map a_)):=by simp
 refine aD (aF e1) (dM ho) (i8 e2 (by rw[List.length_map];exact lV hk) ?_);rw[hZ]
 have es:(st++[Cell.lst (A.map a_)]).set st.length (.lst ((A.set k (A.getD o [])).map a_))=st++[Cell.lst ((A.set k (A.getD o [])).map a_)]:=by
  rw[List.set_append_right _ _ (Nat.le_refl _),Nat.sub_self];rfl
 rw[es];have e3:(st++[Cell.lst ((A.set k (A.getD o [])).map a_)])[n]?=some (.lst (A.map a_)):=by rw[List.getElem?_append_left hn];exact e
 have e4:(st++[Cell.lst ((A.set k (A.getD o [])).map a_)])[st.length]?=some (.lst ((A.set k (A.getD o [])).map a_)):=by simp
 refine aD (aF e3) (dM hk) (i8 e4 (by rw[List.length_map,List.length_set];exact lV ho) ?_);rw[hZ]
 have es2:(st++[Cell.lst ((A.set k (A.getD o [])).map a_)]).set st.length (.lst (((A.set k (A.getD o [])).set o (A.getD k [])).map a_))=st++[Cell.lst ((Mx.bh A k o).map a_)]:=by
  rw[List.set_append_right _ _ (Nat.le_refl _),Nat.sub_self];rfl
 rw[es2];exact kk
def lS:cE:=fun ds st K=>∃(d:D) (r:List Int),ds=[d]/\items? st d=some (aB r)/\r.length<=1000/\K (a_ (r.map fun x=> -x)) st
def om:List Str:=["row"]
def Du:DS:=(bE (cZ (fe (ab 0)) [none] (bH 0) cH (pd jG (ab 0))))
theorem Bb:∀ds st K,lS ds st K->ds.length=1/\Du {nx:=fun _ st'=>K .aL st',rt:=K} (ba om ds) st:=by
 rintro ds st K ⟨d,r,rfl,hd,hl,k⟩;refine⟨rfl,?_⟩;refine qY hd fun ok aJ=>⟨bZ (by unfold aB;rw[List.length_map];exact hl),?_⟩
 refine comp_map (g:=fun x=>match x with| .int a=> .int (-a)|_=> .aL) aJ _ (fun x hx K' q=>?_) ?_
 . unfold aB at hx;obtain⟨a,_,rfl⟩:=List.mem_map.mp hx;exact⟨_,rfl,lY q⟩
 . have e:(aB r).map (fun x=>match x with| .int a=> .int (-a)|_=> .aL)=aB (r.map fun x=> -x):=by unfold aB;rw[List.map_map,List.map_map];rfl
   rw[e];exact k
structure Bn(st:af)(b xb xu xc:Nat)(A U C:List (List Int)):Prop where
 eb:st[b]?=some (Cell.ins az [("body",.ref xb),("turn",.ref xu),("back_columns",.ref xc)])
 e1:st[xb]?=some (Cell.lst (A.map a_))
 e2:st[xu]?=some (Cell.lst (U.map a_))
 e3:st[xc]?=some (Cell.lst (C.map a_))
 n1:xb≠xu
 n2:xb≠xc
 n3:xu≠xc
theorem ka{st:af}{b x:Nat}{C:Addr}{fs:List (Str×D)}{xs:List D}(h1:st[b]?=some (Cell.ins C fs))(h2:st[x]?=some (Cell.lst xs)):b≠x:=fun z=>by rw[z,h2]at h1;cases h1
def jF:cE:=fun ds st K=>∃(b N:Nat) (d:D) (A:List (List Int)),ds=[.ref b,d]/\st[b]?=some (.ins az [])/\eK st d A/\A.length=N/\N<=16/\∀st',Bn st' b st.length (st.length+1) (st.length+2) A (Mx.units N) (Mx.units N)->st'.length=st.length+3->(∀m,m<st.length->m≠b->st'[m]?=st[m]?)->K .aL st'
def gX:List Str:=["self","rows"]
def tx:DS:=(aQ (ot az "body" (ab 0) (qU (fe (ab 1)) [none] (bH 0) cH (bM ke (ae (ab 0) ak))))
 (aQ (ot az "turn" (ab 0) (qU (fe (aK k_ (ae (bM fC (ae (ab 1) ak)) ak))) [none] (bH 0) cH (bM ke (ae (ab 0) ak))))
 (ot az "back_columns" (ab 0) (qU (fe (aK k_ (ae (bM fC (ae (ab 1) ak)) ak))) [none] (bH 0) cH (bM ke (ae (ab 0) ak))))))
theorem pQ(f:Str)(v:D):∀fs:List (Str×D),(putD f v fs).length<=fs.length+1
 | []=>by simp[putD]
 |(g,x)::r=>by
  unfold putD;split
  . simp
  . have:=pQ f v r;simp only[List.length_cons];omega
theorem x6{st:af}{A:List (List Int)}:bY st (A.map cm) A:=bY.tup
theorem wb(n:Nat):(Mx.units n).length=n:=by unfold Mx.units;simp
theorem sh:∀ds st K,jF ds st K->ds.length=2/\tx {nx:=fun _ st'=>K .aL st',rt:=K} (ba gX ds) st:=by
 rintro ds st K ⟨b,N,d,A,rfl,eb,hA,hl,hN,k⟩;refine⟨rfl,?_⟩;have hb:b<st.length:=(List.getElem?_eq_some_iff.mp eb).1;obtain⟨da,hd,ra⟩:=hA.ex;have hdl:=ra.len;have lst:∀(e:D) (r:List Int),True:=fun _ _=>trivial;refine qY hd fun ok aJ=>⟨bZ (by omega),?_⟩
 refine mL a_ aJ ra (fun e r hr he K' q=>⟨_,rfl,jY he q⟩) ?_;have eb1:(st++[Cell.lst (A.map a_)])[b]?=some (.ins az []):=by rw[List.getElem?_append_left hb];exact eb
 refine mW eb1 (by decide) ?_;generalize hs1:(st++[Cell.lst (A.map a_)]).set b (.ins az (putD "body" (.ref st.length) []))=st1;have l1:st1.length=st.length+1:=by rw[<-hs1];simp
 have f1:∀m,m<st.length->m≠b->st1[m]?=st[m]?:=fun m hm hmb=>by rw[<-hs1,List.getElem?_set_ne (Ne.symm hmb),List.getElem?_append_left hm]
 have b1:st1[b]?=some (.ins az (putD "body" (.ref st.length) [])):=by rw[<-hs1,List.getElem?_set_self (by simp;omega)]
 have x1:st1[st.length]?=some (.lst (A.map a_)):=by rw[<-hs1,List.getElem?_set_ne (by omega)];simp
 clear hs1
 have itd:∃da',items? st1 d=some da'/\da'.length=N:=by
  cases d with
  |ref n=>
   by_cases hnb:n=b
   . subst hnb;unfold items? at hd;simp only[eb]at hd;cases hd
   . have hn:n<st.length:=by
      unfold items? at hd;simp only at hd;cases q:st[n]? with
      |none=>rw[q]at hd;cases hd
      |some c=>exact(List.getElem?_eq_some_iff.mp q).1
     refine⟨da,?_,by omega⟩;unfold items? at hd⊢;simp only at hd⊢;rw[f1 n hn hnb];exact hd
  |_=>exact⟨da,hd,by omega⟩
 obtain⟨da1,hd1,hdl1⟩:=itd;refine eM hd1 ?_;rw[hdl1];refine⟨N,rfl,by omega,?_⟩;refine fP ⟨bZ (by rw[List.length_map,wb];omega),?_⟩;refine mL a_ trivial x6 (fun e r hr he K' q=>⟨_,rfl,jY he q⟩) ?_;have b2:(st1++[Cell.lst ((Mx.units N).map a_)])[b]?=some (.ins az (putD "body" (.ref st.length) [])):=by rw[List.getElem?_append_left (by omega)];exact b1
 refine mW b2 (by have:=pQ "body" (.ref st.length) [];simp only[List.length_nil]at this;omega) ?_;generalize hs2:(st1++[Cell.lst ((Mx.units N).map a_)]).set b (.ins az (putD "turn" (.ref st1.length) (putD "body" (.ref st.length) [])))=st2;have l2:st2.length=st.length+2:=by rw[<-hs2];simp;omega
 have f2:∀m,m<st1.length->m≠b->st2[m]?=st1[m]?:=fun m hm hmb=>by rw[<-hs2,List.getElem?_set_ne (Ne.symm hmb),List.getElem?_append_left hm]
 have b2':st2[b]?=some (.ins az (putD "turn" (.ref st1.length) (putD "body" (.ref st.length) []))):=by rw[<-hs2,List.getElem?_set_self (by simp;omega)]
 have x2:st2[st1.length]?=some (.lst ((Mx.units N).map a_)):=by rw[<-hs2,List.getElem?_set_ne (by omega)];simp
 clear hs2
 have itd2:items? st2 d=some da1:=by
  cases d with
  |ref n=>
   by_cases hnb:n=b
   . subst hnb;unfold items? at hd1;simp only[b1]at hd1;cases hd1
   . have hn:n<st1.length:=by
      unfold items? at hd1;simp only at hd1;cases q:st1[n]? with
      |none=>rw[q]at hd1;cases hd1
      |some c=>exact(List.getElem?_eq_some_iff.mp q).1
     unfold items? at hd1⊢;simp only at hd1⊢;rw[f2 n hn hnb];exact hd1
  |_=>exact hd1
 refine eM itd2 ?_;rw[hdl1];refine⟨N,rfl,by omega,?_⟩;refine fP ⟨bZ (by rw[List.length_map,wb];omega),?_⟩;refine mL a_ trivial x6 (fun e r hr he K' q=>⟨_,rfl,jY he q⟩) ?_;have b3:(st2++[Cell.lst ((Mx.units N).map a_)])[b]?=some (.ins az (putD "turn" (.ref st1.length) (putD "body" (.ref st.length) []))):=by rw[List.getElem?_append_left (by omega)];exact b2'
 refine mW b3 (by have h1:=pQ "body" (.ref st.length) [];have h2:=pQ "turn" (.ref st1.length) (putD "body" (.ref st.length) []);simp only[List.length_nil]at h1;omega) ?_;refine k _ ⟨?_,?_,?_,?_,by omega,by omega,by omega⟩ (by simp;omega) fun m hm hmb=>?_
 . rw[List.getElem?_set_self (by simp;omega),l1,l2];rfl
 . rw[List.getElem?_set_ne (by omega),List.getElem?_append_left (by omega),f2 _ (by omega) (by omega)];exact x1
 . rw[List.getElem?_set_ne (by omega),List.getElem?_append_left (by omega)];rw[l1]at x2;exact x2
 . rw[List.getElem?_set_ne (by omega)];rw[show st.length+2=st2.length by omega];simp
 . rw[List.getElem?_set_ne (Ne.symm hmb),List.getElem?_append_left (by omega),f2 m (by omega) hmb,f1 m hm hmb]
def j8:cE:=fun ds st K=>∃(b xb xu xc N w k j:Nat) (A U C:List (List Int)) (q:Int),ds=[.ref b,.int k,.int q,.int j]/\Bn st b xb xu xc A U C/\Mx.a5 N w A/\Mx.a5 N N U/\Mx.a5 N N C/\k<N/\j<N/\N<=16/\w<=16/\(∀x∈A.getD j [],IntMulOk (-q) x)/\(∀x∈U.getD j [],IntMulOk (-q) x)/\(∀x∈C.getD k [],IntMulOk q x)/\
 ∀st',Bn st' b xb xu xc (Mx.aN A k q j) (Mx.aN U k q j) (Mx.aN C j (-q) k)->st'.length=st.length->(∀m,m≠xb->m≠xu->m≠xc->st'[m]?=st[m]?)->K .aL st'
def kh:List Str:=["self","k","times","other"]
def yz:DS:=(aQ (eN (dX az "body" (ab 0)) (ab 1) (aK m4 (ae (aq aV (dX az "body" (ab 0)) (ab 1)) (ae (pd jG (ab 2)) (ae (aq aV (dX az "body" (ab 0)) (ab 3)) ak)))))
 (aQ (eN (dX az "turn" (ab 0)) (ab 1) (aK m4 (ae (aq aV (dX az "turn" (ab 0)) (ab 1)) (ae (pd jG (ab 2)) (ae (aq aV (dX az "turn" (ab 0)) (ab 3)) ak)))))
 (eN (dX az "back_columns" (ab 0)) (ab 3) (aK m4 (ae (aq aV (dX az "back_columns" (ab 0)) (ab 3)) (ae (ab 2) (ae (aq aV (dX az "back_columns" (ab 0)) (ab 1)) ak)))))))
theorem xg:∀ds st K,j8 ds st K->ds.length=4/\yz {nx:=fun _ st'=>K .aL st',rt:=K} (ba kh ds) st:=by
 rintro ds st K ⟨b,xb,xu,xc,N,w,k,j,A,U,C,q,rfl,B,hA,hU,hC,hk,hj,hN,hw,mA,mU,mC,kk⟩;refine⟨rfl,?_⟩;have lA:=hA.len;have lU:=hU.len;have lC:=hC.len;have rA:=Mx.cA hA hk;have rU:=Mx.cA hU hk;have rC:=Mx.cA hC hj;have bx1:=ka B.eb B.e1;have bx2:=ka B.eb B.e2;have bx3:=ka B.eb B.e3;have n1:=B.n1;have n2:=B.n2;have n3:=B.n3;refine cB B.eb rfl (aD (aF B.e1) (dM (by omega)) (lY (cB B.eb rfl (aD (aF B.e1) (dM (by omega)) ?_))));refine⟨_,_,-q,A.getD k [],A.getD j [],rfl,rfl,rfl,by omega,mA,?_⟩;refine cB B.eb rfl (i8 B.e1 (by rw[List.length_map,lA];exact lV hk) ?_);rw[hZ];have g1:∀m,m≠xb->(st.set xb (.lst ((A.set k (Mx.fN (A.getD k []) (-q) (A.getD j []))).map a_)))[m]?=st[m]?:=fun m hm=>List.getElem?_set_ne (Ne.symm hm);have h1:(st.set xb (.lst ((A.set k (Mx.fN (A.getD k []) (-q) (A.getD j []))).map a_)))[xb]?=some (.lst ((Mx.aN A k q j).map a_)):=List.getElem?_set_self (List.getElem?_eq_some_iff.mp B.e1).1;have z1:(st.set xb (.lst ((A.set k (Mx.fN (A.getD k []) (-q) (A.getD j []))).map a_))).length=st.length:=List.length_set;generalize st.set xb (.lst ((A.set k (Mx.fN (A.getD k []) (-q) (A.getD j []))).map a_))=st1 at g1 h1 z1⊢;have eb1:=(g1 b bx1).trans B.eb;have e21:=(g1 xu (Ne.symm n1)).trans B.e2;have e31:=(g1 xc (Ne.symm n2)).trans B.e3;refine cB eb1 rfl (aD (aF e21) (dM (by omega)) (lY (cB eb1 rfl (aD (aF e21) (dM (by omega)) ?_))));refine⟨_,_,-q,U.getD k [],U.getD j [],rfl,rfl,rfl,by omega,mU,?_⟩;refine cB eb1 rfl (i8 e21 (by rw[List.length_map,lU];exact lV hk) ?_);rw[hZ];have g2:∀m,m≠xu->(st1.set xu (.lst ((U.set k (Mx.fN (U.getD k []) (-q) (U.getD j []))).map a_)))[m]?=st1[m]?:=fun m hm=>List.getElem?_set_ne (Ne.symm hm);have h2:(st1.set xu (.lst ((U.set k (Mx.fN (U.getD k []) (-q) (U.getD j []))).map a_)))[xu]?=some (.lst ((Mx.aN U k q j).map a_)):=List.getElem?_set_self (List.getElem?_eq_some_iff.mp e21).1;have z2:(st1.set xu (.lst ((U.set k (Mx.fN (U.getD k []) (-q) (U.getD j []))).map a_))).length=st1.length:=List.length_set;generalize st1.set xu (.lst ((U.set k (Mx.fN (U.getD k []) (-q) (U.getD j []))).map a_))=st2 at g2 h2 z2⊢;have eb2:=(g2 b bx2).trans eb1;have e32:=(g2 xc (Ne.symm n3)).trans e31;refine cB eb2 rfl (aD (aF e32) (dM (by omega)) (cB eb2 rfl (aD (aF e32) (dM (by omega)) ?_)));refine⟨_,_,q,C.getD j [],C.getD k [],rfl,rfl,rfl,by omega,mC,?_⟩;refine cB eb2 rfl (i8 e32 (by rw[List.length_map,lC];exact lV hj) ?_);rw[hZ];have hc:C.set j (Mx.fN (C.getD j []) q (C.getD k []))=Mx.aN C j (-q) k:=by unfold Mx.aN;rw[Int.neg_neg]
 rw[hc];refine kk _ ⟨?_,?_,?_,?_,n1,n2,n3⟩ (by rw[List.length_set];omega) fun m m1 m2 m3=>?_
 . rw[List.getElem?_set_ne (Ne.symm bx3)];exact eb2
 . rw[List.getElem?_set_ne (Ne.symm n2),g2 _ n1];exact h1
 . rw[List.getElem?_set_ne (Ne.symm n3)];exact h2
 . exact List.getElem?_set_self (List.getElem?_eq_some_iff.mp e32).1
 . rw[List.getElem?_set_ne (Ne.symm m3),g2 m m2,g1 m m1]
def jM:cE:=fun ds st K=>∃(b xb xu xc N w k o:Nat) (A U C:List (List Int)),ds=[.ref b,.int k,.int o]/\Bn st b xb xu xc A U C/\Mx.a5 N w A/\Mx.a5 N N U/\Mx.a5 N N C/\k<N/\o<N/\
 ∀st',Bn st' b st.length (st.length+1) (st.length+2) (Mx.bh A k o) (Mx.bh U k o) (Mx.bh C k o)->st'.length=st.length+3->(∀m,m<st.length->m≠b->st'[m]?=st[m]?)->K .aL st'
def g0:List Str:=["self","k","other"]
def t_:DS:=(aQ (ot az "body" (ab 0) (aK jv (ae (dX az "body" (ab 0)) (ae (ab 1) (ae (ab 2) ak)))))
 (aQ (ot az "turn" (ab 0) (aK jv (ae (dX az "turn" (ab 0)) (ae (ab 1) (ae (ab 2) ak)))))
 (ot az "back_columns" (ab 0) (aK jv (ae (dX az "back_columns" (ab 0)) (ae (ab 1) (ae (ab 2) ak)))))))
theorem sj:∀ds st K,jM ds st K->ds.length=3/\t_ {nx:=fun _ st'=>K .aL st',rt:=K} (ba g0 ds) st:=by
 rintro ds st K ⟨b,xb,xu,xc,N,w,k,o,A,U,C,rfl,B,hA,hU,hC,hk,ho,kk⟩;refine⟨rfl,?_⟩;have lA:=hA.len;have lU:=hU.len;have lC:=hC.len;have bx1:=ka B.eb B.e1;have bx2:=ka B.eb B.e2;have bx3:=ka B.eb B.e3;have hb:b<st.length:=(List.getElem?_eq_some_iff.mp B.eb).1;have hu:xu<st.length:=(List.getElem?_eq_some_iff.mp B.e2).1;have hc:xc<st.length:=(List.getElem?_eq_some_iff.mp B.e3).1;refine cB B.eb rfl ?_;refine⟨xb,k,o,A,rfl,B.e1,by omega,by omega,?_⟩;have eb1:(st++[Cell.lst ((Mx.bh A k o).map a_)])[b]?=some (.ins az [("body",.ref xb),("turn",.ref xu),("back_columns",.ref xc)]):=by rw[List.getElem?_append_left hb];exact B.eb
 refine mW eb1 (by simp) ?_;have pb:putD "body" (.ref st.length) [("body",.ref xb),("turn",.ref xu),("back_columns",.ref xc)]=([("body",.ref st.length),("turn",.ref xu),("back_columns",.ref xc)]:List (Str×D)):=rfl;rw[pb];generalize hs1:(st++[Cell.lst ((Mx.bh A k o).map a_)]).set b (.ins az [("body",.ref st.length),("turn",.ref xu),("back_columns",.ref xc)])=st1;have l1:st1.length=st.length+1:=by rw[<-hs1];simp
 have f1:∀m,m<st.length->m≠b->st1[m]?=st[m]?:=fun m hm hmb=>by rw[<-hs1,List.getElem?_set_ne (Ne.symm hmb),List.getElem?_append_left hm]
 have b1:st1[b]?=some (.ins az [("body",.ref st.length),("turn",.ref xu),("back_columns",.ref xc)]):=by rw[<-hs1,List.getElem?_set_self (by simp;omega)]
 have x1:st1[st.length]?=some (.lst ((Mx.bh A k o).map a_)):=by rw[<-hs1,List.getElem?_set_ne (by omega)];simp
 clear hs1 eb1;refine cB b1 rfl ?_;refine⟨xu,k,o,U,rfl,(f1 xu hu (Ne.symm bx2)).trans B.e2,by omega,by omega,?_⟩;have eb1:(st1++[Cell.lst ((Mx.bh U k o).map a_)])[b]?=some (.ins az [("body",.ref st.length),("turn",.ref xu),("back_columns",.ref xc)]):=by rw[List.getElem?_append_left (by omega)];exact b1
 refine mW eb1 (by simp) ?_;have pb:putD "turn" (.ref st1.length) [("body",.ref st.length),("turn",.ref xu),("back_columns",.ref xc)]=([("body",.ref st.length),("turn",.ref st1.length),("back_columns",.ref xc)]:List (Str×D)):=rfl;rw[pb];generalize hs2:(st1++[Cell.lst ((Mx.bh U k o).map a_)]).set b (.ins az [("body",.ref st.length),("turn",.ref st1.length),("back_columns",.ref xc)])=st2;have l2:st2.length=st.length+2:=by rw[<-hs2];simp;omega
 have f2:∀m,m<st1.length->m≠b->st2[m]?=st1[m]?:=fun m hm hmb=>by rw[<-hs2,List.getElem?_set_ne (Ne.symm hmb),List.getElem?_append_left hm]
 have b2:st2[b]?=some (.ins az [("body",.ref st.length),("turn",.ref st1.length),("back_columns",.ref xc)]):=by rw[<-hs2,List.getElem?_set_self (by simp;omega)]
 have x2:st2[st1.length]?=some (.lst ((Mx.bh U k o).map a_)):=by rw[<-hs2,List.getElem?_set_ne (by omega)];simp
 clear hs2 eb1;refine cB b2 rfl ?_;refine⟨xc,k,o,C,rfl,((f2 xc (by omega) (Ne.symm bx3)).trans (f1 xc hc (Ne.symm bx3))).trans B.e3,by omega,by omega,?_⟩;have eb1:(st2++[Cell.lst ((Mx.bh C k o).map a_)])[b]?=some (.ins az [("body",.ref st.length),("turn",.ref st1.length),("back_columns",.ref xc)]):=by rw[List.getElem?_append_left (by omega)];exact b2
 refine mW eb1 (by simp) ?_;have pb:putD "back_columns" (.ref st2.length) [("body",.ref st.length),("turn",.ref st1.length),("back_columns",.ref xc)]=([("body",.ref st.length),("turn",.ref st1.length),("back_columns",.ref st2.length)]:List (Str×D)):=rfl;rw[pb];refine kk _ ⟨?_,?_,?_,?_,by omega,by omega,by omega⟩ (by simp;omega) fun m hm hmb=>?_
 . rw[List.getElem?_set_self (by simp;omega),l1,l2]
 . rw[List.getElem?_set_ne (by omega),List.getElem?_append_left (by omega),f2 _ (by omega) (by omega)];exact x1
 . rw[List.getElem?_set_ne (by omega),List.getElem?_append_left (by omega)];rw[l1]at x2;exact x2
 . rw[List.getElem?_set_ne (by omega)];rw[show st.length+2=st2.length by omega];simp
 . rw[List.getElem?_set_ne (Ne.symm hmb),List.getElem?_append_left (by omega),f2 m (by omega) hmb,f1 m hm hmb]
def iq:cE:=fun ds st K=>∃(b xb xu xc N w k:Nat) (A U C:List (List Int)),ds=[.ref b,.int k]/\Bn st b xb xu xc A U C/\Mx.a5 N w A/\Mx.a5 N N U/\Mx.a5 N N C/\k<N/\N<=16/\w<=16/\
 ∀st',Bn st' b xb xu xc (Mx.fj A k) (Mx.fj U k) (Mx.fj C k)->st'.length=st.length->(∀m,m≠xb->m≠xu->m≠xc->st'[m]?=st[m]?)->K .aL st'
def fJ:List Str:=["self","k"]
def qj:DS:=(aQ (eN (dX az "body" (ab 0)) (ab 1) (aK lS (ae (aq aV (dX az "body" (ab 0)) (ab 1)) ak)))
 (aQ (eN (dX az "turn" (ab 0)) (ab 1) (aK lS (ae (aq aV (dX az "turn" (ab 0)) (ab 1)) ak)))
 (eN (dX az "back_columns" (ab 0)) (ab 1) (aK lS (ae (aq aV (dX az "back_columns" (ab 0)) (ab 1)) ak)))))
theorem pV:∀ds st K,iq ds st K->ds.length=2/\qj {nx:=fun _ st'=>K .aL st',rt:=K} (ba fJ ds) st:=by
 rintro ds st K ⟨b,xb,xu,xc,N,w,k,A,U,C,rfl,B,hA,hU,hC,hk,hN,hw,kk⟩;refine⟨rfl,?_⟩;have lA:=hA.len;have lU:=hU.len;have lC:=hC.len;have rA:=Mx.cA hA hk;have rU:=Mx.cA hU hk;have rC:=Mx.cA hC hk;have bx1:=ka B.eb B.e1;have bx2:=ka B.eb B.e2;have bx3:=ka B.eb B.e3;have n1:=B.n1;have n2:=B.n2;have n3:=B.n3;refine cB B.eb rfl (aD (aF B.e1) (dM (by omega)) ?_);refine⟨_,A.getD k [],rfl,rfl,by omega,?_⟩;refine cB B.eb rfl (i8 B.e1 (by rw[List.length_map,lA];exact lV hk) ?_);rw[hZ];have g1:∀m,m≠xb->(st.set xb (.lst ((A.set k ((A.getD k []).map fun x=> -x)).map a_)))[m]?=st[m]?:=fun m hm=>List.getElem?_set_ne (Ne.symm hm);have h1:(st.set xb (.lst ((A.set k ((A.getD k []).map fun x=> -x)).map a_)))[xb]?=some (.lst ((Mx.fj A k).map a_)):=List.getElem?_set_self (List.getElem?_eq_some_iff.mp B.e1).1;have z1:(st.set xb (.lst ((A.set k ((A.getD k []).map fun x=> -x)).map a_))).length=st.length:=List.length_set;generalize st.set xb (.lst ((A.set k ((A.getD k []).map fun x=> -x)).map a_))=st1 at g1 h1 z1⊢;have eb1:=(g1 b bx1).trans B.eb;have e21:=(g1 xu (Ne.symm n1)).trans B.e2;have e31:=(g1 xc (Ne.symm n2)).trans B.e3;refine cB eb1 rfl (aD (aF e21) (dM (by omega)) ?_);refine⟨_,U.getD k [],rfl,rfl,by omega,?_⟩;refine cB eb1 rfl (i8 e21 (by rw[List.length_map,lU];exact lV hk) ?_);rw[hZ];have g2:∀m,m≠xu->(st1.set xu (.lst ((U.set k ((U.getD k []).map fun x=> -x)).map a_)))[m]?=st1[m]?:=fun m hm=>List.getElem?_set_ne (Ne.symm hm);have h2:(st1.set xu (.lst ((U.set k ((U.getD k []).map fun x=> -x)).map a_)))[xu]?=some (.lst ((Mx.fj U k).map a_)):=List.getElem?_set_self (List.getElem?_eq_some_iff.mp e21).1;have z2:(st1.set xu (.lst ((U.set k ((U.getD k []).map fun x=> -x)).map a_))).length=st1.length:=List.length_set;generalize st1.set xu (.lst ((U.set k ((U.getD k []).map fun x=> -x)).map a_))=st2 at g2 h2 z2⊢;have eb2:=(g2 b bx2).trans eb1;have e32:=(g2 xc (Ne.symm n3)).trans e31;refine cB eb2 rfl (aD (aF e32) (dM (by omega)) ?_);refine⟨_,C.getD k [],rfl,rfl,by omega,?_⟩;refine cB eb2 rfl (i8 e32 (by rw[List.length_map,lC];exact lV hk) ?_);rw[hZ];refine kk _ ⟨?_,?_,?_,?_,n1,n2,n3⟩ (by rw[List.length_set];omega) fun m m1 m2 m3=>?_
 . rw[List.getElem?_set_ne (Ne.symm bx3)];exact eb2
 . rw[List.getElem?_set_ne (Ne.symm n2),g2 _ n1];exact h1
 . rw[List.getElem?_set_ne (Ne.symm n3)];exact h2
 . exact List.getElem?_set_self (List.getElem?_eq_some_iff.mp e32).1
 . rw[List.getElem?_set_ne (Ne.symm m3),g2 m m2,g1 m m1]
def gn:cE:=fun ds st K=>∃(b xb xu xc N w top p:Nat) (A U C:List (List Int)) (f:Bool),ds=[.ref b,.int top,.int p]/\Bn st b xb xu xc A U C/\Mx.a5 N w A/\top<=N/\N<=16/\p<w/\w<=16/\st[0]?=some (eJ f)/\
 ∀L,Mx.fg A N top p L->K (.lst (L.map fun(k:Nat)=> .int (k:Int))) (st.set 0 (eJ true))
def gp:List Str:=["self","top","place","live"]
def su:DS:=(aQ (cx 3 (cZ (o5 (ae (ab 1) (ae (bM fC (ae (dX az "body" (ab 0)) ak)) ak))) [none,some 0,some 2] (bH 0) (a8 (aq oq (aq aV (aq aV (dX az "body" (ab 1)) (ab 0)) (ab 2)) (dC (.int 0)))) (ab 0)))
 (bE (y6 0 124 ⟨63,32,63,66⟩ "Bench.live_rows.<locals>.<lambda>" [none,some 0,some 2] (bM qV (ae (aq aV (aq aV (dX az "body" (ab 1)) (ab 0)) (ab 2)) ak)) (ab 3))))
theorem oV{a b:Prop}(h:b):if false=true then a else b:=h
theorem GR{st:af}{b:Nat}{C:Addr}{fs:List (Str×D)}{f:Bool}(h1:st[b]?=some (Cell.ins C fs))(h2:st[0]?=some (eJ f)):b≠0:=fun z=>by rw[z,h2]at h1;cases h1
theorem rW{st:af}{b:Nat}{xs:List D}{f:Bool}(h1:st[b]?=some (Cell.lst xs))(h2:st[0]?=some (eJ f)):b≠0:=fun z=>by rw[z,h2]at h1;cases h1
theorem Bn.keep{st st':af}{b xb xu xc:Nat}{A U C:List (List Int)}(B:Bn st b xb xu xc A U C)(h:∀m,m=b\/m=xb\/m=xu\/m=xc->st'[m]?=st[m]?):Bn st' b xb xu xc A U C:=
 ⟨(h b (.inl rfl)).trans B.eb,(h xb (.inr (.inl rfl))).trans B.e1,(h xu (.inr (.inr (.inl rfl)))).trans B.e2,(h xc (.inr (.inr (.inr rfl)))).trans B.e3,B.n1,B.n2,B.n3⟩
theorem Bn.tab{st:af}{b xb xu xc:Nat}{A U C:List (List Int)}{f:Bool}(B:Bn st b xb xu xc A U C)(h:st[0]?=some (eJ f))(c:Cell):Bn (st.set 0 c) b xb xu xc A U C:=
 B.keep fun m hm=>List.getElem?_set_ne fun z=>by
  subst z;rcases hm with rfl|rfl|rfl|rfl
  . exact GR B.eb h rfl
  . exact rW B.e1 h rfl
  . exact rW B.e2 h rfl
  . exact rW B.e3 h rfl
theorem nD{r:List Int}{k:Nat}(h:k<r.length):e9 (aB r) (k:Int)=some (.int (r.getD k 0)):=by
 refine jP ?_;unfold aB;rw[List.getElem?_map,List.getElem?_eq_getElem h,Mx.bJ h];rfl
def fU(A:List (List Int))(N top p:Nat):List Nat:=(List.range (N-top)).filterMap fun i=>if Mx.g A (top+i) p≠0 then some (top+i)else none
theorem wW{A:List (List Int)}{N top p k:Nat}:k∈fU A N top p↔top<=k/\k<N/\Mx.g A k p≠0:=by
 unfold fU;rw[List.mem_filterMap];constructor
 . rintro⟨i,hi,e⟩;rw[List.mem_range]at hi;split at e
   . rename_i h;cases e;exact⟨by omega,by omega,h⟩
   . cases e
 . rintro⟨h1,h2,h3⟩;refine⟨k-top,List.mem_range.mpr (by omega),?_⟩;rw[show top+(k-top)=k by omega,if_pos h3]
theorem pw_filterMap{f:Nat->Option Nat}(h:∀i j a b,i<j->f i=some a->f j=some b->a<b):∀ {l:List Nat},l.Pairwise (· < ·)->(l.filterMap f).Pairwise (· < ·)
 | [],_=>by simp
 |x::l,hl=>by
  obtain⟨h1,h2⟩:=List.pairwise_cons.mp hl;rw[List.filterMap_cons];split
  . exact pw_filterMap h h2
  . rename_i a e;refine List.pairwise_cons.mpr ⟨fun b hb=>?_,pw_filterMap h h2⟩;obtain⟨j,hj,ej⟩:=List.mem_filterMap.mp hb;exact h x j a b (h1 j hj) e ej
theorem pw_liveR{A:List (List Int)}{N top p:Nat}:(fU A N top p).Pairwise (· < ·):=by
 unfold fU;refine pw_filterMap (fun i j a b hij ha hb=>?_) List.pairwise_lt_range;split at ha
 . split at hb
   . cases ha;cases hb;omega
   . cases hb
 . cases ha
theorem xm{f:Nat->Option Nat}(l:List Nat):(l.filterMap f).length<=l.length:=List.length_filterMap_le ..
theorem HX{A:List (List Int)}{N top p:Nat}{os:List (Int×Int)}(hp:os.Perm (((fU A N top p).map fun(k:Nat)=>(((Mx.g A k p).natAbs:Nat):Int)).zip ((fU A N top p).map fun(k:Nat)=>(k:Int))))(hs:os.Pairwise slt):
 Mx.fg A N top p (os.map fun q=>q.2.toNat)/\os.map (fun q=>D.int q.2)=(os.map fun q=>q.2.toNat).map fun(k:Nat)=>D.int (k:Int):=by
 have hz:((fU A N top p).map fun(k:Nat)=>(((Mx.g A k p).natAbs:Nat):Int)).zip ((fU A N top p).map fun(k:Nat)=>(k:Int))=(fU A N top p).map fun k=>((((Mx.g A k p).natAbs:Nat):Int),(k:Int)):=by
  exact List.zip_map' ..
 rw[hz]at hp
 have hm:∀q∈os,∃k,k∈fU A N top p/\q=((((Mx.g A k p).natAbs:Nat):Int),(k:Int)):=fun q hq=>by
  obtain⟨k,h1,h2⟩:=List.mem_map.mp (hp.mem_iff.mp hq);exact⟨k,h1,h2.symm⟩
 refine⟨⟨fun k=>?_,?_⟩,?_⟩
 . rw[<-wW];constructor
   . intro h;obtain⟨q,hq,e⟩:=List.mem_map.mp h;obtain⟨j,h1,rfl⟩:=hm q hq;simp only[Int.toNat_natCast]at e;rw[<-e];exact h1
   . intro h;exact List.mem_map.mpr ⟨((((Mx.g A k p).natAbs:Nat):Int),(k:Int)),hp.mem_iff.mpr (List.mem_map.mpr ⟨k,h,rfl⟩),by simp⟩
 . rw[List.pairwise_map];refine hs.imp_of_mem fun{x y} hx hy h=>?_;obtain⟨j,_,rfl⟩:=hm x hx;obtain⟨k,_,rfl⟩:=hm y hy;unfold slt at h;simp only[Int.toNat_natCast];omega
 . rw[List.map_map];refine List.map_congr_left fun q hq=>?_;obtain⟨j,_,rfl⟩:=hm q hq;simp
theorem qZ:∀ds st K,gn ds st K->ds.length=3/\su {nx:=fun _ st'=>K .aL st',rt:=K} (ba gp ds) st:=by
 rintro ds st K ⟨b,xb,xu,xc,N,w,top,p,A,U,C,f,rfl,B,hA,ht,hN,hp,hw,h0,k⟩;refine⟨rfl,?_⟩;have lA:=hA.len;have rowA:∀i,i<N->(A.getD i []).length=w:=fun i hi=>Mx.cA hA hi;refine cB B.eb rfl (eM (aF B.e1) ?_);rw[List.length_map,lA];refine Ah ⟨by omega,by omega,by omega,by omega⟩ ⟨bZ (by unfold dP;simp;omega),?_⟩;have er:((N:Int)-(top:Int)).toNat=N-top:=by omega
 rw[er];refine ef (fun rest acc st'=>∃i:Nat,i<=N-top/\st'=st/\rest=(List.range (N-top-i)).map (fun j=>D.int ((top+i+j:Nat):Int))/\acc=((List.range i).filterMap fun i=>if Mx.g A (top+i) p≠0 then some (top+i)else none).map fun(k:Nat)=>D.int (k:Int)) ?_ ?_ _ _ _ ⟨0,Nat.zero_le _,rfl,by unfold dP;simp,by simp⟩
 . rintro acc st' ⟨i,hi,rfl,hr,rfl⟩
   have hi':i=N-top:=by
    rcases Nat.lt_or_ge i (N-top)with z|z
    . rw[show N-top-i=(N-top-i-1)+1 by omega,List.range_succ_eq_map]at hr;cases hr
    . omega
   subst hi';refine⟨trivial,?_⟩;have e1:((fU A N top p).map fun(k:Nat)=>D.int (k:Int))=((fU A N top p).map fun(k:Nat)=>(k:Int)).map D.int:=by rw[List.map_map];rfl
   refine⟨(fU A N top p).map fun(k:Nat)=>(k:Int),(fU A N top p).map fun(k:Nat)=>(((Mx.g A k p).natAbs:Nat):Int),f,congrArg D.lst e1,?_,?_,by rw[List.length_map,List.length_map],h0,fun i n q hn hq=>?_,fun os hp' hs=>?_⟩
   . rw[List.length_map];have:=xm (f:=fun i=>if Mx.g A (top+i) p≠0 then some (top+i)else none) (List.range (N-top));rw[List.length_range]at this;show(fU A N top p).length<64;unfold fU;omega
   . rw[List.pairwise_map];exact pw_liveR.imp fun h=>by omega
   . rw[List.getElem?_map]at hn hq;cases z:(fU A N top p)[i]? with
     |none=>rw[z]at hn;cases hn
     |some j=>
      rw[z]at hn hq;cases hn;cases hq;obtain⟨j1,j2,j3⟩:=wW.mp (List.mem_of_getElem? z);have B1:=B.tab h0 (eJ true);refine cB B1.eb rfl (aD (aF B1.e1) (dM (by omega)) (aD rfl (nD (by rw[rowA j j2];exact hp)) (uj ⟨rfl,rfl⟩)))
   . obtain⟨h1,h2⟩:=HX hp' hs;rw[h2];exact k _ h1
 . rintro d rest acc st' ⟨i,hi,rfl,hr,rfl⟩ next
   have hlt:i<N-top:=by
    rcases Nat.lt_or_ge i (N-top)with z|z
    . exact z
    . rw[show N-top-i=0 by omega]at hr;cases hr
   rw[show N-top-i=(N-top-i-1)+1 by omega,List.range_succ_eq_map,List.map_cons,List.map_map]at hr;obtain⟨rfl,rfl⟩:=List.cons.inj hr;refine⟨trivial,_,rfl,?_⟩;refine cB B.eb rfl (aD (aF B.e1) (dM (j:=top+i+0) (by omega)) (aD rfl (nD (by rw[rowA _ (by omega)];exact hp)) ?_));have e2:List.range (i+1)=List.range i++[i]:=List.range_succ
   have e3:((List.range (N-top-i-1)).map ((fun j=>D.int ((top+i+j:Nat):Int))∘Nat.succ))=(List.range (N-top-(i+1))).map fun j=>D.int ((top+(i+1)+j:Nat):Int):=by
    rw[show N-top-i-1=N-top-(i+1) by omega];refine List.map_congr_left fun j _=>?_;show D.int ((top+i+(j+1):Nat):Int)=_;rw[show top+i+(j+1)=top+(i+1)+j by omega]
   refine ne2 (fun h=>?_) fun h=>?_
   . refine(next _ _ ⟨i+1,by omega,rfl,e3,?_⟩);rw[e2,List.filterMap_append,List.map_append];have:Mx.g A (top+i) p≠0:=h;simp[this]
   . refine(next _ _ ⟨i+1,by omega,rfl,e3,?_⟩);rw[e2,List.filterMap_append,List.map_append];have:Mx.g A (top+i) p=0:=h;simp[this]
structure Bo(n0:Nat)(st st':af)(b xb xu xc:Nat):Prop where
 lo:1<=n0/\n0<=b/\n0<=xb/\n0<=xu/\n0<=xc
 fr:∀m,m<n0->m≠0->st'[m]?=st[m]?
 tb:∃f,st'[0]?=some (eJ f)
def kG:cE:=fun ds st K=>∃(n0 b xb xu xc N w top p e u v z:Nat) (A0 A U C:List (List Int)) (ld:Nat->Nat),ds=[.ref b,.int top,.int p]/\Bn st b xb xu xc A U C/\Bo n0 st st b xb xu xc/\Mx.iy A0 N w ⟨A,U,C⟩ top p ld e u v/\N<=16/\w<=16/\p<w/\z<=60000000/\(∀c,Mx.dR N top p ⟨A,U,C⟩ c->Mx.Sm c N (2^z))/\
 (∀st',Bn st' b xb xu xc A U C->Bo n0 st st' b xb xu xc->Mx.fg A N top p []->K (.bl false) st')/\
 ∀st' xb' xu' xc' (c:Mx.B3) (r:Nat),Bn st' b xb' xu' xc' (Mx.setB c p top r).A (Mx.setB c p top r).U (Mx.setB c p top r).C->Bo n0 st st' b xb' xu' xc'->Mx.dR N top p ⟨A,U,C⟩ c->Mx.fg c.A N top p [r]->K (.bl true) st'
def je:List Str:=["self","top","place","live","great","small"]
def vA:DS:=(aQ (cx 3 (jt az "live_rows" gn (ab 0) (ae (ab 1) (ae (ab 2) ak))))
 (aQ (qy (a8 (aq nJ (bM fC (ae (ab 3) ak)) (dC (.int 1)))) (aQ (cx 4 (aq aV (ab 3) (pd jG (dC (.int 1)))))
 (aQ (cx 5 (aq aV (ab 3) (pd jG (dC (.int 2)))))
 (aQ (nX (jt az "take" j8 (ab 0) (ae (ab 4) (ae (aK i6 (ae (aq aV (aq aV (dX az "body" (ab 0)) (ab 4)) (ab 2)) (ae (aq aV (aq aV (dX az "body" (ab 0)) (ab 5)) (ab 2)) ak))) (ae (ab 5) ak)))))
 (cx 3 (jt az "live_rows" gn (ab 0) (ae (ab 1) (ae (ab 2) ak))))))))
 (aQ (d9 (a8 (aq jq (bM fC (ae (ab 3) ak)) (dC (.int 0)))) (bE (dC (.bl false))) c6)
 (aQ (nX (jt az "exchange" jM (ab 0) (ae (ab 1) (ae (aq aV (ab 3) (dC (.int 0))) ak))))
 (aQ (d9 (a8 (aq q_ (aq aV (aq aV (dX az "body" (ab 0)) (ab 1)) (ab 2)) (dC (.int 0)))) (nX (jt az "change_sign" iq (ab 0) (ae (ab 1) ak))) c6)
 (bE (dC (.bl true))))))))
theorem Bo.IB{n0:Nat}{st st':af}{b xb xu xc:Nat}(h:Bo n0 st st' b xb xu xc):Bo n0 st (st'.set 0 (eJ true)) b xb xu xc:=
 ⟨h.lo,fun m hm h0=>by rw[List.getElem?_set_ne (Ne.symm h0)];exact h.fr m hm h0,true,by
  obtain⟨f,e⟩:=h.tb;exact List.getElem?_set_self (List.getElem?_eq_some_iff.mp e).1⟩
theorem Bo.low{n0:Nat}{st st1 st2:af}{b xb xu xc:Nat}(h:Bo n0 st st1 b xb xu xc)(f:∀m,m≠xb->m≠xu->m≠xc->st2[m]?=st1[m]?):Bo n0 st st2 b xb xu xc:=by
 obtain⟨l1,l2,l3,l4,l5⟩:=h.lo;refine⟨h.lo,fun m hm h0=>?_,?_⟩
 . rw[f m (by omega) (by omega) (by omega)];exact h.fr m hm h0
 . obtain⟨z,e⟩:=h.tb;exact⟨z,by rw[f 0 (by omega) (by omega) (by omega)];exact e⟩
theorem yC{n j:Nat}(h:1<=j)(h2:j<=n):mh n (-(j:Int))=some (n-j):=by
 unfold mh;rw[if_neg (by omega),if_pos (by omega)];congr 1;omega
theorem LB{L:List Nat}{j k:Nat}:e9 ((L++[j,k]).map fun(k:Nat)=>D.int (k:Int)) (-1)=some (.int (k:Int)):=by
 unfold e9;have:=yC (n:=((L++[j,k]).map fun(k:Nat)=>D.int (k:Int)).length) (j:=1) (by decide) (by simp);rw[show(-((1:Nat):Int))= -1 from rfl]at this;rw[this];simp
theorem Lp{L:List Nat}{j k:Nat}:e9 ((L++[j,k]).map fun(k:Nat)=>D.int (k:Int)) (-2)=some (.int (j:Int)):=by
 unfold e9;have:=yC (n:=((L++[j,k]).map fun(k:Nat)=>D.int (k:Int)).length) (j:=2) (by decide) (by simp);rw[show(-((2:Nat):Int))= -2 from rfl]at this;rw[this];simp
theorem Fg:∀ {L:List Nat},1<L.length->∃M j k,L=M++[j,k]:=fun{L} h=>by
 refine⟨L.take (L.length-2),L[L.length-2]'(by omega),L[L.length-1]'(by omega),?_⟩;have e1:L=L.take (L.length-2)++L.drop (L.length-2):=(List.take_append_drop _ _).symm
 have e2:L.drop (L.length-2)=[L[L.length-2]'(by omega),L[L.length-1]'(by omega)]:=by
  rw[List.drop_eq_getElem_cons (by omega),List.drop_eq_getElem_cons (by omega),List.drop_eq_nil_of_le (by omega)];congr 2;congr 1;omega
 rw[<-e2];exact e1
theorem u5:∀ds st K,kG ds st K->ds.length=3/\vA {nx:=fun _ st'=>K .aL st',rt:=K} (ba je ds) st:=by
 rintro ds st K ⟨n0,b,xb,xu,xc,N,w,top,p,e,u,v,z,A0,A,U,C,ld,rfl,B,O,S,hN,hw,hp,hzz,hz,kf,kt⟩;refine⟨rfl,?_⟩;have hle:=S.le;obtain⟨f,h0⟩:=O.tb;refine jV B.eb rfl ?_;refine⟨b,xb,xu,xc,N,w,top,p,A,U,C,f,rfl,B,S.tn.isA,hle,hN,hp,hw,h0,fun L hL=>?_⟩;have B1:=B.tab h0 (eJ true);have O1:=O.IB;try dsimp only[ak]
 refine hV (fun σ st'=>∃(L:List Nat) (v4 v5:Option D) (c:Mx.B3) (gr:Nat),σ=[some (.ref b),some (.int top),some (.int p),some (.lst (L.map fun(k:Nat)=> .int (k:Int))),v4,v5]/\L.length<=1/\Bn st' b xb xu xc c.A c.U c.C/\Bo n0 st st' b xb xu xc/\Mx.dR N top p ⟨A,U,C⟩ c/\Mx.Gb A0 N w top p (2^(4*e)) (N*2^(4*e)) gr ⟨A,U,C⟩ c/\Mx.fg c.A N top p L) (fun nx hnx=>?_) ?_
 . refine⟨fun m σ st'=>∃(L:List Nat) (v4 v5:Option D) (c:Mx.B3) (gr:Nat),σ=[some (.ref b),some (.int top),some (.int p),some (.lst (L.map fun(k:Nat)=> .int (k:Int))),v4,v5]/\Bn st' b xb xu xc c.A c.U c.C/\Bo n0 st st' b xb xu xc/\Mx.dR N top p ⟨A,U,C⟩ c/\Mx.Gb A0 N w top p (2^(4*e)) (N*2^(4*e)) gr ⟨A,U,C⟩ c/\Mx.fg c.A N top p L/\m=Mx.mu c.A N p,⟨_,L,none,none,⟨A,U,C⟩,_,rfl,B1,O1,.refl _,Mx.Gb.start S,hL,rfl⟩,?_⟩;rintro m σ st1 ⟨L,v4,v5,c,gr,rfl,B,O,hR,hG,hL,rfl⟩;refine eM rfl ?_;rw[List.length_map];refine yX (fun h=>fi ?_) fun h=>oV (hnx _ _ ⟨L,v4,v5,c,gr,rfl,by omega,B,O,hR,hG,hL⟩);obtain⟨M,j,k,rfl⟩:=Fg (L:=L) (by omega);refine lY (aD rfl LB (lY (aD rfl Lp ?_)));obtain⟨G2,hlt,hoth,k1,k2,j1,j2,hjk,hj0,_⟩:=hG.step hL;have T:=hG.tn;have lA:=T.isA.len;have hsm:=hz c hR;refine jV B.eb rfl (cB B.eb rfl (aD (aF B.e1) (dM (by omega)) (aD rfl (nD (by rw[Mx.cA T.isA k2];exact hp)) (cB B.eb rfl (aD (aF B.e1) (dM (by omega)) (aD rfl (nD (by rw[Mx.cA T.isA j2];exact hp)) ?_))))));refine⟨_,_,rfl,hj0,?_⟩;have hq:(Mx.qn (Mx.g c.A k p) (Mx.g c.A j p)).natAbs<=2^(z+1):=Nat.le_trans (Mx.Mn hj0) (Mx.zI (hsm k p k2).1 (hsm j p j2).1)
   have hm:∀ {x:Int},x.natAbs<=2^z->IntMulOk (Mx.qn (Mx.g c.A k p) (Mx.g c.A j p)) x/\IntMulOk (-(Mx.qn (Mx.g c.A k p) (Mx.g c.A j p))) x:=fun{x} h=>
    ⟨kD hq h (by omega),kD (by rw[Int.natAbs_neg];exact hq) h (by omega)⟩
   have mg:∀ {X:List (List Int)} {i:Nat} {x:Int},x∈X.getD i []->∃q,x=Mx.g X i q:=fun{X i x} hx=>by
    obtain⟨c,hc,rfl⟩:=List.mem_iff_getElem.mp hx;exact⟨c,by unfold Mx.g;rw[Mx.bJ hc]⟩
   refine⟨b,xb,xu,xc,N,w,k,j,c.A,c.U,c.C,_,rfl,B,T.isA,T.fL,T.gE,k2,j2,hN,hw,fun x hx=>(by obtain⟨q,rfl⟩:=mg hx;exact(hm (hsm j q j2).1).2),fun x hx=>(by obtain⟨q,rfl⟩:=mg hx;exact(hm (hsm j q j2).2.1).2),fun x hx=>(by obtain⟨q,rfl⟩:=mg hx;exact(hm (hsm k q k2).2.2).1),fun st2 B2 l2 f2=>?_⟩;have O2:=O.low f2;obtain⟨f',h0'⟩:=O2.tb;refine jV B2.eb rfl ?_;refine⟨b,xb,xu,xc,N,w,top,p,_,_,_,f',rfl,B2,G2.tn.isA,hle,hN,hp,hw,h0',fun L2 hL2=>?_⟩;refine⟨_,?_,L2,_,_,Mx.mv c p k j,_,rfl,B2.tab h0' (eJ true),O2.IB,hR.tail ⟨M,k,j,hL,rfl⟩,G2,hL2,rfl⟩;unfold Mx.mu;refine Mx.FK (k:=k) hlt k2 fun i hi=>?_;by_cases h:i=k
   . rw[h];exact Nat.le_of_lt hlt
   . rw[hoth i h];exact Nat.le_refl _
 . rintro σ st1 ⟨L,v4,v5,c,gr,rfl,hl,B,O,hR,hG,hL⟩;refine eM rfl ?_;rw[List.length_map];match L,hl,hL with
   | [],_,hL=>
     refine eq2 (fun h=>fi ?_) fun h=>absurd rfl h
     have e0:c=⟨A,U,C⟩:=by
      rcases hG.Mp with z|⟨j,h1,h2,h3⟩
      . exact z
      . exact absurd ((hL.mem j).mpr ⟨h1,h2,h3⟩) (by simp)
     subst e0;exact kf st1 B O hL
   | [r],_,hL=>
     refine eq2 (fun h=>absurd h (by simp)) fun h=>oV ?_;obtain⟨s1,hr1,hr2⟩:=hG.set (hG.low hN) hL;have ht:top<N:=by omega
     have T:=hG.tn;refine jV B.eb rfl (aD rfl (show e9 ([r].map fun(k:Nat)=>D.int (k:Int)) 0=some (.int (r:Int))from rfl) ?_);refine⟨b,xb,xu,xc,N,w,top,r,c.A,c.U,c.C,rfl,B,T.isA,T.fL,T.gE,ht,hr2,fun st2 B2 l2 f2=>?_⟩;obtain⟨l1,l2',l3,l4,l5⟩:=O.lo
     have hst:n0<=st1.length:=by
      have:=(List.getElem?_eq_some_iff.mp B.eb).1;omega
     have O2:Bo n0 st st2 b st1.length (st1.length+1) (st1.length+2):=by
      refine⟨⟨l1,l2',by omega,by omega,by omega⟩,fun m hm h0=>?_,?_⟩
      . rw[f2 m (by omega) (by omega)];exact O.fr m hm h0
      . obtain⟨z,e⟩:=O.tb;exact⟨z,by rw[f2 0 (by omega) (by omega)];exact e⟩
     have T1:=T.Gs ht hr2;refine cB B2.eb rfl (aD (aF B2.e1) (dM (by have:=T1.isA.len;omega)) (aD rfl (nD (by rw[Mx.cA T1.isA ht];exact hp)) ?_));refine M0 (fun h=>fi ?_) fun h=>oV ?_
     . have es:Mx.setB c p top r=⟨Mx.fj (Mx.bh c.A top r) top,Mx.fj (Mx.bh c.U top r) top,Mx.fj (Mx.bh c.C top r) top⟩:=if_pos h;refine jV B2.eb rfl ?_;refine⟨b,_,_,_,N,w,top,_,_,_,rfl,B2,T1.isA,T1.fL,T1.gE,ht,hN,hw,fun st3 B3 l3 f3=>?_⟩;exact kt st3 _ _ _ c r (by rw[es];exact B3) (O2.low f3) hR hL
     . have es:Mx.setB c p top r=⟨Mx.bh c.A top r,Mx.bh c.U top r,Mx.bh c.C top r⟩:=if_neg (fun z=>by unfold Mx.g at z;omega);exact kt st2 _ _ _ c r (by rw[es];exact B2) O2 hR hL
def ix:cE:=fun ds st K=>∃(b xb xu xc N w top p e u v z:Nat) (A0 A U C:List (List Int)),ds=[.ref b,.int top,.int p]/\Bn st b xb xu xc A U C/\Mx.Tn A0 A U C N w/\N<=16/\w<=16/\p<w/\top<N/\0<Mx.g A top p/\(∀q,q<p->Mx.g A top q=0)/\
 (∀q,(Mx.g A top q).natAbs<=2^e/\(Mx.g U top q).natAbs<=2^e/\(Mx.g C top q).natAbs<=2^e)/\(∀i q,i<top->(Mx.g A i q).natAbs<=2^u/\(Mx.g U i q).natAbs<=2^u/\(Mx.g C i q).natAbs<=2^v)/\z<=60000000/\(∀k,k<=top->Mx.Sm (Mx.fk p top k ⟨A,U,C⟩) N (2^z))/\
 ∀st',Bn st' b xb xu xc (Mx.fk p top top ⟨A,U,C⟩).A (Mx.fk p top top ⟨A,U,C⟩).U (Mx.fk p top top ⟨A,U,C⟩).C->(∀m,m≠xb->m≠xu->m≠xc->st'[m]?=st[m]?)->K .aL st'
def fF:List Str:=["self","top","place","k"]
def ql:DS:=(iZ (dz (ae (ab 1) ak)) (bH 3) (nX (jt az "take" j8 (ab 0) (ae (ab 3) (ae (aq o3 (aq aV (aq aV (dX az "body" (ab 0)) (ab 3)) (ab 2)) (aq aV (aq aV (dX az "body" (ab 0)) (ab 1)) (ab 2))) (ae (ab 1) ak))))))
theorem Bx{X:List (List Int)}{i:Nat}{x:Int}(hx:x∈X.getD i []):∃q,x=Mx.g X i q:=by
 obtain⟨c,hc,rfl⟩:=List.mem_iff_getElem.mp hx;exact⟨c,by unfold Mx.g;rw[Mx.bJ hc]⟩
theorem pC:∀ds st K,ix ds st K->ds.length=3/\ql {nx:=fun _ st'=>K .aL st',rt:=K} (ba fF ds) st:=by
 rintro ds st K ⟨b,xb,xu,xc,N,w,top,p,e,u,v,z,A0,A,U,C,rfl,B,T,hN,hw,hp,ht,htp,hz,hlo,hhi,hzz,hsm,kk⟩;refine⟨rfl,?_⟩;refine eH ⟨by omega,by omega⟩ ?_;rw[Int.toNat_natCast];refine jS top (fun k σ st'=>∃v3:Option D,σ=[some (.ref b),some (.int top),some (.int p),v3]/\Bn st' b xb xu xc (Mx.fk p top k ⟨A,U,C⟩).A (Mx.fk p top k ⟨A,U,C⟩).U (Mx.fk p top k ⟨A,U,C⟩).C/\(∀m,m≠xb->m≠xu->m≠xc->st'[m]?=st[m]?)/\Mx.ly A0 N w top p e u v ⟨A,U,C⟩ k (Mx.fk p top k ⟨A,U,C⟩)) ?_ ?_ ⟨none,rfl,B,fun _ _ _ _=>rfl,Mx.ly.start T fun q=>(hlo q).2.2⟩
 . rintro σ st' ⟨v3,rfl,B',f,I⟩;exact kk st' B' f
 . rintro k σ st' rest hk ⟨v3,rfl,B',f,I⟩ next
   refine⟨_,rfl,?_⟩;have hs:=I.step hk ht hp htp hz (fun q=>⟨(hlo q).1,(hlo q).2.1⟩) hhi;have hs2:=hsm k (Nat.le_of_lt hk);generalize hc:Mx.fk p top k ⟨A,U,C⟩=c at*;have lA:=I.tn.isA.len;have kN:k<N:=by omega
   have gA:∀i q,k<=i->Mx.g c.A i q=Mx.g A i q:=fun i q hi=>by unfold Mx.g;rw[(I.rA i hi).1]
   have hq:((Mx.g c.A k p).fdiv (Mx.g c.A top p)).natAbs<=2^z:=Nat.le_trans (Mx.p_ _ (by rw[gA top p (by omega)];exact htp)) (hs2 k p kN).1;have htp':Mx.g c.A top p≠0:=by rw[gA top p (by omega)];omega
   refine jV B'.eb rfl (cB B'.eb rfl (aD (aF B'.e1) (dM (by omega)) (aD rfl (nD (by rw[Mx.cA I.tn.isA kN];exact hp)) (cB B'.eb rfl (aD (aF B'.e1) (dM (by omega)) (aD rfl (nD (by rw[Mx.cA I.tn.isA ht];exact hp)) (yg htp' ?_)))))));refine⟨b,xb,xu,xc,N,w,k,top,c.A,c.U,c.C,_,rfl,B',I.tn.isA,I.tn.fL,I.tn.gE,kN,ht,hN,hw,fun x hx=>?_,fun x hx=>?_,fun x hx=>?_,fun st2 B2 l2 f2=>?_⟩
   . obtain⟨q,rfl⟩:=Bx hx;exact kD (by rw[Int.natAbs_neg];exact hq) (hs2 top q ht).1 (by omega)
   . obtain⟨q,rfl⟩:=Bx hx;exact kD (by rw[Int.natAbs_neg];exact hq) (hs2 top q ht).2.1 (by omega)
   . obtain⟨q,rfl⟩:=Bx hx;exact kD hq (hs2 k q kN).2.2 (by omega)
   . have el:Mx.fk p top (k+1) ⟨A,U,C⟩=⟨Mx.aN c.A k ((Mx.g c.A k p).fdiv (Mx.g c.A top p)) top,Mx.aN c.U k ((Mx.g c.A k p).fdiv (Mx.g c.A top p)) top,Mx.aN c.C top (-((Mx.g c.A k p).fdiv (Mx.g c.A top p))) k⟩:=by rw[<-hc];rfl
     refine next _ _ ⟨_,rfl,?_,fun m h1 h2 h3=>(f2 m h1 h2 h3).trans (f m h1 h2 h3),?_⟩
     . rw[el];exact B2
     . rw[el];exact hs
structure Bk(st st':af):Prop where
 le:st.length<=st'.length
 fr:∀m,m<st.length->m≠0->st'[m]?=st[m]?
 tb:∃f,st'[0]?=some (eJ f)
def my:cE:=fun ds st K=>∃(d:D) (N w e0 z:Nat) (A:List (List Int)) (f:Bool),ds=[d]/\eK st d A/\Mx.a5 N w A/\1<=N/\N<=16/\w<=16/\Mx.fu A N 0 (2^e0)/\z<=60000000/\(∀p t c,p<w->Mx.jr A N p t c->Mx.u_ N p t z c)/\st[0]?=some (eJ f)/\
 ∀st' (top:Nat) (c:Mx.B3),Mx.jr A N w top c->Bk st st'->K (.tup [aY (c.A.take top),aY c.U,aY (Mx.F9 c.C N)]) st'
def mE:List Str:=["rows","bench","top","place","back"]
def AQ:DS:=(aQ (cx 1 (BE az jF (ae (ab 0) ak)))
 (aQ (cx 2 (dC (.int 0)))
 (aQ (iZ (dz (ae (bM fC (ae (aq aV (ab 0) (dC (.int 0))) ak)) ak)) (bH 3) (d9 (a8 (jt az "gather" kG (ab 1) (ae (ab 2) (ae (ab 3) ak)))) (aQ (nX (jt az "lower_above" ix (ab 1) (ae (ab 2) (ae (ab 3) ak))))
 (AV 2 (zA (fun i j=>i+j)) (dC (.int 1)))) c6))
 (aQ (cx 4 (aK l6 (ae (dX az "back_columns" (ab 1)) (ae (bM fC (ae (ab 0) ak)) ak))))
 (bE (gL (ae (aK oa (ae (fS (dX az "body" (ab 1)) fb (iJ (ab 2))) ak)) (ae (aK oa (ae (dX az "turn" (ab 1)) ak)) (ae (ab 4) ak)))))))))
theorem wm{st st':af}{f:Bool}(h0:st[0]?=some (eJ f))(fr:∀m,m<st.length->m≠0->st'[m]?=st[m]?){d:D}{xs:List D}(h:items? st d=some xs):items? st' d=some xs:=by
 cases d with
 |ref n=>
  have e:=Dr h;have n0:n≠0:=rW e h0;rw[aF ((fr n (List.getElem?_eq_some_iff.mp e).1 n0).trans e)]
 |_=>exact h
theorem wj{st st':af}{f:Bool}(h0:st[0]?=some (eJ f))(fr:∀m,m<st.length->m≠0->st'[m]?=st[m]?):∀ {ds:List D} {A:List (List Int)},bY st ds A->bY st' ds A
 | [],[],_=>trivial
 |_::_,_::_,h=>⟨wm h0 fr h.1,wj h0 fr h.2⟩
theorem vf{st st':af}{f:Bool}(h0:st[0]?=some (eJ f))(fr:∀m,m<st.length->m≠0->st'[m]?=st[m]?){d:D}{A:List (List Int)}(h:eK st d A):eK st' d A:=by
 obtain⟨ds,h1,h2⟩:=h.ex;exact⟨ds,wm h0 fr h1,wj h0 fr h2⟩
theorem o_{xs:List D}{j:Nat}:L3.cutD xs none (some (j:Int))=xs.take j:=by
 unfold L3.cutD;rw[HT.vO,HT.td,List.drop_zero,Nat.sub_zero];by_cases h:j<=xs.length
 . rw[Nat.min_eq_left h]
 . rw[Nat.min_eq_right (by omega),List.take_length,List.take_of_length_le (by omega)]
theorem zJ:∀ds st K,my ds st K->ds.length=1/\AQ {nx:=fun _ st'=>K .aL st',rt:=K} (ba mE ds) st:=by
 rintro ds st K ⟨d,N,w,e0,z,A,f,rfl,hd,hA,hN1,hN,hw,hlo,hzz,hsz,h0,kk⟩;refine⟨rfl,?_⟩;have lA:=hA.len;have h0l:0<st.length:=(List.getElem?_eq_some_iff.mp h0).1;have hd1:eK (st++[Cell.ins az []]) d A:=vf h0 (fun m hm _=>List.getElem?_append_left hm) hd;refine⟨st.length,N,d,A,rfl,by simp,hd1,lA,hN,fun st1 B1 l1 f1=>⟨rfl,?_⟩⟩;have hl1:(st++[Cell.ins az []]).length=st.length+1:=by simp
 have fr1:∀m,m<st.length->st1[m]?=st[m]?:=fun m hm=>by rw[f1 m (by omega) (by omega),List.getElem?_append_left hm]
 have O1:Bo st.length st st1 st.length (st.length+1) (st.length+1+1) (st.length+1+2):=⟨⟨h0l,by omega,by omega,by omega,by omega⟩,fun m hm _=>fr1 m hm,f,(fr1 0 h0l).trans h0⟩
 rw[hl1]at B1;have hdk:∀ {st':af},(∀m,m<st.length->m≠0->st'[m]?=st[m]?)->eK st' d A:=fun h=>vf h0 h hd;obtain⟨da,hda,hra⟩:=(hdk O1.fr).ex;have hdl:=hra.len
 have hrow0:∃d0,da[0]?=some d0/\items? st1 d0=some (aB (A.getD 0 [])):=by
  have hi:0<da.length:=by omega
  obtain⟨r,e1,e2⟩:=bY.get hra (List.getElem?_eq_getElem hi);refine⟨da[0],List.getElem?_eq_getElem hi,?_⟩;have:A.getD 0 []=r:=by rw[List.getD_eq_getElem?_getD,e1];rfl
  rw[this];exact e2
 obtain⟨d0,hd0,hi0⟩:=hrow0;have er:(aB (A.getD 0 [])).length=w:=by unfold aB;rw[List.length_map];exact Mx.cA hA (by omega)
 try dsimp only[ak]
 refine hV (A:=cx 2 _) (fun σ st'=>σ=[some d,some (.ref st.length),some (.int 0),none,none]/\st'=st1) (fun nx h=>h _ _ ⟨rfl,rfl⟩) ?_;rintro _ _ ⟨rfl,rfl⟩;refine hV (A:=iZ _ _ _) (fun σ st'=>∃(top xb xu xc:Nat) (v3:Option D) (c:Mx.B3),σ=[some d,some (.ref st.length),some (.int top),v3,none]/\Bn st' st.length xb xu xc c.A c.U c.C/\Bo st.length st st' st.length xb xu xc/\Mx.jr A N w top c) (fun nx hnx=>?_) ?_
 . refine aD hda (show e9 da 0=some d0 from jP (j:=0) hd0) (eM hi0 ?_);rw[er];refine eH ⟨by omega,by omega⟩ ?_;rw[Int.toNat_natCast];refine jS w (fun p σ st'=>∃(top xb xu xc:Nat) (v3:Option D) (c:Mx.B3),σ=[some d,some (.ref st.length),some (.int top),v3,none]/\Bn st' st.length xb xu xc c.A c.U c.C/\Bo st.length st st' st.length xb xu xc/\Mx.jr A N p top c) ?_ ?_ ⟨0,_,_,_,none,⟨A,Mx.units N,Mx.units N⟩,rfl,B1,O1,.start⟩
   . rintro σ st' ⟨top,xb,xu,xc,v3,c,rfl,B,O,hC⟩;exact hnx _ _ ⟨top,xb,xu,xc,v3,c,rfl,B,O,hC⟩
   . rintro p σ st' rest hp ⟨top,xb,xu,xc,v3,c,rfl,B,O,hC⟩ next
     refine⟨_,rfl,?_⟩;obtain⟨ld,S⟩:=hC.str hA hlo hN (Nat.le_of_lt hp);have hle:=S.le;have hroom:=hsz p top c hp hC;refine jV B.eb rfl ?_;refine⟨st.length,st.length,xb,xu,xc,N,w,top,p,_,_,_,z,A,c.A,c.U,c.C,ld,rfl,B,⟨O.lo,fun _ _ _=>rfl,O.tb⟩,S,hN,hw,hp,hzz,hroom.ga,fun st2 B2 O2 hL=>?_,fun st2 xb2 xu2 xc2 c2 r B2 O2 hR hL=>?_⟩
     . exact oV (next _ _ ⟨top,xb,xu,xc,_,c,rfl,B2,⟨O2.lo,fun m h1 h2=>(O2.fr m h1 h2).trans (O.fr m h1 h2),O2.tb⟩,.next hC (.none hL)⟩)
     . refine fi ?_;obtain⟨s1,ht,_⟩:=S.Fl hN hp hR hL;have O2':Bo st.length st st2 st.length xb2 xu2 xc2:=⟨O2.lo,fun m h1 h2=>(O2.fr m h1 h2).trans (O.fr m h1 h2),O2.tb⟩
       refine jV B2.eb rfl ?_;refine⟨st.length,xb2,xu2,xc2,N,w,top,p,4*Mx.Ey e0 top+4,Mx.Uy e0 top,Mx.Cx e0 top,z,A,_,_,_,rfl,B2,s1.tn,hN,hw,hp,ht,s1.tp,fun q hq=>s1.zs top q (Nat.le_refl _) ht hq,fun q=>⟨s1.lo.1 top q (Nat.le_refl _) ht,s1.lo.2.1 top q (Nat.le_refl _) ht,s1.lo.2.2 top q (Nat.le_refl _) ht⟩,fun i q hi=>?_,hzz,fun k hk=>hroom.lo c2 r k hR hL hk,fun st3 B3 f3=>?_⟩
       . obtain⟨a1,a2,a3⟩:=s1.GB hi q;rw[a1,a2,a3];exact S.hi i q hi
       . exact next _ _ ⟨top+1,xb2,xu2,xc2,_,_,rfl,B3,O2'.low f3,.next hC (.one hR hL)⟩
 . rintro σ st2 ⟨top,xb,xu,xc,v3,c,rfl,B,O,hC⟩;obtain⟨ld,S⟩:=hC.str hA hlo hN (Nat.le_refl _);have hle:=S.le;have T:=S.tn;have lN:=T.isA.len;refine cB B.eb rfl ?_;obtain⟨da2,hda2,hra2⟩:=(hdk O.fr).ex;refine eM hda2 ?_;rw[hra2.len,lA];refine⟨_,c.C,N,rfl,⟨_,aF B.e3,bY.lst⟩,T.gE.gN,by rw[T.gE.len];omega,by omega,?_⟩;refine cB B.eb rfl (D_ B.e1 ?_);rw[o_,<-List.map_take];refine⟨_,c.A.take top,rfl,⟨_,rfl,bY.lst⟩,by rw[List.length_take];omega,?_⟩;refine cB B.eb rfl ?_;refine⟨_,c.U,rfl,⟨_,aF B.e2,bY.lst⟩,by rw[T.fL.len];omega,?_⟩;refine⟨by show 3<=sizeLine;decide,?_⟩;refine kk st2 top c hC ⟨?_,O.fr,O.tb⟩;have:=(List.getElem?_eq_some_iff.mp B.eb).1;omega
structure Wf(F:List (List Int))(m w:Nat):Prop where
 is:Mx.a5 m w F
 st:Mx.aO F m w (Mx.ck F)
 m8:m<=8
 w8:w<=8
 sm:∀k c,k<m->c<w->(Mx.g F k c).natAbs<=2^5000
theorem Wf.lead{F:List (List Int)}{m w i:Nat}(h:Wf F m w)(hi:i<m):Mx.ck F i<w/\0<Mx.g F i (Mx.ck F i)/\(F.getD i []).length=w/\mq (F.getD i [])= .int ((Mx.ck F i:Nat):Int):=by
 obtain⟨l1,l2,l3⟩:=h.st.lead i hi;refine⟨l1,l2,h.is.row hi,?_⟩;unfold mq;rw[nN l3 (Int.ne_of_gt l2)]
theorem Wf.row{F:List (List Int)}{m w i:Nat}(h:Wf F m w)(hi:i<m):∀x∈F.getD i [],x.natAbs<=2^5000:=fun x hx=>by
 obtain⟨c,hc,rfl⟩:=List.mem_iff_getElem.mp hx;have hw:=h.is.row hi;have:=h.sm i c hi (by omega);unfold Mx.g at this;rwa [Mx.bJ hc]at this
theorem EZ{x:Int}(h:x.natAbs<=2^5000)(h0:x≠0):x.natAbs.log2<9000:=
 (Nat.log2_lt (by omega)).mpr (Nat.lt_of_le_of_lt h (Nat.pow_lt_pow_right (by decide) (by decide)))
theorem drop_cons{F:List (List Int)}{i:Nat}{d:D}{rest:List D}(hr:d::rest=(F.map cm).drop i):i<F.length/\d=cm (F.getD i [])/\rest=(F.map cm).drop (i+1):=by
 have hi:i<F.length:=by
  rcases Nat.lt_or_ge i F.length with h|h
  . exact h
  . rw[List.drop_eq_nil_of_le (by rw[List.length_map];exact h)]at hr;cases hr
 rw[List.drop_eq_getElem_cons (by rw[List.length_map];exact hi),List.getElem_map]at hr;obtain⟨h1,h2⟩:=List.cons.inj hr;exact⟨hi,by rw[Mx.bJ hi];exact h1,h2⟩
theorem drop_nil{F:List (List Int)}{i:Nat}(hr: []=(F.map cm).drop i):F.length<=i:=by
 have:=congrArg List.length hr;rw[List.length_drop,List.length_map,List.length_nil]at this;omega
theorem wc:∀(r:List Int) (i l:Nat),fK r i=some l->∃k,l=i+k/\k<r.length/\r.getD k 0≠0/\∀c,c<k->r.getD c 0=0
 | [],_,_,h=>by cases h
 |x::r,i,l,h=>by
  unfold fK at h;split at h
  . rename_i hx;obtain⟨k,e,hk,hr,hz⟩:=wc r (i+1) l h;refine⟨k+1,by omega,Nat.succ_lt_succ hk,hr,fun c hc=>?_⟩;cases c with
    |zero=>exact hx
    |succ c=>exact hz c (Nat.lt_of_succ_lt_succ hc)
  . cases h;exact⟨0,rfl,Nat.succ_pos _,by assumption,fun c hc=>absurd hc (Nat.not_lt_zero _)⟩
theorem zN{r:List Int}{l:Nat}(h:jx r=some l):l<r.length/\r.getD l 0≠0/\∀c,c<l->r.getD c 0=0:=by
 obtain⟨k,e,h1,h2,h3⟩:=wc r 0 l h;rw[Nat.zero_add]at e;subst e;exact⟨h1,h2,h3⟩
theorem kT{A:List (List Int)}{t i c:Nat}(h:i<t):Mx.g (A.take t) i c=Mx.g A i c:=by
 have e:(A.take t).getD i []=A.getD i []:=by rw[List.getD_eq_getElem?_getD,List.getD_eq_getElem?_getD,List.getElem?_take,if_pos h]
 unfold Mx.g;rw[e]
theorem G0{n:Nat}{r:List Int}:pl (n+1) (cm r)=true:=by
 unfold pl;exact HK
structure Fo(A:List (List Int))(N w:Nat)(F:List (List Int))(m:Nat):Prop where
 is:Mx.a5 m w F
 st:Mx.aO F m w (Mx.ck F)
 red:Mx.fD F m (Mx.ck F)
 same:Mx.mr A N F m w
 m8:m<=8
 le:m<=N
theorem yp{A:List (List Int)}{N w top e u v:Nat}{c:Mx.B3}{ld:Nat->Nat}(H2:Mx.iy A N w c top w ld e u v):Mx.a5 top w (c.A.take top)/\Mx.aO (c.A.take top) top w (Mx.ck (c.A.take top))/\Mx.fD (c.A.take top) top (Mx.ck (c.A.take top))/\Mx.mr A N (c.A.take top) top w:=by
 have H:=H2.NZ
 have s:Mx.aO (c.A.take top) top w ld:=⟨fun i hi=>by
  obtain⟨h1,h2,h3⟩:=H.lead i hi;exact⟨h1,by rw[kT hi];exact h2,fun c hc=>by rw[kT hi];exact h3 c hc⟩,H.mono⟩
 have le:=H.le;refine⟨⟨by rw[List.length_take,H.tn.isA.len];omega,fun r hr=>H.tn.isA.gN r (List.mem_of_mem_take hr)⟩,s.MG,fun i j hij hj=>?_,⟨fun k hk=>?_,fun k hk=>?_⟩⟩
 . rw[s.ck hj,kT (Nat.lt_trans hij hj),kT hj];exact H.red i j hij hj
 . obtain⟨z,hz⟩:=H.out k hk;exact⟨z,fun q hq=>(hz q hq).trans (Mx.aG fun i hi=>by rw[kT hi])⟩
 . exact(H.in k hk).eq fun q _=>kT hk
theorem E2{n:Nat}{A:List (List Int)}:pl (n+2) (aY A)=true:=by
 unfold pl;refine List.all_eq_true.mpr fun d hd=>?_;obtain⟨r,_,rfl⟩:=List.mem_map.mp hd;exact G0
theorem EC{F:List (List Int)}{m w:Nat}{r:List Int}(hW:Wf F m w)(lr:r.length=w):(Mx.eL F r m=List.replicate w 0↔Mx.a7 F m w fun c=>r.getD c 0)/\(jx (Mx.eL F r m)=none↔Mx.eL F r m=List.replicate w 0):=by
 have lR:=Mx.kJ hW.is lr (Nat.le_refl m);have fz:=(Mx.AE hW.is lr hW.st (Nat.le_refl m)).zero hW.st;have z:Mx.eL F r m=List.replicate w 0↔∀c,c<w->(Mx.eL F r m).getD c 0=0:=⟨fun h c _=>by rw[h];exact Mx.e8 _ _,fun h=>Mx.vz lR (by simp) fun j hj=>by rw[h j hj,Mx.e8]⟩
 refine⟨z.trans fz,⟨fun h=>z.mpr fun c _=>uw _ 0 h c,fun h=>?_⟩⟩;cases e:jx (Mx.eL F r m)with
 |none=>rfl
 |some l=>
  obtain⟨h1,h2,_⟩:=zN e;exact absurd (z.mp h l (by omega)) h2
theorem oE{A:List (List Int)}{N w M:Nat}(hA:Mx.a5 N w A)(h:∀r∈A,∀x∈r,x.natAbs<=M):∀i c,i<N->c<w->(Mx.g A i c).natAbs<=M:=fun i c hi hc=>by
 have lA:=hA.len;have lr:=hA.row hi;unfold Mx.g;exact h _ (by rw[Mx.bJ (by omega)];exact List.getElem_mem _) _ (getD_mem (by omega))
theorem vL{A:List (List Int)}{N w M:Nat}(hA:Mx.a5 N w A)(h:∀i c,i<N->c<w->(Mx.g A i c).natAbs<=M):Mx.fu A N 0 M:=fun i c _ hi=>by
 by_cases hc:c<w
 . exact h i c hi hc
 . have lr:=hA.row hi;unfold Mx.g;rw[Mx.kB (by omega)];exact Nat.zero_le _
def rL:cE:=fun ds st K=>∃(d:D) (A:List (List Int)) (N w e0:Nat) (f:Bool),ds=[.int w,d]/\eK st d A/\Mx.a5 N w A/\N<=8/\w<=8/\Mx.fu A N 0 (2^e0)/\e0<=200/\st[0]?=some (eJ f)/\∀st' F m,Bk st st'->Fo A N w F m->K (.tup [.int w,aY F]) st'
def rV:List Str:=["wide","rows"]
def HI:DS:=(bE (gL (ae (ab 0) (ae (Gu (a8 (aq nJ (bM fC (ae (ab 1) ak)) (dC (.int 0)))) (aq aV (aK my (ae (ab 1) ak)) (dC (.int 0))) (gL ak)) ak))))
theorem Iu{A:List (List Int)}{N e0 e1:Nat}(h:Mx.fu A N 0 (2^e0))(l:e0<=e1):Mx.fu A N 0 (2^e1):=fun i c h1 h2=>Nat.le_trans (h i c h1 h2) (Nat.pow_le_pow_right (by decide) l)
theorem Jr{A:List (List Int)}{w:Nat}:Fo A 0 w [] 0:=
 ⟨⟨rfl,fun r hr=>by cases hr⟩,⟨fun i hi=>absurd hi (Nat.not_lt_zero _),fun i j _ hj=>absurd hj (Nat.not_lt_zero _)⟩,fun i j _ hj=>absurd hj (Nat.not_lt_zero _),⟨fun k hk=>absurd hk (Nat.not_lt_zero _),fun k hk=>absurd hk (Nat.not_lt_zero _)⟩,Nat.zero_le _,Nat.zero_le _⟩
theorem EM:∀ds st K,rL ds st K->ds.length=2/\HI {nx:=fun _ st'=>K .aL st',rt:=K} (ba rV ds) st:=by
 rintro ds st K ⟨d,A,N,w,e0,f,rfl,hd,hA,n8,w8,hlo,he0,h0,k⟩;refine⟨rfl,?_⟩;have lA:=hA.len;obtain⟨da,hda,ra⟩:=hd.ex;have lda:da.length=N:=by rw[ra.len];exact lA
 have hlo:=Iu hlo he0;refine eM hda (yX (fun h=>fi ?_) fun h=>?_)
 . refine⟨d,N,w,200,60000000,A,f,rfl,hd,hA,by omega,by omega,by omega,hlo,by decide,fun p t c hp hC=>hC.DY hA hlo n8 hp,h0,fun st1 top c hC B=>aD rfl rfl ⟨Nat.le_of_ble_eq_true rfl,?_⟩⟩;obtain⟨ld,H⟩:=hC.str hA hlo (by omega) (Nat.le_refl _);obtain⟨h1,h2,h3,h4⟩:=yp H;have le:=H.le;exact k st1 _ _ B ⟨h1,h2,h3,h4,by omega,le⟩
 . have n0:N=0:=by omega
   subst n0;exact⟨Nat.zero_le _,Nat.le_of_ble_eq_true rfl,k st [] 0 ⟨Nat.le_refl _,fun _ _ _=>rfl,f,h0⟩ Jr⟩
def pN:cE:=fun ds st K=>∃(x y:D) (A B:List (List Int)),ds=[x,y]/\eK st x A/\eK st y B/\A.length<=500/\(∀r∈A,r.length<=500)/\(∀r∈B,r.length<=500)/\K (aY (List.zipWith (fun a b=>a++b) A B)) st
def pB:List Str:=["rows","behind"]
def E8:DS:=(bE (bM dS (ae (cZ (vU (ae (ab 0) (ae (ab 1) ak))) [none,none] (jb 0 1) cH (aq dm (bM dS (ae (ab 0) ak)) (bM dS (ae (ab 1) ak)))) ak)))
theorem DZ:∀ds st K,pN ds st K->ds.length=2/\E8 {nx:=fun _ st'=>K .aL st',rt:=K} (ba pB ds) st:=by
 rintro ds st K ⟨x,y,A,B,rfl,⟨da,hx,ra⟩,⟨db,hy,rb⟩,lA,wA,wB,k⟩;refine⟨rfl,?_⟩;refine uo hx hy fun ok aJ=>⟨bZ (by rw[tS,ra.len];omega),?_⟩
 refine ef (fun rest acc st'=>∃(da' db':List D) (A' B' R:List (List Int)),st=st'/\rest=iw da' db'/\bY st da' A'/\bY st db' B'/\(∀r∈A',r∈A)/\(∀r∈B',r∈B)/\acc=R.map cm/\R++List.zipWith (fun a b=>a++b) A' B'=List.zipWith (fun a b=>a++b) A B) ?_ ?_ _ _ _ ⟨da,db,A,B,[],rfl,rfl,ra,rb,fun _ h=>h,fun _ h=>h,rfl,rfl⟩
 . rintro acc st' ⟨da',db',A',B',R,rfl,he,h1,h2,_,_,rfl,hs⟩;refine⟨aJ _ hx hy,du rfl ?_⟩
   have e:List.zipWith (fun a b=>a++b) A' B'=[]:=by
    match da',A',h1,db',B',h2,he with
    | [],[],_,_,_,_,_=>rfl
    |_::_,_::_,_,[],[],_,_=>rfl
    |_::_,_::_,_,_::_,_::_,_,he=>cases he
   rw[e,List.append_nil]at hs;rw[hs];exact k
 . rintro d rest acc st' ⟨da',db',A',B',R,rfl,he,h1,h2,iA,iB,rfl,hs⟩ next
   match da',A',h1,db',B',h2,he,iA,iB,hs with
   | [],[],_,_,_,_,he,_,_,_=>cases he
   |_::_,_::_,_,[],[],_,he,_,_,_=>cases he
   |a::da',r::A',h1,b::db',s::B',h2,he,iA,iB,hs=>
    rw[wd,List.cons.injEq]at he;obtain⟨rfl,rfl⟩:=he;have l1:=wA r (iA r List.mem_cons_self);have l2:=wB s (iB s List.mem_cons_self);refine⟨aJ _ hx hy,_,rfl,du h1.1 (du h2.1 (Av (bZ (by rw[List.length_map,List.length_map];omega)) ?_))⟩;show cQ _ _ _ _ _ _ _ _ _;have ea:R.map cm++[D.tup (aB r++aB s)]=(R++[r++s]).map cm:=by rw[List.map_append,List.map_singleton];unfold cm aB;rw[List.map_append]
    rw[ea];refine next _ _ ⟨da',db',A',B',R++[r++s],rfl,rfl,h1.2,h2.2,fun q hq=>iA q (List.mem_cons_of_mem _ hq),fun q hq=>iB q (List.mem_cons_of_mem _ hq),rfl,?_⟩
    rw[<-hs];simp
def jN:cE:=fun ds st K=>∃(A:List (List Int)) (N w w' z:Nat) (f:Bool),ds=[aY A,.int w]/\Mx.a5 N (w+w') A/\N<=16/\w<=8/\w'<=8/\Mx.fu A N 0 (2^200)/\z<=60000000/\(∀p t c,p<w+w'->Mx.jr A N p t c->Mx.u_ N p t z c)/\st[0]?=some (eJ f)/\
 (∀st',N=0->Bk st st'->K (aY []) st')/\
 ∀st' H h a,Mx.a5 h (w+w') H->Mx.aO H h (w+w') (Mx.ck H)->Mx.fD H h (Mx.ck H)->Mx.mr A N H h (w+w')->h<=N->a<=h->(∀i,i<h->(Mx.ck H i<w↔i<a))->Bk st st'->K (aY (Mx.tl H a w)) st'
def gT:List Str:=["rows","many"]
def tH:DS:=(aQ (d9 (a8 (aq jq (bM fC (ae (ab 0) ak)) (dC (.int 0)))) (bE (gL ak)) c6)
 (bE (bM dS (ae (cZ (fe (aq aV (aK my (ae (ab 0) ak)) (dC (.int 0)))) [none,some 1] (bH 0) (a8 (aq uY (aK rp (ae (ab 0) ak)) (ab 1))) (fS (ab 0) (iJ (ab 1)) fb)) ak))))
theorem DH{xs:List D}{j:Nat}:L3.cutD xs (some (j:Int)) none=xs.drop j:=by
 unfold L3.cutD;rw[HT.vO,HT.td];by_cases h:j<=xs.length
 . rw[Nat.min_eq_left h,List.take_of_length_le (by rw[List.length_drop];omega)]
 . rw[Nat.min_eq_right (by omega),List.drop_of_length_le (Nat.le_refl _),List.drop_of_length_le (by omega)];simp
theorem se:∀ds st K,jN ds st K->ds.length=2/\tH {nx:=fun _ st'=>K .aL st',rt:=K} (ba gT ds) st:=by
 rintro ds st K ⟨A,N,w,w',z,f,rfl,hA,n16,w8,w8',hlo,hz,hR,h0,k0,k⟩;refine⟨rfl,?_⟩;have lA:=hA.len;refine eM rfl ?_;rw[List.length_map,lA];refine eq2 (fun h=>fi ?_) fun h=>oV ?_
 . exact⟨Nat.zero_le _,k0 st (by omega) ⟨Nat.le_refl _,fun _ _ _=>rfl,f,h0⟩⟩
 refine⟨_,N,w+w',200,z,A,f,rfl,d5,hA,by omega,n16,by omega,hlo,hz,hR,h0,fun st1 top c hC B=>?_⟩;obtain⟨ld,S⟩:=hC.str hA hlo n16 (Nat.le_refl _);obtain⟨h1,h2,h3,h4⟩:=yp S;have le:=S.le;generalize c.A.take top=H at h1 h2 h3 h4;obtain⟨a,ha,q⟩:=Mx.Dl (w:=w) h2.mono;have lH:=h1.len;refine aD rfl rfl (fP ⟨bZ (by rw[List.length_map];omega),?_⟩);refine ef (fun rest acc st'=>st1=st'/\∃i:Nat,i<=top/\rest=(H.map cm).drop i/\acc=(((H.take i).drop a).map (List.drop w)).map cm) ?_ ?_ _ _ _ ⟨rfl,0,Nat.zero_le _,rfl,by simp⟩
 . rintro acc st' ⟨rfl,i,hi,hrest,rfl⟩;have:H.length<=i:=drop_nil hrest;refine⟨trivial,du rfl ?_⟩;rw[List.take_of_length_le this];exact k st1 H top a h1 h2 h3 h4 le ha q B
 . rintro d rest acc st' ⟨rfl,i,hi,hrest,rfl⟩ next
   obtain⟨hiH,rfl,rfl⟩:=drop_cons hrest;have him:i<top:=by omega
   obtain⟨l1,l2,l3⟩:=h2.lead i him;refine⟨trivial,_,rfl,_,H.getD i [],rfl,rfl,?_⟩
   have eD:mq (H.getD i [])= .int ((Mx.ck H i:Nat):Int):=by
    unfold mq;rw[nN l3 (Int.ne_of_gt l2)]
   rw[eD];have et:H.take (i+1)=H.take i++[H.getD i []]:=by rw[List.take_succ,List.getElem?_eq_getElem hiH,Mx.bJ hiH];rfl
   refine N0 (fun g=>?_) fun g=>?_
   . have hai:a<=i:=Nat.le_of_not_lt fun y=>by have:=(q i him).mpr y;omega
     refine fi (vZ ?_);rw[DH,show(aB (H.getD i [])).drop w=aB ((H.getD i []).drop w)from(List.map_drop ..).symm];show cQ _ _ _ _ _ _ _ _ _;rw[zj];refine next _ _ ⟨rfl,i+1,him,rfl,?_⟩
     rw[et,List.drop_append_of_le_length (by rw[List.length_take];omega)];simp only[List.map_append,List.map_cons,List.map_nil]
   . have hai:i<a:=(q i him).mp (by omega);refine next _ _ ⟨rfl,i+1,him,rfl,?_⟩
     rw[List.drop_eq_nil_of_le (by rw[List.length_take];omega),List.drop_eq_nil_of_le (by rw[List.length_take];omega)]
def qz:cE:=fun ds st K=>∃(x y z dF dG:D) (F G:List (List Int)) (m n w:Nat),ds=[x,y]/\items? st x=some [.int w,dF]/\eK st dF F/\items? st y=some [z,dG]/\eK st dG G/\Mx.a5 m w F/\Mx.a5 n w G/\m<=8/\n<=8/\w<=8/\K (aY (Mx.dbl F G w)) st
def ou:List Str:=["one","other"]
def Cz:DS:=(bE (aq dm (aK pN (ae (aq aV (ab 0) (dC (.int 1))) (ae (aq aV (ab 0) (dC (.int 1))) ak))) (aK pN (ae (aq aV (ab 1) (dC (.int 1))) (ae (aK l8 (ae (bM fC (ae (aq aV (ab 1) (dC (.int 1))) ak)) (ae (aq aV (ab 0) (dC (.int 0))) ak))) ak)))))
theorem Ei{F:List (List Int)}:List.zipWith (fun a b=>a++b) F F=F.map fun r=>r++r:=by
 induction F with
 |nil=>rfl
 |cons r F ih=>rw[List.zipWith_cons_cons,ih];rfl
theorem Ai{w:Nat}:∀ {G:List (List Int)},List.zipWith (fun a b=>a++b) G (List.replicate G.length (List.replicate w (0:Int)))=G.map fun r=>r++List.replicate w 0
 | []=>rfl
 |r::G=>by rw[List.length_cons,List.replicate_succ,List.zipWith_cons_cons,Ai];rfl
theorem BA:∀ds st K,qz ds st K->ds.length=2/\Cz {nx:=fun _ st'=>K .aL st',rt:=K} (ba ou ds) st:=by
 rintro ds st K ⟨x,y,z,dF,dG,F,G,m,n,w,rfl,hx,hF',hy,hG',hF,hG,m8,n8,w8,k⟩;refine⟨rfl,?_⟩;have lF:=hF.len;have lG:=hG.len;have wF:∀r∈F,r.length<=500:=fun r hr=>by rw[hF.gN r hr];omega
 have wG:∀r∈G,r.length<=500:=fun r hr=>by rw[hG.gN r hr];omega
 obtain⟨dg,hdg,rg⟩:=hG'.ex;refine aD hx rfl (aD hx rfl ⟨dF,dF,F,F,rfl,hF',hF',by omega,wF,wF,?_⟩);refine aD hy rfl (aD hy rfl (eM hdg (aD hx rfl ?_)));rw[rg.len];refine⟨_,w,rfl,by omega,by omega,by omega,?_⟩;rw[Int.toNat_natCast];refine⟨dG,_,G,_,rfl,hG',d5,by omega,wG,fun r hr=>?_,?_⟩
 . unfold vH at hr;rw[List.eq_of_mem_replicate hr,List.length_replicate];omega
 rw[Ei,show vH G.length w=List.replicate G.length (List.replicate w 0)from rfl,Ai];refine Av (bZ (by simp;omega)) ?_;rw[<-List.map_append];exact k
def gY:cE:=fun ds st K=>∃(x y z dF dG:D) (F G:List (List Int)) (m n w:Nat) (f:Bool),ds=[x,y]/\items? st x=some [.int w,dF]/\eK st dF F/\items? st y=some [z,dG]/\eK st dG G/\Mx.a5 m w F/\Mx.a5 n w G/\m<=8/\n<=8/\w<=8/\(∀r∈F,∀x∈r,x.natAbs<=2^200)/\(∀r∈G,∀x∈r,x.natAbs<=2^200)/\(m+n<=8\/(F=G/\Mx.aO F m w (Mx.ck F)/\Mx.fD F m (Mx.ck F)))/\st[0]?=some (eJ f)/\
 ∀st' R k,Bk st st'->Mx.o9 F m G n w R k->(m+n<=8->∀i c,i<k->c<w->(Mx.g R i c).natAbs<=2^2000)->K (.tup [.int w,aY R]) st'
def pU:List Str:=["one","other"]
def Fh:DS:=(bE (gL (ae (aq aV (ab 0) (dC (.int 0))) (ae (aK jN (ae (aK qz (ae (ab 0) (ae (ab 1) ak))) (ae (aq aV (ab 0) (dC (.int 0))) ak))) ak))))
theorem Iw{F G:List (List Int)}{w M:Nat}(hF:∀r∈F,∀x∈r,x.natAbs<=M)(hG:∀r∈G,∀x∈r,x.natAbs<=M):∀r∈Mx.dbl F G w,∀x∈r,x.natAbs<=M:=fun r hr x hx=>by
 rcases List.mem_append.mp hr with h|h
 . obtain⟨q,hq,rfl⟩:=List.mem_map.mp h;rcases List.mem_append.mp hx with h|h<;>exact hF q hq x h
 . obtain⟨q,hq,rfl⟩:=List.mem_map.mp h;rcases List.mem_append.mp hx with h|h
   . exact hG q hq x h
   . rw[List.eq_of_mem_replicate h];exact Nat.zero_le _
theorem DG:∀ds st K,gY ds st K->ds.length=2/\Fh {nx:=fun _ st'=>K .aL st',rt:=K} (ba pU ds) st:=by
 rintro ds st K ⟨x,y,z,dF,dG,F,G,m,n,w,f,rfl,hx,hF',hy,hG',hF,hG,m8,n8,w8,bF,bG,hh,h0,k⟩;refine⟨rfl,?_⟩;have hD:=Mx.Dd hF hG;have bD:=oE hD (Iw (w:=w) bF bG);have hlo:=vL hD bD;refine aD hx rfl ⟨x,y,z,dF,dG,F,G,m,n,w,rfl,hx,hF',hy,hG',hF,hG,m8,n8,w8,?_⟩;refine aD hx rfl ⟨Mx.dbl F G w,m+n,w,w,60000000,f,rfl,hD,by omega,w8,w8,hlo,Nat.le_refl _,fun p t c hp hC=>?_,h0,fun st1 e0 B=>⟨Nat.le_of_ble_eq_true rfl,?_⟩,fun st1 H h a h1 h2 h3 h4 le ha q B=>⟨Nat.le_of_ble_eq_true rfl,?_⟩⟩
 . rcases hh with h|⟨rfl,s,r⟩
   . exact hC.DY hD hlo h hp
   . have e:m=n:=hF.len.symm.trans hG.len;subst e;rw[Mx.Kk hF]at hC;exact hC.IG s r (fun i c hi hc=>Nat.le_trans (oE hF bF i c hi hc) (Nat.pow_le_pow_right (by decide) (by decide))) (by decide) hp
 . have m0:m=0:=by omega
   have n0:n=0:=by omega
   subst m0 n0;exact k st1 [] 0 B Mx.o9.empty fun _ i c hi _=>absurd hi (Nat.not_lt_zero _)
 . refine k st1 _ _ B (Mx.L0 hF hG h1 h2 h3 h4 ha q) fun hmn i c hi hc=>?_;rw[Mx.tN h1 hi];refine Nat.le_trans (h4.abs (by omega) h2 h3 bD (a+i) (w+c) (by omega) (by omega)) ?_;exact Nat.le_trans (Nat.mul_le_mul (show h<=8 by omega) (Nat.pow_le_pow_right (by have:=Nat.pow_pos (n:=200) (show 0<2 by decide);omega) (show h<=8 by omega))) (by decide+kernel)
structure Hd(st:af)(n:Nat)(b:Int):Prop where
 ex:∃(cs:List Int) (p q f:Int),st[n]?=some (.lst [.lst (aB cs),.int p,.int q,.int f])/\cs.length<=63/\0<=p/\0<=q/\p<=100+b
structure Upd(st:af)(n:Nat)(st':af):Prop where
 len:st'.length=st.length
 same:∀m,m≠n->st'[m]?=st[m]?
theorem Upd.refl{st:af}{n:Nat}:Upd st n st:=⟨rfl,fun _ _=>rfl⟩
theorem Upd.trans{st st1 st2:af}{n:Nat}(a:Upd st n st1)(b:Upd st1 n st2):Upd st n st2:=⟨b.len.trans a.len,fun m h=>(b.same m h).trans (a.same m h)⟩
theorem Upd.set{st:af}{n:Nat}{c:Cell}:Upd st n (st.set n c):=⟨List.length_set,fun m h=>List.getElem?_set_ne (Ne.symm h)⟩
theorem Hd.mono{st:af}{n:Nat}{b b':Int}(h:Hd st n b)(l:b<=b'):Hd st n b':=let⟨cs,p,q,f,e,h1,h2,h3,h4⟩:=h.ex;⟨cs,p,q,f,e,h1,h2,h3,by omega⟩
theorem Hd.lt{st:af}{n:Nat}{b:Int}(B:Hd st n b):n<st.length:=by
 obtain⟨_,_,_,_,e,_⟩:=B.ex;exact(List.getElem?_eq_some_iff.mp e).1
theorem Hd.cell{st st':af}{n:Nat}{b:Int}(B:Hd st n b)(e:st'[n]?=st[n]?):Hd st' n b:=by
 obtain⟨cs,p,q,f,h,r⟩:=B.ex;exact⟨cs,p,q,f,e.trans h,r⟩
theorem rR{st:af}{n:Nat}{xs ys:List D}{i:Int}{j:Nat}{d:D}{K:af->Prop}(h:st[n]?=some (.lst xs))(e:mh xs.length i=some j)(ey:xs.set j d=ys)(k:∀st',st'[n]?=some (.lst ys)->Upd st n st'->K st'):yu (.ref n) (.int i) d st K:=i8 h e (by
 refine k _ ?_ Upd.set;rw[List.getElem?_set_self (List.getElem?_eq_some_iff.mp h).1,ey])
def pP:cE:=fun ds st K=>∃ns:List Int,ds=[.lst (ns.map .int)]/\ns.length<=63/\∀st',Hd st' st.length 0->Ext st st'->K (.ref st.length) st'
def mB:List Str:=["_law_script","_law_first"]
def AN:DS:=(aQ (cx 1 (bM tZ (ae (fS (ab 0) fb (iJ (dC (.int 1)))) ak)))
 (bE (EF (ae (bM ke (ae (fS (ab 0) fb (iJ (dC (.int 63)))) ak)) (ae (dC (.int 0)) (ae (aq mO (bM qV (ae (ab 1) ak)) (dC (.int 2))) (ae (bM qH (ae (aq uY (bM qV (ae (ab 1) ak)) (aq tM (dC (.int 10)) (dC (.int 18)))) ak)) ak)))))))
theorem oP{r:List Int}{j:Nat}:L3.cutD (aB r) none (some (j:Int))=aB (r.take j):=by rw[o_];exact(List.map_take ..).symm
theorem zM:∀ds st K,pP ds st K->ds.length=1/\AN {nx:=fun _ st'=>K .aL st',rt:=K} (ba mB ds) st:=by
 rintro ds st K ⟨ns,rfl,hl,k⟩;refine⟨rfl,?_⟩;refine iO ?_;rw[show(1:Int)=((1:Nat):Int)from rfl,show ns.map D.int=aB ns from rfl,oP];refine CL (ints_map _) ?_;generalize(ns.take 1).sum=x;refine iO ?_;rw[show(63:Int)=((63:Nat):Int)from rfl,oP];refine jY rfl (uj (rD (by decide) (by decide) (uj (zd ⟨by decide,by decide,by decide⟩ (AO (kC ⟨Nat.le_of_ble_eq_true rfl,?_⟩))))));refine k _ ⟨_,_,_,_,List.getElem?_concat_length,by rw[List.length_take];omega,Int.le_refl _,?_,by omega⟩ Ext.push;rw[Int.fdiv_eq_ediv_of_nonneg _ (by decide)];exact Int.ediv_nonneg (Int.natCast_nonneg _) (by decide)
def cw:cE:=fun ds st K=>∃(n:Nat) (m b:Int),ds=[.ref n,.int m]/\Hd st n b/\0<=b/\b<=1000000000/\0<m/\m<2^62/\∀r st',0<=r->r<m->Hd st' n (b+1)->Upd st n st'->K (.int r) st'
def mz:List Str:=["_law_hand_here","_law_many","_law_found","_law_cell","_law_once","_law_twice"]
def A9:DS:=(aQ (qy (oj (a8 (aq jq (aq aV (ab 0) (dC (.int 3))) (dC (.int 1)))) (oj (a8 (aq jq (aq aV (ab 0) (dC (.int 2))) (dC (.int 0)))) (a8 (aq q_ (aq dm (aq aV (ab 0) (dC (.int 1))) (dC (.int 1))) (bM fC (ae (aq aV (ab 0) (dC (.int 0))) ak)))))) (aQ (eN (ab 0) (dC (.int 1)) (aq dm (aq aV (ab 0) (dC (.int 1))) (dC (.int 1))))
 (eN (ab 0) (dC (.int 2)) (bM qV (ae (aq aV (aq aV (ab 0) (dC (.int 0))) (aq aV (ab 0) (dC (.int 1)))) ak)))))
 (aQ (d9 (oj (a8 (aq jq (aq aV (ab 0) (dC (.int 3))) (dC (.int 1)))) (a8 (aq nJ (aq aV (ab 0) (dC (.int 2))) (dC (.int 0))))) (aQ (cx 2 (aq ik (aq aV (ab 0) (dC (.int 2))) (ab 1)))
 (aQ (eN (ab 0) (dC (.int 2)) (aq mO (aq aV (ab 0) (dC (.int 2))) (ab 1)))
 (bE (ab 2)))) c6)
 (aQ (eN (ab 0) (dC (.int 1)) (aq dm (aq aV (ab 0) (dC (.int 1))) (dC (.int 1))))
 (aQ (cx 3 (bM tZ (ae (fS (fS (aq aV (ab 0) (dC (.int 0))) (iJ (aq ik (aq aV (ab 0) (dC (.int 1))) (bM vK (ae (dC (.int 1)) (ae (bM fC (ae (aq aV (ab 0) (dC (.int 0))) ak)) ak))))) fb) fb (iJ (dC (.int 1)))) ak)))
 (aQ (cx 4 (aq ik (aq eg (aq dm (aq dm (aq ik (ab 3) (dC (.int 2147483629))) (aq eg (dC (.int 7919)) (aq aV (ab 0) (dC (.int 1))))) (dC (.int 11))) (aq dm (dC (.int 48271)) (aq eg (dC (.int 2)) (aq aV (ab 0) (dC (.int 1)))))) (dC (.int 2147483647))))
 (aQ (cx 5 (aq ik (aq dm (aq eg (ab 4) (aq dm (aq ik (ab 4) (dC (.int 39373))) (aq aV (ab 0) (dC (.int 1))))) (aq eg (dC (.int 31)) (aq aV (ab 0) (dC (.int 1))))) (dC (.int 1999999973))))
 (bE (aq ik (aq mO (ab 5) (dC (.int 7))) (ab 1)))))))))
theorem EX{xs:List D}{j:Nat}:L3.cutD xs (some (j:Int)) none=xs.drop j:=by
 unfold L3.cutD;rw[HT.vO,HT.td];by_cases h:j<=xs.length
 . rw[Nat.min_eq_left h,List.take_of_length_le (by rw[List.length_drop];omega)]
 . rw[Nat.min_eq_right (by omega),List.drop_of_length_le (Nat.le_refl _),List.drop_of_length_le (by omega)];simp
theorem DU{m:Int}(h0:0<m)(h:m<2^62):m.natAbs.log2<9000:=by
 have:m.natAbs.log2<62:=(Nat.log2_lt (by omega)).mpr (by omega);omega
theorem zH:∀ds st K,cw ds st K->ds.length=2/\A9 {nx:=fun _ st'=>K .aL st',rt:=K} (ba mz ds) st:=by
 rintro ds st K ⟨n,m,b,rfl,⟨cs,p,q,f,e,hcl,hp,hq,hpb⟩,hb0,hb2,hm0,hm1,k⟩;refine⟨rfl,?_⟩;try dsimp only
 refine hV (A:=qy _ _) (fun σ' st'=>∃(p q:Int),σ'=[some (.ref n),some (.int m),none,none,none,none]/\st'[n]?=some (.lst [.lst (aB cs),.int p,.int q,.int f])/\0<=p/\0<=q/\p<=100+b/\Upd st n st') (fun nx hnx=>?_) ?_
 . refine⟨fun m' σ st'=>∃(p q:Int),σ=[some (.ref n),some (.int m),none,none,none,none]/\st'[n]?=some (.lst [.lst (aB cs),.int p,.int q,.int f])/\0<=p/\0<=q/\p<=100+b/\Upd st n st'/\m'=(cs.length-p).toNat,⟨_,p,q,rfl,e,hp,hq,hpb,Upd.refl,rfl⟩,?_⟩;clear e hp hq hpb p q;rintro m' σ st' ⟨p,q,rfl,e,hp,hq,hpb,U,rfl⟩;have stop:nx [some (.ref n),some (.int m),none,none,none,none] st':=hnx _ _ ⟨p,q,rfl,e,hp,hq,hpb,U⟩;refine aD (aF e) (by rfl) (eq2 (fun _=>fi ?_) fun _=>stop);refine aD (aF e) (by rfl) (eq2 (fun _=>fi ?_) fun _=>stop);refine aD (aF e) (by rfl) (eO (aD (aF e) (by rfl) (eM rfl ?_)));rw[List.length_map];refine M0 (fun h=>fi ?_) fun _=>stop;refine aD (aF e) (by rfl) (eO (rR (ys:=[.lst (aB cs),.int (p+1),.int q,.int f]) e (by rfl) (by rfl) fun st1 e1 U1=>?_));obtain⟨j,ej⟩:=Int.eq_ofNat_of_zero_le (show 0<=p+1 by omega);have hj:j<cs.length:=by omega
   refine aD (aF e1) (by rfl) (aD (aF e1) (by rfl) ?_);rw[ej];refine aD rfl (gB hj) (uj ?_);rw[ej]at e1;refine rR (ys:=[.lst (aB cs),.int j,.int ((cs.getD j 0).natAbs:Nat),.int f]) e1 (by rfl) (by rfl) fun st2 e2 U2=>?_;exact⟨_,by omega,(j:Int),_,rfl,e2,by omega,Int.natCast_nonneg _,by omega,U.trans (U1.trans U2),rfl⟩
 . clear e hp hq hpb p q;rintro σ st1 ⟨p,q,rfl,e,hp,hq,hpb,U⟩
   have mixed:(aQ (eN (ab 0) (dC (.int 1)) (aq dm (aq aV (ab 0) (dC (.int 1))) (dC (.int 1))))
    (aQ (cx 3 (bM tZ (ae (fS (fS (aq aV (ab 0) (dC (.int 0))) (iJ (aq ik (aq aV (ab 0) (dC (.int 1))) (bM vK (ae (dC (.int 1)) (ae (bM fC (ae (aq aV (ab 0) (dC (.int 0))) ak)) ak))))) fb) fb (iJ (dC (.int 1)))) ak)))
    (aQ (cx 4 (aq ik (aq eg (aq dm (aq dm (aq ik (ab 3) (dC (.int 2147483629))) (aq eg (dC (.int 7919)) (aq aV (ab 0) (dC (.int 1))))) (dC (.int 11))) (aq dm (dC (.int 48271)) (aq eg (dC (.int 2)) (aq aV (ab 0) (dC (.int 1)))))) (dC (.int 2147483647))))
    (aQ (cx 5 (aq ik (aq dm (aq eg (ab 4) (aq dm (aq ik (ab 4) (dC (.int 39373))) (aq aV (ab 0) (dC (.int 1))))) (aq eg (dC (.int 31)) (aq aV (ab 0) (dC (.int 1))))) (dC (.int 1999999973))))
    (bE (aq ik (aq mO (ab 5) (dC (.int 7))) (ab 1))))))) {nx:=fun _ st'=>K .aL st',rt:=K} [some (.ref n),some (.int m),none,none,none,none] st1:=by
    refine aD (aF e) (by rfl) (eO (rR (ys:=[.lst (aB cs),.int (p+1),.int q,.int f]) e (by rfl) (by rfl) fun st2 e2 U2=>?_));have p0:0<=p+1:=by omega
    have pb:p+1<=100+(b+1):=by omega
    generalize p+1=c at e2 p0 pb;refine aD (aF e2) (by rfl) (aD (aF e2) (by rfl) (aD (aF e2) (by rfl) (eM rfl (KL ?_))));have mx:0<(if(((aB cs).length:Nat):Int)>1 then(((aB cs).length:Nat):Int)else 1):=by split<;>omega
    generalize(if(((aB cs).length:Nat):Int)>1 then(((aB cs).length:Nat):Int)else 1)=mm at mx;refine lZ (by omega) ?_;obtain⟨j,ej⟩:=Int.eq_ofNat_of_zero_le (Int.fmod_nonneg_of_pos c mx);rw[ej];refine iO ?_;rw[EX,<-List.map_drop];refine iO ?_;rw[show(1:Int)=((1:Nat):Int)from rfl,oP];refine CL (ints_map _) ?_;generalize((cs.drop j).take 1).sum=x;refine lZ (by decide) (aD (aF e2) (by rfl) (fV (h_ (by decide) (by decide)) (eO (eO ?_))));have m1:=Int.fmod_nonneg_of_pos x (show(0:Int)<2147483629 by decide);have m2:=Int.fmod_lt_of_pos x (show(0:Int)<2147483629 by decide);refine aD (aF e2) (by rfl) (fV (h_ (by decide) (by decide)) (eO (fV (h_ (by omega) (by omega)) (lZ (by decide) ?_))));have u1:=Int.fmod_nonneg_of_pos ((x.fmod 2147483629+7919*c+11)*(48271+2*c)) (show(0:Int)<2147483647 by decide);have u2:=Int.fmod_lt_of_pos ((x.fmod 2147483629+7919*c+11)*(48271+2*c)) (show(0:Int)<2147483647 by decide);generalize((x.fmod 2147483629+7919*c+11)*(48271+2*c)).fmod 2147483647=u at u1 u2⊢;refine lZ (by decide) (aD (aF e2) (by rfl) (eO (fV (h_ (by omega) (by omega)) (aD (aF e2) (by rfl) (fV (h_ (by decide) (by decide)) (eO (lZ (by decide) ?_)))))));refine rD (by decide) (by decide+kernel) (lZ (by omega) ?_);exact k _ _ (Int.fmod_nonneg_of_pos _ hm0) (Int.fmod_lt_of_pos _ hm0) ⟨cs,_,_,_,e2,hcl,p0,hq,pb⟩ (U.trans U2)
   refine aD (aF e) (by rfl) (eq2 (fun _=>fi ?_) fun _=>mixed);refine aD (aF e) (by rfl) (yX (fun _=>fi ?_) fun _=>mixed);refine aD (aF e) (by rfl) (lZ (by omega) (aD (aF e) (by rfl) (rD (by omega) (DU hm0 hm1) (rR (ys:=[.lst (aB cs),.int p,.int (q.fdiv m),.int f]) e (by rfl) (by rfl) fun st4 e4 U4=>?_))));refine k _ _ (Int.fmod_nonneg_of_pos _ hm0) (Int.fmod_lt_of_pos _ hm0) ⟨cs,_,_,_,e4,hcl,hp,?_,by omega⟩ (U.trans U4);rw[Int.fdiv_eq_ediv_of_nonneg _ (by omega)];exact Int.ediv_nonneg hq (by omega)
def oO(wild:Int):Nat:=if wild=15 then 1000000000000 else 30
def nH:cE:=fun ds st K=>∃(n:Nat) (b wild:Int),ds=[.ref n,.int wild]/\Hd st n b/\0<=b/\b<=900000000/\∀r st',r.natAbs<=oO wild->Hd st' n (b+2)->Upd st n st'->K (.int r) st'
def kc:List Str:=["_law_hand_here","_law_wild"]
def yK:DS:=(aQ (d9 (oj (a8 (aq jq (ab 1) (dC (.int 15)))) (a8 (aq jq (aK cw (ae (ab 0) (ae (dC (.int 3)) ak))) (dC (.int 0))))) (bE (aq dm (aq ku (aK cw (ae (ab 0) (ae (aq ku (aq eg (dC (.int 2)) (aq tM (dC (.int 10)) (dC (.int 12)))) (dC (.int 1))) ak))) (aq tM (dC (.int 10)) (dC (.int 12)))) (dC (.int 1)))) c6)
 (aQ (d9 (a8 (aq nJ (ab 1) (dC (.int 11)))) (bE (aq ku (aK cw (ae (ab 0) (ae (dC (.int 61)) ak))) (dC (.int 30)))) c6)
 (bE (aq aV (oG (ae (dC (.int 0)) (ae (dC (.int 1)) (ae (pd jG (dC (.int 1))) (ae (dC (.int 2)) (ae (dC (.int 0)) (ae (dC (.int 3)) (ae (pd jG (dC (.int 2))) (ae (dC (.int 1)) ak))))))))) (aK cw (ae (ab 0) (ae (dC (.int 8)) ak)))))))
theorem xk:∀ds st K,nH ds st K->ds.length=2/\yK {nx:=fun _ st'=>K .aL st',rt:=K} (ba kc ds) st:=by
 rintro ds st K ⟨n,b,wild,rfl,B,b0,hb,k⟩;refine⟨rfl,?_⟩;have h30:30<=oO wild:=by unfold oO;split<;>omega
 have e12:(10:Int)^(12:Int).toNat=1000000000000:=by decide
 have rest:∀st1,Hd st1 n (b+1)->Upd st n st1->(aQ (d9 (a8 (aq nJ (ab 1) (dC (.int 11)))) (bE (aq ku (aK cw (ae (ab 0) (ae (dC (.int 61)) ak))) (dC (.int 30)))) c6)
  (bE (aq aV (oG (ae (dC (.int 0)) (ae (dC (.int 1)) (ae (pd jG (dC (.int 1))) (ae (dC (.int 2)) (ae (dC (.int 0)) (ae (dC (.int 3)) (ae (pd jG (dC (.int 2))) (ae (dC (.int 1)) ak))))))))) (aK cw (ae (ab 0) (ae (dC (.int 8)) ak)))))) {nx:=fun _ st'=>K .aL st',rt:=K} [some (.ref n),some (.int wild)] st1:=fun st1 B1 U1=>by
  refine yX (fun _=>fi ?_) fun _=>?_
  . exact⟨n,61,_,rfl,B1,by omega,by omega,by decide,by decide,fun r st2 r0 r1 B2 U2=>lJ (k _ _ (by omega) (B2.mono (by omega)) (U1.trans U2))⟩
  . refine lY (lY ⟨Nat.le_of_ble_eq_true rfl,n,8,_,rfl,B1,by omega,by omega,by decide,by decide,fun r st2 r0 r1 B2 U2=>?_⟩);have go:∀c:Int,c.natAbs<=30->K (.int c) st2:=fun c hc=>k c st2 (by omega) (B2.mono (by omega)) (U1.trans U2);have:r=0\/r=1\/r=2\/r=3\/r=4\/r=5\/r=6\/r=7:=by omega
    rcases this with rfl|rfl|rfl|rfl|rfl|rfl|rfl|rfl<;>exact aD rfl rfl (go _ (by decide))
 refine eq2 (fun h15=>fi ?_) fun _=>rest st (B.mono (by omega)) Upd.refl;refine⟨n,3,_,rfl,B,b0,by omega,by decide,by decide,fun r st1 r0 r1 B1 U1=>eq2 (fun _=>fi ?_) fun _=>rest st1 B1 U1⟩;refine zd ⟨by decide,by decide,by decide⟩ (fV (h_ (by decide) (by decide)) (lJ ?_));rw[e12];refine⟨n,_,_,rfl,B1,by omega,by omega,by decide,by decide,fun r st2 r0 r1 B2 U2=>zd ⟨by decide,by decide,by decide⟩ (lJ (eO ?_))⟩;rw[e12];refine k _ _ ?_ (B2.mono (by omega)) (U1.trans U2);unfold oO;rw[if_pos h15];omega
def mj:cE:=fun ds st K=>∃(n:Nat) (b:Int) (N w:Nat),ds=[.ref n,.int N,.int w]/\Hd st n b/\0<=b/\b<=800000000/\N<=8/\w<=8/\∀A st',Mx.a5 N w A->(∀r∈A,∀x∈r,x.natAbs<=1000000000000)->(5<w->∀r∈A,∀x∈r,x.natAbs<=30)->Hd st' n (b+140)->Upd st n st'->K (aY A) st'
def mR:List Str:=["_law_hand_here","_law_many","_law_wide","_law_wild"]
def AU:DS:=(aQ (cx 3 (aK cw (ae (ab 0) (ae (dC (.int 16)) ak))))
 (aQ (d9 (a8 (aq nJ (ab 2) (dC (.int 5)))) (cx 3 (bM zt (ae (ab 3) (ae (dC (.int 12)) ak)))) c6)
 (bE (bM dS (ae (cZ (dz (ae (ab 1) ak)) [none,some 2,some 0,some 3] (bH 0) cH (bM dS (ae (cZ (dz (ae (ab 1) ak)) [none,some 2,some 3] (bH 0) cH (aK nH (ae (ab 1) (ae (ab 2) ak)))) ak))) ak)))))
theorem zG:∀ds st K,mj ds st K->ds.length=3/\AU {nx:=fun _ st'=>K .aL st',rt:=K} (ba mR ds) st:=by
 rintro ds st K ⟨n,b,N,w,rfl,B,b0,hb,n8,w8,k⟩;refine⟨rfl,?_⟩;refine⟨n,16,_,rfl,B,b0,by omega,by decide,by decide,fun wl st1 r0 r1 B1 U1=>?_⟩;dsimp only;refine hV (fun σ' st'=>∃wild:Int,σ'=[some (.ref n),some (.int N),some (.int w),some (.int wild)]/\st'=st1/\(5<w->wild≠15)) (fun nx hnx=>?_) ?_
 . refine yX (fun h=>fi (Jd ?_)) fun h=>hnx _ _ ⟨wl,rfl,rfl,fun z=>by omega⟩;exact hnx _ _ ⟨_,rfl,rfl,fun _=>by split<;>omega⟩
 rintro σ' st' ⟨wild,rfl,rfl,hwild⟩;have nb:oO wild<=1000000000000:=by unfold oO;split<;>omega
 have nb2:5<w->oO wild<=30:=fun h=>by unfold oO;rw[if_neg (hwild h)];exact Nat.le_refl _
 refine eH ⟨by omega,by omega⟩ ⟨bZ (by rw[cJ];omega),?_⟩;rw[Int.toNat_natCast];refine ef (fun rest acc st'=>∃A:List (List Int),acc=A.map cm/\A.length+rest.length=N/\(∀r∈A,r.length=w)/\(∀r∈A,∀x∈r,x.natAbs<=oO wild)/\Hd st' n (b+1+16*A.length)/\Upd st n st') ?_ ?_ _ _ _ ⟨[],rfl,by rw[cJ];simp,by simp,by simp,B1.mono (by simp),U1⟩
 . rintro acc st2 ⟨A,rfl,hl,hA,hbd,B2,U2⟩;have hl:A.length=N:=by simpa using hl
   exact⟨trivial,du rfl (k A st2 ⟨hl,hA⟩ (fun r hr x hx=>Nat.le_trans (hbd r hr x hx) nb) (fun h r hr x hx=>Nat.le_trans (hbd r hr x hx) (nb2 h)) (B2.mono (by omega)) U2)⟩
 . rintro x rest acc st2 ⟨A,rfl,hl,hA,hbd,B2,U2⟩ next
   have hl2:A.length<N:=by simp at hl;omega
   refine⟨trivial,_,rfl,?_⟩;refine eH ⟨by omega,by omega⟩ ⟨bZ (by rw[cJ];omega),?_⟩;rw[Int.toNat_natCast];refine ef (fun rest acc st'=>∃r:List Int,acc=aB r/\r.length+rest.length=w/\(∀x∈r,x.natAbs<=oO wild)/\Hd st' n (b+1+16*A.length+2*r.length)/\Upd st n st') ?_ ?_ _ _ _ ⟨[],rfl,by rw[cJ];simp,by simp,B2.mono (by simp),U2⟩
   . rintro acc st3 ⟨r,rfl,hr,hrb,B3,U3⟩;have hr:r.length=w:=by simpa using hr
     refine⟨trivial,du rfl ?_⟩;show cQ _ _ _ _ _ _ _ _ _;rw[zj];refine next _ _ ⟨A++[r],rfl,by simp at hl⊢;omega,fun q hq=>?_,fun q hq=>?_,B3.mono (by simp;omega),U3⟩
     . rcases List.mem_append.mp hq with h|h
       . exact hA q h
       . rw[List.mem_singleton.mp h];exact hr
     . rcases List.mem_append.mp hq with h|h
       . exact hbd q h
       . rw[List.mem_singleton.mp h];exact hrb
   . rintro y rest2 acc st3 ⟨r,rfl,hr,hrb,B3,U3⟩ next2;have hr2:r.length<w:=by simp at hr;omega
     refine⟨trivial,_,rfl,n,_,wild,rfl,B3,by omega,by omega,fun z st4 hz B4 U4=>?_⟩;show cQ _ _ _ _ _ _ _ _ _;rw[ints_app];refine next2 _ _ ⟨r++[z],rfl,by simp at hr⊢;omega,fun x hx=>?_,B4.mono (by simp;omega),U3.trans U4⟩;rcases List.mem_append.mp hx with h|h
     . exact hrb x h
     . rw[List.mem_singleton.mp h];exact hz
def oJ:cE:=fun ds st K=>∃(n:Nat) (b:Int),ds=[.ref n]/\Hd st n b/\0<=b/\b<=800000000/\∀(w:Nat) (g:Bool) st',1<=w->w<=8->(g=true->6<=w)->(g=false->w<=4)->Hd st' n (b+2)->Upd st n st'->K (.tup [.int w,.bl g]) st'
def kZ:List Str:=["_law_hand_here"]
def zP:DS:=(aQ (d9 (a8 (aq jq (aK cw (ae (ab 0) (ae (dC (.int 8)) ak))) (dC (.int 7)))) (bE (gL (ae (aq dm (dC (.int 6)) (aK cw (ae (ab 0) (ae (dC (.int 3)) ak)))) (ae (dC (.bl true)) ak)))) c6)
 (bE (gL (ae (aq dm (dC (.int 1)) (aK cw (ae (ab 0) (ae (dC (.int 4)) ak)))) (ae (dC (.bl false)) ak)))))
theorem zx:∀ds st K,oJ ds st K->ds.length=1/\zP {nx:=fun _ st'=>K .aL st',rt:=K} (ba kZ ds) st:=by
 rintro ds st K ⟨n,b,rfl,B,b0,hb,k⟩;refine⟨rfl,?_⟩;refine⟨n,8,_,rfl,B,b0,by omega,by decide,by decide,fun r st1 r0 r1 B1 U1=>eq2 (fun _=>fi ?_) fun _=>?_⟩
 . refine⟨n,3,_,rfl,B1,by omega,by omega,by decide,by decide,fun r st2 r0 r1 B2 U2=>eO ⟨Nat.le_of_ble_eq_true rfl,?_⟩⟩;obtain⟨j,rfl⟩:=Int.eq_ofNat_of_zero_le r0;exact k (6+j) true st2 (by omega) (by omega) (fun _=>by omega) (fun z=>by cases z) (B2.mono (by omega)) (U1.trans U2)
 . refine⟨n,4,_,rfl,B1,by omega,by omega,by decide,by decide,fun r st2 r0 r1 B2 U2=>eO ⟨Nat.le_of_ble_eq_true rfl,?_⟩⟩;obtain⟨j,rfl⟩:=Int.eq_ofNat_of_zero_le r0;exact k (1+j) false st2 (by omega) (by omega) (fun z=>by cases z) (fun _=>by omega) (B2.mono (by omega)) (U1.trans U2)
def oB:cE:=fun ds st K=>∃(dr:D) (F:List (List Int)) (r:List Int) (m w e:Nat),ds=[aY F,dr]/\Wf F m w/\items? st dr=some (aB r)/\r.length=w/\(∀c,c<w->(r.getD c 0).natAbs<=2^e)/\e<=10000/\∀st',Ext st st'->K (cm (Mx.eL F r m)) st'
def lb:List Str:=["_law_form","_law_row","_law_left","_law_step","_law_lead","_law_many","_law_k"]
def zL:DS:=(aQ (cx 2 (bM o8 (ae (ab 1) ak)))
 (aQ (iZ (fe (ab 0)) (bH 3) (aQ (cx 4 (aq aV (cZ (dz (ae (bM fC (ae (ab 3) ak)) ak)) [none,some 3] (bH 0) (a8 (aq oq (aq aV (ab 1) (ab 0)) (dC (.int 0)))) (ab 0)) (dC (.int 0))))
 (aQ (cx 5 (aq mO (aq aV (ab 2) (ab 4)) (aq aV (ab 3) (ab 4))))
 (iZ (dz (ae (bM fC (ae (ab 2) ak)) ak)) (bH 6) (eN (ab 2) (ab 6) (aq ku (aq aV (ab 2) (ab 6)) (aq eg (ab 5) (aq aV (ab 3) (ab 6)))))))))
 (bE (bM dS (ae (ab 2) ak)))))
theorem uO:∀(r:List Int) (i:Nat),fK r (i+1)=(fK r i).map (· +1)
 | [],_=>rfl
 |x::r,i=>by
  unfold fK;split
  . exact uO r (i+1)
  . rfl
theorem oR:∀r:List Int,((List.range r.length).filter fun j=>decide (r.getD j 0≠0)).head?=jx r
 | []=>rfl
 |x::r=>by
  have ih:=oR r;rw[List.length_cons,List.range_succ_eq_map,List.filter_cons];by_cases h:x=0
  . have h1:decide ((x::r).getD 0 0≠0)=false:=by simpa using h
    rw[h1,if_neg Bool.false_ne_true,List.filter_map,List.head?_map]
    have e:(fun j=>decide ((x::r).getD j 0≠0))∘Nat.succ=fun j=>decide (r.getD j 0≠0):=by
     funext j;simp
    rw[e,ih];unfold jx;conv=>rhs;unfold fK
    rw[if_pos h,uO]
  . have h1:decide ((x::r).getD 0 0≠0)=true:=by simpa using h
    rw[h1,if_pos rfl,List.head?_cons];unfold jx fK;rw[if_neg h]
theorem sN{n:Nat}{p:Nat->Bool}{c:DT}{te:DE}{σc:cv}{st:af}{K:List D->af->Prop}(h:∀i:Nat,i<n->∃σ2,bH 0 (.int (i:Int)) σc=some σ2/\(∀K',K' (p i) st->c σ2 st K')/\∀K',K' (.int (i:Int)) st->te σ2 st K')(k:K (((List.range n).filter p).map fun(j:Nat)=>D.int (j:Int)) st):cQ (bH 0) c te (fun _=>True) σc (dP 0 n) [] st K:=by
 refine ef (fun rest acc st'=>st'=st/\∃j:Nat,j<=n/\rest=(List.range (n-j)).map (fun i=>D.int (((j+i:Nat):Int)))/\acc=((List.range j).filter p).map fun(j:Nat)=>D.int (j:Int)) ?_ ?_ _ _ _ ⟨rfl,0,Nat.zero_le _,by unfold dP;simp,rfl⟩
 . rintro acc st' ⟨rfl,j,hj,hr,rfl⟩
   have:n-j=0:=by
    cases q:n-j with
    |zero=>rfl
    |succ m=>rw[q,List.range_succ_eq_map]at hr;cases hr
   have hjn:j=n:=by omega
   subst hjn;exact⟨trivial,k⟩
 . rintro d rest acc st' ⟨rfl,j,hj,hr,rfl⟩ next
   cases q:n-j with
   |zero=>rw[q]at hr;cases hr
   |succ m=>
    rw[q,List.range_succ_eq_map,List.map_cons,List.map_map]at hr;simp only[List.cons.injEq]at hr;obtain⟨rfl,hrest⟩:=hr;obtain⟨σ2,e2,hc,ht⟩:=h j (by omega)
    have hrest':rest=(List.range (n-(j+1))).map (fun i=>D.int (((j+1+i:Nat):Int))):=by
     have:n-(j+1)=m:=by omega
     rw[this,hrest];refine List.map_congr_left fun i _=>?_;show D.int (((j+(i+1):Nat):Int))=D.int (((j+1+i:Nat):Int));congr 2;omega
    refine⟨trivial,σ2,e2,hc _ ?_⟩;cases ep:p j with
    |false=>
     refine next _ _ ⟨rfl,j+1,by omega,hrest',?_⟩
     rw[List.range_succ,List.filter_append,List.map_append];simp[ep]
    |true=>
     refine fi (ht _ (next _ _ ⟨rfl,j+1,by omega,hrest',?_⟩));rw[List.range_succ,List.filter_append,List.map_append];simp[ep]
theorem zo{M L:List Int}{k:Nat}(hl:M.length=L.length)(hk:k<L.length):(aB (M.take k++L.drop k)).set k (.int (M.getD k 0))=aB (M.take (k+1)++L.drop (k+1)):=by
 rw[<-List.map_set];congr 1;have l1:(M.take k).length=k:=by rw[List.length_take];omega
 rw[List.set_append_right _ _ (by omega),l1,Nat.sub_self,List.drop_eq_getElem_cons hk,List.set_cons_zero,List.take_succ_eq_append_getElem (by omega),List.append_assoc,Mx.bJ (by omega)];rfl
theorem Ee{M L:List Int}{k:Nat}(hl:M.length=L.length)(hk:k<L.length):e9 (aB (M.take k++L.drop k)) (k:Int)=some (.int (L.getD k 0)):=by
 have l1:(M.take k).length=k:=by rw[List.length_take];omega
 rw[gB (by rw[List.length_append,List.length_drop,l1];omega),List.getD_eq_getElem?_getD,List.getElem?_append_right (by omega),l1,Nat.sub_self,List.getElem?_drop,Nat.add_zero,List.getD_eq_getElem?_getD]
theorem zy:∀ds st K,oB ds st K->ds.length=2/\zL {nx:=fun _ st'=>K .aL st',rt:=K} (ba lb ds) st:=by
 rintro ds st K ⟨dr,F,r,m,w,e,rfl,hW,hr,lr,br,he,k⟩;refine⟨rfl,?_⟩;have lF:=hW.is.len;have m8:=hW.m8;have w8:=hW.w8;refine zu hr ?_;have X0:Ext st (st++[.lst (aB r)]):=Ext.push;have e0:(st++[Cell.lst (aB r)])[st.length]?=some (.lst (aB (Mx.eL F r 0))):=by simp[Mx.eL]
 refine fP ?_;refine g_ (fun rest σ st'=>∃(i:Nat) (v3 v4 v5 v6:Option D),i<=m/\rest=(F.map cm).drop i/\σ=[some (aY F),some dr,some (.ref st.length),v3,v4,v5,v6]/\Ext st st'/\st'[st.length]?=some (.lst (aB (Mx.eL F r i)))) ?_ ?_ _ _ _ ⟨0,none,none,none,none,Nat.zero_le _,rfl,rfl,X0,e0⟩
 . rintro σ st' ⟨i,v3,v4,v5,v6,hi,hrest,rfl,X,ew⟩;have e1:i=m:=Nat.le_antisymm hi (by rw[<-lF];exact drop_nil hrest);subst e1;exact⟨trivial,du (aF ew) (k st' X)⟩
 . rintro x rest σ st' ⟨i,v3,v4,v5,v6,hi,hrest,rfl,X,ew⟩ next
   obtain⟨hiF,rfl,rfl⟩:=drop_cons hrest;have him:i<m:=by rw[<-lF];exact hiF
   obtain⟨l1,l2,wF,eld⟩:=hW.lead him;have lL:=Mx.kJ hW.is lr (i:=i) (Nat.le_of_lt him);refine⟨trivial,_,rfl,eM rfl ?_⟩;rw[List.length_map,wF];refine eH ⟨by omega,by omega⟩ ⟨bZ (by rw[cJ];omega),?_⟩;rw[Int.toNat_natCast];refine sN (p:=fun j=>decide ((F.getD i []).getD j 0≠0)) (fun j hj=>⟨_,rfl,fun K' q=>?_,fun K' q=>q⟩) ?_
   . refine aD rfl (gB (by omega)) (ne2 (fun h=>?_) fun h=>?_)
     . rw[decide_eq_true h]at q;exact q
     . rw[decide_eq_false (by simpa using h)]at q;exact q
   have hf:=oR (F.getD i []);rw[wF,nN (hW.st.lead i him).2.2 (Int.ne_of_gt l2)]at hf;generalize((List.range w).filter fun j=>decide ((F.getD i []).getD j 0≠0))=fl at hf;match fl,hf with
   |l::fl,hf=>
    have hl:l=Mx.ck F i:=by simpa using hf
    subst hl;refine aD rfl (show e9 ((Mx.ck F i::fl).map fun(j:Nat)=>D.int (j:Int)) 0=some (.int ((Mx.ck F i:Nat):Int))from jP (j:=0) rfl) ?_;have at1:e9 (aB (F.getD i [])) ((Mx.ck F i:Nat):Int)=some (.int (Mx.g F i (Mx.ck F i))):=gB (by omega);have at2:e9 (aB (Mx.eL F r i)) ((Mx.ck F i:Nat):Int)=some (.int ((Mx.eL F r i).getD (Mx.ck F i) 0)):=gB (by omega);refine aD (aF ew) at2 (aD rfl at1 (rD (by omega) (EZ (hW.sm i _ him l1) (by omega)) ?_));have bx:=Mx.AF hW.is lr hW.st hW.sm br (Nat.le_of_lt him) _ l1;have bq:(Mx.AI F (Mx.eL F r i) i).natAbs<=2^(e+i*(5000+1)):=Nat.le_trans (Mx.p_ _ l2) bx;have lM:(Mx.eL F r (i+1)).length=(Mx.eL F r i).length:=by rw[lL];exact Mx.kJ hW.is lr him
    have hMk:∀c,(Mx.eL F r (i+1)).getD c 0=(Mx.eL F r i).getD c 0-Mx.AI F (Mx.eL F r i) i*Mx.g F i c:=Mx.ya hW.is lr him;unfold Mx.AI at bq hMk;generalize((Mx.eL F r i).getD (Mx.ck F i) 0).fdiv (Mx.g F i (Mx.ck F i))=q at bq hMk⊢;refine eM (aF ew) ?_;rw[List.length_map,lL];refine eH ⟨by omega,by omega⟩ ?_;rw[Int.toNat_natCast];refine jS w (fun c σ st2=>∃v6:Option D,σ=[some (aY F),some dr,some (.ref st.length),some (cm (F.getD i [])),some (.int (Mx.ck F i:Nat)),some (.int q),v6]/\Ext st st2/\st2[st.length]?=some (.lst (aB ((Mx.eL F r (i+1)).take c++(Mx.eL F r i).drop c)))) ?_ ?_ ⟨_,rfl,X,by rw[List.take_zero,List.drop_zero];exact ew⟩
    . rintro σ st2 ⟨v6,rfl,X2,e2⟩;rw[List.drop_eq_nil_of_le (by omega),List.append_nil,List.take_of_length_le (by omega)]at e2;exact next _ _ ⟨i+1,_,_,_,_,him,rfl,rfl,X2,e2⟩
    . rintro c σ st2 rest2 hc ⟨v6,rfl,X2,e2⟩ next2;refine⟨_,rfl,?_⟩;refine aD (aF e2) (Ee lM (by omega)) (aD rfl (gB (by omega)) (fV (kD bq (hW.sm i c him hc) (by omega)) (lJ ?_)));refine i8 e2 (yF (by omega) (by rw[List.length_map,List.length_append,List.length_take,List.length_drop];omega)) ?_;rw[Int.toNat_natCast];refine next2 _ _ ⟨_,rfl,X2.set (Nat.le_refl _),?_⟩;rw[List.getElem?_set_self (List.getElem?_eq_some_iff.mp e2).1,<-zo lM (by omega),hMk c];rfl
def kH:cE:=fun ds st K=>∃(dr:D) (F:List (List Int)) (r:List Int) (m w e:Nat),ds=[aY F,dr]/\Wf F m w/\items? st dr=some (aB r)/\r.length=w/\(∀c,c<w->(r.getD c 0).natAbs<=2^e)/\e<=10000/\∀(b:Bool) st',(b=true↔Mx.a7 F m w fun c=>r.getD c 0)->Ext st st'->K (.bl b) st'
def pq:List Str:=["_law_form","_law_row"]
def Ex:DS:=(bE (uy (a8 (bM uB (ae (aK oB (ae (ab 0) (ae (ab 1) ak))) ak)))))
theorem Cs:∀ds st K,kH ds st K->ds.length=2/\Ex {nx:=fun _ st'=>K .aL st',rt:=K} (ba pq ds) st:=by
 rintro ds st K ⟨dr,F,r,m,w,e,rfl,hW,hr,lr,br,he,k⟩;refine⟨rfl,dr,F,r,m,w,e,rfl,hW,hr,lr,br,he,fun st' X=>GX (ints_map _) ?_⟩;refine k _ st' (Iff.trans ?_ (EC hW lr).1) X;have lR:=Mx.kJ hW.is lr (Nat.le_refl m);constructor
 . intro h;refine Mx.vz lR (by simp) fun j hj=>?_;rw[Mx.e8];refine Classical.byContradiction fun z=>?_;have hb:((Mx.eL F r m).any fun n=>decide (n≠0))=true:=List.any_eq_true.mpr ⟨_,getD_mem (by omega),decide_eq_true z⟩;rw[hb]at h;cases h
 . intro h;rw[h];simp
def nq:cE:=fun ds st K=>∃(F:List (List Int)) (m w:Nat),ds=[aY F]/\Wf F m w/\Mx.fD F m (Mx.ck F)/\K (.bl true) st
def jZ:List Str:=["_law_rows_here","_law_last","_law_j","_law_row","_law_some"]
def yZ:DS:=(aQ (cx 1 (pd jG (dC (.int 1))))
 (aQ (iZ (xR (ae (ab 0) ak)) (jb 2 3) (aQ (cx 4 (cZ (dz (ae (bM fC (ae (ab 3) ak)) ak)) [none,some 3] (bH 0) (a8 (aq oq (aq aV (ab 1) (ab 0)) (dC (.int 0)))) (ab 0)))
 (aQ (d9 (kX (a8 (aq jq (ab 4) (oG ak))) (kX (a8 (aq wZ (aq aV (ab 4) (dC (.int 0))) (ab 1))) (a8 (aq q_ (aq aV (ab 3) (aq aV (ab 4) (dC (.int 0)))) (dC (.int 0)))))) (bE (dC (.bl false))) c6)
 (aQ (cx 1 (aq aV (ab 4) (dC (.int 0))))
 (d9 (iH (a8 (bM uh (ae (cZ (fe (fS (ab 0) fb (iJ (ab 2)))) [none,some 1,some 3] (bH 0) cH (uK wZ q_ (dC (.int 0)) (aq aV (ab 0) (ab 1)) (aq aV (ab 2) (ab 1)))) ak)))) (bE (dC (.bl false))) c6)))))
 (bE (dC (.bl true)))))
theorem enum_rows{A:List (List Int)}{i:Nat}{d:D}{rest:List D}(hr:d::rest=gq i ((A.map cm).drop i)):i<A.length/\d= .tup [.int (i:Int),cm (A.getD i [])]/\rest=gq (i+1) ((A.map cm).drop (i+1)):=by
 rcases Nat.lt_or_ge i A.length with h|h
 . rw[List.drop_eq_getElem_cons (by rw[List.length_map];exact h),List.getElem_map]at hr;unfold gq at hr;obtain⟨h1,h2⟩:=List.cons.inj hr;exact⟨h,by rw[Mx.bJ h];exact h1,h2⟩
 . rw[List.drop_eq_nil_of_le (by rw[List.length_map];exact h)]at hr;cases hr
theorem vD:∀l:List D,ju (l.map fun _=>D.bl true)=some (l.map fun _=>true)
 | []=>rfl
 |_::l=>by simp[ju,vD l]
theorem Gd(l:List D):(l.map fun _=>true).all id=true:=by simp
theorem xh:∀ds st K,nq ds st K->ds.length=1/\yZ {nx:=fun _ st'=>K .aL st',rt:=K} (ba jZ ds) st:=by
 rintro ds st K ⟨F,m,w,rfl,hW,hR,k⟩;refine⟨rfl,?_⟩;have lF:=hW.is.len;have m8:=hW.m8;have w8:=hW.w8;refine lY (Ak (xs:=F.map cm) rfl fun ok aJ=>?_);refine g_ (fun rest σ st'=>st=st'/\∃(i:Nat) (last:Int) (v2 v3 v4:Option D),i<=m/\rest=gq i ((F.map cm).drop i)/\σ=[some (aY F),some (.int last),v2,v3,v4]/\(i<m->last<(Mx.ck F i:Int))) ?_ ?_ _ _ _ ⟨rfl,0,-1,none,none,none,Nat.zero_le _,rfl,rfl,fun _=>by omega⟩
 . rintro σ st' ⟨rfl,i,last,v2,v3,v4,_,_,rfl,_⟩;exact⟨aJ _ rfl,k⟩
 . rintro x rest σ st' ⟨rfl,i,last,v2,v3,v4,hi,hrest,rfl,hlast⟩ next
   obtain⟨hiF,rfl,rfl⟩:=enum_rows hrest;have him:i<m:=by omega
   obtain⟨l1,l2,wF,eld⟩:=hW.lead him;refine⟨aJ _ rfl,_,rfl,eM rfl ?_⟩;rw[List.length_map,wF];refine eH ⟨by omega,by omega⟩ ⟨bZ (by rw[cJ];omega),?_⟩;rw[Int.toNat_natCast];refine sN (p:=fun j=>decide ((F.getD i []).getD j 0≠0)) (fun j hj=>⟨_,rfl,fun K' q=>?_,fun K' q=>q⟩) ?_
   . refine aD rfl (gB (by omega)) (ne2 (fun h=>?_) fun h=>?_)
     . rw[decide_eq_true h]at q;exact q
     . rw[decide_eq_false (by simpa using h)]at q;exact q
   have hf:=oR (F.getD i []);rw[wF,nN (hW.st.lead i him).2.2 (Int.ne_of_gt l2)]at hf;generalize((List.range w).filter fun j=>decide ((F.getD i []).getD j 0≠0))=fl at hf;match fl,hf with
   |l::fl,hf=>
    have hl:l=Mx.ck F i:=by simpa using hf
    subst hl;have a0:e9 ((Mx.ck F i::fl).map fun(j:Nat)=>D.int (j:Int)) 0=some (.int ((Mx.ck F i:Nat):Int)):=jP (j:=0) rfl;have at1:e9 (aB (F.getD i [])) ((Mx.ck F i:Nat):Int)=some (.int (Mx.g F i (Mx.ck F i))):=gB (by omega)
    have pll:pl 40 (.lst ((Mx.ck F i::fl).map fun(j:Nat)=>D.int (j:Int)))=true:=by
     unfold pl;refine List.all_eq_true.mpr fun d hd=>?_;obtain⟨j,_,rfl⟩:=List.mem_map.mp hd;unfold pl;rfl
    refine⟨Nat.zero_le _,xy pll rfl ?_⟩;refine aD rfl a0 (NV (hlast him) ?_);refine aD rfl a0 (aD rfl at1 (MH (by omega) ?_));refine aD rfl a0 ?_;refine vZ ?_;rw[o_,<-List.map_take];refine fP ⟨bZ (by rw[List.length_map,List.length_take];omega),?_⟩;refine comp_map (g:=fun _=> .bl true) trivial _ (fun d hd K' q=>?_) ?_
    . obtain⟨s,hs,rfl⟩:=List.mem_map.mp hd;obtain⟨j,hj,rfl⟩:=List.mem_iff_getElem.mp hs;rw[List.length_take]at hj;rw[List.getElem_take];have hr:=hR j i (by omega) him;have lj:(F[j]'(by omega)).length=w:=hW.is.gN _ (List.getElem_mem _);have ej:(F[j]'(by omega)).getD (Mx.ck F i) 0=Mx.g F j (Mx.ck F i):=by unfold Mx.g;rw[Mx.bJ (show j<F.length by omega)]
      refine⟨_,rfl,aD rfl (gB (by omega)) ?_⟩;rw[ej];exact Og hr.1 (aD rfl at1 (MY hr.2 q))
    refine zh (vD ((F.take i).map cm)) ?_;rw[Gd];exact next _ _ ⟨rfl,i+1,_,_,_,_,him,rfl,rfl,fun h=>Int.ofNat_lt.mpr (hW.st.mono i (i+1) (Nat.lt_succ_self _) h)⟩
def kW:cE:=fun ds st K=>∃(F:List (List Int)) (m w:Nat),ds=[.tup [.int w,aY F],.int w]/\Wf F m w/\Mx.fD F m (Mx.ck F)/\K (.bl true) st
def jc:List Str:=["_law_found","_law_wide","_law_row"]
def vj:DS:=(aQ (d9 (kX (iH (a8 (bM m_ (ae (ab 0) (ae (dC (.ty "tuple")) ak))))) (kX (a8 (aq oq (bM fC (ae (ab 0) ak)) (dC (.int 2)))) (iH (a8 (bM m_ (ae (aq aV (ab 0) (dC (.int 1))) (ae (dC (.ty "tuple")) ak))))))) (bE (dC (.bl false))) c6)
 (aQ (d9 (kX (iH (a8 (bM m_ (ae (aq aV (ab 0) (dC (.int 0))) (ae (dC (.ty "int")) ak))))) (kX (a8 (bM m_ (ae (aq aV (ab 0) (dC (.int 0))) (ae (dC (.ty "bool")) ak)))) (a8 (aq oq (aq aV (ab 0) (dC (.int 0))) (ab 1))))) (bE (dC (.bl false))) c6)
 (aQ (iZ (fe (aq aV (ab 0) (dC (.int 1)))) (bH 2) (aQ (d9 (kX (iH (a8 (bM m_ (ae (ab 2) (ae (dC (.ty "tuple")) ak))))) (a8 (aq oq (bM fC (ae (ab 2) ak)) (ab 1)))) (bE (dC (.bl false))) c6)
 (d9 (iH (a8 (bM uh (ae (cZ (fe (ab 2)) [none] (bH 0) cH (ur (bM m_ (ae (ab 0) (ae (dC (.ty "int")) ak))) (uy (a8 (bM m_ (ae (ab 0) (ae (dC (.ty "bool")) ak))))))) ak)))) (bE (dC (.bl false))) c6)))
 (bE (aK nq (ae (aq aV (ab 0) (dC (.int 1))) ak))))))
theorem uN:∀ds st K,kW ds st K->ds.length=2/\vj {nx:=fun _ st'=>K .aL st',rt:=K} (ba jc ds) st:=by
 rintro ds st K ⟨F,m,w,rfl,hW,hR,k⟩;refine⟨rfl,?_⟩;have w8:=hW.w8;refine nF rfl (by decide) ?_;refine eM rfl (FR rfl ?_);refine aD rfl rfl (nF rfl (by decide) ?_);refine aD rfl rfl (nF rfl (by decide) ?_);refine aD rfl rfl (nF rfl (by decide) ?_);refine aD rfl rfl (FR rfl ?_);refine aD rfl rfl (fP ?_);refine g_ (fun rest σ st'=>st=st'/\∃(i:Nat) (v2:Option D),i<=F.length/\rest=(F.map cm).drop i/\σ=[some (.tup [.int w,aY F]),some (.int w),v2]) ?_ ?_ _ _ _ ⟨rfl,0,none,Nat.zero_le _,rfl,rfl⟩
 . rintro σ st' ⟨rfl,i,v2,_,_,rfl⟩;exact⟨trivial,aD rfl rfl ⟨F,m,w,rfl,hW,hR,k⟩⟩
 . rintro x rest σ st' ⟨rfl,i,v2,hi,hrest,rfl⟩ next
   obtain⟨hiF,rfl,rfl⟩:=drop_cons hrest;have lw:(F.getD i []).length=w:=by rw[Mx.bJ hiF];exact hW.is.gN _ (List.getElem_mem _)
   refine⟨trivial,_,rfl,?_⟩;refine nF rfl (by decide) ?_;refine eM rfl (FR (by rw[List.length_map,lw]) ?_);refine fP ⟨bZ (by rw[List.length_map];omega),?_⟩;refine comp_map (g:=fun _=> .bl true) trivial _ (fun d hd K' q=>?_) ?_
   . obtain⟨i,_,rfl⟩:=List.mem_map.mp hd;exact⟨_,rfl,nF rfl (by decide) (fi (nF rfl (by decide) q))⟩
   refine zh (vD (aB (F.getD i []))) ?_;rw[Gd];exact next _ _ ⟨rfl,i+1,_,hiF,rfl,rfl⟩
def qI:cE:=fun ds st K=>∃(x y:D) (A:List (List Int)) (W:List Int) (N w a b:Nat),ds=[x,y,.int w]/\items? st x=some (aB W)/\eK st y A/\Mx.a5 N w A/\w<=8/\(∀z∈W,z.natAbs<=2^a)/\(∀r∈A,∀x∈r,x.natAbs<=2^b)/\a+b<=130000000/\∀st',Ext st st'->K (cm (Mx.dA W A (List.replicate w 0))) st'
def nZ:List Str:=["_law_weights","_law_rows_here","_law_wide","_law_made","_law_weight","_law_row","_law_k"]
def Dm:DS:=(aQ (cx 3 (aq ve (oG (ae (dC (.int 0)) ak)) (ab 2)))
 (aQ (iZ (vU (ae (ab 0) (ae (ab 1) ak))) (jb 4 5) (iZ (dz (ae (ab 2) ak)) (bH 6) (eN (ab 3) (ab 6) (aq dm (aq aV (ab 3) (ab 6)) (aq eg (ab 4) (aq aV (ab 5) (ab 6)))))))
 (bE (bM dS (ae (ab 3) ak)))))
theorem Ce:∀ds st K,qI ds st K->ds.length=3/\Dm {nx:=fun _ st'=>K .aL st',rt:=K} (ba nZ ds) st:=by
 rintro ds st K ⟨x,y,A,W,N,w,a0,b0,rfl,hx,⟨dr,hy,hr⟩,hA,w8,bW,bA,hab,k⟩;refine⟨rfl,?_⟩;refine⟨Nat.le_of_ble_eq_true rfl,Ic ⟨by omega,by omega,bZ (by simp;omega)⟩ ?_⟩;rw[Int.toNat_natCast,tL];have X0:Ext st (st++[.lst (aB (List.replicate w 0))]):=Ext.push;have e0:(st++[Cell.lst (aB (List.replicate w 0))])[st.length]?=some (.lst (aB (List.replicate w 0))):=by simp
 refine uo (X0.items hx) (X0.items hy) fun ok aJ=>?_;refine g_ (fun rest σ st'=>∃(v4 v5 v6:Option D) (W':List Int) (ds':List D) (A':List (List Int)) (acc:List Int),rest=iw (aB W') ds'/\bY st ds' A'/\σ=[some x,some y,some (.int w),some (.ref st.length),v4,v5,v6]/\Ext st st'/\st'[st.length]?=some (.lst (aB acc))/\acc.length=w/\(∀r∈A',r∈A)/\(∀z∈W',z∈W)/\Mx.dA W' A' acc=Mx.dA W A (List.replicate w 0)) ?_ ?_ _ _ _ ⟨none,none,none,W,dr,A,List.replicate w 0,rfl,hr,rfl,X0,e0,by simp,fun _ h=>h,fun _ h=>h,rfl⟩
 . rintro σ st1 ⟨v4,v5,v6,W',ds',A',acc,he,hr',rfl,X,e1,hl,_,_,hs⟩;refine⟨aJ _ (X.items hx) (X.items hy),du (aF e1) ?_⟩
   have:Mx.dA W' A' acc=acc:=by
    match W',ds',A',hr',he with
    | [],_,_,_,_=>unfold Mx.dA;rfl
    |_::_,[],[],_,_=>unfold Mx.dA;rfl
    |_::_,_::_,_::_,_,he=>cases he
   rw[this]at hs;rw[hs];exact k st1 X
 . rintro d rest σ st1 ⟨v4,v5,v6,W',ds',A',acc,he,hr',rfl,X,e1,hl,ha,hw',hs⟩ next
   match W',ds',A',he,hr',ha,hs with
   | [],_,_,he,_,_,_=>cases he
   |_::_,[],[],he,_,_,_=>cases he
   |a::W',dq::ds',q::A',he,hr',ha,hs=>
    have hz:iw (aB (a::W')) (dq::ds')= .tup [.int a,dq]::iw (aB W') ds':=rfl;rw[hz,List.cons.injEq]at he;obtain⟨rfl,rfl⟩:=he;have lq:=hA.gN q (ha q List.mem_cons_self);have bq:=bA q (ha q List.mem_cons_self);have lM:(Mx.fN acc a q).length=acc.length:=Mx.kE (by omega);refine⟨aJ _ (X.items hx) (X.items hy),_,rfl,?_⟩;refine eH ⟨by omega,by omega⟩ ?_;rw[Int.toNat_natCast];refine jS w (fun c σ st2=>∃v6:Option D,σ=[some x,some y,some (.int w),some (.ref st.length),some (.int a),some dq,v6]/\Ext st st2/\st2[st.length]?=some (.lst (aB ((Mx.fN acc a q).take c++acc.drop c)))) ?_ ?_ ⟨_,rfl,X,by rw[List.take_zero,List.drop_zero];exact e1⟩
    . rintro σ st2 ⟨v6,rfl,X2,e2⟩;rw[List.drop_eq_nil_of_le (by omega),List.append_nil,List.take_of_length_le (by omega)]at e2;exact next _ _ ⟨_,_,_,W',ds',A',_,rfl,hr'.2,rfl,X2,e2,by omega,fun r hr=>ha r (List.mem_cons_of_mem _ hr),fun z hz=>hw' z (List.mem_cons_of_mem _ hz),hs⟩
    . rintro c σ st2 rest2 hc ⟨v6,rfl,X2,e2⟩ next2;refine⟨_,rfl,?_⟩;have bc:=bq _ (getD_mem (r:=q) (k:=c) (by omega));refine aD (aF e2) (Ee lM (by omega)) (aD (X2.items hr'.1) (gB (by omega)) (fV (kD (bW a (hw' a List.mem_cons_self)) bc hab) (eO ?_)));refine i8 e2 (yF (by omega) (by rw[List.length_map,List.length_append,List.length_take,List.length_drop];omega)) ?_;rw[Int.toNat_natCast];refine next2 _ _ ⟨_,rfl,X2.set (Nat.le_refl _),?_⟩;rw[List.getElem?_set_self (List.getElem?_eq_some_iff.mp e2).1,<-zo lM (by omega),Mx.rM (by omega)]
structure Tw(w m k e0:Nat)(F G:List (List Int)):Prop where
 iF:Mx.a5 m w F
 sF:Mx.aO F m w (Mx.ck F)
 rF:Mx.fD F m (Mx.ck F)
 mF:m<=8
 iG:Mx.a5 k w G
 sG:Mx.aO G k w (Mx.ck G)
 rG:Mx.fD G k (Mx.ck G)
 mG:k<=8
 mn:m+k<=8
 bF:∀r∈F,∀x∈r,x.natAbs<=2^e0
 bG:∀r∈G,∀x∈r,x.natAbs<=2^e0
 he:(w<=4/\e0=200)\/e0=110
def qX:cE:=fun ds st K=>∃(n:Nat) (b:Int) (w:Nat) (g f:Bool),ds=[.ref n,.int w,.bl g]/\Hd st n b/\n≠0/\0<=b/\b<=700000000/\1<=w/\w<=8/\(g=true->6<=w)/\(g=false->w<=4)/\st[0]?=some (eJ f)/\∀st' F G m k e0 f',Tw w m k e0 F G->st'[0]?=some (eJ f')->Hd st' n (b+1000)->K (.tup [.tup [.int w,aY F],.tup [.int w,aY G]]) st'
def nR:List Str:=["_law_hand_here","_law_wide","_law_great","_law_many","_law_rows_here","_law_more","_law_way","_law_weights"]
def Ef:DS:=(aQ (cx 3 (aq aV (oG (ae (aK cw (ae (ab 0) (ae (aq dm (ab 1) (dC (.int 2))) ak))) (ae (aq dm (dC (.int 4)) (aK cw (ae (ab 0) (ae (dC (.int 3)) ak)))) ak))) (bM qH (ae (ab 2) ak))))
 (aQ (cx 4 (aK mj (ae (ab 0) (ae (ab 3) (ae (ab 1) ak)))))
 (aQ (cx 5 (bM ke (ae (aK mj (ae (ab 0) (ae (aq aV (oG (ae (aK cw (ae (ab 0) (ae (aq dm (ab 1) (dC (.int 2))) ak))) (ae (dC (.int 4)) ak))) (bM qH (ae (ab 2) ak))) (ae (ab 1) ak)))) ak)))
 (aQ (cx 6 (aK cw (ae (ab 0) (ae (dC (.int 4)) ak))))
 (aQ (cx 7 (cZ (dz (ae (ab 3) ak)) [none,some 3] (bH 0) cH (cZ (dz (ae (ab 1) ak)) [none,some 0] (bH 0) cH (aq eg (aq dm (dC (.int 2)) (aq ik (ab 1) (dC (.int 3)))) (bM qH (ae (aq jq (ab 1) (ab 0)) ak))))))
 (aQ (d9 (a8 (aq jq (ab 6) (dC (.int 1)))) (cx 7 (cZ (dz (ae (dC (.int 2)) ak)) [none,some 3,some 0] (bH 0) cH (cZ (dz (ae (ab 1) ak)) [none,some 2] (bH 0) cH (aq ku (aK cw (ae (ab 1) (ae (dC (.int 5)) ak))) (dC (.int 2)))))) c6)
 (aQ (d9 (oj (a8 (aq nJ (ab 6) (dC (.int 0)))) (a8 (aq nJ (ab 3) (dC (.int 0))))) (cx 5 (aq dm (fS (bM ke (ae (aK rf (ae (ab 7) (ae (ab 4) ak))) ak)) fb (iJ (dC (.int 4)))) (fS (ab 5) fb (iJ (aq ku (ab 6) (dC (.int 1))))))) c6)
 (bE (gL (ae (aK rL (ae (ab 1) (ae (ab 4) ak))) (ae (aK rL (ae (ab 1) (ae (fS (ab 5) fb (iJ (aq ku (dC (.int 8)) (ab 3)))) ak))) ak)))))))))))
theorem yl{F:List (List Int)}{n w:Nat}{ld:Nat->Nat}(s:Mx.aO F n w ld):n<=w:=by
 have h:∀i,i<n->i<=ld i:=fun i=>by
  induction i with
  |zero=>exact fun _=>Nat.zero_le _
  |succ i ih=>exact fun hi=>Nat.lt_of_le_of_lt (ih (by omega)) (s.mono i (i+1) (Nat.lt_succ_self i) hi)
 cases n with
 |zero=>exact Nat.zero_le _
 |succ n=>exact Nat.lt_of_le_of_lt (h n (Nat.lt_succ_self n)) (s.lead n (Nat.lt_succ_self n)).1
theorem Ci{A F:List (List Int)}{N w m c0 e0:Nat}(w8:w<=8)(fo:Fo A N w F m)(hA:Mx.a5 N w A)(bA:∀r∈A,∀x∈r,x.natAbs<=2^c0)(h:(w<=4/\c0=45/\e0=200)\/(c0=10/\e0=110)):∀r∈F,∀x∈r,x.natAbs<=2^e0:=fun r hr x hx=>by
 have mw:=yl fo.st;obtain⟨i,hi,rfl⟩:=List.mem_iff_getElem.mp hr;obtain⟨c,hc,rfl⟩:=List.mem_iff_getElem.mp hx;have li:i<m:=by rw[<-fo.is.len];exact hi
 have lc:c<w:=by rw[<-fo.is.gN _ hr];exact hc
 have a:=fo.same.abs fo.m8 fo.st fo.red (b:=2^c0) (oE hA bA) i c li lc;unfold Mx.g at a;rw[Mx.bJ hi,Mx.bJ hc]at a;refine Nat.le_trans a ?_;rcases h with⟨w4,rfl,rfl⟩|⟨rfl,rfl⟩
 . exact Nat.le_trans (Nat.mul_le_mul (show m<=4 by omega) (Nat.pow_le_pow_right (by decide) (show m<=4 by omega))) (show 4*(9*2^45)^4<=2^200 by decide+kernel)
 . exact Nat.le_trans (Nat.mul_le_mul (show m<=8 by omega) (Nat.pow_le_pow_right (by decide) (show m<=8 by omega))) (show 8*(9*2^10)^8<=2^110 by decide+kernel)
theorem A7:∀ds st K,qX ds st K->ds.length=3/\Ef {nx:=fun _ st'=>K .aL st',rt:=K} (ba nR ds) st:=by
 rintro ds st K ⟨n,b,w,g,f,rfl,B,nz,b0,hb,w1,w8,hg,hg',t0,k⟩;refine⟨rfl,?_⟩
 obtain⟨c0,e0,hc⟩:∃c0 e0,((w<=4/\c0=45/\e0=200)\/(c0=10/\e0=110))/\(c0=10->5<w):=by
  cases g with
  |false=>exact⟨45,200,.inl ⟨hg' rfl,rfl,rfl⟩,fun h=>absurd h (by decide)⟩
  |true=>exact⟨10,110,.inr ⟨rfl,rfl⟩,fun _=>by have:=hg rfl;omega⟩
 obtain⟨hc,hc5⟩:=hc
 have small:∀ {X:List (List Int)},(∀r∈X,∀x∈r,x.natAbs<=1000000000000)->(5<w->∀r∈X,∀x∈r,x.natAbs<=30)->∀r∈X,∀x∈r,x.natAbs<=2^(c0-5):=fun h1 h2 r hr x hx=>by
  rcases hc with⟨_,rfl,_⟩|⟨rfl,_⟩
  . exact Nat.le_trans (h1 r hr x hx) (by decide)
  . exact Nat.le_trans (h2 (hc5 rfl) r hr x hx) (by decide)
 have c5:5<=c0:=by rcases hc with⟨_,rfl,_⟩|⟨rfl,_⟩<;>decide
 have up:2^(c0-5)<=2^c0:=Nat.pow_le_pow_right (by decide) (by omega);refine hV (A:=cx 3 _) (fun σ s=>∃N:Nat,σ=[some (.ref n),some (.int w),some (.bl g),some (.int N),none,none,none,none]/\N<=6/\Hd s n (b+2)/\Upd st n s) (fun nx hnx=>?_) ?_
 . refine eO ⟨n,_,b,rfl,B,b0,by omega,by omega,by omega,fun r1 st1 a0 a1 B1 U1=>⟨n,3,_,rfl,B1,by omega,by omega,by decide,by decide,fun r2 st2 d0 d1 B2 U2=>eO ⟨Nat.le_of_ble_eq_true rfl,?_⟩⟩⟩;obtain⟨r1,rfl⟩:=Int.eq_ofNat_of_zero_le a0;obtain⟨r2,rfl⟩:=Int.eq_ofNat_of_zero_le d0;cases g with
   |false=>exact kC (aD rfl rfl (hnx _ _ ⟨r1,rfl,by have:=hg' rfl;omega,B2.mono (by omega),U1.trans U2⟩))
   |true=>exact kC (aD rfl rfl (hnx _ _ ⟨4+r2,rfl,by omega,B2.mono (by omega),U1.trans U2⟩))
 rintro _ st2 ⟨N,rfl,n6,B2,U2⟩;refine⟨n,_,N,w,rfl,B2,by omega,by omega,by omega,w8,fun A st3 hA bA bA30 B3 U3=>?_⟩;have lA:=hA.len;have sA:=small bA bA30;try dsimp only
 refine hV (A:=cx 5 _) (fun σ s=>∃(C:List (List Int)) (N2:Nat),σ=[some (.ref n),some (.int w),some (.bl g),some (.int N),some (aY A),some (.lst (C.map cm)),none,none]/\Mx.a5 N2 w C/\N2<=8/\(∀r∈C,∀x∈r,x.natAbs<=2^(c0-5))/\Hd s n (b+300)/\Upd st n s) (fun nx hnx=>?_) ?_
 . refine eO ⟨n,_,_,rfl,B3,by omega,by omega,by omega,by omega,fun r4 st4 a0 a1 B4 U4=>⟨Nat.le_of_ble_eq_true rfl,?_⟩⟩;obtain⟨r4,rfl⟩:=Int.eq_ofNat_of_zero_le a0;cases g with
   |false=>exact kC (aD rfl rfl ⟨n,_,r4,w,rfl,B4,by omega,by omega,by have:=hg' rfl;omega,w8,fun C st5 hC bC bC30 B5 U5=>jY rfl (hnx _ _ ⟨C,r4,rfl,hC,by have:=hg' rfl;omega,small bC bC30,B5.mono (by omega),((U2.trans U3).trans U4).trans U5⟩)⟩)
   |true=>exact kC (aD rfl rfl ⟨n,_,4,w,rfl,B4,by omega,by omega,by decide,w8,fun C st5 hC bC bC30 B5 U5=>jY rfl (hnx _ _ ⟨C,4,rfl,hC,by decide,small bC bC30,B5.mono (by omega),((U2.trans U3).trans U4).trans U5⟩)⟩)
 rintro _ st5 ⟨C,N2,rfl,hC,n2,sC,B5,U5⟩;refine⟨n,4,_,rfl,B5,by omega,by omega,by decide,by decide,fun wy st6 y0 y1 B6 U6=>?_⟩;refine eH ⟨by omega,by omega⟩ ⟨bZ (by rw[cJ];omega),?_⟩;rw[Int.toNat_natCast];refine j_ (fun j=>a_ ((List.range N).map fun q=>(2+(j:Int).fmod 3)*Mx.dl q j)) N (fun j hj K' t=>⟨_,rfl,?_⟩) ?_
 . refine eH ⟨by omega,by omega⟩ ⟨bZ (by rw[cJ];omega),?_⟩;rw[Int.toNat_natCast];refine j_ (fun q=> .int ((2+(j:Int).fmod 3)*Mx.dl q j)) N (fun q hq K' t=>⟨_,rfl,?_⟩) ?_
   . refine lZ (by decide) (eO ?_);refine eq2 (fun h=>kC (fV (Ab (by decide) (by decide)) ?_)) fun h=>kC (fV (Ab (by decide) (by decide)) ?_)
     . have:j=q:=by omega
       subst this;rw[Mx.dw]at t;exact t
     . rw[Mx.d7 (by omega)]at t;exact t
   . have:(List.range N).map (fun q=>D.int ((2+(j:Int).fmod 3)*Mx.dl q j))=aB ((List.range N).map fun q=>(2+(j:Int).fmod 3)*Mx.dl q j):=by unfold aB;rw[List.map_map];rfl
     rw[this];exact t
 have eW:(List.range N).map (fun(j:Nat)=>a_ ((List.range N).map fun q=>(2+(j:Int).fmod 3)*Mx.dl q j))=((List.range N).map fun(j:Nat)=>(List.range N).map fun q=>(2+(j:Int).fmod 3)*Mx.dl q j).map a_:=by rw[List.map_map];rfl
 rw[eW];try dsimp only
 have hW0:Mx.a5 N N ((List.range N).map fun(j:Nat)=>(List.range N).map fun q=>(2+(j:Int).fmod 3)*Mx.dl q j):=⟨by simp,fun r hr=>by
  obtain⟨j,_,rfl⟩:=List.mem_map.mp hr;simp⟩
 have bW0:∀r∈(List.range N).map (fun(j:Nat)=>(List.range N).map fun q=>(2+(j:Int).fmod 3)*Mx.dl q j),∀x∈r,x.natAbs<=4:=fun r hr x hx=>by
  obtain⟨j,_,rfl⟩:=List.mem_map.mp hr;obtain⟨q,_,rfl⟩:=List.mem_map.mp hx;have h1:=Int.fmod_nonneg_of_pos (j:Int) (show(0:Int)<3 by decide);have h2:=Int.fmod_lt_of_pos (j:Int) (show(0:Int)<3 by decide);by_cases z:q=j
  . rw[z,Mx.dw];omega
  . rw[Mx.d7 z];omega
 generalize(List.range N).map (fun(j:Nat)=>(List.range N).map fun q=>(2+(j:Int).fmod 3)*Mx.dl q j)=W0 at hW0 bW0;refine hV (A:=d9 _ _ _) (fun σ s=>∃(W:List (List Int)) (M:Nat),σ=[some (.ref n),some (.int w),some (.bl g),some (.int N),some (aY A),some (.lst (C.map cm)),some (.int wy),some (.lst (W.map a_))]/\Mx.a5 M N W/\M<=8/\(∀r∈W,∀x∈r,x.natAbs<=4)/\Upd st n s/\Hd s n (b+1000)) (fun nx hnx=>?_) ?_
 . refine eq2 (fun h=>fi ?_) fun h=>hnx _ _ ⟨W0,N,rfl,hW0,by omega,bW0,U5.trans U6,B6.mono (by omega)⟩;refine eH ⟨by decide,by decide⟩ ⟨bZ (by rw[cJ];decide),?_⟩;refine ef (fun rest acc st'=>∃R:List (List Int),acc=R.map a_/\R.length+rest.length=2/\(∀r∈R,r.length=N)/\(∀r∈R,∀x∈r,x.natAbs<=4)/\Hd st' n (b+301+16*R.length)/\Upd st n st') ?_ ?_ _ _ _ ⟨[],rfl,by rw[cJ];rfl,by simp,by simp,B6.mono (by simp;omega),U5.trans U6⟩
   . rintro acc st7 ⟨R,rfl,hl,hR,hbd,B7,U7⟩;have hl:R.length=2:=by simpa using hl
     exact⟨trivial,hnx _ _ ⟨R,2,rfl,⟨hl,hR⟩,by decide,hbd,U7,B7.mono (by omega)⟩⟩
   . rintro x rest acc st7 ⟨R,rfl,hl,hR,hbd,B7,U7⟩ next
     have hl2:R.length<2:=by simp at hl;omega
     refine⟨trivial,_,rfl,?_⟩;refine eH ⟨by omega,by omega⟩ ⟨bZ (by rw[cJ];omega),?_⟩;rw[Int.toNat_natCast];refine ef (fun rest acc st'=>∃r:List Int,acc=aB r/\r.length+rest.length=N/\(∀x∈r,x.natAbs<=4)/\Hd st' n (b+301+16*R.length+r.length)/\Upd st n st') ?_ ?_ _ _ _ ⟨[],rfl,by rw[cJ];simp,by simp,B7.mono (by simp),U7⟩
     . rintro acc st8 ⟨r,rfl,hr,hrb,B8,U8⟩;have hr:r.length=N:=by simpa using hr
       refine⟨trivial,?_⟩;show cQ _ _ _ _ _ _ _ _ _;have ea:R.map a_++[D.lst (aB r)]=(R++[r]).map a_:=by rw[List.map_append];rfl
       rw[ea];refine next _ _ ⟨R++[r],rfl,by simp at hl⊢;omega,fun q hq=>?_,fun q hq=>?_,B8.mono (by simp;omega),U8⟩
       . rcases List.mem_append.mp hq with h|h
         . exact hR q h
         . rw[List.mem_singleton.mp h];exact hr
       . rcases List.mem_append.mp hq with h|h
         . exact hbd q h
         . rw[List.mem_singleton.mp h];exact hrb
     . rintro y rest2 acc st8 ⟨r,rfl,hr,hrb,B8,U8⟩ next2;have hr2:r.length<N:=by simp at hr;omega
       refine⟨trivial,_,rfl,n,5,_,rfl,B8,by omega,by omega,by decide,by decide,fun z st9 z0 z1 B9 U9=>lJ ?_⟩;show cQ _ _ _ _ _ _ _ _ _;rw[ints_app];refine next2 _ _ ⟨r++[z-2],rfl,by simp at hr⊢;omega,fun x hx=>?_,B9.mono (by simp;omega),U8.trans U9⟩;rcases List.mem_append.mp hx with h|h
       . exact hrb x h
       . rw[List.mem_singleton.mp h];omega
 rintro _ st7 ⟨W,M,rfl,hW,m8,bW,U7,B7⟩;have t7:st7[0]?=some (eJ f):=(U7.same 0 (Ne.symm nz)).trans t0;have lC:=hC.len;refine hV (A:=d9 _ _ _) (fun σ s=>∃(C':List (List Int)),σ=[some (.ref n),some (.int w),some (.bl g),some (.int N),some (aY A),some (.lst (C'.map cm)),some (.int wy),some (.lst (W.map a_))]/\(∀r∈C',r.length=w)/\(∀r∈C',∀x∈r,x.natAbs<=2^c0)/\C'.length<=16/\s=st7) (fun nx hnx=>?_) ?_
 . have old:=hnx _ _ ⟨C,rfl,hC.gN,fun r hr x hx=>Nat.le_trans (sC r hr x hx) up,by omega,rfl⟩;refine yX (fun h=>fi (yX (fun h2=>fi ?_) fun _=>old)) fun _=>old;refine⟨_,_,w,W,A,rfl,vq,d5,fun z=>by rw[z]at lA;simp at lA;omega,hA.gN,by omega,by rw[hW.len];omega,fun q hq c hc r hr y hy=>h_ (by have:=bW q hq c hc;omega) (by have:=bW q hq c hc;omega),?_⟩;have iP:=Mx.GI hW hA
   have bP:∀r∈Mx.mulM W A w,∀x∈r,x.natAbs<=2^c0:=fun r hr x hx=>by
    obtain⟨i,hi,rfl⟩:=List.mem_iff_getElem.mp hr;obtain⟨c,hc',rfl⟩:=List.mem_iff_getElem.mp hx;have li:i<M:=by rw[<-iP.len];exact hi
    have lc:c<w:=by rw[<-iP.gN _ hr];exact hc'
    have a:=Mx.EO hW hA (by omega) (a:=2) (b:=c0-5) (oE hW bW) (oE hA sA) i c li lc;unfold Mx.g at a;rw[Mx.bJ hi,Mx.bJ hc']at a;exact Nat.le_trans a (Nat.pow_le_pow_right (by decide) (by omega))
   refine jY rfl (iO (lJ (iO ?_)));obtain⟨v,hv⟩:∃v:Nat,wy-1=(v:Int):=⟨(wy-1).toNat,by omega⟩
   rw[hv];have e4:L3.cutD ((Mx.mulM W A w).map cm) none (some 4)=((Mx.mulM W A w).take 4).map cm:=by rw[List.map_take];exact o_ (j:=4)
   rw[e4,o_,<-List.map_take];refine Hn (bZ (by rw[List.length_map,List.length_map,List.length_take,List.length_take];omega)) ?_;rw[<-List.map_append];refine hnx _ _ ⟨_,rfl,fun r hr=>?_,fun r hr=>?_,by rw[List.length_append,List.length_take,List.length_take];omega,rfl⟩
   . rcases List.mem_append.mp hr with z|z
     . exact iP.gN r (List.mem_of_mem_take z)
     . exact hC.gN r (List.mem_of_mem_take z)
   . rcases List.mem_append.mp hr with z|z
     . exact bP r (List.mem_of_mem_take z)
     . exact fun x hx=>Nat.le_trans (sC r (List.mem_of_mem_take z) x hx) up
 rintro _ _ ⟨C',rfl,wC,bC,lC',rfl⟩;have sA':∀r∈A,∀x∈r,x.natAbs<=2^c0:=fun r hr x hx=>Nat.le_trans (sA r hr x hx) up;have c45:c0<=45:=by rcases hc with⟨_,rfl,_⟩|⟨rfl,_⟩<;>decide
 refine⟨_,A,N,w,c0,f,rfl,d5,hA,by omega,w8,vL hA (oE hA sA'),by omega,t7,fun st8 F m K8 foA=>?_⟩;obtain⟨f8,t8⟩:=K8.tb;refine lJ (iO ?_);rw[show(8:Int)-(N:Int)=((8-N:Nat):Int) by omega,o_,<-List.map_take];have hT:Mx.a5 (C'.take (8-N)).length w (C'.take (8-N)):=⟨rfl,fun r hr=>wC r (List.mem_of_mem_take hr)⟩
 have bT:∀r∈C'.take (8-N),∀x∈r,x.natAbs<=2^c0:=fun r hr=>bC r (List.mem_of_mem_take hr);have lT:(C'.take (8-N)).length<=8:=by rw[List.length_take];omega
 refine⟨_,C'.take (8-N),_,w,c0,f8,rfl,⟨_,rfl,bY.tup⟩,hT,lT,w8,vL hT (oE hT bT),by omega,t8,fun st9 G q K9 foC=>⟨Nat.le_of_ble_eq_true rfl,?_⟩⟩;obtain⟨f9,t9⟩:=K9.tb;exact k st9 F G m q e0 f9 ⟨foA.is,foA.st,foA.red,foA.m8,foC.is,foC.st,foC.red,foC.m8,(by have h1:=foA.le;have h2:=foC.le;have h3:=List.length_take (i:=8-N) (l:=C');omega),Ci w8 foA hA sA' hc,Ci w8 foC hT bT hc,by rcases hc with⟨z,_,y⟩|⟨_,y⟩;exact .inl ⟨z,y⟩;exact .inr y⟩ t9 (B7.cell ((K9.fr n (Nat.lt_of_lt_of_le B7.lt K8.le) nz).trans (K8.fr n B7.lt nz)))
def oh:cE:=fun ds st K=>∃(dr:D) (G R:List (List Int)) (r:List Int) (n k w e:Nat),ds=[.tup [.int w,aY G],.tup [.int w,aY R],dr]/\Wf G n w/\Wf R k w/\items? st dr=some (aB r)/\r.length=w/\(∀c,c<w->(r.getD c 0).natAbs<=2^e)/\e<=10000/\(Mx.a7 G n w (fun c=>r.getD c 0)->Mx.a7 R k w fun c=>r.getD c 0)/\∀st',Ext st st'->K (.bl true) st'
def nW:List Str:=["_law_other","_law_found","_law_row"]
def C2:DS:=(bE (Et (uy (a8 (aK kH (ae (aq aV (ab 0) (dC (.int 1))) (ae (ab 2) ak))))) (aK kH (ae (aq aV (ab 1) (dC (.int 1))) (ae (ab 2) ak)))))
theorem Bg:∀ds st K,oh ds st K->ds.length=3/\C2 {nx:=fun _ st'=>K .aL st',rt:=K} (ba nW ds) st:=by
 rintro ds st K ⟨dr,G,R,r,n,k,w,e,rfl,hG,hR,hr,lr,br,he,hi,kk⟩;refine⟨rfl,aD rfl rfl ⟨dr,G,r,n,w,e,rfl,hG,hr,lr,br,he,fun b st1 hb X1=>?_⟩⟩;cases b with
 |false=>exact kk st1 X1
 |true=>
  refine aD rfl rfl ⟨dr,R,r,k,w,e,rfl,hR,X1.items hr,lr,br,he,fun b2 st2 hb2 X2=>?_⟩;have e2:b2=true:=hb2.mpr (hi (hb.mp rfl));subst e2;exact kk st2 (X1.trans X2)
def iz:cE:=fun ds st K=>∃(F G R:List (List Int)) (m n k w:Nat),ds=[.tup [.int w,aY F],.tup [.int w,aY G],.tup [.int w,aY R]]/\Mx.a5 m w F/\m<=8/\w<=8/\(∀r∈F,∀x∈r,x.natAbs<=2^200)/\Wf G n w/\Wf R k w/\(∀v,Mx.a7 F m w v->Mx.a7 G n w v->Mx.a7 R k w v)/\∀st',Ext st st'->K (.bl true) st'
def iK:List Str:=["_law_one","_law_other","_law_found","_law_row","_law_many"]
def uk:DS:=(aQ (iZ (fe (aq aV (ab 0) (dC (.int 1)))) (bH 3) (iZ (o5 (ae (dC (.int 1)) (ae (dC (.int 61)) ak))) (bH 4) (d9 (iH (a8 (aK oh (ae (ab 1) (ae (ab 2) (ae (bM dS (ae (cZ (fe (ab 3)) [none,some 4] (bH 0) cH (aq eg (ab 1) (ab 0))) ak)) ak)))))) (bE (dC (.bl false))) c6)))
 (bE (dC (.bl true))))
theorem tE:∀ds st K,iz ds st K->ds.length=3/\uk {nx:=fun _ st'=>K .aL st',rt:=K} (ba iK ds) st:=by
 rintro ds st K ⟨F,G,R,m,n,k,w,rfl,iF,m8,w8,bF,hG,hR,hi,kk⟩;refine⟨rfl,aD rfl rfl (fP ?_)⟩;have lF:=iF.len;refine g_ (fun rest σ st'=>Ext st st'/\∃(i:Nat) (v3 v4:Option D),i<=m/\rest=(F.map cm).drop i/\σ=[some (.tup [.int w,aY F]),some (.tup [.int w,aY G]),some (.tup [.int w,aY R]),v3,v4]) ?_ ?_ _ _ _ ⟨Ext.refl,0,none,none,Nat.zero_le _,rfl,rfl⟩
 . rintro σ st' ⟨X,i,v3,v4,_,_,rfl⟩;exact⟨trivial,kk st' X⟩
 . rintro x rest σ st' ⟨X,i,v3,v4,him,hrest,rfl⟩ next
   obtain⟨hiF,rfl,rfl⟩:=drop_cons hrest;have hmem:F.getD i []∈F:=by rw[Mx.bJ hiF];exact List.getElem_mem _
   have lw:=iF.gN _ hmem;have br:=bF _ hmem;refine⟨trivial,_,rfl,Ah ⟨by decide,by decide,by decide,by decide⟩ ?_⟩;refine g_ (fun rest2 σ st2=>Ext st st2/\(∀d∈rest2,∃j:Nat,d= .int (j:Int)/\j<=60)/\∃v4:Option D,σ=[some (.tup [.int w,aY F]),some (.tup [.int w,aY G]),some (.tup [.int w,aY R]),some (cm (F.getD i [])),v4]) ?_ ?_ _ _ _ ⟨X,fun d hd=>?_,_,rfl⟩
   . rintro σ st2 ⟨X2,_,v4,rfl⟩;exact⟨trivial,next _ _ ⟨X2,i+1,_,_,by omega,rfl,rfl⟩⟩
   . rintro x rest2 σ st2 ⟨X2,hall,v4,rfl⟩ next2;obtain⟨j,rfl,hj⟩:=hall x List.mem_cons_self;refine⟨trivial,_,rfl,fP ⟨bZ (by rw[List.length_map];omega),?_⟩⟩;refine comp_map (g:=fun d=>match d with| .int x=> .int ((j:Int)*x)|_=> .aL) trivial _ (fun d hd K' q=>?_) ?_
     . obtain⟨a,_,rfl⟩:=List.mem_map.mp hd;exact⟨_,rfl,fV (h_ (by omega) (by omega)) q⟩
     refine du rfl ?_
     have em:(aB (F.getD i [])).map (fun d=>match d with| .int x=>D.int ((j:Int)*x)|_=> .aL)=aB ((F.getD i []).map fun x=>(j:Int)*x):=by
      unfold aB;rw[List.map_map,List.map_map];rfl
     rw[em];have at_:∀c,((F.getD i []).map fun x=>(j:Int)*x).getD c 0=(j:Int)*Mx.g F i c:=fun c=>Mx.FC c;refine⟨_,G,R,(F.getD i []).map fun x=>(j:Int)*x,n,k,w,206,rfl,hG,hR,rfl,by rw[List.length_map];exact lw,fun c hc=>?_,by decide,fun hL=>?_,fun st3 X3=>?_⟩
     . rw[at_ c,Int.natAbs_mul];refine Nat.le_trans (Nat.mul_le_mul (show(j:Int).natAbs<=2^6 by rw[Int.natAbs_natCast];omega) (br _ (getD_mem (by omega)))) ?_;rw[<-Nat.pow_add];exact Nat.le_refl _
     . refine hi _ ?_ hL;refine(Mx.a7.smul (j:Int) (Mx.a7.row (X:=F) (n:=m) (w:=w) (k:=i) (by omega))).eq fun c _=>at_ c
     . exact next2 _ _ ⟨X2.trans X3,fun d hd=>hall d (List.mem_cons_of_mem _ hd),_,rfl⟩
   . unfold dP at hd;obtain⟨q,hq,rfl⟩:=List.mem_map.mp hd;have:=List.mem_range.mp hq;have e:((61:Int)-1).toNat=60:=by decide
     exact⟨1+q,by simp,by omega⟩
def ki:cE:=fun ds st K=>∃(w:Int) (F:List (List Int)),ds=[.tup [.int w,aY F]]/\F.length<=1000/\K (.lst [.int w,xX F]) st
def kq:List Str:=["_law_one"]
def yE:DS:=(bE (oG (ae (aq aV (ab 0) (dC (.int 0))) (ae (cZ (fe (aq aV (ab 0) (dC (.int 1)))) [none] (bH 0) cH (bM ke (ae (ab 0) ak))) ak))))
theorem xf:∀ds st K,ki ds st K->ds.length=1/\yE {nx:=fun _ st'=>K .aL st',rt:=K} (ba kq ds) st:=by
 rintro ds st K ⟨w,F,rfl,hl,k⟩;refine⟨rfl,?_⟩;refine aD rfl rfl (aD rfl rfl (fP ⟨bZ (by rw[List.length_map];omega),?_⟩));exact wU a_ trivial bY.tup (fun e q hq he K' t=>⟨_,rfl,jY he t⟩) ⟨Nat.le_of_ble_eq_true rfl,k⟩
abbrev Gx:cE:=Ct JQ
def xC:List Str:=["_law_script","_law_hand_here","_law_wide","_law_great","_law_one","_law_other","_law_found","_law_turn","_law_row"]
def K3:DS:=(aQ (cx 1 (aK pP (ae (ab 0) ak)))
 (aQ (AZ (jb 2 3) (aK oJ (ae (ab 1) ak)))
 (aQ (AZ (jb 4 5) (aK qX (ae (ab 1) (ae (ab 2) (ae (ab 3) ak)))))
 (aQ (cx 6 (aK gY (ae (ab 4) (ae (ab 5) ak))))
 (aQ (d9 (iH (a8 (aK kW (ae (ab 6) (ae (ab 2) ak))))) (bE (dC (.bl false))) c6)
 (aQ (d9 (iH (a8 (bM uh (ae (cZ (fe (aq aV (ab 6) (dC (.int 1)))) [none,some 4,some 5] (bH 0) cH (ur (aK kH (ae (aq aV (ab 1) (dC (.int 1))) (ae (ab 0) ak))) (aK kH (ae (aq aV (ab 2) (dC (.int 1))) (ae (ab 0) ak))))) ak)))) (bE (dC (.bl false))) c6)
 (aQ (iZ (dz (ae (dC (.int 30)) ak)) (bH 7) (aQ (cx 8 (aK qI (ae (cZ (fe (aq aV (ab 4) (dC (.int 1)))) [none,some 1] (bH 0) cH (aq ku (aK cw (ae (ab 1) (ae (dC (.int 7)) ak))) (dC (.int 3)))) (ae (aq aV (ab 4) (dC (.int 1))) (ae (ab 2) ak)))))
 (d9 (iH (a8 (aK oh (ae (ab 5) (ae (ab 6) (ae (ab 8) ak)))))) (bE (dC (.bl false))) c6)))
 (aQ (d9 (kX (iH (a8 (aK iz (ae (ab 4) (ae (ab 5) (ae (ab 6) ak)))))) (iH (a8 (aK iz (ae (ab 5) (ae (ab 4) (ae (ab 6) ak))))))) (bE (dC (.bl false))) c6)
 (aQ (d9 (kX (a8 (aq pL (aK gY (ae (aK ki (ae (ab 4) ak)) (ae (ab 5) ak))) (ab 6))) (a8 (aq pL (aK gY (ae (ab 4) (ae (aK ki (ae (ab 5) ak)) ak))) (ab 6)))) (bE (dC (.bl false))) c6)
 (aQ (d9 (kX (a8 (aq pL (aK gY (ae (ab 5) (ae (ab 4) ak))) (ab 6))) (a8 (aq pL (aK gY (ae (ab 4) (ae (ab 4) ak))) (ab 4)))) (bE (dC (.bl false))) c6)
 (bE (ur (aq jq (aK gY (ae (ab 4) (ae (gL (ae (ab 2) (ae (gL ak) ak))) ak))) (gL (ae (ab 2) (ae (gL ak) ak)))) (aq jq (aK gY (ae (gL (ae (ab 2) (ae (gL ak) ak))) (ae (ab 4) ak))) (gL (ae (ab 2) (ae (gL ak) ak))))))))))))))))
theorem gg{w:Nat}{F:List (List Int)}:pl 40 (.tup [.int (w:Int),aY F])=true:=by
 have:=E2 (n:=37) (A:=F);unfold pl;rw[List.all_cons,List.all_cons,this];rfl
theorem Jh{F:List (List Int)}{W:List Int}{m w:Nat}(iF:Mx.a5 m w F)(m8:m<=8)(bF:∀r∈F,∀x∈r,x.natAbs<=2^200)(bW:∀x∈W,x.natAbs<=2^2)(lW:W.length=m)(c:Nat)(hc:c<w):(Mx.dA W F (List.replicate w 0)).getD c 0=(Mx.S m fun n=>W.getD n 0*Mx.g F n c)/\((Mx.dA W F (List.replicate w 0)).getD c 0).natAbs<=2^205:=by
 have lF:=iF.len
 have e:(Mx.dA W F (List.replicate w 0)).getD c 0=Mx.S m fun n=>W.getD n 0*Mx.g F n c:=by
  rw[Mx.uf (n:=w) c (by simp) iF.gN (by omega),Mx.e8,Int.zero_add,lF]
 refine⟨e,?_⟩;rw[e];refine Nat.le_trans (Mx.xH (m:=2^202) fun i hi=>?_) (Nat.le_trans (Nat.mul_le_mul_right _ m8) (by decide+kernel));rw[Int.natAbs_mul,show 202=2+200 from rfl,Nat.pow_add];exact Nat.mul_le_mul (bW _ (getD_mem (by omega))) (oE iF bF i c hi hc)
theorem Kh:∀ds st K,Gx ds st K->ds.length=1/\K3 {nx:=fun _ st'=>K .aL st',rt:=K} (ba xC ds) st:=by
 rintro ds st K ⟨ns,rfl,hl,hst,k⟩;refine⟨rfl,?_⟩;have l0:st.length=1:=by rw[hst];rfl
 have t0:st[0]?=some (eJ false):=by rw[hst];rfl
 clear hst;refine⟨ns,rfl,hl,fun st1 B1 X1=>?_⟩;have t1:st1[0]?=some (eJ false):=by rw[X1.same 0 (by omega)];exact t0
 have nz:st.length≠0:=by omega
 refine⟨_,_,rfl,B1,by decide,by decide,fun w gr st2 w1 w8 hg hg' B2 U2=>⟨_,rfl,?_⟩⟩;have t2:st2[0]?=some (eJ false):=by rw[U2.same 0 (Ne.symm nz)];exact t1
 refine⟨_,_,w,gr,false,rfl,B2,nz,by decide,by decide,w1,w8,hg,hg',t2,fun st3 F G m n e0 f3 tw t3 B3=>⟨_,rfl,?_⟩⟩;clear B1 B2 U2 t0 t1 t2 X1;have iF:=tw.iF;have iG:=tw.iG;have mF:=tw.mF;have mG:=tw.mG;have mn:=tw.mn;have he:e0<=200:=by rcases tw.he with⟨_,rfl⟩|rfl<;>decide
 have up:∀ {X:List (List Int)},(∀r∈X,∀x∈r,x.natAbs<=2^e0)->∀r∈X,∀x∈r,x.natAbs<=2^200:=fun h r hr x hx=>Nat.le_trans (h r hr x hx) (Nat.pow_le_pow_right (by decide) he);have bF:=up tw.bF;have bG:=up tw.bG;have wf:∀ {X:List (List Int)} {q:Nat},Mx.a5 q w X->Mx.aO X q w (Mx.ck X)->(∀i c,i<q->c<w->(Mx.g X i c).natAbs<=2^2000)->Wf X q w:=fun h1 h2 h3=>⟨h1,h2,by have:=yl h2;omega,w8,fun i c hi hc=>Nat.le_trans (h3 i c hi hc) (Nat.pow_le_pow_right (by decide) (by decide))⟩
 have hWF:Wf F m w:=wf iF tw.sF fun i c hi hc=>Nat.le_trans (oE iF bF i c hi hc) (Nat.pow_le_pow_right (by decide) (by decide));have hWG:Wf G n w:=wf iG tw.sG fun i c hi hc=>Nat.le_trans (oE iG bG i c hi hc) (Nat.pow_le_pow_right (by decide) (by decide));refine⟨_,_,.int w,aY F,aY G,F,G,m,n,w,f3,rfl,rfl,d5,rfl,d5,iF,iG,mF,mG,w8,bF,bG,.inl mn,t3,fun st4 R h K4 s bR=>?_⟩;have hWR:Wf R h w:=wf s.is s.st (bR mn);have lR:=s.is.len;have h8:=hWR.m8;obtain⟨f4,t4⟩:=K4.tb;have B4:Hd st4 st.length (0+2+1000):=B3.cell (K4.fr _ B3.lt nz);clear B3 t3;refine⟨R,h,w,rfl,hWR,s.red,?_⟩;refine aD rfl rfl (fP ⟨bZ (by rw[List.length_map];omega),?_⟩);refine ef (fun rest acc st'=>∃i:Nat,i<=h/\rest=(R.map cm).drop i/\acc=(List.range i).map (fun _=>D.bl true)/\Ext st4 st') ?_ ?_ _ _ _ ⟨0,Nat.zero_le _,rfl,rfl,Ext.refl⟩;rotate_left 1
 . rintro d rest acc st' ⟨i,hi,hrest,rfl,X⟩ next
   obtain⟨hiR,rfl,rfl⟩:=drop_cons hrest;have him:i<h:=by omega
   have lw:=s.is.row him;have hb:∀c,c<w->((R.getD i []).getD c 0).natAbs<=2^5000:=fun c hc=>hWR.row him _ (getD_mem (by omega));obtain⟨h1,h2⟩:=(s.uC _).mp (Mx.a7.row him);refine⟨trivial,_,rfl,aD rfl rfl ⟨_,F,R.getD i [],m,w,5000,rfl,hWF,rfl,lw,hb,by decide,fun b1 st5 e1 X5=>?_⟩⟩;have z:b1=true:=e1.mpr h1;subst z;refine aD rfl rfl ⟨_,G,R.getD i [],n,w,5000,rfl,hWG,rfl,lw,hb,by decide,fun b2 st6 e2 X6=>?_⟩;have z:b2=true:=e2.mpr h2;subst z;show cQ _ _ _ _ _ _ _ _ _;exact next _ _ ⟨i+1,by omega,rfl,by rw[List.range_succ,List.map_append];rfl,X.trans (X5.trans X6)⟩
 rintro acc st6 ⟨i,hi,hrest,rfl,X6⟩
 have ball:∀l:List Nat,ju (l.map fun _=>D.bl true)=some (l.map fun _=>true):=fun l=>by
  induction l with
  |nil=>rfl
  |cons a l ih=>rw[List.map_cons,List.map_cons];unfold ju;rw[ih];rfl
 refine⟨trivial,zh (ball _) ?_⟩;have ea:((List.range i).map fun _=>true).all id=true:=by simp
 rw[ea];have t6:st6[0]?=some (eJ f4):=(X6.same 0 (List.getElem?_eq_some_iff.mp t4).1).trans t4;have B6:Hd st6 st.length (0+2+1000):=B4.cell (X6.same _ B4.lt);clear B4 t4 X6 K4;refine oV ?_;dsimp only[c6];refine hV (A:=iZ _ _ _) (fun σ s'=>∃(v7 v8:Option D),σ=[some (.lst (ns.map .int)),some (.ref st.length),some (.int w),some (.bl gr),some (.tup [.int w,aY F]),some (.tup [.int w,aY G]),some (.tup [.int w,aY R]),v7,v8]/\s'[0]?=some (eJ f4)) (fun nx hnx=>?_) ?_
 . refine eH ⟨by decide,by decide⟩ ?_;refine jS 30 (fun q σ st'=>∃(v7 v8:Option D),σ=[some (.lst (ns.map .int)),some (.ref st.length),some (.int w),some (.bl gr),some (.tup [.int w,aY F]),some (.tup [.int w,aY G]),some (.tup [.int w,aY R]),v7,v8]/\st'[0]?=some (eJ f4)/\Hd st' st.length (2000+8*q)) ?_ ?_ ⟨none,none,rfl,t6,B6.mono (by decide)⟩
   . rintro σ st' ⟨v7,v8,rfl,t',_⟩;exact hnx _ _ ⟨v7,v8,rfl,t'⟩
   . rintro q σ st7 rest hq ⟨v7,v8,rfl,t7,B7⟩ next
     refine⟨_,rfl,aD rfl rfl (fP ⟨bZ (by rw[List.length_map,iF.len];omega),?_⟩)⟩;refine ef (fun rest acc st'=>∃r:List Int,acc=aB r/\r.length+rest.length=m/\(∀x∈r,x.natAbs<=2^2)/\Hd st' st.length (2000+8*q+r.length)/\Upd st7 st.length st') ?_ ?_ _ _ _ ⟨[],rfl,by rw[List.length_map,iF.len];simp,by simp,B7.mono (by simp),Upd.refl⟩
     . rintro acc st8 ⟨W,rfl,hr,bW,B8,U8⟩;have lW:W.length=m:=by simpa using hr
       have t8:st8[0]?=some (eJ f4):=(U8.same 0 (Ne.symm nz)).trans t7;refine⟨trivial,aD rfl rfl ⟨_,_,F,W,m,w,2,200,rfl,rfl,d5,iF,w8,bW,bF,by decide,fun st9 X9=>?_⟩⟩;have sb:=Jh iF mF bF bW lW;refine⟨_,G,R,Mx.dA W F (List.replicate w 0),n,h,w,205,rfl,hWG,hWR,rfl,Mx.qQ (by simp) iF.gN,fun c hc=>(sb c hc).2,by decide,fun hL=>(s.uC _).mpr ⟨⟨fun n=>W.getD n 0,fun c hc=>(sb c hc).1⟩,hL⟩,fun st10 X10=>?_⟩;refine next _ _ ⟨_,_,rfl,?_,?_⟩
       . exact((X9.trans X10).same 0 (List.getElem?_eq_some_iff.mp t8).1).trans t8
       . exact(B8.cell ((X9.trans X10).same _ B8.lt)).mono (by omega)
     . rintro x rest2 acc st8 ⟨r,rfl,hr,bW,B8,U8⟩ next2;have hr2:r.length<m:=by simp at hr;omega
       refine⟨trivial,_,rfl,_,7,_,rfl,B8,by omega,by omega,by decide,by decide,fun y st9 y0 y1 B9 U9=>lJ ?_⟩;show cQ _ _ _ _ _ _ _ _ _;rw[ints_app];refine next2 _ _ ⟨r++[y-3],rfl,by simp at hr⊢;omega,fun x hx=>?_,B9.mono (by simp;omega),U8.trans U9⟩;rcases List.mem_append.mp hx with h|h
       . exact bW x h
       . rw[List.mem_singleton.mp h];omega
 clear t6 B6;rintro _ st7 ⟨v7,v8,rfl,t7⟩;refine⟨F,G,R,m,n,h,w,rfl,iF,mF,w8,bF,hWG,hWR,fun v h1 h2=>(s.uC v).mpr ⟨h1,h2⟩,fun st8 X8=>?_⟩;refine⟨G,F,R,n,m,h,w,rfl,iG,mG,w8,bG,hWF,hWR,fun v h1 h2=>(s.uC v).mpr ⟨h2,h1⟩,fun st9 X9=>?_⟩;have t9:=((X8.trans X9).same 0 (List.getElem?_eq_some_iff.mp t7).1).trans t7;refine⟨w,F,rfl,by rw[iF.len];omega,⟨_,_,.int w,xX F,aY G,F,G,m,n,w,f4,rfl,rfl,vq,rfl,d5,iF,iG,mF,mG,w8,bF,bG,.inl mn,t9,fun st10 R2 h2 K10 s2 _=>?_⟩⟩;have e2:R2=R:=s2.one s fun v=>Iff.rfl;subst e2;obtain⟨f10,t10⟩:=K10.tb;refine p9 gg ?_;refine⟨w,G,rfl,by rw[iG.len];omega,⟨_,_,.int w,aY F,xX G,F,G,m,n,w,f10,rfl,rfl,d5,rfl,vq,iF,iG,mF,mG,w8,bF,bG,.inl mn,t10,fun st11 R3 h3 K11 s3 _=>?_⟩⟩;have e3:R3=R2:=s3.one s fun v=>Iff.rfl;subst e3;obtain⟨f11,t11⟩:=K11.tb;refine p9 gg ?_;refine⟨_,_,.int w,aY G,aY F,G,F,n,m,w,f11,rfl,rfl,d5,rfl,d5,iG,iF,mG,mF,w8,bG,bF,.inl (by omega),t11,fun st12 R4 h4 K12 s4 _=>?_⟩;have e4:R4=R3:=s4.one s fun v=>And.comm;subst e4;obtain⟨f12,t12⟩:=K12.tb;refine p9 gg ?_;refine⟨_,_,.int w,aY F,aY F,F,F,m,m,w,f12,rfl,rfl,d5,rfl,d5,iF,iF,mF,mF,w8,bF,bF,.inr ⟨rfl,tw.sF,tw.rF⟩,t12,fun st13 R5 h5 K13 s5 _=>?_⟩;have e5:R5=F:=s5.one (Mx.o9.self iF tw.sF tw.rF) fun v=>Iff.rfl;subst e5;obtain⟨f13,t13⟩:=K13.tb;refine p9 gg ?_;have nil:Mx.a5 0 w ([]:List (List Int)):=⟨rfl,fun r hr=>by cases hr⟩
 have bn:∀r∈([]:List (List Int)),∀x∈r,x.natAbs<=2^200:=fun r hr=>by cases hr
 refine⟨Nat.zero_le _,Nat.le_of_ble_eq_true rfl,⟨_,_,.int w,aY R5,aY [],R5,[],m,0,w,f13,rfl,rfl,d5,rfl,d5,iF,nil,mF,by decide,w8,bF,bn,.inl (by omega),t13,fun st14 R6 h6 K14 s6 _=>⟨Nat.zero_le _,Nat.le_of_ble_eq_true rfl,?_⟩⟩⟩;have e6:R6=[]:=s6.nil (.inr rfl);subst e6;obtain⟨f14,t14⟩:=K14.tb;refine xy gg (gg (F:=[])) ?_;rw[show(D.tup [.int (w:Int),.tup []])= .tup [.int (w:Int),aY []]from rfl,nt 40 _ gg];refine fi ⟨Nat.zero_le _,Nat.le_of_ble_eq_true rfl,⟨_,_,.int w,aY [],aY R5,[],R5,0,m,w,f14,rfl,rfl,d5,rfl,d5,nil,iF,by decide,mF,w8,bn,bF,.inl (by omega),t14,fun st15 R7 h7 K15 s7 _=>⟨Nat.zero_le _,Nat.le_of_ble_eq_true rfl,?_⟩⟩⟩;have e7:R7=[]:=s7.nil (.inl rfl);subst e7;refine xy gg (gg (F:=[])) ?_;rw[show(D.tup [.int (w:Int),.tup []])= .tup [.int (w:Int),aY []]from rfl,nt 40 _ gg];exact k _
end Prog
namespace Row
open PySem L2 L3 Prog
open PySem.Spec hiding items?
open PyProof.Rows hiding St
theorem cK:(("tuple":Str))≠"__name__":=by decide+kernel
theorem eP:(("len":Str))≠"__name__":=by decide+kernel
theorem jh:(("list":Str))≠"__name__":=by decide+kernel
theorem uL:(("abs":Str))≠"__name__":=by decide+kernel
theorem D5:(("sum":Str))≠"__name__":=by decide+kernel
theorem o6:(("int":Str))≠"__name__":=by decide+kernel
theorem I_:(("max":Str))≠"__name__":=by decide+kernel
theorem Jk:(("min":Str))≠"__name__":=by decide+kernel
theorem Ii:(("any":Str))≠"__name__":=by decide+kernel
theorem yr:(("all":Str))≠"__name__":=by decide+kernel
theorem fh:(("isinstance":Str))≠"__name__":=by decide+kernel
theorem z_:(("bool":Str))≠"__name__":=by decide+kernel
structure Bl(mg:Str->Option Value):Prop where
 c_:mg "tuple"=none
 xS:mg "zip"=none
 fI:mg "len"=none
 dO:mg "range"=none
 sZ:mg "enumerate"=none
 kl:mg "list"=none
 xI:mg "abs"=none
 Fu:mg "sorted"=none
 FL:mg "sum"=none
 rP:mg "int"=none
 Lu:mg "max"=none
 LY:mg "min"=none
 K_:mg "any"=none
 BV:mg "all"=none
 fv:mg "isinstance"=none
 Ck:mg "bool"=none
structure Kl(K:PySem.W.Frag)(mg:Str->Option Value):Prop where
 aX:ClsAt K mg "Bench" az
 bV:f7 K az "body"
 eF:f7 K az "turn"
 cq:f7 K az "back_columns"
theorem qW:VS (ai iL) nU ["tuple"]:=⟨by decide+kernel⟩
theorem Br:aU nU ["rows"] (ai iL):=⟨rfl,rfl,rfl,by decide+kernel,rfl,by decide+kernel,by decide+kernel⟩
theorem vQ:VS (ai kR) r8 ["zip"]:=⟨by decide+kernel⟩
theorem EN:aU r8 ["row","times","other"] (ai kR):=⟨rfl,rfl,rfl,by decide+kernel,rfl,by decide+kernel,by decide+kernel⟩
theorem eG:VS (ai kQ) pD ["zip","added","tuple"]:=⟨by decide+kernel⟩
theorem nP:aU pD ["weights","rows","wide"] (ai kQ):=⟨rfl,rfl,rfl,by decide+kernel,rfl,by decide+kernel,by decide+kernel⟩
theorem i5:VS (ai iR) n_ ["len","tuple"]:=⟨by decide+kernel⟩
theorem va:aU n_ ["one","other"] (ai iR):=⟨rfl,rfl,rfl,by decide+kernel,rfl,by decide+kernel,by decide+kernel⟩
theorem ui:VS (ai jK) pG ["tuple"]:=⟨by decide+kernel⟩
theorem DB:aU pG ["rows","place"] (ai jK):=⟨rfl,rfl,rfl,by decide+kernel,rfl,by decide+kernel,by decide+kernel⟩
theorem jC:VS (ai ff) jD ["range","tuple"]:=⟨by decide+kernel⟩
theorem vM:aU jD ["rows","wide"] (ai ff):=⟨rfl,rfl,rfl,by decide+kernel,rfl,by decide+kernel,by decide+kernel⟩
theorem mQ:VS (ai gZ) mP ["range","tuple"]:=⟨by decide+kernel⟩
theorem zQ:aU mP ["n","place"] (ai gZ):=⟨rfl,rfl,rfl,by decide+kernel,rfl,by decide+kernel,by decide+kernel⟩
theorem lz:VS (ai gc) lp ["range","tuple"]:=⟨by decide+kernel⟩
theorem yk:aU lp ["n"] (ai gc):=⟨rfl,rfl,rfl,by decide+kernel,rfl,by decide+kernel,by decide+kernel⟩
theorem qf:VS (ai fO) jB []:=⟨by decide+kernel⟩
theorem vk:aU jB ["many","wide"] (ai fO):=⟨rfl,rfl,rfl,by decide+kernel,rfl,by decide+kernel,by decide+kernel⟩
theorem ow:VS (ai jO) nV ["enumerate"]:=⟨by decide+kernel⟩
theorem uz:aU nV ["row"] (ai jO):=⟨rfl,rfl,rfl,by decide+kernel,rfl,by decide+kernel,by decide+kernel⟩
theorem iY:VS (ai dY) fZ []:=⟨by decide+kernel⟩
theorem iu:aU fZ ["top","bottom"] (ai dY):=⟨rfl,rfl,rfl,by decide+kernel,rfl,by decide+kernel,by decide+kernel⟩
theorem cV:VS (ai ie) lu ["list"]:=⟨by decide+kernel⟩
theorem qG:aU lu ["rows","k","other"] (ai ie):=⟨rfl,rfl,rfl,by decide+kernel,rfl,by decide+kernel,by decide+kernel⟩
theorem D3:VS (ai iV) om []:=⟨by decide+kernel⟩
theorem BG:aU om ["row"] (ai iV):=⟨rfl,rfl,rfl,by decide+kernel,rfl,by decide+kernel,by decide+kernel⟩
theorem bK:VS (ai cO) gX ["len","unit_rows"]:=⟨by decide+kernel⟩
theorem si:aU gX ["self","rows"] (ai cO):=⟨rfl,rfl,rfl,by decide+kernel,rfl,by decide+kernel,by decide+kernel⟩
theorem aT:VS (ai gG) kh ["added"]:=⟨by decide+kernel⟩
theorem xq:aU kh ["self","k","times","other"] (ai gG):=⟨rfl,rfl,rfl,by decide+kernel,rfl,by decide+kernel,by decide+kernel⟩
theorem a9:VS (ai eQ) g0 ["exchanged"]:=⟨by decide+kernel⟩
theorem sr:aU g0 ["self","k","other"] (ai eQ):=⟨rfl,rfl,rfl,by decide+kernel,rfl,by decide+kernel,by decide+kernel⟩
theorem aP:VS (ai dN) fJ ["negated"]:=⟨by decide+kernel⟩
theorem pk:aU fJ ["self","k"] (ai dN):=⟨rfl,rfl,rfl,by decide+kernel,rfl,by decide+kernel,by decide+kernel⟩
theorem cW:VS (ai cX) gp ["len","range","sorted"]:=⟨by decide+kernel⟩
theorem lX:aU gp ["self","top","place"] (ai cX):=⟨rfl,rfl,rfl,by decide+kernel,rfl,by decide+kernel,by decide+kernel⟩
theorem ax:VS (ai ft) je ["len","nearest_quotient"]:=⟨by decide+kernel⟩
theorem fT:aU je ["self","top","place"] (ai ft):=⟨rfl,rfl,rfl,by decide+kernel,rfl,by decide+kernel,by decide+kernel⟩
theorem bO:VS (ai dJ) fF ["range"]:=⟨by decide+kernel⟩
theorem fm:aU fF ["self","top","place"] (ai dJ):=⟨rfl,rfl,rfl,by decide+kernel,rfl,by decide+kernel,by decide+kernel⟩
theorem aZ:VS (ai jn) mE ["Bench","len","range","turned_over","as_rows"]:=⟨by decide+kernel⟩
theorem hJ:aU mE ["rows"] (ai jn):=⟨rfl,rfl,rfl,by decide+kernel,rfl,by decide+kernel,by decide+kernel⟩
theorem kK:VS (ai mY) rV ["len","standing"]:=⟨by decide+kernel⟩
theorem Fd:aU rV ["wide","rows"] (ai mY):=⟨rfl,rfl,rfl,by decide+kernel,rfl,by decide+kernel,by decide+kernel⟩
theorem nA:VS (ai jH) pB ["zip","tuple"]:=⟨by decide+kernel⟩
theorem C7:aU pB ["rows","behind"] (ai jH):=⟨rfl,rfl,rfl,by decide+kernel,rfl,by decide+kernel,by decide+kernel⟩
theorem df:VS (ai dW) gT ["len","standing","tuple"]:=⟨by decide+kernel⟩
theorem sv:aU gT ["rows","many"] (ai dW):=⟨rfl,rfl,rfl,by decide+kernel,rfl,by decide+kernel,by decide+kernel⟩
theorem v_doubled:VS (ai jX) ou ["paired","len","nought_rows"]:=⟨by decide+kernel⟩
theorem A6:aU ou ["one","other"] (ai jX):=⟨rfl,rfl,rfl,by decide+kernel,rfl,by decide+kernel,by decide+kernel⟩
theorem i7:VS (ai kI) pU ["doubled","behind_noughts"]:=⟨by decide+kernel⟩
theorem D8:aU pU ["one","other"] (ai kI):=⟨rfl,rfl,rfl,by decide+kernel,rfl,by decide+kernel,by decide+kernel⟩
theorem cP:VS (ai ji) mB ["sum","abs","int","list"]:=⟨by decide+kernel⟩
theorem sV:aU mB ["_law_script"] (ai ji):=⟨rfl,rfl,rfl,by decide+kernel,rfl,by decide+kernel,by decide+kernel⟩
theorem aE:VS (ai jf) mz ["len","abs","max","sum"]:=⟨by decide+kernel⟩
theorem jw:aU mz ["_law_hand_here","_law_many"] (ai jf):=⟨rfl,rfl,rfl,by decide+kernel,rfl,by decide+kernel,by decide+kernel⟩
theorem cC:VS (ai gK) kc ["_law_draw"]:=⟨by decide+kernel⟩
theorem xt:aU kc ["_law_hand_here","_law_wild"] (ai gK):=⟨rfl,rfl,rfl,by decide+kernel,rfl,by decide+kernel,by decide+kernel⟩
theorem dy:VS (ai gW) mR ["_law_draw","min","range","tuple"]:=⟨by decide+kernel⟩
theorem oH:aU mR ["_law_hand_here","_law_many","_law_wide"] (ai gW):=⟨rfl,rfl,rfl,by decide+kernel,rfl,by decide+kernel,by decide+kernel⟩
theorem eZ:VS (ai ia) kZ ["_law_draw"]:=⟨by decide+kernel⟩
theorem y9:aU kZ ["_law_hand_here"] (ai ia):=⟨rfl,rfl,rfl,by decide+kernel,rfl,by decide+kernel,by decide+kernel⟩
theorem aW:VS (ai f_) lb ["list","len","range","tuple"]:=⟨by decide+kernel⟩
theorem gD:aU lb ["_law_form","_law_row"] (ai f_):=⟨rfl,rfl,rfl,by decide+kernel,rfl,by decide+kernel,by decide+kernel⟩
theorem kL:VS (ai kO) pq ["_law_falls","any"]:=⟨by decide+kernel⟩
theorem CV:aU pq ["_law_form","_law_row"] (ai kO):=⟨rfl,rfl,rfl,by decide+kernel,rfl,by decide+kernel,by decide+kernel⟩
theorem bL:VS (ai e_) jZ ["enumerate","len","range","all"]:=⟨by decide+kernel⟩
theorem g8:aU jZ ["_law_rows_here"] (ai e_):=⟨rfl,rfl,rfl,by decide+kernel,rfl,by decide+kernel,by decide+kernel⟩
theorem au:VS (ai eR) jc ["tuple","isinstance","len","int","bool","all","_law_stands"]:=⟨by decide+kernel⟩
theorem oo:aU jc ["_law_found","_law_wide"] (ai eR):=⟨rfl,rfl,rfl,by decide+kernel,rfl,by decide+kernel,by decide+kernel⟩
theorem cM:VS (ai jR) nZ ["zip","range","tuple"]:=⟨by decide+kernel⟩
theorem mH:aU nZ ["_law_weights","_law_rows_here","_law_wide"] (ai jR):=⟨rfl,rfl,rfl,by decide+kernel,rfl,by decide+kernel,by decide+kernel⟩
theorem aw:VS (ai gO) nR ["_law_draw","int","_law_rows","list","range","product","space"]:=⟨by decide+kernel⟩
theorem fY:aU nR ["_law_hand_here","_law_wide","_law_great"] (ai gO):=⟨rfl,rfl,rfl,by decide+kernel,rfl,by decide+kernel,by decide+kernel⟩
theorem gQ:VS (ai jU) nW ["_law_in"]:=⟨by decide+kernel⟩
theorem BN:aU nW ["_law_other","_law_found","_law_row"] (ai jU):=⟨rfl,rfl,rfl,by decide+kernel,rfl,by decide+kernel,by decide+kernel⟩
theorem c9:VS (ai eA) iK ["range","tuple","_law_met"]:=⟨by decide+kernel⟩
theorem jL:aU iK ["_law_one","_law_other","_law_found"] (ai eA):=⟨rfl,rfl,rfl,by decide+kernel,rfl,by decide+kernel,by decide+kernel⟩
theorem qA:VS (ai fy) kq []:=⟨by decide+kernel⟩
theorem xj:aU kq ["_law_one"] (ai fy):=⟨rfl,rfl,rfl,by decide+kernel,rfl,by decide+kernel,by decide+kernel⟩
theorem aI:VS (ai la) xC ["_law_hand","_law_width","_law_two","shared","_law_is_space","all","range","_law_sum","_law_met","_law_times_met","_law_listed"]:=⟨by decide+kernel⟩
theorem nG:aU xC ["_law_script"] (ai la):=⟨rfl,rfl,rfl,by decide+kernel,rfl,by decide+kernel,by decide+kernel⟩
structure Ev(w:World)(mg:Str->Option Value)(h:Heap):Prop where
 X:(KX w.params).In h
 G:h.Ns mainGlobals mg
section
variable {w:World}{mg:Str->Option Value}{h base:Heap}(e:Ev w mg h)
include e
theorem Bt:Bl mg:=⟨PySem.W.mg_none_of e.X e.G (by kernel_rfl),PySem.W.mg_none_of e.X e.G (by kernel_rfl),PySem.W.mg_none_of e.X e.G (by kernel_rfl),PySem.W.mg_none_of e.X e.G (by kernel_rfl),PySem.W.mg_none_of e.X e.G (by kernel_rfl),PySem.W.mg_none_of e.X e.G (by kernel_rfl),PySem.W.mg_none_of e.X e.G (by kernel_rfl),PySem.W.mg_none_of e.X e.G (by kernel_rfl),PySem.W.mg_none_of e.X e.G (by kernel_rfl),PySem.W.mg_none_of e.X e.G (by kernel_rfl),PySem.W.mg_none_of e.X e.G (by kernel_rfl),PySem.W.mg_none_of e.X e.G (by kernel_rfl),PySem.W.mg_none_of e.X e.G (by kernel_rfl),PySem.W.mg_none_of e.X e.G (by kernel_rfl),PySem.W.mg_none_of e.X e.G (by kernel_rfl),PySem.W.mg_none_of e.X e.G (by kernel_rfl)⟩
theorem Qt:Kl (KX w.params) mg:=⟨⟨⟨by kernel_rfl,by kernel_rfl,by kernel_rfl,by kernel_rfl⟩,PySem.W.mg_of e.X e.G (by kernel_rfl),by kernel_rfl,by kernel_rfl⟩,Hd.na (by kernel_rfl),Hd.na (by kernel_rfl),Hd.na (by kernel_rfl)⟩
theorem rB:cp (KX w.params) mg "as_rows" "as_rows" iL ["rows"] 19 (Hd.fd iL "as_rows" "as_rows" gF 18):=Hd.sE e.X e.G (by kernel_rfl) fun _ _ _ _ _ _ _=>rfl
theorem v9:bz PW w (KX w.params) mg base cG 1 19 (Hd.fd iL "as_rows" "as_rows" gF 18) ["rows"] (cL oa):=by
 have B:=Bt e;have Q:=Qt e;exact cn (N:=nU) (rB e).fn Br (fun cdv A outer s H E hr=>(aC (aR (d8 dZ (aa (dQ (Nc:=["row"]) (bj.look (ai iL) ["rows"] (by decide+kernel)) (f6 (qW.nm 0)) (fun _ _ _ _=>(dh (show(["row"]:List Str).Nodup by decide+kernel) (by first|exact Or.inl rfl|exact Or.inr rfl) (by first|exact .inl rfl|exact .inr rfl))) (fun _ _ _ _=>cD) (fun _ _ _ _=>(d8 dZ (aa cy aj) B.c_ rfl cK (by decide+kernel) rfl)) b_) aj) B.c_ rfl cK (qW.d 0) (qW.g 0))))) BF
theorem ph:cp (KX w.params) mg "added" "added" kR ["row","times","other"] 24 (Hd.fd kR "added" "added" gF 23):=Hd.wI e.X e.G (by kernel_rfl) fun _ _ _ _ _ _ _ _ _=>rfl
theorem r9:bz PW w (KX w.params) mg base cG 1 24 (Hd.fd kR "added" "added" gF 23) ["row","times","other"] (cL m4):=by
 have B:=Bt e;have Q:=Qt e;exact cn (N:=r8) (ph e).fn EN (fun cdv A outer s H E hr=>(aC (aR (dQ (Nc:=["one","two","times"]) (bj.look (ai kR) ["row","times","other"] (by decide+kernel)) (xV (vQ.g 0) B.xS (aa (vQ.nm 0) (aa (vQ.nm 2) aj))) (fun _ _ _ _=>(nO rfl (show(["one","two","times"]:List Str).Nodup by decide+kernel) (by first|exact Or.inl rfl|exact Or.inr rfl) (by first|exact .inl rfl|exact .inr rfl) (by first|exact Or.inl rfl|exact Or.inr rfl) (by first|exact .inl rfl|exact .inr rfl))) (fun _ _ _ _=>cD) (fun _ _ _ _=>(bo eX cy (bo gu cy cy))) Ag)))) Eo
theorem yf:cp (KX w.params) mg "sum_by" "sum_by" kQ ["weights","rows","wide"] 31 (Hd.fd kQ "sum_by" "sum_by" gF 30):=Hd.wI e.X e.G (by kernel_rfl) fun _ _ _ _ _ _ _ _ _=>rfl
theorem EV:bz PW w (KX w.params) mg base cG 2 31 (Hd.fd kQ "sum_by" "sum_by" gF 30) ["weights","rows","wide"] (cL tF):=by
 have B:=Bt e;have Q:=Qt e
 exact cn (N:=pD) (yf e).fn nP (fun cdv A outer s H E hr=>(av (cu nP.nd (eG.l 3) (bo gu (pS (aa ao aj)) (eG.nm 2)))
  (av (gw (xV (eG.g 0) B.xS (aa (eG.nm 0) (aa (eG.nm 1) aj))) (nO rfl nP.nd (by first|exact Or.inl rfl|exact Or.inr rfl) (by first|exact .inl rfl|exact .inr rfl) (by first|exact Or.inl rfl|exact Or.inr rfl) (by first|exact .inl rfl|exact .inr rfl)) (aC (cu nP.nd (eG.l 3) (bf (ph e) (r9 e) (hr.mono (by decide)) (aa (eG.nm 3) (aa (eG.nm 4) (aa (eG.nm 5) aj))) (eG.d 1) (eG.g 1)))))
  (aC (aR (d8 dZ (aa (eG.nm 3) aj) B.c_ rfl cK (eG.d 2) (eG.g 2))))))) C_
theorem wN:cp (KX w.params) mg "product" "product" iR ["one","other"] 36 (Hd.fd iR "product" "product" gF 35):=Hd.mi e.X e.G (by kernel_rfl) fun _ _ _ _ _ _ _ _=>rfl
theorem CU:bz PW w (KX w.params) mg base cG 3 36 (Hd.fd iR "product" "product" gF 35) ["one","other"] (cL rf):=by
 have B:=Bt e;have Q:=Qt e
 exact cn (N:=n_) (wN e).fn va (fun cdv A outer s H E hr=>(av (cu va.nd (i5.l 2) (cY fH (aa (aM (i5.nm 1) ao) aj) B.fI rfl eP (i5.d 0) (i5.g 0)))
  (aC (aR (d8 dZ (aa (dQ (Nc:=["weights","other","wide"]) (bj.look (ai iR) ["one","other","wide"] (by decide+kernel)) (f6 (i5.nm 0)) (fun _ _ _ _=>(dh (show(["weights","other","wide"]:List Str).Nodup by decide+kernel) (by first|exact Or.inl rfl|exact Or.inr rfl) (by first|exact .inl rfl|exact .inr rfl))) (fun _ _ _ _=>cD) (fun _ _ _ _=>(bf (yf e) (EV e) (hr.mono (by decide)) (aa cy (aa cy (aa cy aj))) (by decide+kernel) rfl)) b_) aj) B.c_ rfl cK (i5.d 1) (i5.g 1)))))) Bp
theorem yq:cp (KX w.params) mg "column" "column" jK ["rows","place"] 41 (Hd.fd jK "column" "column" gF 40):=Hd.mi e.X e.G (by kernel_rfl) fun _ _ _ _ _ _ _ _=>rfl
theorem E6:bz PW w (KX w.params) mg base cG 1 41 (Hd.fd jK "column" "column" gF 40) ["rows","place"] (cL tP):=by
 have B:=Bt e;have Q:=Qt e;exact cn (N:=pG) (yq e).fn DB (fun cdv A outer s H E hr=>(aC (aR (d8 dZ (aa (dQ (Nc:=["row","place"]) (bj.look (ai jK) ["rows","place"] (by decide+kernel)) (f6 (ui.nm 0)) (fun _ _ _ _=>(dh (show(["row","place"]:List Str).Nodup by decide+kernel) (by first|exact Or.inl rfl|exact Or.inr rfl) (by first|exact .inl rfl|exact .inr rfl))) (fun _ _ _ _=>cD) (fun _ _ _ _=>(aM cy cy)) b_) aj) B.c_ rfl cK (ui.d 0) (ui.g 0))))) C4
theorem qg:cp (KX w.params) mg "turned_over" "turned_over" ff ["rows","wide"] 46 (Hd.fd ff "turned_over" "turned_over" gF 45):=Hd.mi e.X e.G (by kernel_rfl) fun _ _ _ _ _ _ _ _=>rfl
theorem xr:bz PW w (KX w.params) mg base cG 2 46 (Hd.fd ff "turned_over" "turned_over" gF 45) ["rows","wide"] (cL l6):=by
 have B:=Bt e;have Q:=Qt e;exact cn (N:=jD) (qg e).fn vM (fun cdv A outer s H E hr=>(aC (aR (d8 dZ (aa (dQ (Nc:=["place","rows"]) (bj.look (ai ff) ["rows","wide"] (by decide+kernel)) (dE (jC.g 0) B.dO (aa (jC.nm 1) aj)) (fun _ _ _ _=>(dh (show(["place","rows"]:List Str).Nodup by decide+kernel) (by first|exact Or.inl rfl|exact Or.inr rfl) (by first|exact .inl rfl|exact .inr rfl))) (fun _ _ _ _=>cD) (fun _ _ _ _=>(bf (yq e) (E6 e) (hr.mono (by decide)) (aa cy (aa cy aj)) (by decide+kernel) rfl)) b_) aj) B.c_ rfl cK (jC.d 1) (jC.g 1))))) vC
theorem u3:cp (KX w.params) mg "unit_row" "unit_row" gZ ["n","place"] 51 (Hd.fd gZ "unit_row" "unit_row" gF 50):=Hd.mi e.X e.G (by kernel_rfl) fun _ _ _ _ _ _ _ _=>rfl
theorem BR:bz PW w (KX w.params) mg base cG 1 51 (Hd.fd gZ "unit_row" "unit_row" gF 50) ["n","place"] (cL pA):=by
 have B:=Bt e;have Q:=Qt e;exact cn (N:=mP) (u3 e).fn zQ (fun cdv A outer s H E hr=>(aC (aR (d8 dZ (aa (dQ (Nc:=["k","place"]) (bj.look (ai gZ) ["n","place"] (by decide+kernel)) (dE (mQ.g 0) B.dO (aa (mQ.nm 0) aj)) (fun _ _ _ _=>(dh (show(["k","place"]:List Str).Nodup by decide+kernel) (by first|exact Or.inl rfl|exact Or.inr rfl) (by first|exact .inl rfl|exact .inr rfl))) (fun _ _ _ _=>cD) (fun _ _ _ _=>(F_ (cj (kn hr) (bI _) cy cy) ao ao)) b_) aj) B.c_ rfl cK (mQ.d 1) (mQ.g 1))))) zF
theorem oz:cp (KX w.params) mg "unit_rows" "unit_rows" gc ["n"] 56 (Hd.fd gc "unit_rows" "unit_rows" gF 55):=Hd.sE e.X e.G (by kernel_rfl) fun _ _ _ _ _ _ _=>rfl
theorem sI:bz PW w (KX w.params) mg base cG 2 56 (Hd.fd gc "unit_rows" "unit_rows" gF 55) ["n"] (cL k_):=by
 have B:=Bt e;have Q:=Qt e;exact cn (N:=lp) (oz e).fn yk (fun cdv A outer s H E hr=>(aC (aR (d8 dZ (aa (dQ (Nc:=["place","n"]) (bj.look (ai gc) ["n"] (by decide+kernel)) (dE (lz.g 0) B.dO (aa (lz.nm 0) aj)) (fun _ _ _ _=>(dh (show(["place","n"]:List Str).Nodup by decide+kernel) (by first|exact Or.inl rfl|exact Or.inr rfl) (by first|exact .inl rfl|exact .inr rfl))) (fun _ _ _ _=>cD) (fun _ _ _ _=>(bf (u3 e) (BR e) (hr.mono (by decide)) (aa cy (aa cy aj)) (by decide+kernel) rfl)) b_) aj) B.c_ rfl cK (lz.d 1) (lz.g 1))))) yy
theorem qd:cp (KX w.params) mg "nought_rows" "nought_rows" fO ["many","wide"] 63 (Hd.fd fO "nought_rows" "nought_rows" gF 62):=Hd.mi e.X e.G (by kernel_rfl) fun _ _ _ _ _ _ _ _=>rfl
theorem xp:bz PW w (KX w.params) mg base cG 1 63 (Hd.fd fO "nought_rows" "nought_rows" gF 62) ["many","wide"] (cL l8):=by
 have B:=Bt e;have Q:=Qt e;exact cn (N:=jB) (qd e).fn vk (fun cdv A outer s H E hr=>(aC (aR (bo gu (fG (aa (bo gu (fG (aa ao aj)) (qf.nm 1)) aj)) (qf.nm 0))))) vg
theorem wO:cp (KX w.params) mg "lead_of" "lead_of" jO ["row"] 70 (Hd.fd jO "lead_of" "lead_of" eS 69):=Hd.sE e.X e.G (by kernel_rfl) fun _ _ _ _ _ _ _=>rfl
theorem CO:bz PW w (KX w.params) mg base cG 1 70 (Hd.fd jO "lead_of" "lead_of" eS 69) ["row"] (cL rp):=by
 have B:=Bt e;have Q:=Qt e
 exact cn (N:=nV) (wO e).fn uz (fun cdv A outer s H E hr=>(av (gw (CS (ow.g 0) B.sZ (aa (ow.nm 0) aj)) (nO rfl uz.nd (by first|exact Or.inl rfl|exact Or.inr rfl) (by first|exact .inl rfl|exact .inr rfl) (by first|exact Or.inl rfl|exact Or.inr rfl) (by first|exact .inl rfl|exact .inr rfl)) (aC (dU (cj tf (bI _) (ow.nm 2) ao) (aC (aR (ow.nm 1))) cU)))
  (aC (aR L6)))) BD
theorem lQ:cp (KX w.params) mg "nearest_quotient" "nearest_quotient" dY ["top","bottom"] 77 (Hd.fd dY "nearest_quotient" "nearest_quotient" eS 76):=Hd.mi e.X e.G (by kernel_rfl) fun _ _ _ _ _ _ _ _=>rfl
theorem qr:bz PW w (KX w.params) mg base cG 1 77 (Hd.fd dY "nearest_quotient" "nearest_quotient" eS 76) ["top","bottom"] (cL i6):=by
 have B:=Bt e;have Q:=Qt e;exact cn (N:=fZ) (lQ e).fn iu (fun cdv A outer s H E hr=>(aC (aR (bo (Ac hr rfl iu.gen iu.co) (bo eX (bo gu ao (iY.nm 0)) (iY.nm 1)) (bo gu ao (iY.nm 1)))))) qm
theorem lh:cp (KX w.params) mg "exchanged" "exchanged" ie ["rows","k","other"] 84 (Hd.fd ie "exchanged" "exchanged" eS 83):=Hd.wI e.X e.G (by kernel_rfl) fun _ _ _ _ _ _ _ _ _=>rfl
theorem oC:bz PW w (KX w.params) mg base cG 1 84 (Hd.fd ie "exchanged" "exchanged" eS 83) ["rows","k","other"] (cL jv):=by
 have B:=Bt e;have Q:=Qt e
 exact cn (N:=lu) (lh e).fn qG (fun cdv A outer s H E hr=>(av (cu qG.nd (cV.l 3) (d8 Ay (aa (cV.nm 0) aj) B.kl rfl jh (cV.d 0) (cV.g 0)))
  (av (eC (aM (cV.nm 0) (cV.nm 2)) (cV.nm 3) (cV.nm 1))
  (av (eC (aM (cV.nm 0) (cV.nm 1)) (cV.nm 3) (cV.nm 2))
  (aC (aR (cV.nm 3))))))) yA
theorem oi:cp (KX w.params) mg "negated" "negated" iV ["row"] 89 (Hd.fd iV "negated" "negated" eS 88):=Hd.sE e.X e.G (by kernel_rfl) fun _ _ _ _ _ _ _=>rfl
theorem qu:bz PW w (KX w.params) mg base cG 1 89 (Hd.fd iV "negated" "negated" eS 88) ["row"] (cL lS):=by
 have B:=Bt e;have Q:=Qt e;exact cn (N:=om) (oi e).fn BG (fun cdv A outer s H E hr=>(aC (aR (dQ (Nc:=["number"]) (bj.look (ai iV) ["row"] (by decide+kernel)) (f6 (D3.nm 0)) (fun _ _ _ _=>(dh (show(["number"]:List Str).Nodup by decide+kernel) (by first|exact Or.inl rfl|exact Or.inr rfl) (by first|exact .inl rfl|exact .inr rfl))) (fun _ _ _ _=>cD) (fun _ _ _ _=>(nQ cy)) b_)))) Bb
theorem g5:MethAt (KX w.params) az "__init__" "Bench.__init__" cO ["self","rows"] 101 (Hd.fd cO "__init__" "Bench.__init__" eS 100):=Hd.MV (by kernel_rfl) fun _ _ _ _ _ _ _ _=>rfl
theorem tD:bz PW w (KX w.params) mg base cG 3 101 (Hd.fd cO "__init__" "Bench.__init__" eS 100) ["self","rows"] (cL jF):=by
 have B:=Bt e;have Q:=Qt e
 exact cn (N:=gX) (g5 e).fn si (fun cdv A outer s H E hr=>(av (m5 Q.aX.cl Q.bV (bK.nm 0) (vp (Nc:=["row"]) (bj.look (ai cO) ["self","rows"] (by decide+kernel)) (f6 (bK.nm 1)) (fun _ _ _ _=>(dh (show(["row"]:List Str).Nodup by decide+kernel) (by first|exact Or.inl rfl|exact Or.inr rfl) (by first|exact .inl rfl|exact .inr rfl))) (fun _ _ _ _=>cD) (fun _ _ _ _=>(d8 nu (aa cy aj) B.kl rfl jh (by decide+kernel) rfl)) b_))
  (av (m5 Q.aX.cl Q.eF (bK.nm 0) (vp (Nc:=["row"]) (bj.look (ai cO) ["self","rows"] (by decide+kernel)) (f6 (bf (oz e) (sI e) (hr.mono (by decide)) (aa (cY fH (aa (bK.nm 1) aj) B.fI rfl eP (bK.d 0) (bK.g 0)) aj) (bK.d 1) (bK.g 1))) (fun _ _ _ _=>(dh (show(["row"]:List Str).Nodup by decide+kernel) (by first|exact Or.inl rfl|exact Or.inr rfl) (by first|exact .inl rfl|exact .inr rfl))) (fun _ _ _ _=>cD) (fun _ _ _ _=>(d8 nu (aa cy aj) B.kl rfl jh (by decide+kernel) rfl)) b_))
  (aC (m5 Q.aX.cl Q.cq (bK.nm 0) (vp (Nc:=["row"]) (bj.look (ai cO) ["self","rows"] (by decide+kernel)) (f6 (bf (oz e) (sI e) (hr.mono (by decide)) (aa (cY fH (aa (bK.nm 1) aj) B.fI rfl eP (bK.d 0) (bK.g 0)) aj) (bK.d 1) (bK.g 1))) (fun _ _ _ _=>(dh (show(["row"]:List Str).Nodup by decide+kernel) (by first|exact Or.inl rfl|exact Or.inr rfl) (by first|exact .inl rfl|exact .inr rfl))) (fun _ _ _ _=>cD) (fun _ _ _ _=>(d8 nu (aa cy aj) B.kl rfl jh (by decide+kernel) rfl)) b_)))))) sh
theorem iW:MethAt (KX w.params) az "take" "Bench.take" gG ["self","k","times","other"] 108 (Hd.fd gG "take" "Bench.take" eS 107):=Hd.Oa (by kernel_rfl) fun _ _ _ _ _ _ _ _ _ _=>rfl
theorem rm:bz PW w (KX w.params) mg base cG 2 108 (Hd.fd gG "take" "Bench.take" eS 107) ["self","k","times","other"] (cL j8):=by
 have B:=Bt e;have Q:=Qt e
 exact cn (N:=kh) (iW e).fn xq (fun cdv A outer s H E hr=>(av (eC (bf (ph e) (r9 e) (hr.mono (by decide)) (aa (aM (c7 Q.aX.cl Q.bV (aT.nm 0)) (aT.nm 1)) (aa (nQ (aT.nm 2)) (aa (aM (c7 Q.aX.cl Q.bV (aT.nm 0)) (aT.nm 3)) aj))) (aT.d 0) (aT.g 0)) (c7 Q.aX.cl Q.bV (aT.nm 0)) (aT.nm 1))
  (av (eC (bf (ph e) (r9 e) (hr.mono (by decide)) (aa (aM (c7 Q.aX.cl Q.eF (aT.nm 0)) (aT.nm 1)) (aa (nQ (aT.nm 2)) (aa (aM (c7 Q.aX.cl Q.eF (aT.nm 0)) (aT.nm 3)) aj))) (aT.d 0) (aT.g 0)) (c7 Q.aX.cl Q.eF (aT.nm 0)) (aT.nm 1))
  (aC (eC (bf (ph e) (r9 e) (hr.mono (by decide)) (aa (aM (c7 Q.aX.cl Q.cq (aT.nm 0)) (aT.nm 3)) (aa (aT.nm 2) (aa (aM (c7 Q.aX.cl Q.cq (aT.nm 0)) (aT.nm 1)) aj))) (aT.d 0) (aT.g 0)) (c7 Q.aX.cl Q.cq (aT.nm 0)) (aT.nm 3)))))) xg
theorem jJ:MethAt (KX w.params) az "exchange" "Bench.exchange" eQ ["self","k","other"] 115 (Hd.fd eQ "exchange" "Bench.exchange" eS 114):=Hd.Gi (by kernel_rfl) fun _ _ _ _ _ _ _ _ _=>rfl
theorem tY:bz PW w (KX w.params) mg base cG 2 115 (Hd.fd eQ "exchange" "Bench.exchange" eS 114) ["self","k","other"] (cL jM):=by
 have B:=Bt e;have Q:=Qt e
 exact cn (N:=g0) (jJ e).fn sr (fun cdv A outer s H E hr=>(av (m5 Q.aX.cl Q.bV (a9.nm 0) (bf (lh e) (oC e) (hr.mono (by decide)) (aa (c7 Q.aX.cl Q.bV (a9.nm 0)) (aa (a9.nm 1) (aa (a9.nm 2) aj))) (a9.d 0) (a9.g 0)))
  (av (m5 Q.aX.cl Q.eF (a9.nm 0) (bf (lh e) (oC e) (hr.mono (by decide)) (aa (c7 Q.aX.cl Q.eF (a9.nm 0)) (aa (a9.nm 1) (aa (a9.nm 2) aj))) (a9.d 0) (a9.g 0)))
  (aC (m5 Q.aX.cl Q.cq (a9.nm 0) (bf (lh e) (oC e) (hr.mono (by decide)) (aa (c7 Q.aX.cl Q.cq (a9.nm 0)) (aa (a9.nm 1) (aa (a9.nm 2) aj))) (a9.d 0) (a9.g 0))))))) sj
theorem ip:MethAt (KX w.params) az "change_sign" "Bench.change_sign" dN ["self","k"] 122 (Hd.fd dN "change_sign" "Bench.change_sign" eS 121):=Hd.MV (by kernel_rfl) fun _ _ _ _ _ _ _ _=>rfl
theorem qk:bz PW w (KX w.params) mg base cG 2 122 (Hd.fd dN "change_sign" "Bench.change_sign" eS 121) ["self","k"] (cL iq):=by
 have B:=Bt e;have Q:=Qt e
 exact cn (N:=fJ) (ip e).fn pk (fun cdv A outer s H E hr=>(av (eC (bf (oi e) (qu e) (hr.mono (by decide)) (aa (aM (c7 Q.aX.cl Q.bV (aP.nm 0)) (aP.nm 1)) aj) (aP.d 0) (aP.g 0)) (c7 Q.aX.cl Q.bV (aP.nm 0)) (aP.nm 1))
  (av (eC (bf (oi e) (qu e) (hr.mono (by decide)) (aa (aM (c7 Q.aX.cl Q.eF (aP.nm 0)) (aP.nm 1)) aj) (aP.d 0) (aP.g 0)) (c7 Q.aX.cl Q.eF (aP.nm 0)) (aP.nm 1))
  (aC (eC (bf (oi e) (qu e) (hr.mono (by decide)) (aa (aM (c7 Q.aX.cl Q.cq (aP.nm 0)) (aP.nm 1)) aj) (aP.d 0) (aP.g 0)) (c7 Q.aX.cl Q.cq (aP.nm 0)) (aP.nm 1)))))) pV
theorem gv:MethAt (KX w.params) az "live_rows" "Bench.live_rows" cX ["self","top","place"] 127 (Hd.fd cX "live_rows" "Bench.live_rows" eS 126):=Hd.Gi (by kernel_rfl) fun _ _ _ _ _ _ _ _ _=>rfl
theorem l9:bz PW w (KX w.params) mg base cG 3 127 (Hd.fd cX "live_rows" "Bench.live_rows" eS 126) ["self","top","place"] (cL gn):=by
 have B:=Bt e;have Q:=Qt e;have hC:PySem.W.codeHdIn (KX w.params) 126 124=true:=by kernel_rfl
 exact IE (N:=gp) (Hd.fc (by kernel_rfl)) lX (fun A outer s H E hr=>(av (sd lX.nd (cW.l 3) (Nc:=["k","self","place"]) (bj.look (ai cX) ["self","top","place","live"] (by decide+kernel)) (ze (cW.g 1) B.dO (aa (cW.nm 1) (aa (cY fH (aa (c7 Q.aX.cl Q.bV (cW.nm 0)) aj) B.fI rfl eP (cW.d 0) (cW.g 0)) aj))) (fun _ _ _ _=>(dh (show(["k","self","place"]:List Str).Nodup by decide+kernel) (by first|exact Or.inl rfl|exact Or.inr rfl) (by first|exact .inl rfl|exact .inr rfl))) (fun _ _ _ _=>(uQ (cj tf (bI _) (aM (aM (c7 Q.aX.cl Q.bV cy) cy) cy) ao))) (fun _ _ _ _=>cy) b_)
  (aC (aR (Hk (c0:=126) (mM.look (Nc:=["k","self","place"]) (fr:=[none,some 0,some 2]) (p:="k") (bj.look (ai cX) ["self","top","place","live"] (by decide+kernel))) rfl hr rfl hC (fun _ _ _ _=>(cY xF (aa (aM (aM (c7 Q.aX.cl Q.bV cy) cy) cy) aj) B.xI rfl uL (by decide+kernel) rfl)) (cW.nm 3) (cW.g 2) B.Fu))))) qZ
theorem kM:MethAt (KX w.params) az "gather" "Bench.gather" ft ["self","top","place"] 134 (Hd.fd ft "gather" "Bench.gather" eS 133):=Hd.Gi (by kernel_rfl) fun _ _ _ _ _ _ _ _ _=>rfl
theorem vP:bz PW w (KX w.params) mg base cG 4 134 (Hd.fd ft "gather" "Bench.gather" eS 133) ["self","top","place"] (cL kG):=by
 have B:=Bt e;have Q:=Qt e
 exact cn (N:=je) (kM e).fn fT (fun cdv A outer s H E hr=>(av (cu fT.nd (ax.l 3) (lE (ax.nm 0) Q.aX.cl (gv e).me (l9 e) (hr.mono (by decide)) (gv e).bd (aa (ax.nm 1) (aa (ax.nm 2) aj))))
  (av (yG (cj tK (bI _) (cY fH (aa (ax.nm 3) aj) B.fI rfl eP (ax.d 0) (ax.g 0)) ao) (av (cu fT.nd (ax.l 4) (aM (ax.nm 3) (nQ ao)))
  (av (cu fT.nd (ax.l 5) (aM (ax.nm 3) (nQ ao)))
  (av (o7 (lE (ax.nm 0) Q.aX.cl (iW e).me (rm e) (hr.mono (by decide)) (iW e).bd (aa (ax.nm 4) (aa (bf (lQ e) (qr e) (hr.mono (by decide)) (aa (aM (aM (c7 Q.aX.cl Q.bV (ax.nm 0)) (ax.nm 4)) (ax.nm 2)) (aa (aM (aM (c7 Q.aX.cl Q.bV (ax.nm 0)) (ax.nm 5)) (ax.nm 2)) aj)) (ax.d 1) (ax.g 1)) (aa (ax.nm 5) aj)))))
  (aC (cu fT.nd (ax.l 3) (lE (ax.nm 0) Q.aX.cl (gv e).me (l9 e) (hr.mono (by decide)) (gv e).bd (aa (ax.nm 1) (aa (ax.nm 2) aj)))))))))
  (av (dU (cj (kn hr) (bI _) (cY fH (aa (ax.nm 3) aj) B.fI rfl eP (ax.d 0) (ax.g 0)) ao) (aC (aR gS)) cU)
  (av (o7 (lE (ax.nm 0) Q.aX.cl (jJ e).me (tY e) (hr.mono (by decide)) (jJ e).bd (aa (ax.nm 1) (aa (aM (ax.nm 3) ao) aj))))
  (av (dU (cj BW (bI _) (aM (aM (c7 Q.aX.cl Q.bV (ax.nm 0)) (ax.nm 1)) (ax.nm 2)) ao) (aC (o7 (lE (ax.nm 0) Q.aX.cl (ip e).me (qk e) (hr.mono (by decide)) (ip e).bd (aa (ax.nm 1) aj)))) cU)
  (aC (aR gS)))))))) u5
theorem ir:MethAt (KX w.params) az "lower_above" "Bench.lower_above" dJ ["self","top","place"] 141 (Hd.fd dJ "lower_above" "Bench.lower_above" eS 140):=Hd.Gi (by kernel_rfl) fun _ _ _ _ _ _ _ _ _=>rfl
theorem qo:bz PW w (KX w.params) mg base cG 3 141 (Hd.fd dJ "lower_above" "Bench.lower_above" eS 140) ["self","top","place"] (cL ix):=by
 have B:=Bt e;have Q:=Qt e;exact cn (N:=fF) (ir e).fn fm (fun cdv A outer s H E hr=>(aC (gw (dE (bO.g 0) B.dO (aa (bO.nm 1) aj)) (dh fm.nd (by first|exact Or.inl rfl|exact Or.inr rfl) (by first|exact .inl rfl|exact .inr rfl)) (aC (o7 (lE (bO.nm 0) Q.aX.cl (iW e).me (rm e) (hr.mono (by decide)) (iW e).bd (aa (bO.nm 3) (aa (bo (Ac hr rfl fm.gen fm.co) (aM (aM (c7 Q.aX.cl Q.bV (bO.nm 0)) (bO.nm 3)) (bO.nm 2)) (aM (aM (c7 Q.aX.cl Q.bV (bO.nm 0)) (bO.nm 1)) (bO.nm 2))) (aa (bO.nm 1) aj))))))))) pC
theorem pK:cp (KX w.params) mg "standing" "standing" jn ["rows"] 155 (Hd.fd jn "standing" "standing" eS 154):=Hd.sE e.X e.G (by kernel_rfl) fun _ _ _ _ _ _ _=>rfl
theorem uI:bz PW w (KX w.params) mg base cG 5 155 (Hd.fd jn "standing" "standing" eS 154) ["rows"] (cL my):=by
 have B:=Bt e;have Q:=Qt e
 exact cn (N:=mE) (pK e).fn hJ (fun cdv A outer s H E hr=>(av (cu hJ.nd (aZ.l 1) (J3 ⟨Q.aX.Oe,(g5 e).me.at_,(g5 e).me.fn,Q.aX.kp⟩ (tD e) (hr.mono (by decide)) (aZ.g 0) Q.aX.mg (g5 e).bd (aa (aZ.nm 0) aj) (aZ.d 0)))
  (av (cu hJ.nd (aZ.l 2) ao)
  (av (gw (dE (aZ.g 2) B.dO (aa (cY fH (aa (aM (aZ.nm 0) ao) aj) B.fI rfl eP (aZ.d 1) (aZ.g 1)) aj)) (dh hJ.nd (by first|exact Or.inl rfl|exact Or.inr rfl) (by first|exact .inl rfl|exact .inr rfl)) (aC (dU (fR (lE (aZ.nm 1) Q.aX.cl (kM e).me (vP e) (hr.mono (by decide)) (kM e).bd (aa (aZ.nm 2) (aa (aZ.nm 3) aj)))) (av (o7 (lE (aZ.nm 1) Q.aX.cl (ir e).me (qo e) (hr.mono (by decide)) (ir e).bd (aa (aZ.nm 2) (aa (aZ.nm 3) aj))))
  (aC (JH hJ.nd (aZ.l 2) ao J4))) cU)))
  (av (cu hJ.nd (aZ.l 4) (bf (qg e) (xr e) (hr.mono (by decide)) (aa (c7 Q.aX.cl Q.cq (aZ.nm 1)) (aa (cY fH (aa (aZ.nm 0) aj) B.fI rfl eP (aZ.d 1) (aZ.g 1)) aj)) (aZ.d 3) (aZ.g 3)))
  (aC (aR (fG (aa (bf (rB e) (v9 e) (hr.mono (by decide)) (aa (hO (c7 Q.aX.cl Q.bV (aZ.nm 1)) ib (ij (aZ.nm 2))) aj) (aZ.d 4) (aZ.g 4)) (aa (bf (rB e) (v9 e) (hr.mono (by decide)) (aa (c7 Q.aX.cl Q.eF (aZ.nm 1)) aj) (aZ.d 4) (aZ.g 4)) (aa (aZ.nm 4) aj))))))))))) zJ
theorem vN:cp (KX w.params) mg "space" "space" mY ["wide","rows"] 162 (Hd.fd mY "space" "space" nI 161):=Hd.mi e.X e.G (by kernel_rfl) fun _ _ _ _ _ _ _ _=>rfl
theorem AG:bz PW w (KX w.params) mg base cG 6 162 (Hd.fd mY "space" "space" nI 161) ["wide","rows"] (cL rL):=by
 have B:=Bt e;have Q:=Qt e;exact cn (N:=rV) (vN e).fn Fd (fun cdv A outer s H E hr=>(aC (aR (fG (aa (kK.nm 0) (aa (F_ (cj tK (bI _) (cY fH (aa (kK.nm 1) aj) B.fI rfl eP (kK.d 0) (kK.g 0)) ao) (aM (bf (pK e) (uI e) (hr.mono (by decide)) (aa (kK.nm 1) aj) (kK.d 1) (kK.g 1)) ao) (fG aj)) aj)))))) EM
theorem tj:cp (KX w.params) mg "paired" "paired" jH ["rows","behind"] 167 (Hd.fd jH "paired" "paired" nI 166):=Hd.mi e.X e.G (by kernel_rfl) fun _ _ _ _ _ _ _ _=>rfl
theorem yI:bz PW w (KX w.params) mg base cG 1 167 (Hd.fd jH "paired" "paired" nI 166) ["rows","behind"] (cL pN):=by
 have B:=Bt e;have Q:=Qt e;exact cn (N:=pB) (tj e).fn C7 (fun cdv A outer s H E hr=>(aC (aR (d8 dZ (aa (dQ (Nc:=["row","more"]) (bj.look (ai jH) ["rows","behind"] (by decide+kernel)) (xV (nA.g 0) B.xS (aa (nA.nm 0) (aa (nA.nm 1) aj))) (fun _ _ _ _=>(nO rfl (show(["row","more"]:List Str).Nodup by decide+kernel) (by first|exact Or.inl rfl|exact Or.inr rfl) (by first|exact .inl rfl|exact .inr rfl) (by first|exact Or.inl rfl|exact Or.inr rfl) (by first|exact .inl rfl|exact .inr rfl))) (fun _ _ _ _=>cD) (fun _ _ _ _=>(bo eX (d8 dZ (aa cy aj) B.c_ rfl cK (by decide+kernel) rfl) (d8 dZ (aa cy aj) B.c_ rfl cK (by decide+kernel) rfl))) Ag) aj) B.c_ rfl cK (nA.d 1) (nA.g 1))))) DZ
theorem nB:cp (KX w.params) mg "behind_noughts" "behind_noughts" dW ["rows","many"] 172 (Hd.fd dW "behind_noughts" "behind_noughts" nI 171):=Hd.mi e.X e.G (by kernel_rfl) fun _ _ _ _ _ _ _ _=>rfl
theorem t5:bz PW w (KX w.params) mg base cG 6 172 (Hd.fd dW "behind_noughts" "behind_noughts" nI 171) ["rows","many"] (cL jN):=by
 have B:=Bt e;have Q:=Qt e
 exact cn (N:=gT) (nB e).fn sv (fun cdv A outer s H E hr=>(av (dU (cj (kn hr) (bI _) (cY fH (aa (df.nm 0) aj) B.fI rfl eP (df.d 0) (df.g 0)) ao) (aC (aR (fG aj))) cU)
  (aC (aR (d8 dZ (aa (dQ (Nc:=["row","many"]) (bj.look (ai dW) ["rows","many"] (by decide+kernel)) (f6 (aM (bf (pK e) (uI e) (hr.mono (by decide)) (aa (df.nm 0) aj) (df.d 1) (df.g 1)) ao)) (fun _ _ _ _=>(dh (show(["row","many"]:List Str).Nodup by decide+kernel) (by first|exact Or.inl rfl|exact Or.inr rfl) (by first|exact .inl rfl|exact .inr rfl))) (fun _ _ _ _=>(uQ (cj Ip (bI _) (bf (wO e) (CO e) (hr.mono (by decide)) (aa cy aj) (by decide+kernel) rfl) cy))) (fun _ _ _ _=>(hO cy (ij cy) ib)) b_) aj) B.c_ rfl cK (df.d 2) (df.g 2)))))) se
theorem wt:cp (KX w.params) mg "doubled" "doubled" jX ["one","other"] 179 (Hd.fd jX "doubled" "doubled" nI 178):=Hd.mi e.X e.G (by kernel_rfl) fun _ _ _ _ _ _ _ _=>rfl
theorem D9:bz PW w (KX w.params) mg base cG 2 179 (Hd.fd jX "doubled" "doubled" nI 178) ["one","other"] (cL qz):=by
 have B:=Bt e;have Q:=Qt e;exact cn (N:=ou) (wt e).fn A6 (fun cdv A outer s H E hr=>(aC (aR (bo eX (bf (tj e) (yI e) (hr.mono (by decide)) (aa (aM (v_doubled.nm 0) ao) (aa (aM (v_doubled.nm 0) ao) aj)) (v_doubled.d 0) (v_doubled.g 0)) (bf (tj e) (yI e) (hr.mono (by decide)) (aa (aM (v_doubled.nm 1) ao) (aa (bf (qd e) (xp e) (hr.mono (by decide)) (aa (cY fH (aa (aM (v_doubled.nm 1) ao) aj) B.fI rfl eP (v_doubled.d 1) (v_doubled.g 1)) (aa (aM (v_doubled.nm 0) ao) aj)) (v_doubled.d 2) (v_doubled.g 2)) aj)) (v_doubled.d 0) (v_doubled.g 0)))))) BA
theorem i0:cp (KX w.params) mg "shared" "shared" kI ["one","other"] 186 (Hd.fd kI "shared" "shared" nI 185):=Hd.mi e.X e.G (by kernel_rfl) fun _ _ _ _ _ _ _ _=>rfl
theorem jI:bz PW w (KX w.params) mg base cG 7 186 (Hd.fd kI "shared" "shared" nI 185) ["one","other"] (cL gY):=by
 have B:=Bt e;have Q:=Qt e;exact cn (N:=pU) (i0 e).fn D8 (fun cdv A outer s H E hr=>(aC (aR (fG (aa (aM (i7.nm 0) ao) (aa (bf (nB e) (t5 e) (hr.mono (by decide)) (aa (bf (wt e) (D9 e) (hr.mono (by decide)) (aa (i7.nm 0) (aa (i7.nm 1) aj)) (i7.d 0) (i7.g 0)) (aa (aM (i7.nm 0) ao) aj)) (i7.d 1) (i7.g 1)) aj)))))) DG
theorem uX:cp (KX w.params) mg "_law_hand" "_law_hand" ji ["_law_script"] 193 (Hd.fd ji "_law_hand" "_law_hand" dv 192):=Hd.sE e.X e.G (by kernel_rfl) fun _ _ _ _ _ _ _=>rfl
theorem Bu:bz PW w (KX w.params) mg base cG 1 193 (Hd.fd ji "_law_hand" "_law_hand" dv 192) ["_law_script"] (cL pP):=by
 have B:=Bt e;have Q:=Qt e
 exact cn (N:=mB) (uX e).fn sV (fun cdv A outer s H E hr=>(av (cu sV.nd (cP.l 1) (cY (Gq rfl) (aa (hO (cP.nm 0) ib (ij ao)) aj) B.FL rfl D5 (cP.d 0) (cP.g 0)))
  (aC (aR (LJ (aa (d8 nu (aa (hO (cP.nm 0) ib (ij ao)) aj) B.kl rfl jh (cP.d 3) (cP.g 3)) (aa ao (aa (bo u9 (cY xF (aa (cP.nm 1) aj) B.xI rfl uL (cP.d 1) (cP.g 1)) ao) (aa (d8 xG (aa (xO Ip (bI _) (cY xF (aa (cP.nm 1) aj) B.xI rfl uL (cP.d 1) (cP.g 1)) (bo Bq ao ao)) aj) B.rP rfl o6 (cP.d 2) (cP.g 2)) aj))))))))) zM
theorem cS:cp (KX w.params) mg "_law_draw" "_law_draw" jf ["_law_hand_here","_law_many"] 200 (Hd.fd jf "_law_draw" "_law_draw" dv 199):=Hd.mi e.X e.G (by kernel_rfl) fun _ _ _ _ _ _ _ _=>rfl
theorem c8:bz PW w (KX w.params) mg base cG 1 200 (Hd.fd jf "_law_draw" "_law_draw" dv 199) ["_law_hand_here","_law_many"] (cL cw):=by
 have B:=Bt e;have Q:=Qt e
 exact cn (N:=mz) (cS e).fn jw (fun cdv A outer s H E hr=>(av (yG (kb (rk (cj (kn hr) (bI _) (aM (aE.nm 0) ao) ao) (rk (cj (kn hr) (bI _) (aM (aE.nm 0) ao) ao) (rO (cj BW (bI _) (bo eX (aM (aE.nm 0) ao) ao) (cY fH (aa (aM (aE.nm 0) ao) aj) B.fI rfl eP (aE.d 0) (aE.g 0))))))) (av (eC (bo eX (aM (aE.nm 0) ao) ao) (aE.nm 0) ao)
  (aC (eC (cY xF (aa (aM (aM (aE.nm 0) ao) (aM (aE.nm 0) ao)) aj) B.xI rfl uL (aE.d 1) (aE.g 1)) (aE.nm 0) ao))))
  (av (dU (kb (rk (cj (kn hr) (bI _) (aM (aE.nm 0) ao) ao) (rO (cj tK (bI _) (aM (aE.nm 0) ao) ao)))) (av (cu jw.nd (aE.l 2) (bo oy (aM (aE.nm 0) ao) (aE.nm 1)))
  (av (eC (bo u9 (aM (aE.nm 0) ao) (aE.nm 1)) (aE.nm 0) ao)
  (aC (aR (aE.nm 2))))) cU)
  (av (eC (bo eX (aM (aE.nm 0) ao) ao) (aE.nm 0) ao)
  (av (cu jw.nd (aE.l 3) (cY (Gq rfl) (aa (hO (hO (aM (aE.nm 0) ao) (ij (bo oy (aM (aE.nm 0) ao) (cY (Lk rfl) (aa ao (aa (cY fH (aa (aM (aE.nm 0) ao) aj) B.fI rfl eP (aE.d 0) (aE.g 0)) aj)) B.Lu rfl I_ (aE.d 2) (aE.g 2)))) ib) ib (ij ao)) aj) B.FL rfl D5 (aE.d 3) (aE.g 3)))
  (av (cu jw.nd (aE.l 4) (bo oy (bo gu (bo eX (bo eX (bo oy (aE.nm 3) ao) (bo gu ao (aM (aE.nm 0) ao))) ao) (bo eX ao (bo gu ao (aM (aE.nm 0) ao)))) ao))
  (av (cu jw.nd (aE.l 5) (bo oy (bo eX (bo gu (aE.nm 4) (bo eX (bo oy (aE.nm 4) ao) (aM (aE.nm 0) ao))) (bo gu ao (aM (aE.nm 0) ao))) ao))
  (aC (aR (bo oy (bo u9 (aE.nm 5) ao) (aE.nm 1))))))))))) zH
theorem qM:cp (KX w.params) mg "_law_number" "_law_number" gK ["_law_hand_here","_law_wild"] 207 (Hd.fd gK "_law_number" "_law_number" dv 206):=Hd.mi e.X e.G (by kernel_rfl) fun _ _ _ _ _ _ _ _=>rfl
theorem yt:bz PW w (KX w.params) mg base cG 2 207 (Hd.fd gK "_law_number" "_law_number" dv 206) ["_law_hand_here","_law_wild"] (cL nH):=by
 have B:=Bt e;have Q:=Qt e
 exact cn (N:=kc) (qM e).fn xt (fun cdv A outer s H E hr=>(av (dU (kb (rk (cj (kn hr) (bI _) (cC.nm 1) ao) (rO (cj (kn hr) (bI _) (bf (cS e) (c8 e) (hr.mono (by decide)) (aa (cC.nm 0) (aa ao aj)) (cC.d 0) (cC.g 0)) ao)))) (aC (aR (bo eX (bo nY (bf (cS e) (c8 e) (hr.mono (by decide)) (aa (cC.nm 0) (aa (bo nY (bo gu ao (bo Bq ao ao)) ao) aj)) (cC.d 0) (cC.g 0)) (bo Bq ao ao)) ao))) cU)
  (av (dU (cj tK (bI _) (cC.nm 1) ao) (aC (aR (bo nY (bf (cS e) (c8 e) (hr.mono (by decide)) (aa (cC.nm 0) (aa ao aj)) (cC.d 0) (cC.g 0)) ao))) cU)
  (aC (aR (aM (pS (aa ao (aa ao (aa (nQ ao) (aa ao (aa ao (aa ao (aa (nQ ao) (aa ao aj))))))))) (bf (cS e) (c8 e) (hr.mono (by decide)) (aa (cC.nm 0) (aa ao aj)) (cC.d 0) (cC.g 0)))))))) xk
theorem pW:cp (KX w.params) mg "_law_rows" "_law_rows" gW ["_law_hand_here","_law_many","_law_wide"] 212 (Hd.fd gW "_law_rows" "_law_rows" dv 211):=Hd.wI e.X e.G (by kernel_rfl) fun _ _ _ _ _ _ _ _ _=>rfl
theorem u4:bz PW w (KX w.params) mg base cG 3 212 (Hd.fd gW "_law_rows" "_law_rows" dv 211) ["_law_hand_here","_law_many","_law_wide"] (cL mj):=by
 have B:=Bt e;have Q:=Qt e
 exact cn (N:=mR) (pW e).fn oH (fun cdv A outer s H E hr=>(av (cu oH.nd (dy.l 3) (bf (cS e) (c8 e) (hr.mono (by decide)) (aa (dy.nm 0) (aa ao aj)) (dy.d 0) (dy.g 0)))
  (av (dU (cj tK (bI _) (dy.nm 2) ao) (aC (cu oH.nd (dy.l 3) (cY (Lz rfl) (aa (dy.nm 3) (aa ao aj)) B.LY rfl Jk (dy.d 1) (dy.g 1)))) cU)
  (aC (aR (d8 dZ (aa (dQ (Nc:=["_law_j","_law_wide","_law_hand_here","_law_wild"]) (bj.look (ai gW) ["_law_hand_here","_law_many","_law_wide","_law_wild"] (by decide+kernel)) (dE (dy.g 2) B.dO (aa (dy.nm 1) aj)) (fun _ _ _ _=>(dh (show(["_law_j","_law_wide","_law_hand_here","_law_wild"]:List Str).Nodup by decide+kernel) (by first|exact Or.inl rfl|exact Or.inr rfl) (by first|exact .inl rfl|exact .inr rfl))) (fun _ _ _ _=>cD) (fun _ _ _ _=>(d8 dZ (aa (dQ (Nc:=["_law_k","_law_hand_here","_law_wild"]) (bj.Bw (by decide+kernel)) (dE rfl B.dO (aa cy aj)) (fun _ _ _ _=>(dh (show(["_law_k","_law_hand_here","_law_wild"]:List Str).Nodup by decide+kernel) (by first|exact Or.inl rfl|exact Or.inr rfl) (by first|exact .inl rfl|exact .inr rfl))) (fun _ _ _ _=>cD) (fun _ _ _ _=>(bf (qM e) (yt e) (hr.mono (by decide)) (aa cy (aa cy aj)) (by decide+kernel) rfl)) b_) aj) B.c_ rfl cK (by decide+kernel) rfl)) b_) aj) B.c_ rfl cK (dy.d 3) (dy.g 3))))))) zG
theorem sH:cp (KX w.params) mg "_law_width" "_law_width" ia ["_law_hand_here"] 219 (Hd.fd ia "_law_width" "_law_width" dv 218):=Hd.sE e.X e.G (by kernel_rfl) fun _ _ _ _ _ _ _=>rfl
theorem zS:bz PW w (KX w.params) mg base cG 2 219 (Hd.fd ia "_law_width" "_law_width" dv 218) ["_law_hand_here"] (cL oJ):=by
 have B:=Bt e;have Q:=Qt e
 exact cn (N:=kZ) (sH e).fn y9 (fun cdv A outer s H E hr=>(av (dU (cj (kn hr) (bI _) (bf (cS e) (c8 e) (hr.mono (by decide)) (aa (eZ.nm 0) (aa ao aj)) (eZ.d 0) (eZ.g 0)) ao) (aC (aR (fG (aa (bo eX ao (bf (cS e) (c8 e) (hr.mono (by decide)) (aa (eZ.nm 0) (aa ao aj)) (eZ.d 0) (eZ.g 0))) (aa gS aj))))) cU)
  (aC (aR (fG (aa (bo eX ao (bf (cS e) (c8 e) (hr.mono (by decide)) (aa (eZ.nm 0) (aa ao aj)) (eZ.d 0) (eZ.g 0))) (aa gS aj))))))) zx
theorem sy:cp (KX w.params) mg "_law_falls" "_law_falls" f_ ["_law_form","_law_row"] 224 (Hd.fd f_ "_law_falls" "_law_falls" dv 223):=Hd.mi e.X e.G (by kernel_rfl) fun _ _ _ _ _ _ _ _=>rfl
theorem zK:bz PW w (KX w.params) mg base cG 1 224 (Hd.fd f_ "_law_falls" "_law_falls" dv 223) ["_law_form","_law_row"] (cL oB):=by
 have B:=Bt e;have Q:=Qt e
 exact cn (N:=lb) (sy e).fn gD (fun cdv A outer s H E hr=>(av (cu gD.nd (aW.l 2) (d8 Ay (aa (aW.nm 1) aj) B.kl rfl jh (aW.d 0) (aW.g 0)))
  (av (gw (f6 (aW.nm 0)) (dh gD.nd (by first|exact Or.inl rfl|exact Or.inr rfl) (by first|exact .inl rfl|exact .inr rfl)) (av (cu gD.nd (aW.l 4) (aM (dQ (Nc:=["_law_k","_law_step"]) (bj.look (ai f_) ["_law_form","_law_row","_law_left","_law_step","_law_lead","_law_many","_law_k"] (by decide+kernel)) (dE (aW.g 2) B.dO (aa (cY fH (aa (aW.nm 3) aj) B.fI rfl eP (aW.d 1) (aW.g 1)) aj)) (fun _ _ _ _=>(dh (show(["_law_k","_law_step"]:List Str).Nodup by decide+kernel) (by first|exact Or.inl rfl|exact Or.inr rfl) (by first|exact .inl rfl|exact .inr rfl))) (fun _ _ _ _=>(uQ (cj tf (bI _) (aM cy cy) ao))) (fun _ _ _ _=>cy) b_) ao))
  (av (cu gD.nd (aW.l 5) (bo u9 (aM (aW.nm 2) (aW.nm 4)) (aM (aW.nm 3) (aW.nm 4))))
  (aC (gw (dE (aW.g 2) B.dO (aa (cY fH (aa (aW.nm 2) aj) B.fI rfl eP (aW.d 1) (aW.g 1)) aj)) (dh gD.nd (by first|exact Or.inl rfl|exact Or.inr rfl) (by first|exact .inl rfl|exact .inr rfl)) (aC (eC (bo nY (aM (aW.nm 2) (aW.nm 6)) (bo gu (aW.nm 5) (aM (aW.nm 3) (aW.nm 6)))) (aW.nm 2) (aW.nm 6))))))))
  (aC (aR (d8 dZ (aa (aW.nm 2) aj) B.c_ rfl cK (aW.d 3) (aW.g 3))))))) zy
theorem nk:cp (KX w.params) mg "_law_in" "_law_in" kO ["_law_form","_law_row"] 231 (Hd.fd kO "_law_in" "_law_in" dv 230):=Hd.mi e.X e.G (by kernel_rfl) fun _ _ _ _ _ _ _ _=>rfl
theorem pE:bz PW w (KX w.params) mg base cG 2 231 (Hd.fd kO "_law_in" "_law_in" dv 230) ["_law_form","_law_row"] (cL kH):=by
 have B:=Bt e;have Q:=Qt e;exact cn (N:=pq) (nk e).fn CV (fun cdv A outer s H E hr=>(aC (aR (AW (cY (Kv rfl) (aa (bf (sy e) (zK e) (hr.mono (by decide)) (aa (kL.nm 0) (aa (kL.nm 1) aj)) (kL.d 0) (kL.g 0)) aj) B.K_ rfl Ii (kL.d 1) (kL.g 1)))))) Cs
theorem qJ:cp (KX w.params) mg "_law_stands" "_law_stands" e_ ["_law_rows_here"] 236 (Hd.fd e_ "_law_stands" "_law_stands" dv 235):=Hd.sE e.X e.G (by kernel_rfl) fun _ _ _ _ _ _ _=>rfl
theorem yD:bz PW w (KX w.params) mg base cG 1 236 (Hd.fd e_ "_law_stands" "_law_stands" dv 235) ["_law_rows_here"] (cL nq):=by
 have B:=Bt e;have Q:=Qt e
 exact cn (N:=jZ) (qJ e).fn g8 (fun cdv A outer s H E hr=>(av (cu g8.nd (bL.l 1) (nQ ao))
  (av (gw (CS (bL.g 0) B.sZ (aa (bL.nm 0) aj)) (nO rfl g8.nd (by first|exact Or.inl rfl|exact Or.inr rfl) (by first|exact .inl rfl|exact .inr rfl) (by first|exact Or.inl rfl|exact Or.inr rfl) (by first|exact .inl rfl|exact .inr rfl)) (av (sd g8.nd (bL.l 4) (Nc:=["_law_k","_law_row"]) (bj.look (ai e_) ["_law_rows_here","_law_last","_law_j","_law_row","_law_some"] (by decide+kernel)) (dE (bL.g 2) B.dO (aa (cY fH (aa (bL.nm 3) aj) B.fI rfl eP (bL.d 1) (bL.g 1)) aj)) (fun _ _ _ _=>(dh (show(["_law_k","_law_row"]:List Str).Nodup by decide+kernel) (by first|exact Or.inl rfl|exact Or.inr rfl) (by first|exact .inl rfl|exact .inr rfl))) (fun _ _ _ _=>(uQ (cj tf (bI _) (aM cy cy) ao))) (fun _ _ _ _=>cy) b_)
  (av (dU (kb (ll (cj (kn hr) (bI _) (bL.nm 4) (pS aj)) (ll (cj ID (bI _) (aM (bL.nm 4) ao) (bL.nm 1)) (nL (cj BW (bI _) (aM (bL.nm 3) (aM (bL.nm 4) ao)) ao))))) (aC (aR gS)) cU)
  (av (cu g8.nd (bL.l 1) (aM (bL.nm 4) ao))
  (aC (dU (g7 (fR (cY (Cc rfl) (aa (dQ (Nc:=["_law_above","_law_last","_law_row"]) (bj.look (ai e_) ["_law_rows_here","_law_last","_law_j","_law_row","_law_some"] (by decide+kernel)) (f6 (hO (bL.nm 0) ib (ij (bL.nm 2)))) (fun _ _ _ _=>(dh (show(["_law_above","_law_last","_law_row"]:List Str).Nodup by decide+kernel) (by first|exact Or.inl rfl|exact Or.inr rfl) (by first|exact .inl rfl|exact .inr rfl))) (fun _ _ _ _=>cD) (fun _ _ _ _=>(Ig ID BW ao (aM cy cy) (aM cy cy))) b_) aj) B.BV rfl yr (bL.d 3) (bL.g 3)))) (aC (aR gS)) cU))))))
  (aC (aR gS))))) xh
theorem o4:cp (KX w.params) mg "_law_is_space" "_law_is_space" eR ["_law_found","_law_wide"] 241 (Hd.fd eR "_law_is_space" "_law_is_space" dv 240):=Hd.mi e.X e.G (by kernel_rfl) fun _ _ _ _ _ _ _ _=>rfl
theorem vI:bz PW w (KX w.params) mg base cG 2 241 (Hd.fd eR "_law_is_space" "_law_is_space" dv 240) ["_law_found","_law_wide"] (cL kW):=by
 have B:=Bt e;have Q:=Qt e
 exact cn (N:=jc) (o4 e).fn oo (fun cdv A outer s H E hr=>(av (dU (kb (ll (g7 (fR (cY pM (aa (au.nm 0) (aa (tV B.c_ rfl cK (au.d 0) (au.g 0)) aj)) B.fv rfl fh (au.d 1) (au.g 1)))) (ll (cj tf (bI _) (cY fH (aa (au.nm 0) aj) B.fI rfl eP (au.d 2) (au.g 2)) ao) (nL (g7 (fR (cY pM (aa (aM (au.nm 0) ao) (aa (tV B.c_ rfl cK (au.d 0) (au.g 0)) aj)) B.fv rfl fh (au.d 1) (au.g 1)))))))) (aC (aR gS)) cU)
  (av (dU (kb (ll (g7 (fR (cY pM (aa (aM (au.nm 0) ao) (aa (tV B.rP rfl o6 (au.d 3) (au.g 3)) aj)) B.fv rfl fh (au.d 1) (au.g 1)))) (ll (fR (cY pM (aa (aM (au.nm 0) ao) (aa (tV B.Ck rfl z_ (au.d 4) (au.g 4)) aj)) B.fv rfl fh (au.d 1) (au.g 1))) (nL (cj tf (bI _) (aM (au.nm 0) ao) (au.nm 1)))))) (aC (aR gS)) cU)
  (av (gw (f6 (aM (au.nm 0) ao)) (dh oo.nd (by first|exact Or.inl rfl|exact Or.inr rfl) (by first|exact .inl rfl|exact .inr rfl)) (av (dU (kb (ll (g7 (fR (cY pM (aa (au.nm 2) (aa (tV B.c_ rfl cK (au.d 0) (au.g 0)) aj)) B.fv rfl fh (au.d 1) (au.g 1)))) (nL (cj tf (bI _) (cY fH (aa (au.nm 2) aj) B.fI rfl eP (au.d 2) (au.g 2)) (au.nm 1))))) (aC (aR gS)) cU)
  (aC (dU (g7 (fR (cY (Cc rfl) (aa (dQ (Nc:=["_law_one"]) (bj.look (ai eR) ["_law_found","_law_wide","_law_row"] (by decide+kernel)) (f6 (au.nm 2)) (fun _ _ _ _=>(dh (show(["_law_one"]:List Str).Nodup by decide+kernel) (by first|exact Or.inl rfl|exact Or.inr rfl) (by first|exact .inl rfl|exact .inr rfl))) (fun _ _ _ _=>cD) (fun _ _ _ _=>(A8 (cY pM (aa cy (aa (tV B.rP rfl o6 (by decide+kernel) rfl) aj)) B.fv rfl fh (by decide+kernel) rfl) (xM (AW (cY pM (aa cy (aa (tV B.Ck rfl z_ (by decide+kernel) rfl) aj)) B.fv rfl fh (by decide+kernel) rfl))))) b_) aj) B.BV rfl yr (au.d 5) (au.g 5)))) (aC (aR gS)) cU))))
  (aC (aR (bf (qJ e) (yD e) (hr.mono (by decide)) (aa (aM (au.nm 0) ao) aj) (au.d 6) (au.g 6)))))))) uN
theorem wM:cp (KX w.params) mg "_law_sum" "_law_sum" jR ["_law_weights","_law_rows_here","_law_wide"] 248 (Hd.fd jR "_law_sum" "_law_sum" dv 247):=Hd.wI e.X e.G (by kernel_rfl) fun _ _ _ _ _ _ _ _ _=>rfl
theorem Ec:bz PW w (KX w.params) mg base cG 1 248 (Hd.fd jR "_law_sum" "_law_sum" dv 247) ["_law_weights","_law_rows_here","_law_wide"] (cL qI):=by
 have B:=Bt e;have Q:=Qt e
 exact cn (N:=nZ) (wM e).fn mH (fun cdv A outer s H E hr=>(av (cu mH.nd (cM.l 3) (bo KJ (pS (aa ao aj)) (cM.nm 2)))
  (av (gw (xV (cM.g 0) B.xS (aa (cM.nm 0) (aa (cM.nm 1) aj))) (nO rfl mH.nd (by first|exact Or.inl rfl|exact Or.inr rfl) (by first|exact .inl rfl|exact .inr rfl) (by first|exact Or.inl rfl|exact Or.inr rfl) (by first|exact .inl rfl|exact .inr rfl)) (aC (gw (dE (cM.g 1) B.dO (aa (cM.nm 2) aj)) (dh mH.nd (by first|exact Or.inl rfl|exact Or.inr rfl) (by first|exact .inl rfl|exact .inr rfl)) (aC (eC (bo eX (aM (cM.nm 3) (cM.nm 6)) (bo gu (cM.nm 4) (aM (cM.nm 5) (cM.nm 6)))) (cM.nm 3) (cM.nm 6))))))
  (aC (aR (d8 dZ (aa (cM.nm 3) aj) B.c_ rfl cK (cM.d 2) (cM.g 2))))))) Ce
theorem v_:cp (KX w.params) mg "_law_two" "_law_two" gO ["_law_hand_here","_law_wide","_law_great"] 253 (Hd.fd gO "_law_two" "_law_two" dv 252):=Hd.wI e.X e.G (by kernel_rfl) fun _ _ _ _ _ _ _ _ _=>rfl
theorem Di:bz PW w (KX w.params) mg base cG 7 253 (Hd.fd gO "_law_two" "_law_two" dv 252) ["_law_hand_here","_law_wide","_law_great"] (cL qX):=by
 have B:=Bt e;have Q:=Qt e
 exact cn (N:=nR) (v_ e).fn fY (fun cdv A outer s H E hr=>(av (cu fY.nd (aw.l 3) (aM (pS (aa (bf (cS e) (c8 e) (hr.mono (by decide)) (aa (aw.nm 0) (aa (bo eX (aw.nm 1) ao) aj)) (aw.d 0) (aw.g 0)) (aa (bo eX ao (bf (cS e) (c8 e) (hr.mono (by decide)) (aa (aw.nm 0) (aa ao aj)) (aw.d 0) (aw.g 0))) aj))) (d8 xG (aa (aw.nm 2) aj) B.rP rfl o6 (aw.d 1) (aw.g 1))))
  (av (cu fY.nd (aw.l 4) (bf (pW e) (u4 e) (hr.mono (by decide)) (aa (aw.nm 0) (aa (aw.nm 3) (aa (aw.nm 1) aj))) (aw.d 2) (aw.g 2)))
  (av (cu fY.nd (aw.l 5) (d8 nu (aa (bf (pW e) (u4 e) (hr.mono (by decide)) (aa (aw.nm 0) (aa (aM (pS (aa (bf (cS e) (c8 e) (hr.mono (by decide)) (aa (aw.nm 0) (aa (bo eX (aw.nm 1) ao) aj)) (aw.d 0) (aw.g 0)) (aa ao aj))) (d8 xG (aa (aw.nm 2) aj) B.rP rfl o6 (aw.d 1) (aw.g 1))) (aa (aw.nm 1) aj))) (aw.d 2) (aw.g 2)) aj) B.kl rfl jh (aw.d 3) (aw.g 3)))
  (av (cu fY.nd (aw.l 6) (bf (cS e) (c8 e) (hr.mono (by decide)) (aa (aw.nm 0) (aa ao aj)) (aw.d 0) (aw.g 0)))
  (av (sd fY.nd (aw.l 7) (Nc:=["_law_j","_law_many"]) (bj.look (ai gO) ["_law_hand_here","_law_wide","_law_great","_law_many","_law_rows_here","_law_more","_law_way","_law_weights"] (by decide+kernel)) (dE (aw.g 4) B.dO (aa (aw.nm 3) aj)) (fun _ _ _ _=>(dh (show(["_law_j","_law_many"]:List Str).Nodup by decide+kernel) (by first|exact Or.inl rfl|exact Or.inr rfl) (by first|exact .inl rfl|exact .inr rfl))) (fun _ _ _ _=>cD) (fun _ _ _ _=>(dQ (Nc:=["_law_k","_law_j"]) (bj.Bw (by decide+kernel)) (dE rfl B.dO (aa cy aj)) (fun _ _ _ _=>(dh (show(["_law_k","_law_j"]:List Str).Nodup by decide+kernel) (by first|exact Or.inl rfl|exact Or.inr rfl) (by first|exact .inl rfl|exact .inr rfl))) (fun _ _ _ _=>cD) (fun _ _ _ _=>(bo gu (bo eX ao (bo oy cy ao)) (d8 xG (aa (xO (kn hr) (bI _) cy cy) aj) B.rP rfl o6 (by decide+kernel) rfl))) b_)) b_)
  (av (dU (cj (kn hr) (bI _) (aw.nm 6) ao) (aC (sd fY.nd (aw.l 7) (Nc:=["_law_j","_law_many","_law_hand_here"]) (bj.look (ai gO) ["_law_hand_here","_law_wide","_law_great","_law_many","_law_rows_here","_law_more","_law_way","_law_weights"] (by decide+kernel)) (dE (aw.g 4) B.dO (aa ao aj)) (fun _ _ _ _=>(dh (show(["_law_j","_law_many","_law_hand_here"]:List Str).Nodup by decide+kernel) (by first|exact Or.inl rfl|exact Or.inr rfl) (by first|exact .inl rfl|exact .inr rfl))) (fun _ _ _ _=>cD) (fun _ _ _ _=>(dQ (Nc:=["_law_k","_law_hand_here"]) (bj.Bw (by decide+kernel)) (dE rfl B.dO (aa cy aj)) (fun _ _ _ _=>(dh (show(["_law_k","_law_hand_here"]:List Str).Nodup by decide+kernel) (by first|exact Or.inl rfl|exact Or.inr rfl) (by first|exact .inl rfl|exact .inr rfl))) (fun _ _ _ _=>cD) (fun _ _ _ _=>(bo nY (bf (cS e) (c8 e) (hr.mono (by decide)) (aa cy (aa ao aj)) (by decide+kernel) rfl) ao)) b_)) b_)) cU)
  (av (dU (kb (rk (cj tK (bI _) (aw.nm 6) ao) (rO (cj tK (bI _) (aw.nm 3) ao)))) (aC (cu fY.nd (aw.l 5) (bo eX (hO (d8 nu (aa (bf (wN e) (CU e) (hr.mono (by decide)) (aa (aw.nm 7) (aa (aw.nm 4) aj)) (aw.d 5) (aw.g 5)) aj) B.kl rfl jh (aw.d 3) (aw.g 3)) ib (ij ao)) (hO (aw.nm 5) ib (ij (bo nY (aw.nm 6) ao)))))) cU)
  (aC (aR (fG (aa (bf (vN e) (AG e) (hr.mono (by decide)) (aa (aw.nm 1) (aa (aw.nm 4) aj)) (aw.d 6) (aw.g 6)) (aa (bf (vN e) (AG e) (hr.mono (by decide)) (aa (aw.nm 1) (aa (hO (aw.nm 5) ib (ij (bo nY ao (aw.nm 3)))) aj)) (aw.d 6) (aw.g 6)) aj))))))))))))) A7
theorem qE:cp (KX w.params) mg "_law_met" "_law_met" jU ["_law_other","_law_found","_law_row"] 260 (Hd.fd jU "_law_met" "_law_met" dv 259):=Hd.wI e.X e.G (by kernel_rfl) fun _ _ _ _ _ _ _ _ _=>rfl
theorem vX:bz PW w (KX w.params) mg base cG 3 260 (Hd.fd jU "_law_met" "_law_met" dv 259) ["_law_other","_law_found","_law_row"] (cL oh):=by
 have B:=Bt e;have Q:=Qt e;exact cn (N:=nW) (qE e).fn BN (fun cdv A outer s H E hr=>(aC (aR (Nz (AW (bf (nk e) (pE e) (hr.mono (by decide)) (aa (aM (gQ.nm 0) ao) (aa (gQ.nm 2) aj)) (gQ.d 0) (gQ.g 0))) (xM (bf (nk e) (pE e) (hr.mono (by decide)) (aa (aM (gQ.nm 1) ao) (aa (gQ.nm 2) aj)) (gQ.d 0) (gQ.g 0))))))) Bg
theorem kg:cp (KX w.params) mg "_law_times_met" "_law_times_met" eA ["_law_one","_law_other","_law_found"] 265 (Hd.fd eA "_law_times_met" "_law_times_met" dv 264):=Hd.wI e.X e.G (by kernel_rfl) fun _ _ _ _ _ _ _ _ _=>rfl
theorem ox:bz PW w (KX w.params) mg base cG 4 265 (Hd.fd eA "_law_times_met" "_law_times_met" dv 264) ["_law_one","_law_other","_law_found"] (cL iz):=by
 have B:=Bt e;have Q:=Qt e
 exact cn (N:=iK) (kg e).fn jL (fun cdv A outer s H E hr=>(av (gw (f6 (aM (c9.nm 0) ao)) (dh jL.nd (by first|exact Or.inl rfl|exact Or.inr rfl) (by first|exact .inl rfl|exact .inr rfl)) (aC (gw (ze (c9.g 0) B.dO (aa ao (aa ao aj))) (dh jL.nd (by first|exact Or.inl rfl|exact Or.inr rfl) (by first|exact .inl rfl|exact .inr rfl)) (aC (dU (g7 (fR (bf (qE e) (vX e) (hr.mono (by decide)) (aa (c9.nm 1) (aa (c9.nm 2) (aa (d8 dZ (aa (dQ (Nc:=["_law_number_here","_law_many"]) (bj.look (ai eA) ["_law_one","_law_other","_law_found","_law_row","_law_many"] (by decide+kernel)) (f6 (c9.nm 3)) (fun _ _ _ _=>(dh (show(["_law_number_here","_law_many"]:List Str).Nodup by decide+kernel) (by first|exact Or.inl rfl|exact Or.inr rfl) (by first|exact .inl rfl|exact .inr rfl))) (fun _ _ _ _=>cD) (fun _ _ _ _=>(bo gu cy cy)) b_) aj) B.c_ rfl cK (c9.d 1) (c9.g 1)) aj))) (c9.d 2) (c9.g 2)))) (aC (aR gS)) cU)))))
  (aC (aR gS)))) tE
theorem nv:cp (KX w.params) mg "_law_listed" "_law_listed" fy ["_law_one"] 270 (Hd.fd fy "_law_listed" "_law_listed" dv 269):=Hd.sE e.X e.G (by kernel_rfl) fun _ _ _ _ _ _ _=>rfl
theorem qv:bz PW w (KX w.params) mg base cG 1 270 (Hd.fd fy "_law_listed" "_law_listed" dv 269) ["_law_one"] (cL ki):=by
 have B:=Bt e;have Q:=Qt e;exact cn (N:=kq) (nv e).fn xj (fun cdv A outer s H E hr=>(aC (aR (pS (aa (aM (qA.nm 0) ao) (aa (dQ (Nc:=["_law_row"]) (bj.look (ai fy) ["_law_one"] (by decide+kernel)) (f6 (aM (qA.nm 0) ao)) (fun _ _ _ _=>(dh (show(["_law_row"]:List Str).Nodup by decide+kernel) (by first|exact Or.inl rfl|exact Or.inr rfl) (by first|exact .inl rfl|exact .inr rfl))) (fun _ _ _ _=>cD) (fun _ _ _ _=>(d8 nu (aa cy aj) B.kl rfl jh (by decide+kernel) rfl)) b_) aj)))))) xf
theorem Mf:cp (KX w.params) mg "law" "law" la ["_law_script"] 275 (Hd.fd la "law" "law" dv 274):=Hd.sE e.X e.G (by kernel_rfl) fun _ _ _ _ _ _ _=>rfl
theorem Mo:bz PW w (KX w.params) mg base cG 8 275 (Hd.fd la "law" "law" dv 274) ["_law_script"] (cL Gx):=by
 have B:=Bt e;have Q:=Qt e
 exact cn (N:=xC) (Mf e).fn nG (fun cdv A outer s H E hr=>(av (cu nG.nd (aI.l 1) (bf (uX e) (Bu e) (hr.mono (by decide)) (aa (aI.nm 0) aj) (aI.d 0) (aI.g 0)))
  (av (Ea (bf (sH e) (zS e) (hr.mono (by decide)) (aa (aI.nm 1) aj) (aI.d 1) (aI.g 1)) (nO rfl nG.nd (by first|exact Or.inl rfl|exact Or.inr rfl) (by first|exact .inl rfl|exact .inr rfl) (by first|exact Or.inl rfl|exact Or.inr rfl) (by first|exact .inl rfl|exact .inr rfl)))
  (av (Ea (bf (v_ e) (Di e) (hr.mono (by decide)) (aa (aI.nm 1) (aa (aI.nm 2) (aa (aI.nm 3) aj))) (aI.d 2) (aI.g 2)) (nO rfl nG.nd (by first|exact Or.inl rfl|exact Or.inr rfl) (by first|exact .inl rfl|exact .inr rfl) (by first|exact Or.inl rfl|exact Or.inr rfl) (by first|exact .inl rfl|exact .inr rfl)))
  (av (cu nG.nd (aI.l 6) (bf (i0 e) (jI e) (hr.mono (by decide)) (aa (aI.nm 4) (aa (aI.nm 5) aj)) (aI.d 3) (aI.g 3)))
  (av (dU (g7 (fR (bf (o4 e) (vI e) (hr.mono (by decide)) (aa (aI.nm 6) (aa (aI.nm 2) aj)) (aI.d 4) (aI.g 4)))) (aC (aR gS)) cU)
  (av (dU (g7 (fR (cY (Cc rfl) (aa (dQ (Nc:=["_law_row","_law_one","_law_other"]) (bj.look (ai la) ["_law_script","_law_hand_here","_law_wide","_law_great","_law_one","_law_other","_law_found","_law_turn","_law_row"] (by decide+kernel)) (f6 (aM (aI.nm 6) ao)) (fun _ _ _ _=>(dh (show(["_law_row","_law_one","_law_other"]:List Str).Nodup by decide+kernel) (by first|exact Or.inl rfl|exact Or.inr rfl) (by first|exact .inl rfl|exact .inr rfl))) (fun _ _ _ _=>cD) (fun _ _ _ _=>(A8 (bf (nk e) (pE e) (hr.mono (by decide)) (aa (aM cy ao) (aa cy aj)) (by decide+kernel) rfl) (xM (bf (nk e) (pE e) (hr.mono (by decide)) (aa (aM cy ao) (aa cy aj)) (by decide+kernel) rfl)))) b_) aj) B.BV rfl yr (aI.d 5) (aI.g 5)))) (aC (aR gS)) cU)
  (av (gw (dE (aI.g 6) B.dO (aa ao aj)) (dh nG.nd (by first|exact Or.inl rfl|exact Or.inr rfl) (by first|exact .inl rfl|exact .inr rfl)) (av (cu nG.nd (aI.l 8) (bf (wM e) (Ec e) (hr.mono (by decide)) (aa (dQ (Nc:=["_law_step","_law_hand_here"]) (bj.look (ai la) ["_law_script","_law_hand_here","_law_wide","_law_great","_law_one","_law_other","_law_found","_law_turn","_law_row"] (by decide+kernel)) (f6 (aM (aI.nm 4) ao)) (fun _ _ _ _=>(dh (show(["_law_step","_law_hand_here"]:List Str).Nodup by decide+kernel) (by first|exact Or.inl rfl|exact Or.inr rfl) (by first|exact .inl rfl|exact .inr rfl))) (fun _ _ _ _=>cD) (fun _ _ _ _=>(bo nY (bf (cS e) (c8 e) (hr.mono (by decide)) (aa cy (aa ao aj)) (by decide+kernel) rfl) ao)) b_) (aa (aM (aI.nm 4) ao) (aa (aI.nm 2) aj))) (aI.d 7) (aI.g 7)))
  (aC (dU (g7 (fR (bf (qE e) (vX e) (hr.mono (by decide)) (aa (aI.nm 5) (aa (aI.nm 6) (aa (aI.nm 8) aj))) (aI.d 8) (aI.g 8)))) (aC (aR gS)) cU))))
  (av (dU (kb (ll (g7 (fR (bf (kg e) (ox e) (hr.mono (by decide)) (aa (aI.nm 4) (aa (aI.nm 5) (aa (aI.nm 6) aj))) (aI.d 9) (aI.g 9)))) (nL (g7 (fR (bf (kg e) (ox e) (hr.mono (by decide)) (aa (aI.nm 5) (aa (aI.nm 4) (aa (aI.nm 6) aj))) (aI.d 9) (aI.g 9))))))) (aC (aR gS)) cU)
  (av (dU (kb (ll (cj (xJ hr) (bI _) (bf (i0 e) (jI e) (hr.mono (by decide)) (aa (bf (nv e) (qv e) (hr.mono (by decide)) (aa (aI.nm 4) aj) (aI.d 10) (aI.g 10)) (aa (aI.nm 5) aj)) (aI.d 3) (aI.g 3)) (aI.nm 6)) (nL (cj (xJ hr) (bI _) (bf (i0 e) (jI e) (hr.mono (by decide)) (aa (aI.nm 4) (aa (bf (nv e) (qv e) (hr.mono (by decide)) (aa (aI.nm 5) aj) (aI.d 10) (aI.g 10)) aj)) (aI.d 3) (aI.g 3)) (aI.nm 6))))) (aC (aR gS)) cU)
  (av (dU (kb (ll (cj (xJ hr) (bI _) (bf (i0 e) (jI e) (hr.mono (by decide)) (aa (aI.nm 5) (aa (aI.nm 4) aj)) (aI.d 3) (aI.g 3)) (aI.nm 6)) (nL (cj (xJ hr) (bI _) (bf (i0 e) (jI e) (hr.mono (by decide)) (aa (aI.nm 4) (aa (aI.nm 4) aj)) (aI.d 3) (aI.g 3)) (aI.nm 4))))) (aC (aR gS)) cU)
  (aC (aR (A8 (xO (kn hr) (bI _) (bf (i0 e) (jI e) (hr.mono (by decide)) (aa (aI.nm 4) (aa (fG (aa (aI.nm 2) (aa (fG aj) aj))) aj)) (aI.d 3) (aI.g 3)) (fG (aa (aI.nm 2) (aa (fG aj) aj)))) (xM (xO (kn hr) (bI _) (bf (i0 e) (jI e) (hr.mono (by decide)) (aa (fG (aa (aI.nm 2) (aa (fG aj) aj))) (aa (aI.nm 4) aj)) (aI.d 3) (aI.g 3)) (fG (aa (aI.nm 2) (aa (fG aj) aj))))))))))))))))))) Kh
end
def dL:DefRec:=match la with
 | .FunctionDef n a b _ _ _ sc _ _ pos=>⟨n,a,b,sc,pos⟩
 |_=>⟨"",L2.jj (.Pass ⟨0,0,0,0⟩),[],L2.ai (.Pass ⟨0,0,0,0⟩),⟨0,0,0,0⟩⟩
theorem FA:PySem.Challenge.rw_latticeworks_k63_spaces_shared.wellSaid=true:=by decide+kernel
end Row
open PySem PySem.W PyProof.Rows
set_option maxRecDepth 100000 in
set_option maxHeartbeats 0 in
theorem PySem.Challenge.cw_latticeworks_k63_spaces_shared_holds : PySem.Challenge.rw_latticeworks_k63_spaces_shared.Holds := by
 refine PySem.W.holds_law Row.FA fun FA=>?_;refine PySem.W.holds_open (r:=PySem.Challenge.rw_latticeworks_k63_spaces_shared.row) (q:=PySem.W.view Row.PW [1,2,3,4,5,6,7,8,9,11,12,13,14,15,16,18,19,20,21,22,24,25,26,27,28,29,30,31,32,33,34,35,36,37,38]) (loose:=[]) (Xt:=fun _=>true) (XP:=fun _ _=>True) (YP:=(PySem.W.kmHook Row.KX Row.KA (fun _=>rfl) [124]).says) (d:=Row.dL) (kwd:=[]) Row.left ((PySem.W.kmHook Row.KX Row.KA (fun _=>rfl) [124]).of) ((PySem.W.kmHook Row.KX Row.KA (fun _=>rfl) [124]).keeps) (fun _ _=>trivial) (fun _ _ _ _ _=>trivial) (by kernel_rfl) (by kernel_rfl) (by kernel_rfl) (fun s _=>PySem.W.recFacts_of (R:=[]) rfl) (by kernel_rfl) FA (by decide+kernel) ⟨rfl,rfl,rfl,rfl,rfl,by decide+kernel⟩ ?hw ?hc;case hw=>w_witness2
 refine L2.K2 (n:=63) (k:=8) (x:="_law_script") (ts:=[(126,124)]) (K:=Row.KX) (sp:=fun w=>L3.Cq (Row.KX w.params) [(126,124)]) rfl (by decide) (by kernel_rfl) ⟨rfl,by decide,by decide⟩ (by kernel_rfl) rfl (fun w h Y=>⟨PySem.W.km_in_of Y,⟨(fun q hq=>by rcases List.mem_cons.mp hq with rfl|hq;kernel_rfl;cases hq),(fun q hq=>by rcases List.mem_cons.mp hq with rfl|hq;kernel_rfl;cases hq),fun q hq=>PySem.W.km_tabs_of Y _ (List.mem_map_of_mem (f:=Prod.snd) hq)⟩⟩) ?F fun _ _ a ns hl hE=>⟨a,ns,rfl,hE,hl,fun _=>rfl⟩
 intro w mg fa h X G hmg;have e2:=hmg.symm.trans (PySem.W.mg_of (v:= .ref 275) X G (by kernel_rfl));cases e2;exact⟨Hd.fd Row.la "law" "law" Row.dv 274,fun s v=> .of_eq rfl,fun base _ _=>(Row.Mo ⟨X,G⟩).imp fun vs H Q E h=>L3.Dc (tl:=[(124,⟨63,32,63,66⟩,"Bench.live_rows.<locals>.<lambda>")]) (by kernel_rfl) rfl (by decide) h⟩
