import PyProof.Rows.All
import Wide.All
import OpenK.AllK
import Wide.FinOn
import Lean
import PyProof.EqAt
import PyProof.EqKinds
import PyProof.TupleCall
import PyProof.NeKinds
import KE.KUnpack
import PySem.Challenge.RW_latticeworks_k23_whole_numbers_stay
set_option Elab.async false
set_option linter.all false
set_option maxRecDepth 100000
namespace L2
open PySem PySem.Spec PyProof.Rows
abbrev Key:=Sum Int Str
def FL:Key->Value->Bool
 | .inl k,v=>Value.isInt k v
 | .inr x,v=>Value.isStrOf x v
def NL(w:World):Key->Int
 | .inl k=>hashInt k
 | .inr x=>hashStr w x
theorem fi:∀ {k:Key} {v:Value},FL k v=true->(∃i t,k=Sum.inl i/\v=Value.int i t)\/(∃x t,k=Sum.inr x/\v=Value.str x t)
 | .inl i,v,h=>by
   obtain⟨t,e⟩:=Value.isInt_shape (k:=i) (v:=v) h;exact .inl ⟨i,t,rfl,e⟩
 | .inr x,v,h=>by
   obtain⟨t,e⟩:=Value.isStrOf_shape (x:=x) (v:=v) h;exact .inr ⟨x,t,rfl,e⟩
theorem Jw(a b:Int):decide ((Sum.inl a:Key)=Sum.inl b)=(a==b):=by
 by_cases e:a=b
 . subst e;simp
 . have h:¬(Sum.inl a:Key)=Sum.inl b:=fun q=>e (Sum.inl.inj q);rw[decide_eq_false h];exact(beq_eq_false_iff_ne.mpr e).symm
theorem IJ(a b:Str):decide ((Sum.inr a:Key)=Sum.inr b)=decide (a=b):=by
 by_cases e:a=b
 . subst e;simp
 . have h:¬(Sum.inr a:Key)=Sum.inr b:=fun q=>e (Sum.inr.inj q);rw[decide_eq_false h,decide_eq_false e]
theorem HZ(a:Int)(b:Str):decide ((Sum.inl a:Key)=Sum.inr b)=false:=decide_eq_false (fun q=>nomatch q)
theorem Ip(a:Str)(b:Int):decide ((Sum.inr a:Key)=Sum.inl b)=false:=decide_eq_false (fun q=>nomatch q)
def zE(prog:Program)(w:World):PySem.KeyKind prog w Key where
 is:=FL
 hash:=NL w
 inj:=fun v a b ha hb=>by
  rcases fi ha with⟨i,t,rfl,rfl⟩|⟨x,t,rfl,rfl⟩
  . rcases fi hb with⟨j,u,rfl,e⟩|⟨y,u,rfl,e⟩
    . injection e with e1 _;rw[e1]
    . exact nomatch e
  . rcases fi hb with⟨j,u,rfl,e⟩|⟨y,u,rfl,e⟩
    . exact nomatch e
    . injection e with e1 _;rw[e1]
 byValue:=fun k v h=>by
  rcases fi h with⟨i,t,rfl,rfl⟩|⟨x,t,rfl,rfl⟩<;>rfl
 pyHash:=fun hv h=>by
  rcases fi hv with⟨i,t,rfl,rfl⟩|⟨x,t,rfl,rfl⟩
  . exact wpAny_pyHash_int h
  . exact wpAny_pyHash_str h
 eqBool:=fun hu hv h=>by
  rcases fi hu with⟨i,t,rfl,rfl⟩|⟨x,t,rfl,rfl⟩
  . rcases fi hv with⟨j,u,rfl,rfl⟩|⟨y,u,rfl,rfl⟩
    . rw[Jw]at h;exact wpAny_eqBool_int h
    . rw[HZ]at h;exact SeqAt.EqAt.int_str i t y u _ _ _ _ h
  . rcases fi hv with⟨j,u,rfl,rfl⟩|⟨y,u,rfl,rfl⟩
    . rw[Ip]at h;exact SeqAt.EqAt.str_int x t j u _ _ _ _ h
    . rw[IJ]at h;exact wpAny_eqBool_str h
 «strs» :=fun k x t v h=>by
  rcases fi h with⟨i,u,rfl,e⟩|⟨y,u,rfl,e⟩
  . exact nomatch e
  . injection e with e1 _;subst e1;cases v<;>rfl
inductive V where
 |aM|bl (b:Bool)|int (i:Int)|str (x:Str)|tG (b:Array UInt8)|Fi (b:UInt64)|ref (a:Addr)|ty (n:String)
 deriving DecidableEq
def RelV:V->Value->Prop
 | .aM,u=>u=Value.none
 | .bl b,u=>u=Value.bool b
 | .int i,u=>∃t,u=Value.int i t
 | .str x,u=>∃t,u=Value.str x t
 | .tG b,u=>∃t,u=Value.bytes b t
 | .Fi b,u=>∃t,u=Value.float b t
 | .ref a,u=>u=Value.ref a
 | .ty n,u=>u=Value.type n
abbrev Vals:List V->List Value->Prop:=Paired RelV
theorem Vals.length{xs:List V}{us:List Value}(r:Vals xs us):xs.length=us.length:=Paired.length r
theorem Vals.get:∀ {xs:List V} {us:List Value} {i:Nat} {x:V},Vals xs us->xs[i]?=some x->∃u,us[i]?=some u/\RelV x u
 |_,_,_,_,.nil,e=>by simp at e
 |_,_,0,_,.cons r _,e=>by simp at e;subst e;exact⟨_,rfl,r⟩
 |_,_,i+1,x,.cons _ t,e=>by
  obtain⟨u,h1,h2⟩:=Vals.get (i:=i) (x:=x) t (by simpa using e);exact⟨u,by simpa using h1,h2⟩
theorem Vals.set{x:V}{u:Value}(r:RelV x u):∀ {xs:List V} {us:List Value} (i:Nat),Vals xs us->Vals (xs.set i x) (us.set i u)
 |_,_,_,.nil=> .nil
 |_,_,0,.cons _ t=> .cons r t
 |_,_,i+1,.cons q t=> .cons q (Vals.set r i t)
theorem Vals.append:∀ {xs ys:List V} {us ws:List Value},Vals xs us->Vals ys ws->Vals (xs++ys) (us++ws)
 |_,_,_,_,.nil,s=>s
 |_,_,_,_,.cons r t,s=> .cons r (Vals.append t s)
theorem Vals.take:∀ {xs:List V} {us:List Value} (n:Nat),Vals xs us->Vals (xs.take n) (us.take n)
 |_,_,0,_=> .nil
 |_,_,_+1,.nil=> .nil
 |_,_,n+1,.cons r t=> .cons r (Vals.take n t)
theorem Vals.drop:∀ {xs:List V} {us:List Value} (n:Nat),Vals xs us->Vals (xs.drop n) (us.drop n)
 |_,_,0,r=>r
 |_,_,_+1,.nil=> .nil
 |_,_,n+1,.cons _ t=>Vals.drop n t
def oE:Option V->Option Value->Prop
 |some v,some u=>RelV v u
 |none,none=>True
 |_,_=>False
def KV{κ:Type}:List (κ×V)->List (κ×Value)->Prop:=Paired fun(p:κ×V) (q:κ×Value)=>p.1=q.1/\RelV p.2 q.2
def kV:Key->V
 | .inl i=> .int i
 | .inr x=> .str x
inductive HO where
 |lst (xs:List V)
 |tup (xs:List V)
 |dK (kvs:List (Key×V))|dT (kvs:List (List Key×V))
 |set (S:Int->Bool) (n:Nat)
 |ins (C dx:Addr) (fs:List (Str×V))
 |own (x:Addr)
 |xd (fs:List (Str×V))
 |met (f x:Addr)
 |IQ (lo hi:Int)
 |ig (o:Obj) (u:HO)
 |ky (ps:Array Value)
 |ext (φ:Heap->Prop)
abbrev Hp:=Addr->Option HO
def upd(H:Hp)(a:Addr)(o:HO):Hp:=fun b=>if b=a then some o else H b
theorem aV{H:Hp}{a:Addr}{o:HO}:upd H a o a=some o:=by unfold upd;rw[if_pos rfl]
theorem ax{H:Hp}{a b:Addr}{o:HO}(h:b≠a):upd H a o b=H b:=by unfold upd;rw[if_neg h]
theorem Hl{H:Hp}{a:Addr}{o u:HO}:upd (upd H a o) a u=upd H a u:=by
 funext b;unfold upd;split<;>rfl
theorem dA{H:Hp}{a b:Addr}{o:HO}(h:H a=some o)(h':H b=none):a≠b:=by
 intro e;subst e;rw[h]at h';cases h'
section
variable (P:Program)(w:World)
def gd(H:Hp)(h:Heap)(a:Addr):HO->Prop
 | .lst xs=>xs.length<=sizeLine/\∃(its:List Value) (n:Nat),Vals xs its/\h.get? a=some {cls:= .type "list",data:= .seq its.toArray n}
 | .tup xs=>xs.length<=sizeLine/\∃its:List Value,Vals xs its/\IsTup h a its.toArray
 | .dK kvs=>kvs.length<=sizeLine/\(a==sysModules)=false/\∃vs,KV kvs vs/\h.DictOf (zE P w) a vs
 | .dT kvs=>kvs.length<=sizeLine/\(a==sysModules)=false/\∃xs:List (List Key×Addr×Value),
    Paired (fun(p:List Key×V) (q:List Key×Addr×Value)=>p.1=q.1/\H q.2.1=some (.tup (p.1.map kV))/\RelV p.2 q.2.2) kvs xs/\
    ∃o es ep,h.get? a=some o/\o.ExactDict/\o.data= .dict es ep/\es.toList=xs.map (entryOfKey (tupleKind (zE P w)))/\(xs.map (·.1)).Nodup
 | .set S n=>h.SetOf (intKind P w) a S n
 | .ins C dx fs=>H dx=some (.own a)/\fs.length<=1000/\dx≠a/\h.get? a=some (PySem.W.instObj C dx)/\
    ∃mA,h.Ns1 dx mA/\(∀f,oE (fs.lookup f) (mA f))/\PySem.Within mA (fs.map (·.1))
 | .own _=>∃o,h.get? a=some o
 | .xd fs=>∃mA,h.Ns1 a mA/\∀f,oE (fs.lookup f) (mA f)
 | .IQ lo hi=>∃t u v,h.get? a=some {cls:= .type "range",data:= .fields #[.int lo t,.int hi u,.int 1 v]}
 | .ig o u=>h.get? a=some o/\gd H h a u
 | .ky ps=>h.get? a=some {cls:= .none,data:= .fields ps}
 | .met f x=>h.get? a=some (PySem.W.methodObj (.ref f) (.ref x))
 | .ext φ=>φ h/\(∃o,h.get? a=some o)/\∀h1 h2:Heap,φ h1->(∀o,h1.get? a=some o->h2.get? a=some o)->φ h2
def iJ(H:Hp)(h:Heap):Prop:=∀a o,H a=some o->gd P w H h a o
end
section
variable {P:Program}{w:World}{H H':Hp}{h h':Heap}{a:Addr}{o:HO}
theorem gd.lt(x:gd P w H h a o):a<h.objs.size:=by
 cases o with
 |lst xs=>obtain⟨_,_,_,_,e⟩:=x;exact Heap.lt_size e
 |tup xs=>obtain⟨_,_,_,p⟩:=x;exact p.lt
 |dK kvs=>obtain⟨_,_,_,_,o,_,_,e,_⟩:=x;exact Heap.lt_size e
 |dT kvs=>obtain⟨_,_,_,_,o,_,_,e,_⟩:=x;exact Heap.lt_size e
 |set S n=>obtain⟨o,_,_,_,e,_⟩:=x;exact Heap.lt_size e
 |ins C dx fs=>obtain⟨_,_,_,e,_⟩:=x;exact Heap.lt_size e
 |own y=>obtain⟨_,e⟩:=x;exact Heap.lt_size e
 |xd fs=>obtain⟨_,⟨_,_,_,e,_⟩,_⟩:=x;exact Heap.lt_size e
 |IQ lo hi=>obtain⟨_,_,_,e⟩:=x;exact Heap.lt_size e
 |ig ob u=>obtain⟨e,_⟩:=x;exact Heap.lt_size e
 |ky ps=>exact Heap.lt_size (show h.get? a=some _ from x)
 |met f y=>exact Heap.lt_size (show h.get? a=some _ from x)
 |ext φ=>obtain⟨_,⟨_,e⟩,_⟩:=x;exact Heap.lt_size e
theorem Paired.Ej{α β:Type}{F G:α->β->Prop}:∀ {l₁:List α} {l₂:List β},Paired F l₁ l₂->(∀a b,F a b->G a b)->Paired G l₁ l₂
 |_,_,.nil,_=> .nil
 |_,_,.cons r t,f=> .cons (f _ _ r) (Paired.Ej t f)
theorem gd.oG(x:gd P w H h a o)(k:∀b u,(b=a\/H b=some (.own a))->h.get? b=some u->h'.get? b=some u)
 (ho:∀b,H b=some (.own a)->H' b=some (.own a)) (ht:∀b xs,H b=some (.tup xs)->H' b=some (.tup xs)):gd P w H' h' a o:=by
 induction o with
 |lst xs=>obtain⟨z,its,n,r,e⟩:=x;exact⟨z,its,n,r,k _ _ (.inl rfl) e⟩
 |tup xs=>obtain⟨z,its,r,ob,e,c⟩:=x;exact⟨z,its,r,ob,k _ _ (.inl rfl) e,c⟩
 |dK kvs=>obtain⟨z,y,vs,r,ob,es,ep,e,c⟩:=x;exact⟨z,y,vs,r,ob,es,ep,k _ _ (.inl rfl) e,c⟩
 |dT kvs=>
  obtain⟨z,y,xs,r,ob,es,ep,e,c⟩:=x;exact⟨z,y,xs,Paired.Ej r fun p q z=>⟨z.1,ht _ _ z.2.1,z.2.2⟩,ob,es,ep,k _ _ (.inl rfl) e,c⟩
 |set S n=>obtain⟨ob,es,ep,t,e,c⟩:=x;exact⟨ob,es,ep,t,k _ _ (.inl rfl) e,c⟩
 |ins C dx fs=>
  obtain⟨d,z,ne,e,mA,⟨od,es,ep,e2,c⟩,r⟩:=x;exact⟨ho _ d,z,ne,k _ _ (.inl rfl) e,mA,⟨od,es,ep,k _ _ (.inr d) e2,c⟩,r⟩
 |own y=>obtain⟨ob,e⟩:=x;exact⟨ob,k _ _ (.inl rfl) e⟩
 |xd fs=>obtain⟨mA,⟨od,es,ep,e,c⟩,r⟩:=x;exact⟨mA,⟨od,es,ep,k _ _ (.inl rfl) e,c⟩,r⟩
 |IQ lo hi=>obtain⟨t,u,v,e⟩:=x;exact⟨t,u,v,k _ _ (.inl rfl) e⟩
 |ig ob u ih=>obtain⟨e,q⟩:=x;exact⟨k _ _ (.inl rfl) e,ih q⟩
 |ky ps=>
  have e:h.get? a=some {cls:= .none,data:= .fields ps}:=x;show h'.get? a=some {cls:= .none,data:= .fields ps};exact k a _ (.inl rfl) e
 |met f y=>
  have e:h.get? a=some (PySem.W.methodObj (.ref f) (.ref y)):=x;show h'.get? a=some (PySem.W.methodObj (.ref f) (.ref y));exact k a _ (.inl rfl) e
 |ext φ=>obtain⟨p,⟨o,e⟩,st⟩:=x;exact⟨st _ _ p fun o q=>k _ _ (.inl rfl) q,⟨o,k _ _ (.inl rfl) e⟩,st⟩
theorem iJ.lt(x:iJ P w H h)(e:H a=some o):a<h.objs.size:=(x a o e).lt
theorem iJ.fresh(x:iJ P w H h)(e:h.objs.size<=a):H a=none:=by
 cases q:H a with
 |none=>rfl
 |some u=>exact absurd (Nat.lt_of_lt_of_le (x.lt q) e) (Nat.lt_irrefl _)
theorem iJ.kept(x:iJ P w H h)(k:∀b u,h.get? b=some u->h'.get? b=some u):iJ P w H h':=fun a o e=>
 (x a o e).oG (fun b u _ q=>k b u q) (fun _ q=>q) fun _ _ q=>q
theorem iJ.laid(x:iJ P w H h)(k:∀b u,h.get? b=some u->h'.get? b=some u)(hp:h.objs.size<=a)(new:gd P w (upd H a o) h' a o):iJ P w (upd H a o) h':=fun b u e=>by
 have hn:=x.fresh hp;by_cases hb:b=a
 . subst hb;rw[aV]at e;cases e;exact new
 . rw[ax hb]at e;exact(x b u e).oG (fun c v _ q=>k c v q) (fun c q=>by rw[ax (dA q hn)];exact q) fun c xs q=>by rw[ax (dA q hn)];exact q
end
def Rd(H:Hp)(a:Addr)(u:HO):Prop:=H a=some u\/∃o,H a=some (.ig o u)
theorem Rd.of{H:Hp}{a:Addr}{u:HO}(h:H a=some u):Rd H a u:= .inl h
theorem Rd.ok{P:Program}{w:World}{H:Hp}{h:Heap}{a:Addr}{u:HO}(r:Rd H a u)(x:iJ P w H h):gd P w H h a u:=by
 rcases r with r|⟨o,r⟩
 . exact x a u r
 . obtain⟨_,q⟩:=x a _ r;exact q
def Fp:Option HO->Prop
 |some (.lst _)=>True
 |some (.dK _)=>True
 |some (.dT _)=>True
 |some (.set _ _)=>True
 |some (.ins _ _ _)=>True
 |some (.ext _)=>True
 |_=>False
section
variable {P:Program}{w:World}{H:Hp}{h h':Heap}{x e:Addr}{o':HO}
theorem iJ.write(ok:iJ P w H h)(mu:Fp (H x))(he:e=x\/H e=some (.own x))(k:∀b u,b≠e->h.get? b=some u->h'.get? b=some u)(heo:∃u,h'.get? e=some u)
 (new:gd P w (upd H x o') h' x o'):iJ P w (upd H x o') h':=fun b u q=>by
 have nown:∀c y,H c=some (.own y)->c≠x:=fun c y r z=>by subst z;rw[r]at mu;exact mu
 have ntup:∀c xs,H c=some (.tup xs)->c≠x:=fun c xs r z=>by subst z;rw[r]at mu;exact mu
 by_cases hb:b=x
 . subst hb;rw[aV]at q;cases q;exact new
 . rw[ax hb]at q;by_cases hbe:b=e
   . have q':H b=some (.own x):=by
      rcases he with z|z
      . exact absurd (hbe.trans z) hb
      . rw[hbe];exact z
     rw[q]at q';cases q';obtain⟨v,hv⟩:=heo;exact⟨v,by rw[hbe];exact hv⟩
   . refine(ok b u q).oG (fun c v hc r=>k c v ?_ r) (fun c r=>by rw[ax (nown c b r)];exact r) fun c xs r=>by rw[ax (ntup c xs r)];exact r
     rcases hc with rfl|hc
     . exact hbe
     . rintro rfl;rcases he with z|z
       . exact nown c b hc z
       . rw[hc]at z;cases z;exact hb rfl
end
structure Un(fs ex:List Addr)(H H':Hp)(h h':Heap):Prop where
 keep:∀b o,h.get? b=some o->H b=none->b∉fs->b∉ex->h'.get? b=some o
 slot:∀b o,h.get? b=some o->H b=none->b∈fs->b∉ex->∃sl,h'.get? b=some {o with slots:=sl}
 free:∀b o,h.get? b=some o->H b=none->b∉ex->H' b=none
 there:∀b o,h.get? b=some o->b∉ex->∃o',h'.get? b=some o'
 oN:∀b xs,H b=some (.tup xs)->H' b=some (.tup xs)
 nG:∀b o u,H b=some (.ig o u)->H' b=some (.ig o u)
 nC:∀b ps,H b=some (.ky ps)->∃more,H' b=some (.ky (ps++more))
section
variable {fs fs' ex ex':List Addr}{H H1 H2:Hp}{h h1 h2 h':Heap}{a x e:Addr}{o:HO}
theorem Un.any(u:Un fs ex H H1 h h1){b:Addr}{ob:Obj}(q:h.get? b=some ob)(n:H b=none)(hx:b∉ex):∃sl,h1.get? b=some {ob with slots:=sl}:=by
 by_cases hb:b∈fs
 . exact u.slot b ob q n hb hx
 . exact⟨ob.slots,u.keep b ob q n hb hx⟩
theorem Un.kept(k:∀b u,h.get? b=some u->h'.get? b=some u):Un fs ex H H h h':=
 ⟨fun b ob q _ _ _=>k b ob q,fun b ob q _ _ _=>⟨ob.slots,k b ob q⟩,fun _ _ _ n _=>n,fun b ob q _=>⟨ob,k b ob q⟩,fun _ _ q=>q,fun _ _ _ q=>q,fun _ ps q=>⟨#[],by rw[q];simp⟩⟩
theorem Un.refl:Un fs ex H H h h:=Un.kept fun _ _ q=>q
theorem Un.laid(k:∀b u,h.get? b=some u->h'.get? b=some u)(hp:h.objs.size<=a)(hn:H a=none):Un fs ex H (upd H a o) h h' where
 keep:=fun b u q _ _ _=>k b u q
 slot:=fun b u q _ _ _=>⟨u.slots,k b u q⟩
 free:=fun b u q n _=>by rw[ax (Nat.ne_of_lt (Nat.lt_of_lt_of_le (Heap.lt_size q) hp))];exact n
 there:=fun b u q _=>⟨u,k b u q⟩
 oN:=fun b xs q=>by rw[ax (dA q hn)];exact q
 nG:=fun b u xs q=>by rw[ax (dA q hn)];exact q
 nC:=fun b ps q=>⟨#[],by rw[ax (dA q hn),q];simp⟩
theorem Un.write(mu:Fp (H x))(he:e=x\/H e=some (.own x))(k:∀b u,b≠e->h.get? b=some u->h'.get? b=some u)(heo:∃u,h'.get? e=some u):Un fs ex H (upd H x o) h h':=by
 have hx:∀b,H b=none->b≠x:=fun b n z=>by subst z;rw[n]at mu;exact mu
 have hb:∀b,H b=none->b≠e:=fun b n z=>by
  subst z;rcases he with r|r
  . exact hx b n r
  . rw[n]at r;cases r
 have hm:∀b u,H b=some u->¬Fp (some u)->b≠x:=fun b u q nm z=>by subst z;rw[q]at mu;exact nm mu
 refine⟨fun b u q n _ _=>k b u (hb b n) q,fun b u q n _ _=>⟨u.slots,k b u (hb b n) q⟩,fun b u q n _=>by rw[ax (hx b n)];exact n,fun b u q _=>?_,
  fun b xs q=>by rw[ax (hm b _ q fun z=>z)];exact q,fun b u xs q=>by rw[ax (hm b _ q fun z=>z)];exact q,fun b ps q=>⟨#[],by rw[ax (hm b _ q fun z=>z),q];simp⟩⟩
 by_cases hbe:b=e
 . subst hbe;exact heo
 . exact⟨u,k b u hbe q⟩
end
def Fq(h:Heap)(H:Hp):List Addr:=(List.range h.objs.size).filter fun a=>(H a).isSome
def oK(h:Heap)(H:Hp):Heap:=PySem.W.hideAll h (Fq h H)
theorem Cs(h:Heap)(H:Hp):(oK h H).objs.size=h.objs.size:=PySem.W.hideAll_size _ _
theorem pM{h:Heap}{H:Hp}{b:Addr}{o:Obj}(e:h.get? b=some o)(n:H b=none):(oK h H).get? b=some o:=
 PySem.W.hideAll_get _ e fun hm=>by
  have q:(H b).isSome=true:=(List.mem_filter.mp hm).2;rw[n]at q;simp at q
theorem HB{h:Heap}{H:Hp}{b:Addr}{o:Obj}(e:(oK h H).get? b=some o):h.get? b=some o/\H b=none:=by
 have e':h.get? b=some o:=PySem.W.of_hideAll (Fq h H) e;refine⟨e',?_⟩;cases q:H b with
 |none=>rfl
 |some x=>
  have hm:b∈Fq h H:=List.mem_filter.mpr ⟨List.mem_range.mpr (Heap.lt_size e'),by simp[q]⟩;have z:(oK h H).get? b=none:=PySem.W.hideAll_none (Fq h H) hm;rw[z]at e;cases e
def GG(g h:Heap)(L:Addr):List (Addr×Obj):=(List.range h.objs.size).filterMap fun a=>if a=L\/(g.get? a).isSome=true then none else(h.get? a).map fun o=>(a,o)
def rest(g h:Heap)(L d:Addr):List (Addr×Obj):=(GG g h L).filter fun p=>decide (p.1≠d)
structure Mod(K:PySem.W.Frag)(mg:Str->Option Value)(base:Heap):Prop where
 Df:K.In base
 glob:base.Ns mainGlobals mg
 blt:∃mb,base.Ns builtinsNs mb/\∀x:Str,x≠"__name__"->mb x=bootBuiltins x
 nolimit:base.NoLimit
 seer:base.NoSeer
 bmain:∃bm ob,mg "__builtins__"=some (.ref bm)/\bm≠builtinsNs/\base.get? bm=some ob/\ob.cls= .type "module"/\ob.dict=some builtinsNs/\ob.data= .plain
structure Cx where
 prog:Program
 w:World
 K:PySem.W.Frag
 mg:Str->Option Value
 base:Heap
 A:Around
 N:List Str
 s₀:Shared
 H₀:Hp
 env:Env
 outer:List Env
 stack:List Env
 ex:List Addr
 fn:Str->Bool
 calm:Bool
 pn:List (Addr×Obj)
 xe:Value->Shared->Prop
def oQ(l:List Env):List Addr:=l.filterMap (·.frame)
abbrev Cx.fs(X:Cx):List Addr:=oQ X.outer
def yQ(sc:Scope)(x:Str):Prop:=sc.names.lookup x=some .local\/sc.names.lookup x=some .cell\/sc.names.lookup x=some .free
def Loc(sc:Scope)(x:Str):Prop:=sc.names.lookup x=some .local\/sc.names.lookup x=some .cell
def Look(env:Env)(h:Heap)(m:Str->Option Value)(x:Str)(u:Value):Prop:=
 (env.kindOf x=some .local/\m x=some u)\/((env.kindOf x=some .cell\/env.kindOf x=some .free)/\∃c,env.cells.lookup x=some c/\h.IsCell c (some u))
structure Cx.Ok(X:Cx):Prop where
 mod:Mod X.K X.mg X.base
 kind:X.env.scope.kind= .function
 glob:X.env.globals=mainGlobals
 blt:X.env.builtins=builtinsNs
 above:X.s₀.heap.objs.size<=X.env.locals
 inj:∀x y c,X.env.cells.lookup x=some c->X.env.cells.lookup y=some c->x=y
 has:∀x,(X.env.kindOf x=some .cell\/X.env.kindOf x=some .free)->∃c,X.env.cells.lookup x=some c
 yv:∀x c,X.fn x=true->X.env.cells.lookup x=some c->X.s₀.heap.objs.size<=c
 hd:X.calm=true->X.A.handled=none
 frames:X.A.frames=some X.stack
 Al:X.stack=X.outer\/(X.stack=X.env::X.outer/\X.env.frame=some X.env.locals)
 Dc:∀b∈X.ex,b≠X.env.locals/\∀x c,X.env.cells.lookup x=some c->c≠b
 bs:∀b o,X.base.get? b=some o->X.s₀.heap.get? b=some o/\X.H₀ b=none
 rp:X.base.objs.size<=X.s₀.heap.objs.size
 tK:∀b o,X.base.get? b=some o->b∉X.ex
 ud:∀b∈X.ex,b∉X.fs
 kX:X.s₀.heap.FunFrames X.base X.outer
 uD:∀b∈X.fs,X.H₀ b=none
 gt:X.prog.given.tree=none
structure Inv(X:Cx)(pins:List (Addr×Obj))(σ:List (Option V))(H:Hp)(s:Shared):Prop where
 ok:X.Ok
 os:s.os=X.s₀.os
 bare:AllBare s.gens
 base:Un X.fs X.ex X.H₀ H X.s₀.heap s.heap
 loc:∃m,s.heap.Ns X.env.locals m/\∀(i:Nat) (x:Str) (v:V),X.N[i]?=some x->σ[i]?=some (some v)->yQ X.env.scope x->∃u,RelV v u/\Look X.env s.heap m x u
 cell:∀x c,X.env.cells.lookup x=some c->∃v,s.heap.IsCell c v
 free:H X.env.locals=none
 i_:∀x c,X.env.cells.lookup x=some c->H c=none
 pin:∀p∈X.pn++pins,s.heap.get? p.1=some p.2/\H p.1=none/\p.1≠X.env.locals/\p.1∉X.fs/\∀v,p.2.data≠ .cell v
 aI:iJ X.prog X.w H s.heap
 len:σ.length=X.N.length
section
variable {X:Cx}{pins:List (Addr×Obj)}{σ:List (Option V)}{H H':Hp}{s:Shared}{h':Heap}
theorem Cx.Ok.M9(ok:X.Ok){b:Addr}{o:Obj}(e:X.base.get? b=some o):b∉X.fs:=fun hb=>by
 have:=(ok.kX.mem hb).1;rw[e]at this;cases this
theorem Inv.bs(I:Inv X pins σ H s):∀b o,X.base.get? b=some o->s.heap.get? b=some o/\H b=none:=fun b o e=>
 ⟨I.base.keep b o (I.ok.bs b o e).1 (I.ok.bs b o e).2 (I.ok.M9 e) (I.ok.tK b o e),I.base.free b o (I.ok.bs b o e).1 (I.ok.bs b o e).2 (I.ok.tK b o e)⟩
theorem Inv.bk(I:Inv X pins σ H s):∀b o,X.base.get? b=some o->s.heap.get? b=some o:=fun b o e=>(I.bs b o e).1
theorem Inv.mod(I:Inv X pins σ H s):Mod X.K X.mg X.base:=I.ok.mod
theorem Inv.nJ(I:Inv X pins σ H s):X.K.In s.heap:=I.ok.mod.Df.keeps I.bk
theorem Inv.nolimit(I:Inv X pins σ H s):s.heap.NoLimit:=I.ok.mod.nolimit.keeps I.bk
theorem Inv.lt(I:Inv X pins σ H s):X.env.locals<s.heap.objs.size:=let⟨_,hn,_⟩:=I.loc;hn.lt
theorem Inv.sz(I:Inv X pins σ H s):X.s₀.heap.objs.size<=s.heap.objs.size:=Nat.le_trans I.ok.above (Nat.le_of_lt I.lt)
theorem Inv.Jg(I:Inv X pins σ H s){a:Addr}(h:s.heap.objs.size<=a):a∉X.fs:=fun hb=>by
 obtain⟨_,o,ho,_⟩:=I.ok.kX.mem hb;exact absurd (Nat.lt_of_lt_of_le (Heap.lt_size ho) (Nat.le_trans I.sz h)) (Nat.lt_irrefl _)
theorem Inv.yG(I:Inv X pins σ H s):∀x c,X.env.cells.lookup x=some c->c≠X.env.locals:=fun x c e z=>by
 obtain⟨v,o,ho,hd⟩:=I.cell x c e;obtain⟨m,⟨o',es,ep,ho',hd',_⟩,_⟩:=I.loc;rw[z,ho']at ho;cases ho;rw[hd']at hd;cases hd
theorem Inv.kX(I:Inv X pins σ H s):s.heap.FunFrames X.base X.outer:=by
 have all:∀(l:List Env),(∀b∈oQ l,b∈X.fs)->X.s₀.heap.FunFrames X.base l->s.heap.FunFrames X.base l:=by
  intro l;induction l with
  |nil=>intro _ _;trivial
  |cons env r ih=>
   intro hs hl;obtain⟨hk,⟨L,o,hf,hn,ho,hd⟩,hr⟩:=hl;have hL:L∈X.fs:=hs L (by unfold oQ;rw[List.filterMap_cons,hf];exact List.mem_cons_self);obtain⟨sl,e⟩:=I.base.slot L o ho (I.ok.uD L hL) hL fun z=>I.ok.ud L z hL;exact⟨hk,⟨L,_,hf,hn,e,hd⟩,ih (fun b hb=>hs b (by unfold oQ;rw[List.filterMap_cons,hf];exact List.mem_cons_of_mem _ hb)) hr⟩
 exact all X.outer (fun _ hb=>hb) I.ok.kX
theorem Inv.stack(I:Inv X pins σ H s):s.heap.FunFrames X.base X.stack:=by
 rcases I.ok.Al with e|⟨e,hf⟩
 . rw[e];exact I.kX
 . rw[e];obtain⟨m,hn,_⟩:=I.loc;refine .cons (by rw[I.ok.kind];decide) hf hn ?_ I.kX;exact Heap.get?_none_of_le (Nat.le_trans I.ok.rp I.ok.above)
theorem Inv.xM(I:Inv X pins σ H s):∀b∈oQ X.stack,b∈X.env.locals::X.fs:=fun b hb=>by
 rcases I.ok.Al with e|⟨e,hf⟩
 . rw[e]at hb;exact List.mem_cons_of_mem _ hb
 . rw[e]at hb;unfold oQ at hb;rw[List.filterMap_cons,hf]at hb;exact hb
theorem Inv.vG(I:Inv X pins σ H s):∀b∈oQ X.stack,H b=none:=fun b hb=>by
 rcases List.mem_cons.mp (I.xM b hb)with e|hb
 . rw[e];exact I.free
 . obtain⟨_,o,ho,_⟩:=I.ok.kX.mem hb;exact I.base.free b o ho (I.ok.uD b hb) fun z=>I.ok.ud b z hb
theorem Inv.step{g':Array GenState}{t':Nat}{d':Drawn}{ch:List Addr}(I:Inv X pins σ H s)
 (hch:∀b∈ch,(b∈X.ex\/X.s₀.heap.objs.size<=b)/\b≠X.env.locals/\(∀x c,X.env.cells.lookup x=some c->c≠b)/\∀p∈X.pn++pins,p.1≠b)
 (keep:∀b o,b≠X.env.locals->b∉X.fs->b∉ch->s.heap.get? b=some o->H b=none->h'.get? b=some o)
 (slot:∀b o,b≠X.env.locals->b∈X.fs->b∉ch->s.heap.get? b=some o->H b=none->∃sl,h'.get? b=some {o with slots:=sl}) (free:∀b o,b∉ch->s.heap.get? b=some o->H b=none->H' b=none)
 (there:∀b o,b∉ch->s.heap.get? b=some o->∃o',h'.get? b=some o')
 (oN:∀b xs,H b=some (.tup xs)->H' b=some (.tup xs)) (nG:∀b o u,H b=some (.ig o u)->H' b=some (.ig o u)) (nC:∀b ps,H b=some (.ky ps)->∃more,H' b=some (.ky (ps++more)))
 (ns:∀m,s.heap.Ns X.env.locals m->h'.Ns X.env.locals m) (aI:iJ X.prog X.w H' h') (hg:AllBare g'):
 Inv X pins σ H' {s with heap:=h',gens:=g',drawn:=d',toks:=t'}:=by
 have neL:∀b o,X.s₀.heap.get? b=some o->b≠X.env.locals:=fun b o e=>Nat.ne_of_lt (Nat.lt_of_lt_of_le (Heap.lt_size e) I.ok.above)
 have neC:∀b o,X.s₀.heap.get? b=some o->b∉X.ex->b∉ch:=fun b o e hx hb=>by
  rcases(hch b hb).1 with z|z
  . exact hx z
  . exact absurd (Nat.lt_of_lt_of_le (Heap.lt_size e) z) (Nat.lt_irrefl _)
 have cellK:∀x c,X.env.cells.lookup x=some c->∀v,s.heap.IsCell c v->h'.IsCell c v:=fun x c e v ⟨o,ho,hd⟩=>by
  have nch:c∉ch:=fun z=>(hch c z).2.2.1 x c e rfl;by_cases hc:c∈X.fs
  . obtain⟨sl,q⟩:=slot c o (I.yG x c e) hc nch ho (I.i_ x c e);exact⟨_,q,hd⟩
  . exact⟨o,keep c o (I.yG x c e) hc nch ho (I.i_ x c e),hd⟩
 refine⟨I.ok,I.os,hg,⟨fun b o e n hb hx=>?_,fun b o e n hb hx=>?_,fun b o e n hx=>?_,fun b o e hx=>?_,fun b xs e=>oN b xs (I.base.oN b xs e),fun b o xs e=>nG b o xs (I.base.nG b o xs e),fun b ps e=>?_⟩,?_,fun x c e=>?_,?_,fun x c e=>?_,fun p hp=>?_,aI,I.len⟩
 . exact keep b o (neL b o e) hb (neC b o e hx) (I.base.keep b o e n hb hx) (I.base.free b o e n hx)
 . obtain⟨sl,e1⟩:=I.base.slot b o e n hb hx;obtain⟨sl',e2⟩:=slot b _ (neL b o e) hb (neC b o e hx) e1 (I.base.free b o e n hx);exact⟨sl',e2⟩
 . obtain⟨o',e1⟩:=I.base.there b o e hx;exact free b o' (neC b o e hx) e1 (I.base.free b o e n hx)
 . obtain⟨o',e1⟩:=I.base.there b o e hx;exact there b o' (neC b o e hx) e1
 . obtain⟨m1,e1⟩:=I.base.nC b ps e;obtain⟨m2,e2⟩:=nC b _ e1;exact⟨m1++m2,by rw[e2,Array.append_assoc]⟩
 . obtain⟨m,hn,hl⟩:=I.loc;refine⟨m,ns m hn,fun i x v e1 e2 e3=>?_⟩;obtain⟨u,r,l⟩:=hl i x v e1 e2 e3;refine⟨u,r,?_⟩;rcases l with l|⟨k,c,e,z⟩
   . exact .inl l
   . exact .inr ⟨k,c,e,cellK x c e _ z⟩
 . obtain⟨v,z⟩:=I.cell x c e;exact⟨v,cellK x c e v z⟩
 . obtain⟨m,⟨o,_,_,ho,_⟩,_⟩:=I.loc;exact free _ o (fun z=>(hch _ z).2.1 rfl) ho I.free
 . obtain⟨v,o,ho,hd⟩:=I.cell x c e;exact free c o (fun z=>(hch c z).2.2.1 x c e rfl) ho (I.i_ x c e)
 . obtain⟨e,n,ne,nf,d⟩:=I.pin p hp;have nch:p.1∉ch:=fun z=>(hch p.1 z).2.2.2 p hp rfl;exact⟨keep p.1 p.2 ne nf nch e n,free p.1 p.2 nch e n,ne,nf,d⟩
theorem Inv.un{t':Nat}(I:Inv X pins σ H s)(u:Un X.fs [] H H' s.heap h')(aI:iJ X.prog X.w H' h'):Inv X pins σ H' {s with heap:=h',toks:=t'}:=by
 obtain⟨m,⟨o,es,ep,ho,r⟩,_⟩:=id I.loc;obtain⟨sl,hL⟩:=u.any ho I.free (by simp)
 exact I.step (g':=s.gens) (d':=s.drawn) (ch:=[]) (fun _ z=>nomatch z) (fun b o _ hb _ e n=>u.keep b o e n hb (by simp)) (fun b o _ hb _ e n=>u.slot b o e n hb (by simp)) (fun b o _ e n=>u.free b o e n (by simp)) (fun b o _ e=>u.there b o e (by simp)) u.oN u.nG u.nC (fun m' hm=>by
  obtain⟨o',es',ep',ho',r'⟩:=hm;rw[ho]at ho';cases ho';exact⟨_,es',ep',hL,r'⟩) aI I.bare
theorem Inv.call{g':Array GenState}{t':Nat}{d':Drawn}{ch:List Addr}(I:Inv X pins σ H s)(u:Un (oQ X.stack) ch H H' s.heap h')(aI:iJ X.prog X.w H' h')(hg:AllBare g')
 (hch:∀b∈ch,(b∈X.ex\/X.s₀.heap.objs.size<=b)/\b≠X.env.locals/\(∀x c,X.env.cells.lookup x=some c->c≠b)/\∀p∈X.pn++pins,p.1≠b):
 Inv X pins σ H' {s with heap:=h',gens:=g',drawn:=d',toks:=t'}:=by
 obtain⟨m,⟨o,es,ep,ho,r⟩,_⟩:=id I.loc;obtain⟨sl,hL⟩:=u.any ho I.free fun z=>(hch _ z).2.1 rfl
 exact I.step (ch:=ch) hch (fun b o hL hb hc e n=>u.keep b o e n (fun z=>(List.mem_cons.mp (I.xM b z)).elim hL hb) hc) (fun b o _ _ hc e n=>u.any e n hc) (fun b o hc e n=>u.free b o e n hc) (fun b o hc e=>u.there b o e hc) u.oN u.nG u.nC (fun m' hm=>by
  obtain⟨o',es',ep',ho',r'⟩:=hm;rw[ho]at ho';cases ho';exact⟨_,es',ep',hL,r'⟩) aI hg
theorem Inv.turned{t':Nat}{it:Addr}(I:Inv X pins σ H s)(k:∀b o,b≠it->s.heap.get? b=some o->h'.get? b=some o)(hn:H it=none)(hL:it≠X.env.locals)
 (h1:it∈X.ex\/X.s₀.heap.objs.size<=it) (h2:∀x c,X.env.cells.lookup x=some c->c≠it) (h3:∀p∈X.pn++pins,p.1≠it):Inv X pins σ H {s with heap:=h',toks:=t'}:=by
 have nit:∀b u,H b=some u->b≠it:=fun b u e z=>by rw[z,hn]at e;cases e
 refine I.step (g':=s.gens) (d':=s.drawn) (ch:=[it]) (fun b hb=>?_) (fun b o _ _ hc e _=>k b o (fun z=>hc (by simp[z])) e) (fun b o _ _ hc e _=>⟨o.slots,k b o (fun z=>hc (by simp[z])) e⟩) (fun _ _ _ _ n=>n)
  (fun b o hc e=>⟨o,k b o (fun z=>hc (by simp[z])) e⟩) (fun _ _ e=>e) (fun _ _ _ e=>e) (fun b ps e=>⟨#[],by rw[e];simp⟩) (fun m hm=>?_) (fun b u e=>?_) I.bare
 . have e:b=it:=by simpa using hb
   subst e;exact⟨h1,hL,h2,h3⟩
 . obtain⟨o,es,ep,ho,r⟩:=hm;exact⟨o,es,ep,k _ o (Ne.symm hL) ho,r⟩
 . refine(I.aI b u e).oG (fun c v hc q=>k c v ?_ q) (fun _ q=>q) fun _ _ q=>q;rcases hc with z|z
   . rw[z];exact nit b u e
   . exact nit c _ z
theorem Inv.tok(I:Inv X pins σ H s)(t:Nat):Inv X pins σ H {s with toks:=t}:=I.un (h':=s.heap) (t':=t) Un.refl I.aI
theorem Inv.kept{t':Nat}(I:Inv X pins σ H s)(k:∀b u,s.heap.get? b=some u->h'.get? b=some u):Inv X pins σ H {s with heap:=h',toks:=t'}:=I.un (Un.kept k) (I.aI.kept k)
theorem Inv.laid{a:Addr}{o:HO}{t':Nat}(I:Inv X pins σ H s)(k:∀b u,s.heap.get? b=some u->h'.get? b=some u)(hp:s.heap.objs.size<=a)(new:gd X.prog X.w (upd H a o) h' a o):
 Inv X pins σ (upd H a o) {s with heap:=h',toks:=t'}:=I.un (Un.laid k hp (I.aI.fresh hp)) (I.aI.laid k hp new)
theorem Inv.write{x e:Addr}{o:HO}{t':Nat}(I:Inv X pins σ H s)(mu:Fp (H x))(he:e=x\/H e=some (.own x))(k:∀b u,b≠e->s.heap.get? b=some u->h'.get? b=some u)(heo:∃u,h'.get? e=some u)
 (new:gd X.prog X.w (upd H x o) h' x o):Inv X pins σ (upd H x o) {s with heap:=h',toks:=t'}:=I.un (Un.write mu he k heo) (I.aI.write mu he k heo new)
theorem Inv.sJ{pins':List (Addr×Obj)}(I:Inv X pins σ H s)(h:∀p∈pins',s.heap.get? p.1=some p.2/\H p.1=none/\p.1≠X.env.locals/\p.1∉X.fs/\∀v,p.2.data≠ .cell v):Inv X pins' σ H s:=
 ⟨I.ok,I.os,I.bare,I.base,I.loc,I.cell,I.free,I.i_,fun p hp=>(List.mem_append.mp hp).elim (fun z=>I.pin p (List.mem_append_left _ z)) (h p),I.aI,I.len⟩
theorem yi{N:List Str}(hN:N.Nodup){i j:Nat}{x:Str}(a:N[i]?=some x)(b:N[j]?=some x):i=j:=by
 obtain⟨h1,e1⟩:=List.getElem?_eq_some_iff.mp a;obtain⟨h2,e2⟩:=List.getElem?_eq_some_iff.mp b;exact(List.getElem_inj hN).mp (e1.trans e2.symm)
theorem wx{M:Model}{A:Around}{E:Value->Shared->Prop}{i:Nat}{x:Str}{v:V}{u:Value}{Q:Unit->Shared->Prop}(I:Inv X pins σ H s)(hN:X.N.Nodup)(hi:X.N[i]?=some x)(hx:Loc X.env.scope x)(r:RelV v u)
 (h:∀s',Inv X pins (σ.set i (some v)) H s'->(∃a,Heap.SameBut a s.heap s'.heap/\(a=X.env.locals\/X.env.cells.lookup x=some a))->Q () s') (hf:X.fn x=true\/X.env.scope.names.lookup x=some .local:=by first|exact .inl rfl|exact .inr rfl|assumption):wpAny M A (storeName X.env x u) Q E s:=by
 obtain⟨m,hn,hl⟩:=id I.loc;have hcls:(X.env.scope.kind== .class||(X.env.scope.kind== .module&&X.env.locals != X.env.globals))=false:=by rw[I.ok.kind];rfl
 have hiσ:i<σ.length:=by rw[I.len];exact(List.getElem?_eq_some_iff.mp hi).1
 have yG:=I.yG
 have tracked:∀ {a:Addr} {h':Heap},(∃o,s.heap.get? a=some o/\H a=none)->Heap.SameBut a s.heap h'->iJ X.prog X.w H h':=fun{a h'} ha hs b ob e=>by
  obtain⟨_,_,hfree⟩:=ha;refine(I.aI b ob e).oG (fun c w' hc q=>(hs.2 c ?_).trans q) (fun _ q=>q) fun _ _ q=>q;rintro rfl;rcases hc with rfl|hc
  . rw[hfree]at e;cases e
  . rw[hfree]at hc;cases hc
 rcases hx with hk|hk
 . refine wpAny_storeName_local hk hn (fun h' hn' hs=>?_) hcls;obtain⟨oL,_,_,hoL,_⟩:=id hn;refine h _ ⟨I.ok,I.os,I.bare,⟨fun b o e n hb hx=>?_,fun b o e n hb hx=>?_,I.base.free,fun b o e hx=>?_,I.base.oN,I.base.nG,I.base.nC⟩,⟨_,hn',fun j y v' e1 e2 e3=>?_⟩,fun y c e=>?_,I.free,I.i_,fun p hp=>?_,tracked ⟨oL,hoL,I.free⟩ hs,by simpa using I.len⟩ ⟨_,hs,.inl rfl⟩
   . exact(hs.2 b (Nat.ne_of_lt (Nat.lt_of_lt_of_le (Heap.lt_size e) I.ok.above))).trans (I.base.keep b o e n hb hx)
   . obtain⟨sl,e1⟩:=I.base.slot b o e n hb hx;exact⟨sl,(hs.2 b (Nat.ne_of_lt (Nat.lt_of_lt_of_le (Heap.lt_size e) I.ok.above))).trans e1⟩
   . obtain⟨o',e1⟩:=I.base.there b o e hx;exact⟨o',(hs.2 b (Nat.ne_of_lt (Nat.lt_of_lt_of_le (Heap.lt_size e) I.ok.above))).trans e1⟩
   . by_cases hj:j=i
     . subst hj;rw[hi]at e1;cases e1;rw[List.getElem?_set_self hiσ]at e2;cases e2;exact⟨u,r,.inl ⟨hk,by simp⟩⟩
     . rw[List.getElem?_set_ne (Ne.symm hj)]at e2;obtain⟨u',r',q⟩:=hl j y v' e1 e2 e3;refine⟨u',r',?_⟩;rcases q with⟨k,e⟩|⟨k,c,e,z⟩
       . refine .inl ⟨k,?_⟩;have:y≠x:=fun e=>hj (yi hN e1 (e▸hi));simp[this,e]
       . exact .inr ⟨k,c,e,z.sameBut hs (yG y c e)⟩
   . obtain⟨w',z⟩:=I.cell y c e;exact⟨w',z.sameBut hs (yG y c e)⟩
   . obtain⟨e,n,ne,nf,d⟩:=I.pin p hp;exact⟨(hs.2 p.1 ne).trans e,n,ne,nf,d⟩
 . have hfn:X.fn x=true:=by
    rcases hf with z|z
    . exact z
    . rw[z]at hk;cases hk
   obtain⟨c,hc⟩:=I.ok.has x (.inl hk);obtain⟨w',z⟩:=I.cell x c hc;refine wpAny_storeName_cell I.ok.kind hk hc z (fun h' hc' hs=>?_);obtain⟨oc,hoc,hocd⟩:=id z;refine h {s with heap:=h'} ⟨I.ok,I.os,I.bare,⟨fun b o e n hb hx=>?_,fun b o e n hb hx=>?_,I.base.free,fun b o e hx=>?_,I.base.oN,I.base.nG,I.base.nC⟩,⟨m,hn.sameBut hs (Ne.symm (yG x c hc)),fun j y v' e1 e2 e3=>?_⟩,fun y c' e=>?_,I.free,I.i_,fun p hp=>?_,tracked ⟨oc,hoc,I.i_ x c hc⟩ hs,by simpa using I.len⟩ ⟨c,hs,.inr hc⟩
   . exact(hs.2 b (Nat.ne_of_lt (Nat.lt_of_lt_of_le (Heap.lt_size e) (I.ok.yv x c hfn hc)))).trans (I.base.keep b o e n hb hx)
   . obtain⟨sl,e1⟩:=I.base.slot b o e n hb hx;exact⟨sl,(hs.2 b (Nat.ne_of_lt (Nat.lt_of_lt_of_le (Heap.lt_size e) (I.ok.yv x c hfn hc)))).trans e1⟩
   . obtain⟨o',e1⟩:=I.base.there b o e hx;exact⟨o',(hs.2 b (Nat.ne_of_lt (Nat.lt_of_lt_of_le (Heap.lt_size e) (I.ok.yv x c hfn hc)))).trans e1⟩
   . by_cases hj:j=i
     . subst hj;rw[hi]at e1;cases e1;rw[List.getElem?_set_self hiσ]at e2;cases e2;exact⟨u,r,.inr ⟨.inl hk,c,hc,hc'⟩⟩
     . rw[List.getElem?_set_ne (Ne.symm hj)]at e2;obtain⟨u',r',q⟩:=hl j y v' e1 e2 e3;refine⟨u',r',?_⟩;rcases q with q|⟨k,c',e,z'⟩
       . exact .inl q
       . refine .inr ⟨k,c',e,z'.sameBut hs ?_⟩;rintro rfl;exact hj (yi hN e1 (I.ok.inj _ _ _ e hc▸hi))
   . by_cases hcc:c'=c
     . subst hcc;exact⟨_,hc'⟩
     . obtain⟨w2,z2⟩:=I.cell y c' e;exact⟨w2,z2.sameBut hs hcc⟩
   . obtain⟨e,n,ne,nf,d⟩:=I.pin p hp;refine⟨(hs.2 p.1 ?_).trans e,n,ne,nf,d⟩;intro q;rw[q,hoc]at e;have q':oc=p.2:=Option.some.inj e;exact d w' (by rw[<-q'];exact hocd)
theorem nK{M:Model}{A:Around}{E:Value->Shared->Prop}{i:Nat}{x:Str}{v:V}{u:Value}{Q:Unit->Shared->Prop}(I:Inv X pins σ H s)(hN:X.N.Nodup)(hi:X.N[i]?=some x)(hx:Loc X.env.scope x)(r:RelV v u)
 (h:∀s',Inv X pins (σ.set i (some v)) H s'->Q () s') (hf:X.fn x=true\/X.env.scope.names.lookup x=some .local:=by first|exact .inl rfl|exact .inr rfl|assumption):wpAny M A (storeName X.env x u) Q E s:=
 wx I hN hi hx r (fun s' I' _=>h s' I') hf
theorem Inv.AG{s':Shared}{ch:List Addr}(I:Inv X pins σ H s)(ho:s'.os=s.os)(u:Un (oQ X.stack) ch H H' s.heap s'.heap)(aI:iJ X.prog X.w H' s'.heap)(hg:AllBare s'.gens)
 (hch:∀b∈ch,(b∈X.ex\/X.s₀.heap.objs.size<=b)/\b≠X.env.locals/\(∀x c,X.env.cells.lookup x=some c->c≠b)/\∀p∈X.pn++pins,p.1≠b):Inv X pins σ H' s':=by
 obtain⟨h',g',d',t',o'⟩:=s';have e:o'=s.os:=ho;subst e;exact I.call (g':=g') (t':=t') (d':=d') u aI hg hch
end
abbrev XK:=Value->Option Addr->Hp->Prop
abbrev St:=List (Option V)
abbrev VK:=V->Hp->Prop
abbrev TE:=St->Hp->VK->Prop
abbrev TT:=St->Hp->(Bool->Hp->Prop)->Prop
abbrev TA:=St->Hp->(List V->Hp->Prop)->Prop
structure Ends where
 nx:St->Hp->Prop
 rt:VK
 bk:St->Hp->Prop:=fun _ _=>False
 ct:St->Hp->Prop:=fun _ _=>False
abbrev TS:=Ends->St->Hp->Prop
def EP(X:Cx)(pins:List (Addr×Obj))(σ:St)(Q:VK)(u:Value)(s':Shared):Prop:=∃v H',Inv X pins σ H' s'/\RelV v u/\Q v H'
def TP(X:Cx)(pins:List (Addr×Obj))(σ:St)(Q:Bool->Hp->Prop)(b:Bool)(s':Shared):Prop:=∃H',Inv X pins σ H' s'/\Q b H'
def AP(X:Cx)(pins:List (Addr×Obj))(σ:St)(Q:List V->Hp->Prop)(us:List Value)(s':Shared):Prop:=∃vs H',Inv X pins σ H' s'/\Vals vs us/\Q vs H'
def SP(X:Cx)(pins:List (Addr×Obj))(D:Ends)(f:Flow)(s':Shared):Prop:=
 match f with
 | .next=>∃σ' H',Inv X pins σ' H' s'/\D.nx σ' H'
 | .brk=>∃σ' H',Inv X pins σ' H' s'/\D.bk σ' H'
 | .cont=>∃σ' H',Inv X pins σ' H' s'/\D.ct σ' H'
 | .ret u=>∃v σ' H',Inv X pins σ' H' s'/\RelV v u/\D.rt v H'
def PE(X:Cx)(e:Expr)(t:TE):Prop:=
 ∀(pins:List (Addr×Obj)) (s:Shared) (σ:St) (H:Hp) (Q:VK),Inv X pins σ H s->t σ H Q->wpAny (model X.prog X.w) X.A (eval e X.env) (EP X pins σ Q) X.xe s
def PT(X:Cx)(e:Expr)(t:TT):Prop:=
 ∀(pins:List (Addr×Obj)) (s:Shared) (σ:St) (H:Hp) (Q:Bool->Hp->Prop),Inv X pins σ H s->t σ H Q->wpAny (model X.prog X.w) X.A (isTrue e X.env (eval e X.env)) (TP X pins σ Q) X.xe s
def PW(X:Cx)(e:Expr)(t:TT):Prop:=
 ∀(whole:Sem Value) (pins:List (Addr×Obj)) (s:Shared) (σ:St) (H:Hp) (Q:Bool->Hp->Prop),Inv X pins σ H s->t σ H Q->wpAny (model X.prog X.w) X.A (isTrue e X.env whole) (TP X pins σ Q) X.xe s
def PA(X:Cx)(es:List Expr)(t:TA):Prop:=
 ∀(pos:Pos) (pins:List (Addr×Obj)) (s:Shared) (σ:St) (H:Hp) (Q:List V->Hp->Prop),Inv X pins σ H s->t σ H Q->wpAny (model X.prog X.w) X.A (spliced (backTo pos (starEach es X.env))) (AP X pins σ Q) X.xe s
def PS(X:Cx)(st:Stmt)(t:TS):Prop:=
 ∀(pins:List (Addr×Obj)) (s:Shared) (σ:St) (H:Hp) (D:Ends),Inv X pins σ H s->t D σ H->wpAny (model X.prog X.w) X.A (exec st X.env) (SP X pins D) X.xe s
def ij(X:Cx)(st:List Stmt)(t:TS):Prop:=
 ∀(pins:List (Addr×Obj)) (s:Shared) (σ:St) (H:Hp) (D:Ends),Inv X pins σ H s->t D σ H->wpAny (model X.prog X.w) X.A (execs st X.env) (SP X pins D) X.xe s
theorem bZ{α:Type}{t:Sem α}{Q Q':α->Shared->Prop}{M:Model}{A:Around}{E:Value->Shared->Prop}{s:Shared}(h:wpAny M A t Q E s)(hQ:∀a s,Q a s->Q' a s):wpAny M A t Q' E s:=wpAny_mono h hQ fun _ _ x=>x
section
variable {X:Cx}
def J8(i:Nat):TE:=fun σ H Q=>∃v,σ[i]?=some (some v)/\Q v H
def tC(v:V):TE:=fun _ H Q=>Q v H
theorem Ky{i:Nat}{x:Str}{pos:Pos}(hN:X.N[i]?=some x)(hv:yQ X.env.scope x)(hd:(x==("__debug__":Str))=false:=by decide)(hcd:(x==("__classdict__":Str))=false:=by decide):PE X (.Name x pos) (J8 i):=by
 intro pins s σ H Q I h;obtain⟨v,e,h⟩:=h;obtain⟨m,hn,hl⟩:=I.loc;obtain⟨u,r,l⟩:=hl i x v hN e hv;have fin:EP X pins σ Q u s:=⟨v,H,I,r,h⟩
 rcases l with⟨hk,hm⟩|⟨hk,c,hc,hcell⟩
 . exact wpAny_Name (wpAny_loadName_local I.ok.kind hk hn hm fin) hd
 . rcases hk with hk|hk
   . exact wpAny_Name (wpAny_loadName_cell I.ok.kind hk hc hcell fin) hd
   . exact wpAny_Name (wpAny_loadName_free I.ok.kind hk hc hcell fin hcd) hd
theorem J9{i j pos}:PE X (.Constant (.int i) j pos) (tC (.int i)):=fun _ _ _ H _ I h=>wpAny_Constant_int ⟨.int i,H,I.tok _,⟨_,rfl⟩,h⟩
theorem Mh{b j pos}:PE X (.Constant (.bool b) j pos) (tC (.bl b)):=fun _ _ _ H _ I h=>Constant_bool ⟨.bl b,H,I,rfl,h⟩
def Gl(X:Cx)(x:Str):Prop:=X.env.kindOf x=some .globalImplicit
theorem zF{E:Value->Shared->Prop}{pins:List (Addr×Obj)}{s:Shared}{σ:St}{H:Hp}{x:Str}{u:Value}{pos:Pos}{Q:Value->Shared->Prop}(I:Inv X pins σ H s)(hg:Gl X x)(hm:X.mg x=some u)(h:Q u s)
 (hd:(x==("__debug__":Str))=false:=by decide):wpAny (model X.prog X.w) X.A (eval (.Name x pos) X.env) Q E s:=
 Calls.Name_function_global I.ok.kind hg (Calls.loadGlobal_global (by rw[I.ok.glob];exact I.mod.glob.keeps I.bk) hm h) hd
theorem jM{E:Value->Shared->Prop}{pins:List (Addr×Obj)}{s:Shared}{σ:St}{H:Hp}{x:Str}{u:Value}{pos:Pos}{Q:Value->Shared->Prop}(I:Inv X pins σ H s)(hg:Gl X x)(hm:X.mg x=none)(hv:bootBuiltins x=some u)(h:Q u s)
 (hn:x≠"__name__":=by decide) (hd:(x==("__debug__":Str))=false:=by decide):wpAny (model X.prog X.w) X.A (eval (.Name x pos) X.env) Q E s:=by
 obtain⟨mb,h1,h2⟩:=I.mod.blt;exact Calls.Name_function_global I.ok.kind hg (Calls.loadGlobal_builtin (by rw[I.ok.glob];exact I.mod.glob.keeps I.bk) hm (by rw[I.ok.blt];exact h1.keeps I.bk) ((h2 x hn).trans hv) h) hd
variable {a b:Expr}{ta tb:TE}{pos:Pos}
def tB(t:TE):TT:=fun σ H Q=>t σ H fun x H1=>∃c,x= .bl c/\Q c H1
theorem IF{e:Expr}{t:TE}(h:PE X e t)(he:∀whole,isTrue e X.env whole=(do let v <-whole;standAt e.pos;holding [v] (truthy v)):=by intro _;rfl):PT X e (tB t):=by
 intro pins s σ H Q I hw;refine isTrue_plain (bZ (h pins s σ H _ I hw) fun v s1 ⟨x,H1,I1,r1,q1⟩=>?_) (he _);obtain⟨d,rfl,q⟩:=q1;cases r1;exact wpAny_truthy_bool ⟨H1,I1,q⟩
variable {tA tB':TT}{rest:List Expr}
def Nm(t:TT):TT:=fun σ H Q=>t σ H fun c H1=>Q (!c) H1
theorem J4(ha:PT X a tA):PT X (.UnaryOp .Not a pos) (Nm tA):=by
 intro pins s σ H Q I h;exact isTrue_not (ha pins s σ H (fun c H1=>Q (!c) H1) I h)
def ND(ta tb:TE):TE:=fun σ H Q=>ta σ H fun x H1=>∃c,x= .bl c/\if c=true then Q (.bl true) H1 else tb σ H1 Q
theorem Kh{op}{t:TE}(h:PE X a t):PE X (.BoolOp op [a] pos) t:=fun pins s σ H Q I hw=>BoolOp_one (h pins s σ H Q I hw)
theorem Lw(ha:PE X a ta)(hb:PE X (.BoolOp .Or (b::rest) pos) tb):PE X (.BoolOp .Or (a::b::rest) pos) (ND ta tb):=by
 intro pins s σ H Q I h;refine BoolOp_or (bZ (ha pins s σ H _ I h) fun v s1 ⟨x,H1,I1,r1,q1⟩=>?_);obtain⟨c,rfl,q1⟩:=q1;cases r1;refine wpAny_truthy_bool ?_;cases c with
 |false=>exact hb pins s1 σ H1 Q I1 q1
 |true=>exact⟨.bl true,H1,I1,rfl,q1⟩
def N1(t:TT)(ta tb:TE):TE:=fun σ H Q=>t σ H fun c H1=>if c=true then ta σ H1 Q else tb σ H1 Q
theorem D4{c:Expr}(hc:PT X c tA)(ha:PE X a ta)(hb:PE X b tb):PE X (.IfExp c a b pos) (N1 tA ta tb):=by
 intro pins s σ H Q I h;refine wpAny_IfExp (bZ (hc pins s σ H _ I h) fun d s1 ⟨H1,I1,q1⟩=>?_);cases d with
 |true=>exact ha pins s1 σ H1 Q I1 q1
 |false=>exact hb pins s1 σ H1 Q I1 q1
end
def mB(K:PySem.W.Frag)(H:Hp)(a:Addr)(xs:List V):Prop:=
 Rd H a (.lst xs)\/
  ∃(o:Obj) (its:Array Value) (n:Nat),K.lookup a=some o/\o.cls= .type "list"/\o.dict=none/\o.data= .seq its n/\its.size<=sizeLine/\Vals xs its.toList
def ik(K:PySem.W.Frag)(H:Hp)(a:Addr)(xs:List V):Prop:=
 Rd H a (.tup xs)\/
  ∃(o:Obj) (its:Array Value) (n:Nat),K.lookup a=some o/\o.cls= .type "tuple"/\o.data= .seq its n/\its.size<=sizeLine/\Vals xs its.toList
def Ni:Value->Option V
 | .none=>some .aM
 | .bool b=>some (.bl b)
 | .int i _=>some (.int i)
 | .str x _=>some (.str x)
 | .bytes b _=>some (.tG b)
 | .float b _=>some (.Fi b)
 | .ref a=>some (.ref a)
 | .type n=>some (.ty n)
 |_=>none
theorem RelV.abs{x:V}{u:Value}(r:RelV x u):Ni u=some x:=by
 cases x with
 |aM=>cases r;rfl
 |bl _=>cases r;rfl
 |int _=>obtain⟨t,rfl⟩:=r;rfl
 |str _=>obtain⟨t,rfl⟩:=r;rfl
 |tG _=>obtain⟨t,rfl⟩:=r;rfl
 |Fi _=>obtain⟨t,rfl⟩:=r;rfl
 |ref _=>cases r;rfl
 |ty _=>cases r;rfl
theorem RelV.inj{x y:V}{u:Value}(r:RelV x u)(q:RelV y u):x=y:=Option.some.inj (r.abs.symm.trans q.abs)
theorem Vals.inj:∀ {xs ys:List V} {us:List Value},Vals xs us->Vals ys us->xs=ys
 |_,_,_,.nil,.nil=>rfl
 |_,_,_,.cons r t,.cons r' t'=>by rw[r.inj r',Vals.inj t t']
section
variable {X:Cx}{pins:List (Addr×Obj)}{σ:St}{H:Hp}{s:Shared}{a:Addr}{xs ys:List V}
theorem mB.of{K:PySem.W.Frag}(h:H a=some (.lst xs)):mB K H a xs:= .inl (.inl h)
theorem ik.of{K:PySem.W.Frag}(h:H a=some (.tup xs)):ik K H a xs:= .inl (.inl h)
theorem Inv.list(I:Inv X pins σ H s)(h:mB X.K H a xs):∃its:List Value,Vals xs its/\PlainL s.heap a its.toArray/\xs.length<=sizeLine:=by
 rcases h with h|⟨o,its,n,hk,hc,hd,hs,hz,r⟩
 . obtain⟨z,its,n,r,e⟩:=h.ok I.aI;exact⟨its,r,⟨_,n,e,rfl,rfl,rfl⟩,z⟩
 . refine⟨its.toList,r,⟨o,n,I.nJ a o hk,hc,hd,by simpa using hs⟩,?_⟩;have e:=r.length;simp only[Array.length_toList]at e;omega
theorem Inv.tuple(I:Inv X pins σ H s)(h:ik X.K H a xs):∃its:List Value,Vals xs its/\IsTup s.heap a its.toArray/\xs.length<=sizeLine:=by
 rcases h with h|⟨o,its,n,hk,hc,hs,hz,r⟩
 . obtain⟨z,its,r,p⟩:=h.ok I.aI;exact⟨its,r,p,z⟩
 . refine⟨its.toList,r,⟨o,I.nJ a o hk,hc,n,by simpa using hs⟩,?_⟩;have e:=r.length;simp only[Array.length_toList]at e;omega
theorem Inv.yU(I:Inv X pins σ H s)(h:mB X.K H a xs)(h':mB X.K H a ys):xs=ys:=by
 obtain⟨its,r,⟨o,n,e,_,_,d⟩,_⟩:=I.list h;obtain⟨its',r',⟨o',n',e',_,_,d'⟩,_⟩:=I.list h';rw[e]at e';cases e';rw[d]at d';injection d' with d1 _;have:its=its':=by simpa using congrArg Array.toList d1
 subst this;exact r.inj r'
theorem Inv.qR(I:Inv X pins σ H s)(h:ik X.K H a xs)(h':ik X.K H a ys):xs=ys:=by
 obtain⟨its,r,⟨o,e,_,n,d⟩,_⟩:=I.tuple h;obtain⟨its',r',⟨o',e',_,n',d'⟩,_⟩:=I.tuple h';rw[e]at e';cases e';rw[d]at d';injection d' with d1 _;have:its=its':=by simpa using congrArg Array.toList d1
 subst this;exact r.inj r'
end
abbrev Cx.oJ(X:Cx)(E:Value->Shared->Prop):Cx:={X with xe:=E}
abbrev Cx.uR(X:Cx):Cx:=X.oJ fun _ _=>False
theorem Cx.Ok.oJ{X:Cx}(ok:X.Ok)(E:Value->Shared->Prop):(X.oJ E).Ok:=
 ⟨ok.mod,ok.kind,ok.glob,ok.blt,ok.above,ok.inj,ok.has,ok.yv,ok.hd,ok.frames,ok.Al,ok.Dc,ok.bs,ok.rp,ok.tK,ok.ud,ok.kX,ok.uD,ok.gt⟩
theorem Cx.Ok.l9{X:Cx}{E:Value->Shared->Prop}(ok:(X.oJ E).Ok):X.Ok:=
 ⟨ok.mod,ok.kind,ok.glob,ok.blt,ok.above,ok.inj,ok.has,ok.yv,ok.hd,ok.frames,ok.Al,ok.Dc,ok.bs,ok.rp,ok.tK,ok.ud,ok.kX,ok.uD,ok.gt⟩
section
variable {X:Cx}{pins:List (Addr×Obj)}{σ:St}{H:Hp}{s:Shared}{E:Value->Shared->Prop}
theorem Inv.oJ(I:Inv X pins σ H s)(E:Value->Shared->Prop):Inv (X.oJ E) pins σ H s:=⟨I.ok.oJ E,I.os,I.bare,I.base,I.loc,I.cell,I.free,I.i_,I.pin,I.aI,I.len⟩
theorem Inv.l9(I:Inv (X.oJ E) pins σ H s):Inv X pins σ H s:=⟨I.ok.l9,I.os,I.bare,I.base,I.loc,I.cell,I.free,I.i_,I.pin,I.aI,I.len⟩
theorem SP.l9{D:Ends}{f:Flow}{s':Shared}(h:SP (X.oJ E) pins D f s'):SP X pins D f s':=by
 cases f with
 |next=>obtain⟨σ',H',I,q⟩:=h;exact⟨σ',H',I.l9,q⟩
 |brk=>obtain⟨σ',H',I,q⟩:=h;exact⟨σ',H',I.l9,q⟩
 |cont=>obtain⟨σ',H',I,q⟩:=h;exact⟨σ',H',I.l9,q⟩
 |ret u=>obtain⟨v,σ',H',I,r,q⟩:=h;exact⟨v,σ',H',I.l9,r,q⟩
theorem ij.uR{st:List Stmt}{t:TS}(h:ij X.uR st t):ij X st t:=fun pins s σ H D I hw=>
 wpAny_mono (h pins s σ H D (I.oJ _) hw) (fun _ _ q=>q.l9) fun _ _ z=>False.elim z
end
section
variable {X:Cx}{st:Stmt}{rest:List Stmt}{t u:TS}{e:Expr}{te:TE}{pos:Pos}
def LD:TS:=fun D σ H=>D.nx σ H
def NN(t u:TS):TS:=fun D σ H=>t {D with nx:=u D} σ H
theorem GR:ij X [] LD:=fun _ _ σ H _ I h=>wpAny_execs_nil ⟨σ,H,I,h⟩
theorem EA(h1:PS X st t)(h2:ij X rest u):ij X (st::rest) (NN t u):=by
 intro pins s σ H D I h;refine wpAny_execs_cons (bZ (h1 pins s σ H {D with nx:=u D} I h) fun f s1 q=>?_);cases f with
 |next=>
  obtain⟨σ',H',I',q⟩:=q;exact h2 pins s1 σ' H' D I' q
 |ret v=>exact q
 |brk=>exact q
 |cont=>exact q
theorem HA(h1:PS X st t):ij X [st] t:=by
 intro pins s σ H D I h;refine wpAny_execs_cons (bZ (h1 pins s σ H D I h) fun f s1 q=>?_);cases f with
 |next=>exact wpAny_execs_nil q
 |ret v=>exact q
 |brk=>exact q
 |cont=>exact q
theorem Inv.quiet{pins:List (Addr×Obj)}{σ:St}{H:Hp}{s:Shared}(I:Inv X pins σ H s):interactive X.env=false:=by simp[interactive,I.ok.kind]
def K_(te:TE):TS:=fun D σ H=>te σ H fun _ H1=>D.nx σ H1
theorem Hu(he:PE X e te)(hs:swapsWith e none pos.line X.env=pure false:=by rfl):PS X (.Expr e pos) (K_ te):=by
 intro pins s σ H D I h;exact wpAny_Expr_any (bZ (he pins s σ H _ I h) fun v s1 ⟨x,H1,I1,r1,q1⟩=>⟨σ,H1,I1,q1⟩) I.quiet hs
def NF(te:TE):TS:=fun D σ H=>te σ H D.rt
theorem Iv(he:PE X e te):PS X (.Return (some e) pos) (NF te):=by
 intro pins s σ H D I h;exact wpAny_Return_some (bZ (he pins s σ H _ I h) fun v s1 ⟨x,H1,I1,r1,q1⟩=>⟨x,σ,H1,I1,r1,q1⟩)
def NC(c:TT)(t u:TS):TS:=fun D σ H=>c σ H fun b H1=>if b=true then t D σ H1 else u D σ H1
theorem K9{c:Expr}{a b:List Stmt}{tc:TT}(hc:PT X c tc)(ha:ij X a t)(hb:ij X b u):PS X (.If c a b pos) (NC tc t u):=by
 intro pins s σ H D I h;refine wpAny_If (bZ (hc pins s σ H _ I h) fun d s1 ⟨H1,I1,q1⟩=>?_);cases d with
 |true=>exact ha pins s1 σ H1 D I1 q1
 |false=>exact hb pins s1 σ H1 D I1 q1
end
abbrev TG:=V->St->Hp->(St->Hp->Prop)->Prop
abbrev yn:=List V->St->Hp->(St->Hp->Prop)->Prop
def PG(X:Cx)(target:Expr)(t:TG):Prop:=
 ∀(pins:List (Addr×Obj)) (s:Shared) (σ:St) (H:Hp) (v:V) (u:Value) (Q:St->Hp->Prop),Inv X pins σ H s->RelV v u->t v σ H Q->
  wpAny (model X.prog X.w) X.A (assign target X.env u) (fun _ s'=>∃σ' H',Inv X pins σ' H' s'/\Q σ' H') X.xe s
def Dp(X:Cx)(ts:List Expr)(t:yn):Prop:=
 ∀(pins:List (Addr×Obj)) (s:Shared) (σ:St) (H:Hp) (vs:List V) (us:List Value) (Q:St->Hp->Prop),Inv X pins σ H s->Vals vs us->t vs σ H Q->
  wpAny (model X.prog X.w) X.A (assignInOrder ((assignEach ts X.env).map (·.2)) us) (fun _ s'=>∃σ' H',Inv X pins σ' H' s'/\Q σ' H') X.xe s
abbrev ED:=V->V->V->Hp->(Hp->Prop)->Prop
def Jf(X:Cx)(t:ED):Prop:=
 ∀(pins:List (Addr×Obj)) (s:Shared) (σ:St) (H:Hp) (o i v:V) (ov iv u:Value) (Q:Hp->Prop),Inv X pins σ H s->RelV o ov->RelV i iv->RelV v u->t o i v H Q->
  wpAny (model X.prog X.w) X.A (setItem ov iv u) (fun _ s'=>∃H',Inv X pins σ H' s'/\Q H') X.xe s
abbrev Ft:=V->V->Hp->VK->Prop
def JJ(X:Cx)(op:Operator)(t:Ft):Prop:=
 ∀(pins:List (Addr×Obj)) (s:Shared) (σ:St) (H:Hp) (x y:V) (v u:Value) (Q:VK),Inv X pins σ H s->RelV x v->RelV y u->t x y H Q->
  wpAny (model X.prog X.w) X.A (inplaceOp op v u) (EP X pins σ Q) X.xe s
section
variable {X:Cx}{pos:Pos}
def lQ(i:Nat):TG:=fun v σ H Q=>Q (σ.set i (some v)) H
theorem vI{i:Nat}{x:Str}(hN:X.N.Nodup)(hi:X.N[i]?=some x)(hx:Loc X.env.scope x)(hf:X.fn x=true\/X.env.scope.names.lookup x=some .local:=by first|exact .inl rfl|exact .inr rfl|assumption):PG X (.Name x pos) (lQ i):=by
 intro pins s σ H v u Q I r h;exact wpAny_assign_Name (nK I hN hi hx r (fun s' I'=>⟨_,H,I',h⟩) hf)
def D6:yn:=fun vs σ H Q=>vs=[]/\Q σ H
def uZ(t:TG)(u:yn):yn:=fun vs σ H Q=>∃v r,vs=v::r/\t v σ H fun σ' H'=>u r σ' H' Q
theorem zQ:Dp X [] D6:=by
 intro pins s σ H vs us Q I r h;obtain⟨e,h⟩:=h;subst e;cases r;exact assignInOrder_nil ⟨σ,H,I,h⟩
theorem pJ{e:Expr}{es:List Expr}{t:TG}{u:yn}(h1:PG X e t)(h2:Dp X es u)
 (hs:(assignEach (e::es) X.env).map (·.2)=assign e X.env::(assignEach es X.env).map (·.2):=by rfl):Dp X (e::es) (uZ t u):=by
 intro pins s σ H vs us Q I r h;obtain⟨v,vr,e1,h⟩:=h;subst e1;cases r with
 |cons r rr=>
  rw[hs];refine assignInOrder_cons (bZ (h1 pins s σ H _ _ _ I r h) fun _ s1 ⟨σ1,H1,I1,q1⟩=>?_);exact h2 pins s1 σ1 H1 _ _ Q I1 rr q1
def Ka(K:PySem.W.Frag)(n:Nat)(t:yn):TG:=fun v σ H Q=>∃a xs,v= .ref a/\ik K H a xs/\xs.length=n/\t xs σ H Q
theorem CP{es:List Expr}{k:Nat}{t:yn}{n:Nat}(hc:X.calm=true)(h:Dp X es t)
 (hn:(assignEach es X.env).length=n:=by rfl) (hst:(assignEach es X.env).findIdx? (·.1)=none:=by rfl):PG X (.Tuple es k pos) (Ka X.K n t):=by
 intro pins s σ H v u Q I r hw;obtain⟨a,xs,e1,hq,hl,hw⟩:=hw;subst e1;cases r;obtain⟨its,rv,ht,hz⟩:=I.tuple hq;refine assign_Tuple_tuple (I.ok.hd hc) ht (by simp[hn,<-hl,rv.length]) hst fun h' hx=>?_;have I1:Inv X pins σ H {s with heap:=h'}:=I.kept (t':=s.toks) fun b o e=>hx b o (Nat.ne_of_lt (Heap.lt_size e)) e;exact h pins _ σ H xs _ Q I1 (by simpa using rv) hw
def vN(to ti:TE)(t:ED):TG:=fun v σ H Q=>to σ H fun o H1=>ti σ H1 fun i H2=>t o i v H2 fun H3=>Q σ H3
theorem uu{o i:Expr}{to ti:TE}{t:ED}(ho:PE X o to)(hi:PE X i ti)(hs:Jf X t)
 (ha:∀v,assign (.Subscript o i pos) X.env v=(do
   let ov <-holding [v] (eval o X.env)
   let iv <-holding [v,ov] (eval i X.env)
   standAt pos
   holding [v,ov,iv] (setItem ov iv v)
   release [v,ov,iv] []):=by intro _;rfl):PG X (.Subscript o i pos) (vN to ti t):=by
 intro pins s σ H v u Q I r h;rw[ha];refine wpAny_bind (wpAny_holding (bZ (ho pins s σ H _ I h) fun ov s1 ⟨x,H1,I1,r1,q1⟩=>?_));refine wpAny_bind (wpAny_holding (bZ (hi pins s1 σ H1 _ I1 q1) fun iv s2 ⟨y,H2,I2,r2,q2⟩=>?_));refine wpAny_bind (wpAny_standAt (wpAny_bind (wpAny_holding (bZ (hs pins s2 σ H2 x y v ov iv u _ I2 r1 r2 r q2) fun _ s3 ⟨H3,I3,q3⟩=>?_))));exact wpAny_release ⟨σ,H3,I3,q3⟩
def mJ(te:TE)(g:TG):TS:=fun D σ H=>te σ H fun x H1=>g x σ H1 D.nx
theorem xS{tg e:Expr}{te:TE}{g:TG}(he:PE X e te)(hg:PG X tg g)(hs:swapsWithSole [tg] e pos.line X.env=pure false:=by rfl)(hw:swappedStores [tg] e X.env=pure none:=by rfl)
 (h1:(assignEach [tg] X.env).map (·.2)=[assign tg X.env]:=by rfl):PS X (.Assign [tg] e pos) (mJ te g):=by
 intro pins s σ H D I h;refine wpAny_Assign_stores (bZ (he pins s σ H _ I h) fun v s1 ⟨x,H1,I1,r1,q1⟩=>?_) hs hw;rw[h1];exact bZ (hg pins s1 σ H1 x v _ I1 r1 q1) fun _ s2 q=>q
theorem Kj{i:Nat}{x:Str}{e:Expr}{te:TE}{pos':Pos}(hN:X.N.Nodup)(hi:X.N[i]?=some x)(hx:Loc X.env.scope x)(he:PE X e te)(hs:swapsWith e (some (.Name x pos')) pos.line X.env=pure false:=by rfl)(hf:X.fn x=true\/X.env.scope.names.lookup x=some .local:=by first|exact .inl rfl|exact .inr rfl|assumption):
 PS X (.Assign [.Name x pos'] e pos) (mJ te (lQ i)):=by
 intro pins s σ H D I h;refine wpAny_Assign_Name (bZ (he pins s σ H _ I h) fun v s1 ⟨y,H1,I1,r1,q1⟩=>?_) hs;exact nK I1 hN hi hx r1 (fun s2 I2=>⟨_,H1,I2,q1⟩) hf
def IW(i j:Nat)(ta:TA):TS:=fun D σ H=>ta σ H fun vs H1=>∃v w,vs=[v,w]/\D.nx ((σ.set i (some v)).set j (some w)) H1
theorem Kf{i j:Nat}{x y:Str}{a b:Expr}{ta:TA}{px py pt:Pos}{kt k2 pt2}(hc:X.calm=true)(hN:X.N.Nodup)(hi:X.N[i]?=some x)(hj:X.N[j]?=some y)(hij:i≠j)
 (hx:X.env.scope.names.lookup x=some .local) (hy:X.env.scope.names.lookup y=some .local) (ha:PA X [a,b] ta)
 (hw:swappedStores [.Tuple [.Name x px,.Name y py] kt pt] (.Tuple [a,b] k2 pt2) X.env=pure (some [x,y]))
 (hs:swapsWithSole [.Tuple [.Name x px,.Name y py] kt pt] (.Tuple [a,b] k2 pt2) pos.line X.env=pure false:=by rfl):
 PS X (.Assign [.Tuple [.Name x px,.Name y py] kt pt] (.Tuple [a,b] k2 pt2) pos) (IW i j ta):=by
 intro pins s σ H D I h;rw[exec_Assign_arm];refine wpAny_bind (wpAny_standAt ?_);rw[hs];refine wpAny_bind (wpAny_pure ?_);rw[if_neg (by decide)];refine wpAny_bind (Tuple_ (bZ (ha _ pins s σ H _ I h) fun us s1 ⟨vs,H1,I1,r1,q1⟩=>?_));obtain⟨v,w,e1,q1⟩:=q1;subst e1
 obtain⟨u1,u2,rfl,rv,rw'⟩:∃u1 u2,us=[u1,u2]/\RelV v u1/\RelV w u2:=by
  cases r1 with
  |cons p q=>
   cases q with
   |cons p' q'=>
    cases q';exact⟨_,_,rfl,p,p'⟩
 refine wpAny_newObj_type ?_ (by show 2<=sizeLine;decide);have I2:Inv X pins σ H1 {s1 with heap:=s1.heap.push {cls:= .type "tuple",data:= .seq [u1,u2].toArray}}:=I1.kept (t':=s1.toks) fun b o e=>Heap.get?_push_of_some _ e;rw[hw];refine wpAny_bind (wpAny_pure ?_);show wpAny (model X.prog X.w) X.A (do rule "assign.swapped-stores";let items <-unpackItems (.ref s1.heap.objs.size) 2 none;assignInOrder [fun v=>bindName X.env y v,fun v=>bindName X.env x v] items.reverse;pure Flow.next) _ _ _;refine wpAny_bind (wpAny_rule (wpAny_bind (unpackItems_tuple (items:= #[u1,u2]) (I.ok.hd hc) (IsTup.new s1.heap _) fun h' hx'=>?_)));have I3:=I2.kept (h':=h') (t':=s1.toks) fun b o e=>hx' b o (Nat.ne_of_lt (Heap.lt_size e)) e;show wpAny _ _ (assignInOrder [fun v=>bindName X.env y v,fun v=>bindName X.env x v] [u2,u1] >>= fun _=>pure Flow.next) _ _ _;refine wpAny_bind (assignInOrder_cons (wpAny_bindName (nK I3 hN hj (.inl hy) rw' (fun s2 I4=>?_) (.inr hy))));refine assignInOrder_cons (wpAny_bindName (nK I4 hN hi (.inl hx) rv (fun s3 I5=>assignInOrder_nil (wpAny_pure ?_)) (.inr hx)));rw[List.set_comm _ _ (Ne.symm hij)]at I5;exact⟨_,H1,I5,q1⟩
def IL(i:Nat)(te:TE)(ti:Ft):TS:=fun D σ H=>∃x,σ[i]?=some (some x)/\te σ H fun y H1=>ti x y H1 fun z H2=>D.nx (σ.set i (some z)) H2
theorem Ij{i:Nat}{x:Str}{e:Expr}{te:TE}{op:Operator}{ti:Ft}{pos':Pos}(hN:X.N.Nodup)(hi:X.N[i]?=some x)(hx:Loc X.env.scope x)(he:PE X e te)(ho:JJ X op ti)(hf:X.fn x=true\/X.env.scope.names.lookup x=some .local:=by first|exact .inl rfl|exact .inr rfl|assumption):
 PS X (.AugAssign (.Name x pos') op e pos) (IL i te ti):=by
 intro pins s σ H D I h;obtain⟨v,e1,h⟩:=h;obtain⟨m,hn,hl⟩:=I.loc;have vis:yQ X.env.scope x:=by rcases hx with k|k;exact .inl k;exact .inr (.inl k)
 obtain⟨u,r,l⟩:=hl i x v hi e1 vis;refine wpAny_AugAssign_Name ?_
 have go:wpAny (model X.prog X.w) X.A (eval e X.env) (fun w s₂=>wpAny (model X.prog X.w) X.A (inplaceOp op u w) (fun r s₃=>wpAny (model X.prog X.w) X.A (storeName X.env x r) (fun _=>SP X pins D .next) X.xe s₃) X.xe s₂) X.xe s:=by
  refine bZ (he pins s σ H _ I h) fun w s1 ⟨y,H1,I1,r1,q1⟩=>?_;refine bZ (ho pins s1 σ H1 v y u w _ I1 r r1 q1) fun z s2 ⟨zv,H2,I2,r2,q2⟩=>?_;exact nK I2 hN hi hx r2 (fun s3 I3=>⟨_,H2,I3,q2⟩) hf
 rcases l with⟨hk,hm⟩|⟨hk,c,hc,hcell⟩
 . exact wpAny_loadName_local I.ok.kind hk hn hm go
 . rcases hk with hk|hk
   . exact wpAny_loadName_cell I.ok.kind hk hc hcell go
   . rcases hx with k|k
     . have:X.env.scope.names.lookup x=some .free:=hk;rw[k]at this;cases this
     . have:X.env.scope.names.lookup x=some .free:=hk;rw[k]at this;cases this
def Kp(f:Int->Int->Int):Ft:=fun x y H Q=>∃i j,x= .int i/\y= .int j/\Q (.int (f i j)) H
theorem Ig:JJ X .Add (Kp fun i j=>i+j):=by
 intro pins s σ H x y v u Q I r1 r2 h;obtain⟨i,j,e1,e2,q⟩:=h;subst e1;subst e2;obtain⟨t,rfl⟩:=r1;obtain⟨t',rfl⟩:=r2;exact iadd_int ⟨.int _,H,I.tok _,⟨_,rfl⟩,q⟩
def BQ(c:TT)(tb:TS):TS:=fun D σ H=>∃W:Nat->St->Hp->Prop,(∃m,W m σ H)/\∀m σ H,W m σ H->
 c σ H fun b H1=>if b=true then∃N:St->Hp->Prop,(∀σ' H',N σ' H'->∃m',m'<m/\W m' σ' H')/\tb {D with nx:=N,ct:=N,bk:=D.nx} σ H1 else D.nx σ H1
theorem E6{c:Expr}{body:List Stmt}{tc:TT}{tb:TS}(hp:PassesOwn (model X.prog X.w) X.A X.env X.xe)(hc:PT X c tc)(hb:ij X body tb):PS X (.While c body [] pos) (BQ tc tb):=by
 intro pins s σ H D I h;obtain⟨W,⟨m0,w0⟩,turn⟩:=h;refine wpAny_While (codeAny_whileLoop (fun n s'=>∃σ' H',Inv X pins σ' H' s'/\W n σ' H') ?_ m0 ⟨σ,H,I,w0⟩);rintro n s1 ⟨σ1,H1,I1,w1⟩;refine wpAny_passesOwn hp (bZ (hc pins s1 σ1 H1 _ I1 (turn n σ1 H1 w1)) fun b s2 ⟨H2,I2,q2⟩=>?_);cases b with
 |true=>
  obtain⟨N,hN,q2⟩:=q2;rw[if_pos rfl];refine wpAny_passesOwn hp (bZ (hb pins s2 σ1 H2 _ I2 q2) fun f s3 q3=>?_);cases f with
  |next=>
   obtain⟨σ3,H3,I3,n3⟩:=q3;obtain⟨m',hm,w3⟩:=hN σ3 H3 n3;exact⟨m',hm,σ3,H3,I3,w3⟩
  |cont=>
   obtain⟨σ3,H3,I3,n3⟩:=q3;obtain⟨m',hm,w3⟩:=hN σ3 H3 n3;exact⟨m',hm,σ3,H3,I3,w3⟩
  |brk=>exact q3
  |ret v=>exact q3
 |false=>
  rw[if_neg Bool.false_ne_true];exact wpAny_execs_nil ⟨σ1,H2,I2,q2⟩
end
structure It where
 go:Nat->Hp->Prop
 oz:Nat->Hp->V->Hp->Prop
 stop:Nat->Hp->Prop
def lz(X:Cx)(pins:List (Addr×Obj))(H:Hp)(b:Addr):Prop:=
 H b=none/\b≠X.env.locals/\b∉X.fs/\(b∈X.ex\/X.s₀.heap.objs.size<=b)/\(∀x c,X.env.cells.lookup x=some c->c≠b)/\∀p∈X.pn++pins,p.1≠b
theorem Inv.uh{X:Cx}{pins:List (Addr×Obj)}{σ:St}{H H':Hp}{s:Shared}{b:Addr}(I:Inv X pins σ H s)(hb:s.heap.objs.size<=b)(hn:H' b=none):lz X pins H' b:=by
 refine⟨hn,Nat.ne_of_gt (Nat.lt_of_lt_of_le I.lt hb),I.Jg hb,.inr (Nat.le_trans I.sz hb),fun x c e z=>?_,fun p hp z=>?_⟩
 . obtain⟨v,q⟩:=I.cell x c e;exact absurd (Nat.lt_of_lt_of_le q.lt (by rw[z];exact hb)) (Nat.lt_irrefl _)
 . exact absurd (Nat.lt_of_lt_of_le (Heap.lt_size (I.pin p hp).1) (by rw[z];exact hb)) (Nat.lt_irrefl _)
structure Turn(P:Program)(w:World)(K:PySem.W.Frag)(tg:Expr)(J:It)(fp:List Addr)(it:Addr)(tn:Nat->Heap->Prop):Prop where
 mem:it∈fp
 obj:∀i h,tn i h->∀b∈fp,∃o,h.get? b=some o/\∀v,o.data≠ .cell v
 keep:∀i h h',tn i h->(∀b∈fp,∀o,h.get? b=some o->h'.get? b=some o)->tn i h'
 item:∀(X:Cx),X.prog=P->X.w=w->X.K=K->X.calm=true->∀(i:Nat) (pins:List (Addr×Obj)) (s:Shared) (σ:St) (H:Hp) (E:Value->Shared->Prop),Inv X pins σ H s->(∀b∈fp,lz X pins H b)->tn i s.heap->J.go i H->
  wpAny (model P w) X.A (pyNext (.ref it)) (fun r s1=>∃u,r=some u/\
   wpAny (model P w) X.A (letOwnedTupleGo tg (.ref it) u) (fun _ s2=>∃x H',Inv X pins σ H' s2/\RelV x u/\J.oz i H x H'/\tn (i+1) s2.heap/\∀b∈fp,H' b=none) E s1) E s
 done:∀(X:Cx),X.prog=P->X.w=w->X.K=K->X.calm=true->∀(i:Nat) (pins:List (Addr×Obj)) (s:Shared) (σ:St) (H:Hp) (E:Value->Shared->Prop),Inv X pins σ H s->(∀b∈fp,lz X pins H b)->tn i s.heap->J.stop i H->
  wpAny (model P w) X.A (pyNext (.ref it)) (fun r s1=>r=none/\Inv X pins σ H s1) E s
 self:∀(A:Around) (i:Nat) (s:Shared) (Q:Value->Shared->Prop) (E:Value->Shared->Prop),tn i s.heap->Q (.ref it) s->wpAny (model P w) A (pyIter (.ref it)) Q E s
abbrev TI:=St->Hp->(It->Hp->Prop)->Prop
def Fw(X:Cx)(pins:List (Addr×Obj))(σ:St)(tg:Expr)(R:It->Hp->Prop)(itv:Value)(s2:Shared):Prop:=
 ∃(it:Addr) (fp:List Addr) (tn:Nat->Heap->Prop) (J:It) (H':Hp),itv= .ref it/\Inv X pins σ H' s2/\Turn X.prog X.w X.K tg J fp it tn/\tn 0 s2.heap/\(∀b∈fp,lz X pins H' b)/\R J H'
def PI(X:Cx)(tg iter:Expr)(wi:TI):Prop:=
 ∀(pins:List (Addr×Obj)) (s:Shared) (σ:St) (H:Hp) (R:It->Hp->Prop),Inv X pins σ H s->wi σ H R->
  wpAny (model X.prog X.w) X.A (eval iter X.env) (fun v s1=>wpAny (model X.prog X.w) X.A (pyIter v) (Fw X pins σ tg R) X.xe s1) X.xe s
theorem xn{M:Model}{A:Around}{E:Value->Shared->Prop}{s:Shared}{tg:Expr}{it:Addr}{u:Value}{o:Obj}{n:String}{vs:Array Value}{Q:Unit->Shared->Prop}(ho:s.heap.get? it=some o)(hc:o.cls= .type n)(hd:o.data= .fields vs)
 (hn: ["enumerate","zip","dict_itemiterator","dict_reverseitemiterator","odict_iterator","itertools.zip_longest","itertools.pairwise"].contains n=false) (hQ:Q () s):wpAny M A (letOwnedTupleGo tg (.ref it) u) Q E s:=by
 unfold letOwnedTupleGo
 cases tg<;>first
  |exact wpAny_pure hQ
  |(cases u<;>first
     |exact wpAny_pure hQ
     |(refine wpAny_bind (wpAny_load ho ?_)
       rw[hc,hd];show wpAny M A (if(["enumerate","zip","dict_itemiterator","dict_reverseitemiterator","odict_iterator","itertools.zip_longest","itertools.pairwise"].contains n&&vs[0]?==some (rawInt _))=true then _ else _) Q E s;rw[if_neg (by intro h;rw[hn,Bool.false_and]at h;cases h)];exact wpAny_pure hQ))
def Ku(K:PySem.W.Frag)(a:Addr):It:=
 ⟨fun i H=>∃xs x,mB K H a xs/\xs[i]?=some x,fun i H x H'=>H'=H/\∀xs,mB K H a xs->xs[i]?=some x,fun i H=>∃xs,mB K H a xs/\xs.length<=i⟩
def JW(K:PySem.W.Frag)(a:Addr):It:=
 ⟨fun i H=>∃xs x,ik K H a xs/\xs[i]?=some x,fun i H x H'=>H'=H/\∀xs,ik K H a xs->xs[i]?=some x,fun i H=>∃xs,ik K H a xs/\xs.length<=i⟩
def wm(lo:Int)(n:Nat):It:=⟨fun i _=>i<n,fun i H x H'=>H'=H/\x= .int (lo+i),fun i _=>n<=i⟩
theorem CN{P:Program}{w:World}{K:PySem.W.Frag}{tg:Expr}(a it:Addr):Turn P w K tg (Ku K a) [it] it (fun i h=>h.IsListIter it a i) where
 mem:=by simp
 obj:=fun i h st b hb=>by
  have e:b=it:=by simpa using hb
  subst e;obtain⟨o,e,c,d⟩:=st;exact⟨o,e,fun v z=>by rw[d]at z;cases z⟩
 keep:=fun i h h' st k=>st.at fun o e=>k it (by simp) o e
 item:=by
  intro X hP hw hK hc i pins s σ H E I hf st hg;subst hP hw hK;obtain⟨xs,x,hq,hx⟩:=hg;obtain⟨its,rv,p,hz⟩:=I.list hq;obtain⟨u,hu,ru⟩:=rv.get hx;obtain⟨f0,f1,f2,f3,f4,f5⟩:=hf it (by simp);refine wpAny_pyNext_list_item st p.isList (x:=u) (by simpa using hu) fun h' st' sb=>?_;have I1:Inv X pins σ H {s with heap:=h'}:=I.turned (t':=s.toks) (fun b o hb e=>(sb.2 b hb).trans e) f0 f1 f3 f4 f5;obtain⟨o,e,c,d⟩:=id st';exact⟨u,rfl,xn (s:={s with heap:=h'}) e c d (by decide) ⟨x,H,I1,ru,⟨rfl,fun ys hy=>by rw[I.yU hy hq];exact hx⟩,st',fun b hb=>(hf b hb).1⟩⟩
 done:=by
  intro X hP hw hK hc i pins s σ H E I hf st hg;subst hP hw hK;obtain⟨xs,hq,hx⟩:=hg;obtain⟨its,rv,p,hz⟩:=I.list hq;obtain⟨f0,f1,f2,f3,f4,f5⟩:=hf it (by simp);have hl:=rv.length;exact wpAny_pyNext_list_end (I.ok.hd hc) st p.isList (by simp;omega) fun h' eb=>⟨rfl,I.turned (t':=s.toks) (fun b o hb e=>eb b o hb e) f0 f1 f3 f4 f5⟩
 self:=fun _ _ _ _ _ st h=>wpAny_pyIter_listiter st h
theorem Bp{P:Program}{w:World}{K:PySem.W.Frag}{tg:Expr}(a it:Addr):Turn P w K tg (JW K a) [it] it (fun i h=>h.IsTupleIter it a i) where
 mem:=by simp
 obj:=fun i h st b hb=>by
  have e:b=it:=by simpa using hb
  subst e;obtain⟨o,e,c,d⟩:=st;exact⟨o,e,fun v z=>by rw[d]at z;cases z⟩
 keep:=fun i h h' st k=>st.at fun o e=>k it (by simp) o e
 item:=by
  intro X hP hw hK hc i pins s σ H E I hf st hg;subst hP hw hK;obtain⟨xs,x,hq,hx⟩:=hg;obtain⟨its,rv,p,hz⟩:=I.tuple hq;obtain⟨u,hu,ru⟩:=rv.get hx;obtain⟨f0,f1,f2,f3,f4,f5⟩:=hf it (by simp);refine wpAny_pyNext_tuple_item st (show s.heap.IsTuple a its.toArray from p) (x:=u) (by simpa using hu) fun h' st' sb=>?_;have I1:Inv X pins σ H {s with heap:=h'}:=I.turned (t':=s.toks) (fun b o hb e=>(sb.2 b hb).trans e) f0 f1 f3 f4 f5;obtain⟨o,e,c,d⟩:=id st';exact⟨u,rfl,xn (s:={s with heap:=h'}) e c d (by decide) ⟨x,H,I1,ru,⟨rfl,fun ys hy=>by rw[I.qR hy hq];exact hx⟩,st',fun b hb=>(hf b hb).1⟩⟩
 done:=by
  intro X hP hw hK hc i pins s σ H E I hf st hg;subst hP hw hK;obtain⟨xs,hq,hx⟩:=hg;obtain⟨its,rv,p,hz⟩:=I.tuple hq;obtain⟨f0,f1,f2,f3,f4,f5⟩:=hf it (by simp);have hl:=rv.length;exact wpAny_pyNext_tuple_end (I.ok.hd hc) st (show s.heap.IsTuple a its.toArray from p) (by simp;omega) fun h' eb=>⟨rfl,I.turned (t':=s.toks) (fun b o hb e=>eb b o hb e) f0 f1 f3 f4 f5⟩
 self:=fun _ _ _ _ _ st h=>wpAny_pyIter_tupleiter st h
theorem AR{P:Program}{w:World}{K:PySem.W.Frag}{tg:Expr}(it:Addr)(lo:Int)(n:Nat):Turn P w K tg (wm lo n) [it] it (fun i h=>IsRangeIter h it (lo+(i:Nat)*1) ((n:Int)-(i:Nat)) 1) where
 mem:=by simp
 obj:=fun i h st b hb=>by
  have e:b=it:=by simpa using hb
  subst e
  exact⟨_,st,fun v z=>by
   have z':Data.fields _=Data.cell v:=z;cases z'⟩
 keep:=fun i h h' st k=>k it (by simp) _ st
 item:=by
  intro X hP hw hK hc i pins s σ H E I hf st hg;subst hP hw hK;obtain⟨f0,f1,f2,f3,f4,f5⟩:=hf it (by simp);have W:=Walks.range (prog:=X.prog) (w:=X.w) (I.ok.hd hc) it lo 1 n;refine W.item i s _ _ hg st fun v h' tk hv st' kk=>?_;obtain⟨t,rfl⟩:=hv;have I1:Inv X pins σ H {s with heap:=h',toks:=tk}:=I.turned (fun b o hb e=>kk b o (by simpa using hb) e) f0 f1 f3 f4 f5;refine⟨_,rfl,xn (s:={s with heap:=h',toks:=tk}) (n:="range_iterator") st' rfl rfl (by decide) ⟨.int (lo+i),H,I1,⟨t,?_⟩,⟨rfl,rfl⟩,st',fun b hb=>(hf b hb).1⟩⟩;rw[Int.mul_one]
 done:=by
  intro X hP hw hK hc i pins s σ H E I hf st hg;subst hP hw hK;obtain⟨f0,f1,f2,f3,f4,f5⟩:=hf it (by simp);exact wpAny_pyNext_range_end (I.ok.hd hc) st (by have:n<=i:=hg;omega) fun h' eb=>⟨rfl,I.turned (t':=s.toks) (fun b o hb e=>eb b o hb e) f0 f1 f3 f4 f5⟩
 self:=fun _ _ _ _ _ st h=>wpAny_pyIter_rangeiter st h
section
variable {X:Cx}{tg:Expr}
theorem y_{pins:List (Addr×Obj)}{σ:St}{H:Hp}{s:Shared}{R:It->Hp->Prop}{E:Value->Shared->Prop}{lo hi:Int}{t u v:Tok}{tk:Nat}(I:Inv X pins σ H s)(h1: -(2^62)<=lo)(h2:lo<2^62)(h3: -(2^62)<=hi)(h4:hi<2^62)
 (q:R (wm lo (hi-lo).toNat) H):wpAny (model X.prog X.w) X.A (pyIter (.ref s.heap.objs.size)) (Fw X pins σ tg R) E {s with heap:=s.heap.push {cls:= .type "range",data:= .fields #[.int lo t,.int hi u,.int 1 v]},toks:=tk}:=by
 refine wpAny_pyIter_range (IsRange.new ..) (small_one h1 h2 h3 h4) ?_;have I1:Inv X pins σ H {s with heap:=s.heap.push {cls:= .type "range",data:= .fields #[.int lo t,.int hi u,.int 1 v]},toks:=tk}:=I.kept fun b o e=>Heap.get?_push_of_some _ e
 refine⟨(s.heap.push {cls:= .type "range",data:= .fields #[.int lo t,.int hi u,.int 1 v]}).objs.size,[(s.heap.push {cls:= .type "range",data:= .fields #[.int lo t,.int hi u,.int 1 v]}).objs.size],_,_,H,rfl,
  I1.kept (t':=tk) fun b o e=>Heap.get?_push_of_some _ e,AR _ lo (hi-lo).toNat,?_,fun b hb=>?_,q⟩
 . have e1:lo+((0:Nat):Int)*1=lo:=by simp
   have e2:(((hi-lo).toNat:Nat):Int)-((0:Nat):Int)=Builtin.Range.rangeSize lo hi 1:=by rw[rangeSize_one];split<;>omega
   show IsRangeIter _ _ (lo+((0:Nat):Int)*1) ((((hi-lo).toNat:Nat):Int)-((0:Nat):Int)) 1;rw[e1,e2];exact Heap.get?_push_size _ rfl
 . have e:b=(s.heap.push {cls:= .type "range",data:= .fields #[.int lo t,.int hi u,.int 1 v]}).objs.size:=by simpa using hb
   subst e;exact I1.uh (Nat.le_refl _) (I1.aI.fresh (Nat.le_refl _))
def AD(ta:TA):TI:=fun σ H R=>ta σ H fun vs H1=>∃j:Int,vs=[.int j]/\ -(2^62)<=j/\j<2^62/\R (wm 0 j.toNat) H1
def AU(ta:TA):TI:=fun σ H R=>ta σ H fun vs H1=>∃i j:Int,vs=[.int i,.int j]/\(-(2^62)<=i/\i<2^62/\ -(2^62)<=j/\j<2^62)/\R (wm i (j-i).toNat) H1
theorem Dh{a:Expr}{ta:TA}{p pos:Pos}(hg:Gl X "range")(hm:X.mg "range"=none)(ha:PA X [a] ta)(hs:starEach [a] X.env=[(false,eval a X.env)]:=by rfl):PI X tg (.Call (.Name "range" p) [a] [] pos) (AD ta):=by
 intro pins s σ H R I h;refine Call_ (jM I hg hm boot_range (PyProof.Rows.callWith_type1 (bZ (ha pos pins s σ H _ I h) fun us s1 ⟨vs,H1,I1,r1,q1⟩=>?_) hs rfl));obtain⟨j,e,q1,q2,q⟩:=q1;subst e;cases r1 with
 |cons r rr=>
  cases rr;obtain⟨t,rfl⟩:=r;exact call_range_1 (y_ I1 (by omega) (by omega) q1 q2 (by simpa using q))
theorem DH{a b:Expr}{ta:TA}{p pos:Pos}(hg:Gl X "range")(hm:X.mg "range"=none)(ha:PA X [a,b] ta)(hs:starEach [a,b] X.env=[(false,eval a X.env),(false,eval b X.env)]:=by rfl)(hs2:starEach [b] X.env=[(false,eval b X.env)]:=by rfl):
 PI X tg (.Call (.Name "range" p) [a,b] [] pos) (AU ta):=by
 intro pins s σ H R I h;refine Call_ (jM I hg hm boot_range (PyProof.Rows.callWith_type1 (bZ (ha pos pins s σ H _ I h) fun us s1 ⟨vs,H1,I1,r1,q1⟩=>?_) (by rw[hs,hs2]) (by rw[hs2];rfl)));obtain⟨i,j,e,⟨q1,q2,q3,q4⟩,q⟩:=q1;subst e;cases r1 with
 |cons r rr=>
  cases rr with
  |cons r' rr=>
   cases rr;obtain⟨t,rfl⟩:=r;obtain⟨t',rfl⟩:=r';exact call_range_2 (y_ I1 q1 q2 q3 q4 q)
def JX(wi:TI)(g:TG)(tb:TS):TS:=fun D σ H=>wi σ H fun J H1=>∃W:Nat->Nat->St->Hp->Prop,(∃m,W 0 m σ H1)/\∀i m σ H,W i m σ H->
 (J.stop i H/\D.nx σ H)\/(J.go i H/\∃N:St->Hp->Prop,(∀σ' H',N σ' H'->∃m',m'<m/\W (i+1) m' σ' H')/\∀x H',J.oz i H x H'->g x σ H' fun σ2 H2=>tb {D with nx:=N,ct:=N,bk:=D.nx} σ2 H2)
def rg(fp:List Addr)(h:Heap):List (Addr×Obj):=fp.filterMap fun b=>(h.get? b).map fun o=>(b,o)
theorem mX{fp:List Addr}{h:Heap}{b:Addr}{o:Obj}(hb:b∈fp)(e:h.get? b=some o):(b,o)∈rg fp h:=List.mem_filterMap.mpr ⟨b,hb,by rw[e];rfl⟩
theorem Cv{fp:List Addr}{h:Heap}{p:Addr×Obj}(hp:p∈rg fp h):p.1∈fp/\h.get? p.1=some p.2:=by
 obtain⟨b,hb,e⟩:=List.mem_filterMap.mp hp;cases q:h.get? b with
 |none=>rw[q]at e;cases e
 |some o=>
  rw[q]at e;have e':(b,o)=p:=Option.some.inj e;subst e';exact⟨hb,q⟩
theorem Inv.pinned{pins:List (Addr×Obj)}{σ:St}{H:Hp}{s:Shared}{fp:List Addr}(I:Inv X pins σ H s)(hf:∀b∈fp,lz X pins H b)(ho:∀b∈fp,∃o,s.heap.get? b=some o/\∀v,o.data≠ .cell v):Inv X (pins++rg fp s.heap) σ H s:=
 I.sJ fun p hp=>(List.mem_append.mp hp).elim (fun z=>I.pin p (List.mem_append_right _ z)) fun z=>by
  obtain⟨hb,e⟩:=Cv z;obtain⟨f0,f1,f2,_⟩:=hf p.1 hb;obtain⟨o,e',d⟩:=ho p.1 hb;rw[e]at e';cases e';exact⟨e,f0,f1,f2,d⟩
theorem Inv.iE{pins pl:List (Addr×Obj)}{σ:St}{H:Hp}{s:Shared}(I:Inv X (pins++pl) σ H s):Inv X pins σ H s:=I.sJ fun p hp=>I.pin p (List.mem_append_right _ (List.mem_append_left _ hp))
theorem JL{iter:Expr}{body:List Stmt}{wi:TI}{g:TG}{tb:TS}{pos:Pos}(hp:PassesOwn (model X.prog X.w) X.A X.env X.xe)(hc:X.calm=true)(hi:PI X tg iter wi)(hg:PG X tg g)(hb:ij X body tb)
 (hs:∀x,foldedSetIterable iter X.env x=pure x:=by intro _;rfl):PS X (.For tg iter body [] pos) (JX wi g tb):=by
 intro pins s σ H D I h;refine wpAny_For (bZ (hi pins s σ H _ I h) fun v s1 h1=>bZ h1 fun itv s2 h2=>?_) hs;obtain⟨it,fp,tn,J,H2,e,I2,T,st2,f2,W,⟨m0,w0⟩,turn⟩:=h2;subst e;have stat:∀ {H':Hp},(∀b∈fp,H' b=none)->∀b∈fp,lz X pins H' b:=fun hn b hb=>⟨hn b hb,(f2 b hb).2⟩
 refine codeAny_forLoop_any (fun n s'=>∃i σ' H',Inv X pins σ' H' s'/\tn i s'.heap/\(∀b∈fp,H' b=none)/\W i n σ' H') ?_ m0 ⟨0,σ,H2,I2,st2,fun b hb=>(f2 b hb).1,w0⟩;rintro n s3 ⟨i,σ3,H3,I3,st3,fr3,w3⟩;rcases turn i n σ3 H3 w3 with⟨stop,qn⟩|⟨go,N,hN,step⟩
 . refine wpAny_passesOwn hp (bZ (T.done X rfl rfl rfl hc i pins s3 σ3 H3 X.xe I3 (stat fr3) st3 stop) fun r s4 ⟨hr,I4⟩=>?_);subst hr;exact wpAny_execs_nil ⟨σ3,H3,I4,qn⟩
 . refine wpAny_passesOwn hp (bZ (T.item X rfl rfl rfl hc i pins s3 σ3 H3 X.xe I3 (stat fr3) st3 go) fun r s4 ⟨u,hr,h4⟩=>?_);subst hr;refine wpAny_passesOwn hp (bZ h4 fun _ s5 ⟨x,H5,I5,r5,y5,st5,fr5⟩=>?_);have I5':=I5.pinned (stat fr5) (T.obj _ _ st5);refine wpAny_passesOwn hp (bZ (hg _ s5 σ3 H5 x u _ I5' r5 (step x H5 y5)) fun _ s6 ⟨σ6,H6,I6,q6⟩=>?_);refine wpAny_passesOwn hp (bZ (hb _ s6 σ6 H6 _ I6 q6) fun f s7 q7=>?_)
   have again:∀ {σ7:St} {H7:Hp},Inv X (pins++rg fp s5.heap) σ7 H7 s7->N σ7 H7->∃m,m<n/\∃i σ' H',Inv X pins σ' H' s7/\tn i s7.heap/\(∀b∈fp,H' b=none)/\W i m σ' H':=fun{σ7 H7} I7 n7=>by
    obtain⟨m',hm,w7⟩:=hN σ7 H7 n7;refine⟨m',hm,i+1,σ7,H7,I7.iE,T.keep _ _ _ st5 fun b hb o e=>(I7.pin (b,o) (List.mem_append_right _ (List.mem_append_right _ (mX hb e)))).1,fun b hb=>?_,w7⟩;obtain⟨o,e,d⟩:=T.obj _ _ st5 b hb;exact(I7.pin (b,o) (List.mem_append_right _ (List.mem_append_right _ (mX hb e)))).2.1
   cases f with
   |next=>obtain⟨σ7,H7,I7,n7⟩:=q7;exact again I7 n7
   |cont=>obtain⟨σ7,H7,I7,n7⟩:=q7;exact again I7 n7
   |brk=>obtain⟨σ7,H7,I7,q7⟩:=q7;exact⟨σ7,H7,I7.iE,q7⟩
   |ret v=>obtain⟨x7,σ7,H7,I7,r7,q7⟩:=q7;exact⟨x7,σ7,H7,I7.iE,r7,q7⟩
end
theorem kj{lo:Int}{n:Nat}{g:TG}{tb:TS}{D:Ends}{σ:St}{H:Hp}(Pv:Nat->St->Hp->Prop)(h0:Pv 0 σ H)
 (hs:∀i σ H,i<n->Pv i σ H->g (.int (lo+i)) σ H fun σ2 H2=>tb {D with nx:=Pv (i+1),ct:=Pv (i+1),bk:=D.nx} σ2 H2) (hd:∀σ H,Pv n σ H->D.nx σ H):
 ∃W:Nat->Nat->St->Hp->Prop,(∃m,W 0 m σ H)/\∀i m σ H,W i m σ H->
  ((wm lo n).stop i H/\D.nx σ H)\/((wm lo n).go i H/\∃N:St->Hp->Prop,(∀σ' H',N σ' H'->∃m',m'<m/\W (i+1) m' σ' H')/\∀x H',(wm lo n).oz i H x H'->g x σ H' fun σ2 H2=>tb {D with nx:=N,ct:=N,bk:=D.nx} σ2 H2):=by
 refine⟨fun i m σ H=>m=n-i/\i<=n/\Pv i σ H,⟨n,by simp,Nat.zero_le _,h0⟩,?_⟩;rintro i m σ H ⟨rfl,hi,p⟩;by_cases hlt:i<n
 . refine .inr ⟨hlt,Pv (i+1),fun σ' H' p'=>⟨n-(i+1),by omega,rfl,hlt,p'⟩,fun x H' y=>?_⟩;obtain⟨e,y⟩:=y;subst e y;exact hs i σ _ hlt p
 . have e:i=n:=by omega
   subst e;exact .inl ⟨Nat.le_refl _,hd σ H p⟩
abbrev R2:=V->V->Hp->VK->Prop
def cF(X:Cx)(f:Value->Value->Sem Value)(r:R2):Prop:=
 ∀(pins:List (Addr×Obj)) (s:Shared) (σ:St) (H:Hp) (x y:V) (v u:Value) (Q:VK),Inv X pins σ H s->RelV x v->RelV y u->r x y H Q->
  wpAny (model X.prog X.w) X.A (f v u) (EP X pins σ Q) X.xe s
def zW(X:Cx)(f:Value->Sem Value)(r:V->Hp->VK->Prop):Prop:=
 ∀(pins:List (Addr×Obj)) (s:Shared) (σ:St) (H:Hp) (x:V) (v:Value) (Q:VK),Inv X pins σ H s->RelV x v->r x H Q->
  wpAny (model X.prog X.w) X.A (f v) (EP X pins σ Q) X.xe s
def cm(X:Cx)(f:Value)(r:List V->Hp->VK->Prop):Prop:=
 ∀(pins:List (Addr×Obj)) (s:Shared) (σ:St) (H:Hp) (xs:List V) (us:List Value) (Q:VK),Inv X pins σ H s->Vals xs us->r xs H Q->
  wpAny (model X.prog X.w) X.A (call f us) (EP X pins σ Q) X.xe s
def C_(r:R2)(ta tb:TE):TE:=fun σ H Q=>ta σ H fun x H1=>tb σ H1 fun y H2=>r x y H2 Q
def MS(r:V->Hp->VK->Prop)(ta:TE):TE:=fun σ H Q=>ta σ H fun x H1=>r x H1 Q
def rI(C:Int->Int->Prop)(g:Int->Int->V):R2:=fun x y H Q=>∃i j,x= .int i/\y= .int j/\C i j/\Q (g i j) H
def wF(g:Int->Int->V):R2:=fun x y H Q=>∃i j,x= .int i/\y= .int j/\Q (g i j) H
def rU(g:Int->V):V->Hp->VK->Prop:=fun x H Q=>∃i,x= .int i/\Q (g i) H
section
variable {X:Cx}{a b c:Expr}{ta tb tc:TE}{pos:Pos}
theorem DV(ha:PE X a ta)(hb:PE X b tb){pins:List (Addr×Obj)}{s:Shared}{σ:St}{H:Hp}{R:V->V->Hp->Prop}(I:Inv X pins σ H s)
 (h:ta σ H fun x H1=>tb σ H1 fun y H2=>R x y H2) {Q:Value->Shared->Prop} {f:Value->Value->Sem Value}
 (hf:∀v u s2 x y H2,Inv X pins σ H2 s2->RelV x v->RelV y u->R x y H2->wpAny (model X.prog X.w) X.A (f v u) Q X.xe s2):
 wpAny (model X.prog X.w) X.A (eval a X.env) (fun v s₁=>wpAny (model X.prog X.w) X.A (eval b X.env) (fun u s₂=>wpAny (model X.prog X.w) X.A (f v u) Q X.xe s₂) X.xe s₁) X.xe s:=by
 refine bZ (ha pins s σ H _ I h) fun v s1 ⟨x,H1,I1,r1,q1⟩=>?_;refine bZ (hb pins s1 σ H1 _ I1 q1) fun u s2 ⟨y,H2,I2,r2,q2⟩=>?_;exact hf v u s2 x y H2 I2 r1 r2 q2
theorem KU{op:Operator}{r:R2}(ho:cF X (binaryOp op) r)(ha:PE X a ta)(hb:PE X b tb):PE X (.BinOp a op b pos) (C_ r ta tb):=by
 intro pins s σ H Q I h;exact wpAny_BinOp (DV ha hb I h fun v u s2 x y H2 I2 rx ry q=>ho pins s2 σ H2 x y v u Q I2 rx ry q)
theorem LH{op:UnaryOp}{r:V->Hp->VK->Prop}(ho:zW X (unaryOp op) r)(ha:PE X a ta):PE X (.UnaryOp op a pos) (MS r ta):=by
 intro pins s σ H Q I h;exact UnaryOp_ (bZ (ha pins s σ H _ I h) fun v s1 ⟨x,H1,I1,r1,q1⟩=>ho pins s1 σ H1 x v Q I1 r1 q1)
theorem FE{f:Value->Value->Sem Value}{C:Int->Int->Prop}{g:Int->Int->Int}
 (rule:∀(i j:Int) (t u:Tok) (s:Shared) (Q:Value->Shared->Prop) (E:Value->Shared->Prop),C i j->Q (.int (g i j) s.toks) {s with toks:=s.toks+1}->wpAny (model X.prog X.w) X.A (f (.int i t) (.int j u)) Q E s):
 cF X f (rI C fun i j=> .int (g i j)):=by
 intro pins s σ H x y v u Q I rx ry h;obtain⟨i,j,rfl,rfl,hc,q⟩:=h;obtain⟨t,rfl⟩:=rx;obtain⟨t',rfl⟩:=ry;exact rule i j t t' s _ _ hc ⟨.int (g i j),H,I.tok _,⟨_,rfl⟩,q⟩
theorem JY{f:Value->Value->Sem Value}{g:Int->Int->Int}
 (rule:∀(i j:Int) (t u:Tok) (s:Shared) (Q:Value->Shared->Prop) (E:Value->Shared->Prop),Q (.int (g i j) s.toks) {s with toks:=s.toks+1}->wpAny (model X.prog X.w) X.A (f (.int i t) (.int j u)) Q E s):
 cF X f (wF fun i j=> .int (g i j)):=by
 intro pins s σ H x y v u Q I rx ry h;obtain⟨i,j,rfl,rfl,q⟩:=h;obtain⟨t,rfl⟩:=rx;obtain⟨t',rfl⟩:=ry;exact rule i j t t' s _ _ ⟨.int (g i j),H,I.tok _,⟨_,rfl⟩,q⟩
theorem Es{f:Value->Value->Sem Value}{g:Int->Int->Bool}
 (rule:∀(i j:Int) (t u:Tok) (s:Shared) (Q:Value->Shared->Prop) (E:Value->Shared->Prop),Q (.bool (g i j)) s->wpAny (model X.prog X.w) X.A (f (.int i t) (.int j u)) Q E s):
 cF X f (wF fun i j=> .bl (g i j)):=by
 intro pins s σ H x y v u Q I rx ry h;obtain⟨i,j,rfl,rfl,q⟩:=h;obtain⟨t,rfl⟩:=rx;obtain⟨t',rfl⟩:=ry;exact rule i j t t' s _ _ ⟨.bl (g i j),H,I,rfl,q⟩
def E8(i j:Int):Prop:=0<=j/\j<=1000000/\i.natAbs<2^64
theorem IA:cF X (binaryOp .Add) (wF fun i j=> .int (i+j)):=JY fun _ _ _ _ _ _ _ q=>add_int q
theorem Jd:cF X (binaryOp .Sub) (wF fun i j=> .int (i-j)):=JY fun _ _ _ _ _ _ _ q=>sub_int q
theorem GX:cF X (binaryOp .Mod) (rI (fun _ j=>j≠0) fun i j=> .int (i.fmod j)):=FE fun _ _ _ _ _ _ _ hc q=>mod_int' hc q
theorem Ko:cF X (binaryOp .Pow) (rI E8 fun i j=> .int (i^j.toNat)):=FE fun _ _ _ _ _ _ _ hc q=>pow_int_small hc.1 hc.2.1 hc.2.2 q
theorem NT{f:Value->Sem Value}{g:Int->Int}
 (rule:∀(i:Int) (t:Tok) (s:Shared) (Q:Value->Shared->Prop) (E:Value->Shared->Prop),Q (.int (g i) s.toks) {s with toks:=s.toks+1}->wpAny (model X.prog X.w) X.A (f (.int i t)) Q E s):
 zW X f (rU fun i=> .int (g i)):=by
 intro pins s σ H x v Q I rx h;obtain⟨i,rfl,q⟩:=h;obtain⟨t,rfl⟩:=rx;exact rule i t s _ _ ⟨.int (g i),H,I.tok _,⟨_,rfl⟩,q⟩
theorem IE:zW X (unaryOp .USub) (rU fun i=> .int (-i)):=NT fun _ _ _ _ _ q=>neg_int q
end
def Nv:V->V->Bool
 | .aM,.aM=>true| .aM,.int _=>true| .int _,.aM=>true| .aM,.bl _=>true| .bl _,.aM=>true| .aM,.str _=>true| .str _,.aM=>true
 | .int _,.int _=>true| .bl _,.bl _=>true| .str _,.str _=>true| .tG _,.tG _=>true
 | .int _,.str _=>true| .str _,.int _=>true| .bl _,.str _=>true| .str _,.bl _=>true
 |_,_=>false
def N0:R2:=fun x y H Q=>Nv x y=true/\Q (.bl (!decide (x=y))) H
theorem Gu{i j:Int}:decide (V.int i=V.int j)=(i==j):=by
 rw[Bool.eq_iff_iff];simp
theorem Ks{i j:Bool}:decide (V.bl i=V.bl j)=(i==j):=by
 rw[Bool.eq_iff_iff];simp
theorem Gk{i j:Str}:decide (V.str i=V.str j)=(i==j):=by
 rw[Bool.eq_iff_iff];simp
theorem GB{i j:Array UInt8}:decide (V.tG i=V.tG j)=(i.toList==j.toList):=by
 rw[Bool.eq_iff_iff];cases i;cases j;simp
section
variable {X:Cx}{a b c:Expr}{ta tb tc:TE}{pos:Pos}
theorem fX{pins:List (Addr×Obj)}{σ:St}{H:Hp}{s:Shared}{Q:VK}{k k':Bool}(I:Inv X pins σ H s)(q:Q (.bl k) H)(e:k=k'):EP X pins σ Q (.bool k') s:=by
 subst e;exact⟨.bl k,H,I,rfl,q⟩
theorem Li:cF X (compareOp .NotEq) N0:=by
 intro pins s σ H x y v u Q I rx ry h;obtain⟨hs,q⟩:=h;cases x with
 |aM=>
  cases rx;cases y with
  |aM=>cases ry;exact PySem.EqNone.ne_none_none (fX I q (by simp))
  |bl j=>cases ry;exact PySem.EqNone.ne_none_bool (fX I q (by simp))
  |int j=>obtain⟨t',rfl⟩:=ry;exact PySem.EqNone.ne_none_int (fX I q (by simp))
  |str j=>obtain⟨t',rfl⟩:=ry;exact PySem.EqNone.ne_none_str (fX I q (by simp))
  |_=>exact absurd (show false=true from hs) Bool.false_ne_true
 |bl i=>
  cases rx;cases y with
  |aM=>cases ry;exact PySem.EqNone.ne_bool_none (fX I q (by simp))
  |bl j=>cases ry;exact ne_bool (fX I q (congrArg not Ks))
  |str j=>obtain⟨t',rfl⟩:=ry;exact PySem.EqMixed.ne_bool_str (fX I q (by simp))
  |_=>exact absurd (show false=true from hs) Bool.false_ne_true
 |int i=>
  obtain⟨t,rfl⟩:=rx;cases y with
  |aM=>cases ry;exact PySem.EqNone.ne_int_none (fX I q (by simp))
  |int j=>obtain⟨t',rfl⟩:=ry;exact ne_int (fX I q (congrArg not Gu))
  |str j=>obtain⟨t',rfl⟩:=ry;exact PySem.EqMixed.ne_int_str (fX I q (by simp))
  |_=>exact absurd (show false=true from hs) Bool.false_ne_true
 |str i=>
  obtain⟨t,rfl⟩:=rx;cases y with
  |aM=>cases ry;exact PySem.EqNone.ne_str_none (fX I q (by simp))
  |bl j=>cases ry;exact PySem.EqMixed.ne_str_bool (fX I q (by simp))
  |int j=>obtain⟨t',rfl⟩:=ry;exact PySem.EqMixed.ne_str_int (fX I q (by simp))
  |str j=>obtain⟨t',rfl⟩:=ry;exact ne_str (fX I q (congrArg not Gk))
  |_=>exact absurd (show false=true from hs) Bool.false_ne_true
 |tG i=>
  obtain⟨t,rfl⟩:=rx;cases y with
  |tG j=>obtain⟨t',rfl⟩:=ry;exact PySem.W.ne_bytes (fX I q (congrArg not GB))
  |_=>exact absurd (show false=true from hs) Bool.false_ne_true
 |_=>cases y<;>exact absurd (show false=true from hs) Bool.false_ne_true
theorem Ld:cF X (compareOp .Lt) (wF fun i j=> .bl (decide (i<j))):=Es fun _ _ _ _ _ _ _ q=>lt_int q
theorem Lc:cF X (compareOp .Gt) (wF fun i j=> .bl (decide (j<i))):=Es fun _ _ _ _ _ _ _ q=>gt_int q
theorem KZ:cF X (compareOp .GtE) (wF fun i j=> .bl (decide (j<=i))):=Es fun _ _ _ _ _ _ _ q=>ge_int q
theorem dX(b:Expr){op:CmpOp}(h:op≠ .In:=by decide)(h2:op≠ .NotIn:=by decide):behindInMarks op b=false:=by
 have e1:(op==CmpOp.In)=false:=by cases op<;>first|rfl|exact absurd rfl h
 have e2:(op==CmpOp.NotIn)=false:=by cases op<;>first|rfl|exact absurd rfl h2
 cases b<;>simp[behindInMarks,e1,e2]
theorem GH{op:CmpOp}{r:R2}(ho:cF X (compareOp op) r)(ha:PE X a ta)(hb:PE X b tb)(hm:behindInMarks op b=false):PE X (.Compare a [op] [b] pos) (C_ r ta tb):=by
 intro pins s σ H Q I h;exact wpAny_Compare1 (DV ha hb I h fun v u s2 x y H2 I2 rx ry q=>ho pins s2 σ H2 x y v u Q I2 rx ry q) hm
def Mq(t:TE):TT:=fun σ H Q=>t σ H fun x H'=>∃k,x= .bl k/\Q k H'
theorem HX{op:CmpOp}{r:R2}(ho:cF X (compareOp op) r)(ha:PE X a ta)(hb:PE X b tb)(hm:behindInMarks op b=false):PT X (.Compare a [op] [b] pos) (Mq (C_ r ta tb)):=by
 intro pins s σ H Q I h
 refine wpAny_isTrue_Compare1 (bZ (ha pins s σ H _ I h) fun v s1 ⟨x,H1,I1,r1,q1⟩=>bZ (hb pins s1 σ H1 _ I1 q1) fun u s2 ⟨y,H2,I2,r2,q2⟩=>
  bZ (ho pins s2 σ H2 x y v u _ I2 r1 r2 q2) fun c s3 ⟨z,H3,I3,r3,k,e,q3⟩=>?_) hm
 subst e;cases r3;exact wpAny_truthy_bool ⟨H3,I3,q3⟩
theorem rf:(sizeLine:Nat)<2^63:=by rw[sizeLine_eq];decide
theorem AA:cF X (binaryOp .Add) (fun x y H Q=>∃i j,x= .str i/\y= .str j/\i.length+j.length<=sizeLine/\Q (.str (i++j)) H):=by
 intro pins s σ H x y v u Q I rx ry h;obtain⟨i,j,rfl,rfl,hz,q⟩:=h;obtain⟨t,rfl⟩:=rx;obtain⟨t',rfl⟩:=ry;exact add_str (fun t' tk=>⟨.str (i++j),H,I.tok _,⟨_,rfl⟩,q⟩) hz
theorem vals1{x:V}{us:List Value}(r:Vals [x] us):∃u,us=[u]/\RelV x u:=by
 cases r with
 |cons r1 r2=>cases r2;exact⟨_,rfl,r1⟩
theorem vals2{x y:V}{us:List Value}(r:Vals [x,y] us):∃u w',us=[u,w']/\RelV x u/\RelV y w':=by
 cases r with
 |cons r1 r2=>
  cases r2 with
  |cons r3 r4=>cases r4;exact⟨_,_,rfl,r1,r3⟩
theorem ER:cm X (.builtin "abs") (fun xs H Q=>∃i,xs=[.int i]/\Q (.int (if i<0 then-i else i)) H):=by
 intro pins s σ H xs us Q I r h;obtain⟨i,rfl,q⟩:=h;obtain⟨u,rfl,t,rfl⟩:=vals1 r;exact call_abs_int fun u tk=>⟨.int (if i<0 then-i else i),H,I.tok _,⟨_,rfl⟩,q⟩
theorem Dr(hc:X.calm=true):cm X (.builtin "min") (fun xs H Q=>∃i j,xs=[.int i,.int j]/\Q (.int (if j<i then j else i)) H):=by
 intro pins s σ H xs us Q I r h;obtain⟨i,j,rfl,q⟩:=h;obtain⟨u,w',rfl,⟨t,rfl⟩,⟨t',rfl⟩⟩:=vals2 r;refine min_two_ints (I.ok.hd hc) fun h' tk k=>⟨_,H,I.kept k,?_,q⟩
 by_cases hj:j<i
 . rw[if_pos hj,if_pos hj];exact⟨_,rfl⟩
 . rw[if_neg hj,if_neg hj];exact⟨_,rfl⟩
theorem C9:cm X (.type "int") (fun xs H Q=>(∃i,xs=[.int i]/\Q (.int i) H)\/∃k,xs=[.bl k]/\Q (.int (if k then 1 else 0)) H):=by
 intro pins s σ H xs us Q I r h;rcases h with⟨i,rfl,q⟩|⟨k,rfl,q⟩
 . obtain⟨u,rfl,t,rfl⟩:=vals1 r;exact call_int_int ⟨.int i,H,I,⟨_,rfl⟩,q⟩
 . obtain⟨u,rfl,r1⟩:=vals1 r;cases r1;exact call_int_bool ⟨.int (if k then 1 else 0),H,I.tok _,⟨_,rfl⟩,q⟩
end
structure tR(h:Heap)(x dx C:Addr)(mA:Str->Option Value):Prop where
 obj:h.get? x=some (PySem.W.instObj C dx)
 ns:h.Ns1 dx mA
 ne:dx≠x
theorem CV{h:Heap}{dx:Addr}{mA:Str->Option Value}(n:h.Ns1 dx mA):∃od,h.get? dx=some od/\∀name,PySem.W.lookIn name od=some (mA name):=by
 obtain⟨o,es,ep,ho,hd,hk,_,hm⟩:=n;refine⟨o,ho,fun name=>?_⟩;have e:=hm name;unfold nsFind findBy at e;rw[<-Array.find?_toList]at e;unfold PySem.W.lookIn;rw[hd];dsimp only;split
 . rename_i y q;rw[q]at e;exact congrArg some e
 . rename_i q;rw[q]at e
   have a:es.toList.any (·.refKey)=false:=by
    rw[List.any_eq_false];intro y hy;obtain⟨z,t,hkey⟩:=hk y (Array.mem_toList_iff.mp hy);simp[DictEntry.refKey,hkey]
   have a':¬es.toList.any (·.refKey)=true:=by rw[a];exact Bool.false_ne_true
   rw[if_neg a'];exact congrArg some e
theorem tR.look{h:Heap}{x dx C:Addr}{mA:Str->Option Value}(I:tR h x dx C mA):∃od,PySem.W.InstAt h x (PySem.W.instObj C dx) C (some od)/\∀name,PySem.W.lookIn name od=some (mA name):=
 let⟨od,ho,hl⟩:=CV I.ns
 ⟨od,⟨I.obj,rfl,rfl,ho⟩,hl⟩
section
variable {prog:Program}{w:World}{A:Around}{E:Value->Shared->Prop}{s:Shared}{K:PySem.W.Frag}{x dx C f:Addr}{mA:Str->Option Value}{name:Str}{v:Value}
theorem get_map{expr:Bool}{Q:Value->Shared->Prop}(X:K.In s.heap)(I:tR s.heap x dx C mA)(hg:PySem.W.plainGet K C name=true)(hh:PySem.W.hasDictIn K C=true)
 (ha:PySem.W.findIn K (.ref C) name=some none) (hv:mA name=some v) (hv':PySem.W.handedIn v=true) (h:Q v {s with toks:=s.toks+1}):
 wpAny (model prog w) A (getAttr (.ref x) name expr) Q E s:=by
 obtain⟨od,J,hl⟩:=I.look;exact PySem.W.get_value X J (PySem.W.plainGet_of hg).1 (PySem.W.findObj_own hh ha rfl (by rw[hl,hv])) hv' h
theorem ES{pl:Sem Bool}{Q:Value×List Value->Shared->Prop}(X:K.In s.heap)(I:tR s.heap x dx C mA)(hg:PySem.W.plainGet K C name=true)
 (hf:PySem.W.findIn K (.ref C) name=some (some (.ref f))) (ht:PySem.W.isFn K (.ref f)=true) (hv:mA name=none) (h:Q (.ref f,[.ref x]) s):
 wpAny (model prog w) A (getMethod (.ref x) name pl) Q E s:=by
 obtain⟨od,J,hl⟩:=I.look;exact PySem.W.method_fn X J (PySem.W.plainGet_of hg).1 (PySem.W.plainGet_of hg).2 hf (beq_iff_eq.mp ht) (by show(PySem.W.lookIn name od).map (·.isSome)=some false;rw[hl,hv];rfl) h
theorem iQ{ns:List Str}{Q:Unit->Shared->Prop}(X:K.In s.heap)(I:tR s.heap x dx C mA)
 (hs:PySem.W.findIn K (.ref C) "__setattr__"=some (some (.builtin "object.__setattr__"))) (hp:PySem.W.plainOver K C=true) (ht:PySem.W.takerIn K C name=some none) (hh:PySem.W.hasDictIn K C=true)
 (hw:PySem.Within mA ns) (hsz:ns.length<=sizeLine)
 (h:∀h',tR h' x dx C (fun y=>if y=name then some v else mA y)->Heap.SameBut dx s.heap h'->Q () {s with heap:=h',toks:=s.toks+2}):
 wpAny (model prog w) A (setAttr (.ref x) name v) Q E s:=by
 obtain⟨od,J,hl⟩:=I.look;refine PySem.W.set_plain X J hs (PySem.W.osa_open (s:={s with toks:=s.toks+1}) (r:=none) X J hp ht fun b=>?_);obtain⟨cd,hc,hd'⟩:=PySem.W.any_some hh;have hx:s.heap.get? x=some ⟨.ref C,some dx,.plain,#[]⟩:=I.obj;refine wpAny_bind (wpAny_pure (wpAny_bind (wpAny_bind (wpAny_loadPart hx (wpAny_bind (PySem.W.Looks.here (s:={s with toks:=s.toks+1}) (PySem.W.looks_clsIn X hc) ?_))))));rw[hd'];refine wpAny_pure (a:=some dx) (wpAny_bind (wpAny_pure (wpAny_bind ?_)));refine wpAny_nsSet1 (s:={s with toks:=s.toks+1}) I.ns fun h' hn2 hs2=>?_;obtain⟨oD,esD,epD,hoD,hdD,hcD⟩:=hn2.count (PySem.Within.cons name v hw);refine wpAny_bind (wpAny_lookBehind hoD (by rw[hdD];exact pastItsLine_dict (Nat.le_trans hcD (by rw[List.length_cons];omega))) ?_);exact wpAny_pure (h _ ⟨(hs2.2 _ (Ne.symm I.ne)).trans I.obj,hn2,I.ne⟩ hs2)
theorem E4{R:Result->Shared->Prop}{vs:List Value}{kw:List (Str×Value)}(X:K.In s.heap)(hm:PySem.W.makesIn K C=true)
 (hi:PySem.W.findIn K (.ref C) "__init__"=some (some (.ref f))) (hf:PySem.W.typeIn K (.ref f)=some (.type "function"))
 (h:codeAny (model prog w) (A.under (.builtin "type.__call__" ⟨.ref C::vs,kw⟩)) (.call (.ref f) ⟨.ref (s.heap.objs.size+1)::vs,kw⟩) (PySem.W.InitBack (s.heap.objs.size+1) R)
   {s with heap:=(s.heap.push PySem.W.emptyDict).push (PySem.W.instObj C s.heap.objs.size)}):
 codeAny (model prog w) A (.call (.ref C) ⟨vs,kw⟩) R s:=by
 obtain⟨hh,g,d,t,os⟩:=s;exact PySem.W.make_core (PySem.W.makes_of X hm) (PySem.W.looks_findIn X hi) (fun self=>PySem.W.bind_fn X self hf) (.inl rfl) h
end
def g_(f:Str)(v:V):List (Str×V)->List (Str×V)
 | []=>[(f,v)]
 |(g,x)::r=>if g=f then(g,v)::r else(g,x)::g_ f v r
theorem tx(f g:Str)(v:V):∀fs:List (Str×V),(g_ f v fs).lookup g=if g=f then some v else fs.lookup g
 | []=>by
   show List.lookup g [(f,v)]=_;by_cases h:g=f
   . have hb:(g==f)=true:=beq_iff_eq.mpr h;simp only[List.lookup,hb,if_pos h]
   . have hb:(g==f)=false:=beq_eq_false_iff_ne.mpr h;simp only[List.lookup,hb,if_neg h]
 |(k,x)::r=>by
  have ih:=tx f g v r;rw[show g_ f v ((k,x)::r)=(if k=f then(k,v)::r else(k,x)::g_ f v r)from rfl];by_cases hk:k=f
  . rw[if_pos hk];by_cases h:g=k
    . have hb:(g==k)=true:=beq_iff_eq.mpr h;simp only[List.lookup,hb,if_pos (h.trans hk)]
    . have hb:(g==k)=false:=beq_eq_false_iff_ne.mpr h;simp only[List.lookup,hb,if_neg (fun e:g=f=>h (e.trans hk.symm))]
  . rw[if_neg hk];by_cases h:g=k
    . have hb:(g==k)=true:=beq_iff_eq.mpr h;simp only[List.lookup,hb,if_neg (fun e:g=f=>hk (h.symm.trans e))]
    . have hb:(g==k)=false:=beq_eq_false_iff_ne.mpr h;simp only[List.lookup,hb];exact ih
theorem qC(f:Str)(v:V):∀fs:List (Str×V),f∈(g_ f v fs).map (·.1)/\∀g,g∈fs.map (·.1)->g∈(g_ f v fs).map (·.1)
 | []=>⟨by simp[g_],fun g h=>by simp at h⟩
 |(k,x)::r=>by
  obtain⟨i1,i2⟩:=qC f v r;rw[show g_ f v ((k,x)::r)=(if k=f then(k,v)::r else(k,x)::g_ f v r)from rfl];by_cases hk:k=f
  . rw[if_pos hk];subst hk;exact⟨by simp,fun g h=>by simpa using h⟩
  . rw[if_neg hk];refine⟨?_,fun g h=>?_⟩
    . rw[List.map_cons];exact List.mem_cons_of_mem _ i1
    . rw[List.map_cons]at h⊢;rcases List.mem_cons.mp h with e|e
      . exact List.mem_cons.mpr (.inl e)
      . exact List.mem_cons_of_mem _ (i2 g e)
theorem tm(f:Str)(v:V):∀fs:List (Str×V),(g_ f v fs).length<=fs.length+1
 | []=>by simp[g_]
 |(k,x)::r=>by
  have ih:=tm f v r;rw[show g_ f v ((k,x)::r)=(if k=f then(k,v)::r else(k,x)::g_ f v r)from rfl];by_cases hk:k=f
  . rw[if_pos hk,List.length_cons,List.length_cons];omega
  . rw[if_neg hk,List.length_cons,List.length_cons];omega
theorem oE.some_of{v:V}{o:Option Value}(r:oE (some v) o):∃u,o=some u/\RelV v u:=by
 cases o with
 |none=>exact(show False from r).elim
 |some u=>exact⟨u,rfl,r⟩
theorem oE.none_of{o:Option Value}(r:oE none o):o=none:=by
 cases o with
 |none=>rfl
 |some u=>exact(show False from r).elim
theorem CA{v:V}{u:Value}(r:RelV v u):PySem.W.handedIn u=true:=by
 cases v with
 |aM=>cases (show u=Value.none from r);rfl
 |bl b=>cases (show u=Value.bool b from r);rfl
 |int i=>obtain⟨t,e⟩:=(show∃t,u=Value.int i t from r);cases e;rfl
 |str x=>obtain⟨t,e⟩:=(show∃t,u=Value.str x t from r);cases e;rfl
 |tG b=>obtain⟨t,e⟩:=(show∃t,u=Value.bytes b t from r);cases e;rfl
 |Fi b=>obtain⟨t,e⟩:=(show∃t,u=Value.float b t from r);cases e;rfl
 |ref a=>cases (show u=Value.ref a from r);rfl
 |ty n=>cases (show u=Value.type n from r);rfl
section
variable {P:Program}{w:World}{H H':Hp}{h h':Heap}{a C dx:Addr}{fs fs':List (Str×V)}
theorem sx(aI:iJ P w H h)(e:H a=some (.ins C dx fs)):∃mA,tR h a dx C mA/\(∀f,oE (fs.lookup f) (mA f))/\PySem.Within mA (fs.map (·.1))/\fs.length<=1000/\H dx=some (.own a):=by
 obtain⟨d,z,ne,ob,mA,n,r,q⟩:=(show gd P w H h a (.ins C dx fs)from aI a _ e)
 exact⟨mA,⟨ob,n,ne⟩,r,q,z,d⟩
end
structure mN(K:PySem.W.Frag)(C:Addr):Prop where
 pg:PySem.W.plainGet K C Str.empty=true
 hd:PySem.W.hasDictIn K C=true
 po:PySem.W.plainOver K C=true
 sa:PySem.W.findIn K (.ref C) "__setattr__"=some (some (.builtin "object.__setattr__"))
theorem mN.get{K:PySem.W.Frag}{C:Addr}(c:mN K C)(f:Str):PySem.W.plainGet K C f=true:=c.pg
def dW(K:PySem.W.Frag)(C:Addr)(f:Str):Prop:=PySem.W.findIn K (.ref C) f=some none
theorem dW.L6{K:PySem.W.Frag}{C:Addr}{f:Str}(n:dW K C f):PySem.W.takerIn K C f=some none:=by
 unfold PySem.W.takerIn;rw[show PySem.W.findIn K (.ref C) f=some none from n];rfl
structure Meth(K:PySem.W.Frag)(C:Addr)(m:Str)(f:Addr):Prop where
 at_:PySem.W.findIn K (.ref C) m=some (some (.ref f))
 fn:PySem.W.isFn K (.ref f)=true
 kp:PySem.W.keepIn K (.ref f)=true
section
variable {X:Cx}{pins:List (Addr×Obj)}{σ:St}{H:Hp}{s:Shared}{a C dx:Addr}{fs:List (Str×V)}{f:Str}{v:V}{A:Around}{E:Value->Shared->Prop}
theorem Bq{b:Bool}{Q:Value->Shared->Prop}(I:Inv X pins σ H s)(e:H a=some (.ins C dx fs))(c:mN X.K C)(n:dW X.K C f)(l:fs.lookup f=some v)
 (h:∀u s',Inv X pins σ H s'->RelV v u->Q u s'):wpAny (model X.prog X.w) A (getAttr (.ref a) f b) Q E s:=by
 obtain⟨mA,O,r,_,_,_⟩:=sx I.aI e;obtain⟨u,hu,ru⟩:=oE.some_of (v:=v) (o:=mA f) (by rw[<-l];exact r f);exact get_map I.nJ O (c.get f) c.hd n hu (CA ru) (h u _ (I.tok _) ru)
theorem uF{m:Str}{g:Addr}{pl:Sem Bool}{Q:Value×List Value->Shared->Prop}(I:Inv X pins σ H s)(e:H a=some (.ins C dx fs))(c:mN X.K C)(k:Meth X.K C m g)(l:fs.lookup m=none)
 (h:Q (.ref g,[.ref a]) s):wpAny (model X.prog X.w) A (getMethod (.ref a) m pl) Q E s:=by
 obtain⟨mA,O,r,_,_,_⟩:=sx I.aI e;have hn:mA m=none:=oE.none_of (by rw[<-l];exact r m);exact ES I.nJ O (c.get m) k.at_ k.fn hn h
theorem A8{y:V}{u:Value}{Q:Unit->Shared->Prop}(I:Inv X pins σ H s)(e:H a=some (.ins C dx fs))(c:mN X.K C)(n:dW X.K C f)(hl:fs.length<1000)(ry:RelV y u)
 (h:∀s',Inv X pins σ (upd H a (.ins C dx (g_ f y fs))) s'->Q () s'):wpAny (model X.prog X.w) A (setAttr (.ref a) f u) Q E s:=by
 obtain⟨mA,O,r,wi,_,ho⟩:=sx I.aI e;have hz:(fs.map (·.1)).length<=sizeLine:=by rw[List.length_map,sizeLine_eq];omega
 refine iQ I.nJ O c.sa c.po n.L6 c.hd wi hz fun h' O' sb=>h _ ?_;have hd:∃o,h'.get? dx=some o:=let⟨o,_,_,e',_⟩:=O'.ns;⟨o,e'⟩
 refine I.write (x:=a) (e:=dx) (by rw[e];exact True.intro) (.inr ho) (fun b q hb z=>(sb.2 b hb).trans z) hd ?_;refine⟨by rw[ax O.ne];exact ho,?_,O.ne,O'.obj,_,O'.ns,fun g=>?_,fun g hg=>?_⟩
 . have:=tm f y fs;omega
 . show oE ((g_ f y fs).lookup g) (if g=f then some u else mA g);rw[tx];by_cases q:g=f
   . rw[if_pos q,if_pos q];exact ry
   . rw[if_neg q,if_neg q];exact r g
 . by_cases q:g=f
   . rw[q];exact(qC f y fs).1
   . refine(qC f y fs).2 g (wi g fun z=>hg ?_);show(if g=f then some u else mA g)=none;rw[if_neg q];exact z
theorem Inv.made(I:Inv X pins σ H s):Inv X pins σ (upd (upd H s.heap.objs.size (.own (s.heap.objs.size+1))) (s.heap.objs.size+1) (.ins C s.heap.objs.size []))
 {s with heap:=(s.heap.push PySem.W.emptyDict).push (PySem.W.instObj C s.heap.objs.size)}:=by
 have e1:(s.heap.push PySem.W.emptyDict).get? s.heap.objs.size=some PySem.W.emptyDict:=Heap.get?_push_size s.heap rfl
 have e2:((s.heap.push PySem.W.emptyDict).push (PySem.W.instObj C s.heap.objs.size)).get? (s.heap.objs.size+1)=some (PySem.W.instObj C s.heap.objs.size):=by
  have:=Heap.get?_push_size (s.heap.push PySem.W.emptyDict) (o:=PySem.W.instObj C s.heap.objs.size) rfl;rwa [Heap.size_push]at this
 have e3:(s.heap.push PySem.W.emptyDict).Ns s.heap.objs.size (fun _=>none):=⟨PySem.W.emptyDict,#[],_,e1,rfl,(fun e he=>absurd he (by simp)),fun _=>rfl⟩
 have I1:=I.laid (a:=s.heap.objs.size) (o:= .own (s.heap.objs.size+1)) (h':=s.heap.push PySem.W.emptyDict) (t':=s.toks) (fun b u q=>Heap.get?_push_of_some _ q) (Nat.le_refl _) ⟨_,e1⟩;refine I1.laid (a:=s.heap.objs.size+1) (o:= .ins C s.heap.objs.size []) (t':=s.toks) (fun b u q=>Heap.get?_push_of_some _ q) (Nat.le_of_eq (Heap.size_push _ _)) ?_;have ne:s.heap.objs.size≠s.heap.objs.size+1:=Nat.ne_of_lt (Nat.lt_succ_self _);refine⟨by rw[ax ne,aV],Nat.zero_le _,ne,e2,fun _=>none,(Heap.Ns1.of_empty e3).at fun o q=>Heap.get?_push_of_some _ q,fun _=>True.intro,fun y hy=>absurd rfl hy⟩
theorem Hr{prog:Program}{w:World}{env:Env}{e:Expr}{f:Str}{pos:Pos}{s:Shared}{Q:Value->Shared->Prop}(hb:attributeBase e f env (eval e env)=eval e env)
 (h:wpAny (model prog w) A (eval e env) (fun o s₁=>wpAny (model prog w) A (getAttr o f true) Q E s₁) E s):wpAny (model prog w) A (eval (.Attribute e f pos) env) Q E s:=
 Attribute_any_ h (by rw[arm_eval_Attribute,hb])
end
def M6(K:PySem.W.Frag)(ta:TE)(f:Str):TE:=fun σ H Q=>ta σ H fun x H1=>∃a C dx fs v,x= .ref a/\H1 a=some (.ins C dx fs)/\mN K C/\dW K C f/\fs.lookup f=some v/\Q v H1
def NP(K:PySem.W.Frag)(ta tv:TE)(f:Str):TS:=fun D σ H=>tv σ H fun y H1=>ta σ H1 fun x H2=>∃a C dx fs,x= .ref a/\H2 a=some (.ins C dx fs)/\mN K C/\dW K C f/\fs.length<1000/\
 D.nx σ (upd H2 a (.ins C dx (g_ f y fs)))
section
variable {X:Cx}{o e value:Expr}{f:Str}{pos pos' tpos:Pos}{ta tv:TE}
theorem Ia(he:PE X e ta)(hb:attributeBase e f X.env (eval e X.env)=eval e X.env):PE X (.Attribute e f pos) (M6 X.K ta f):=by
 intro pins s σ H Q I h;refine Hr hb (bZ (he pins s σ H _ I h) fun u s1 ⟨x,H1,I1,rx,a,C,dx,fs,v,ex,ea,c,n,l,q⟩=>?_);subst ex;obtain rfl:u=Value.ref a:=rx;exact Bq I1 ea c n l fun u' s2 I2 ru=>⟨v,H1,I2,ru,q⟩
theorem Js(ha:PE X o ta)(hv:PE X value tv)(hs:swapsWith value (some (.Attribute o f pos')) pos.line X.env=pure false):PS X (.Assign [.Attribute o f pos'] value pos) (NP X.K ta tv f):=by
 intro pins s σ H D I h;refine plainObj_wpAny_Assign_Attribute (bZ (hv pins s σ H _ I h) fun u s1 ⟨y,H1,I1,ry,q⟩=>bZ (ha pins s1 σ H1 _ I1 q) fun ov s2 ⟨x,H2,I2,rx,a,C,dx,fs,ex,ea,c,n,l,q2⟩=>?_) hs;subst ex;obtain rfl:ov=Value.ref a:=rx;exact A8 I2 ea c n l ry fun s3 I3=>⟨σ,_,I3,q2⟩
end
section
variable {X:Cx}{pins:List (Addr×Obj)}{σ:St}{H:Hp}{s:Shared}{A:Around}{E:Value->Shared->Prop}{Q:Value->Shared->Prop}{c:Value}{b:Bool}
end
structure cR(k:Nat)(A:Around):Prop where
 hd:A.handled=none
 dp:A.depth+3*k+105<recursionLimit
 un:A.units+16*k+200<cLine
theorem cR.mono{j k:Nat}{A:Around}(r:cR k A)(h:j<=k):cR j A:=⟨r.hd,by have:=r.dp;omega,by have:=r.un;omega⟩
theorem cR.deeper{k:Nat}{A:Around}(r:cR (k+1) A)(env:Env):cR k (A.deeper env):=
 ⟨r.hd,by have:=r.dp;show A.depth+1+3*k+105<_;omega,by have:=r.un;show A.units+3+16*k+200<_;omega⟩
theorem AJ{A:Around}{C:Addr}{us:List Value}{kw:List (Str×Value)}:(A.under (.builtin "type.__call__" ⟨.ref C::us,kw⟩)).depth=A.depth+1:=by
 first|rfl|simp[Around.under,Code.weight,Code.isCreation,Code.isGuard,Code.isCaller,Code.frames,Code.isFrame,guardIds]
theorem A3{A:Around}{C:Addr}{us:List Value}{kw:List (Str×Value)}:(A.under (.builtin "type.__call__" ⟨.ref C::us,kw⟩)).units=A.units+1:=by
 first|rfl|simp[Around.under,Code.cUnits,Code.frames,Code.isFrame]
theorem cR.make{k:Nat}{A:Around}(r:cR (k+1) A)(C:Addr)(us:List Value)(kw:List (Str×Value)):cR k (A.under (.builtin "type.__call__" ⟨.ref C::us,kw⟩)):=
 ⟨r.hd,by have:=r.dp;rw[AJ];omega,by have:=r.un;rw[A3];omega⟩
theorem cR.depth{k:Nat}{A:Around}(r:cR k A):A.depth<recursionLimit:=by have:=r.dp;omega
theorem cR.units{k:Nat}{A:Around}(r:cR k A):A.units+64<cLine:=by have:=r.un;omega
def IX:TA:=fun _ H Q=>Q [] H
def Mg(ta:TE)(tr:TA):TA:=fun σ H Q=>ta σ H fun x H1=>tr σ H1 fun xs H2=>Q (x::xs) H2
section
variable {X:Cx}{e:Expr}{es:List Expr}{te:TE}{t:TA}{pos:Pos}
theorem HY:PA X [] IX:=fun _ _ _ _ H Q I h=>Calls.spliced_nil ⟨[],H,I,.nil,h⟩
theorem Hj(ha:PE X e te)(hr:PA X es t)(hs:starEach (e::es) X.env=(false,eval e X.env)::starEach es X.env:=by rfl):PA X (e::es) (Mg te t):=by
 intro pos pins s σ H Q I h;rw[hs];show wpAny _ _ (spliced ((false,eval e X.env)::backTo pos (starEach es X.env))) _ _ s;refine Calls.spliced_cons (bZ (ha pins s σ H _ I h) fun u s1 ⟨x,H1,I1,r1,q1⟩=>?_);exact bZ (hr pos pins s1 σ H1 _ I1 q1) fun us s2 ⟨xs,H2,I2,r2,q2⟩=>⟨x::xs,H2,I2,.cons r1 r2,q2⟩
def Ng(t:TA):TE:=fun σ H Q=>t σ H fun xs H1=>xs.length<=sizeLine/\∀p,H1 p=none->Q (.ref p) (upd H1 p (.tup xs))
def Nh(t:TA):TE:=fun σ H Q=>t σ H fun xs H1=>xs.length<=sizeLine/\∀p,H1 p=none->Q (.ref p) (upd H1 p (.lst xs))
theorem JM{x1}(h:PA X es t):PE X (.Tuple es x1 pos) (Ng t):=by
 intro pins s σ H Q I hq;refine wpAny_Tuple_spliced (bZ (h pos pins s σ H _ I hq) fun us s1 ⟨xs,H1,I1,r,z,q⟩=>⟨by rw[<-r.length];exact z,?_⟩);have hf:H1 s1.heap.objs.size=none:=I1.aI.fresh (Nat.le_refl _);refine⟨.ref s1.heap.objs.size,upd H1 s1.heap.objs.size (.tup xs),I1.laid (t':=s1.toks) (fun b u e=>Heap.get?_push_of_some _ e) (Nat.le_refl _) ?_,rfl,q _ hf⟩;exact⟨z,us,r,⟨_,Heap.get?_push_size _ rfl,rfl,_,rfl⟩⟩
theorem CH(h:PA X es t):PE X (.List es pos) (Nh t):=by
 intro pins s σ H Q I hq;refine wpAny_List_spliced (bZ (h pos pins s σ H _ I hq) fun us s1 ⟨xs,H1,I1,r,z,q⟩=>⟨by rw[<-r.length];exact z,?_⟩);have hf:H1 s1.heap.objs.size=none:=I1.aI.fresh (Nat.le_refl _);refine⟨.ref s1.heap.objs.size,upd H1 s1.heap.objs.size (.lst xs),I1.laid (t':=s1.toks) (fun b u e=>Heap.get?_push_of_some _ e) (Nat.le_refl _) ?_,rfl,q _ hf⟩;exact⟨z,us,0,r,Heap.get?_push_size _ rfl⟩
end
abbrev Sp:=List V->Hp->VK->XK->Prop
abbrev s_:=List Env->Hp->Shared->XK->Value->Shared->Prop
structure tS(P:Program)(w:World)(K:PySem.W.Frag)(mg:Str->Option Value)(base:Heap)(A:Around)(outer:List Env)(s:Shared)(H:Hp):Prop where
 frames:A.frames=some outer
 mod:Mod K mg base
 bs:∀b o,base.get? b=some o->s.heap.get? b=some o/\H b=none
 rp:base.objs.size<=s.heap.objs.size
 kX:s.heap.FunFrames base outer
 uD:∀b∈oQ outer,H b=none
 aI:iJ P w H s.heap
 bare:AllBare s.gens
 gt:P.given.tree=none
def CE(outer:List Env)(P:Program)(w:World)(H:Hp)(s:Shared)(Q:VK)(u:Value)(s':Shared):Prop:=
 ∃v H',s'.os=s.os/\AllBare s'.gens/\Un (oQ outer) [] H H' s.heap s'.heap/\iJ P w H' s'.heap/\RelV v u/\Q v H'
def CR(CX:s_)(outer:List Env)(P:Program)(w:World)(H:Hp)(s:Shared)(Q:VK)(E:XK)(r:Result)(s':Shared):Prop:=
 match r with
 | .ok (.ret u)=>CE outer P w H s Q u s'
 | .ok _=>False
 | .error e=>CX outer H s E e s'
structure bH(P:Program)(w:World)(K:PySem.W.Frag)(mg:Str->Option Value)(base:Heap)(CX:s_)(k:Nat)(f:Addr)(fd:FuncData)(ps:List Str)(sp:Sp):Prop where
 len:∀vs H Q E,sp vs H Q E->vs.length=ps.length
 run:∀(A:Around) (outer:List Env) (s:Shared) (H:Hp) (args:Args) (us:List Value) (vs:List V) (Q:VK) (E:XK),cR k A->tS P w K mg base A outer s H->BindsTo s fd args (ps.zip us)->Vals vs us->sp vs H Q E->
  codeAny (model P w) A (.call (.ref f) args) (CR CX outer P w H s Q E) s
theorem bH.imp{P:Program}{w:World}{K:PySem.W.Frag}{mg:Str->Option Value}{base:Heap}{CX:s_}{k:Nat}{f:Addr}{fd:FuncData}{ps:List Str}{sp sp':Sp}(F:bH P w K mg base CX k f fd ps sp)
 (h:∀vs H Q E,sp' vs H Q E->sp vs H Q E):bH P w K mg base CX k f fd ps sp':=
 ⟨fun vs H Q E q=>F.len vs H Q E (h _ _ _ _ q),fun A outer s H args us vs Q E hr he hb hv hs=>F.run A outer s H args us vs Q E hr he hb hv (h _ _ _ _ hs)⟩
theorem tS.make{P:Program}{w:World}{K:PySem.W.Frag}{mg:Str->Option Value}{base:Heap}{A:Around}{outer:List Env}{s:Shared}{H:Hp}(e:tS P w K mg base A outer s H)(C:Addr)(us:List Value)(kw:List (Str×Value)):
 tS P w K mg base (A.under (.builtin "type.__call__" ⟨.ref C::us,kw⟩)) outer s H:=⟨by first|exact e.frames|(simpa[Around.under,Code.envs,Code.isFrame,pushEnvs]using e.frames),e.mod,e.bs,e.rp,e.kX,e.uD,e.aI,e.bare,e.gt⟩
section
variable {X:Cx}{pins:List (Addr×Obj)}{σ:St}{H:Hp}{s s':Shared}
theorem Inv.Iq(I:Inv X pins σ H s):tS X.prog X.w X.K X.mg X.base X.A X.stack s H:=
 ⟨I.ok.frames,I.ok.mod,I.bs,Nat.le_trans I.ok.rp I.sz,I.stack,I.vG,I.aI,I.bare,I.ok.gt⟩
theorem Inv.after{Q:VK}{u:Value}(I:Inv X pins σ H s)(h:CE X.stack X.prog X.w H s Q u s'):EP X pins σ Q u s':=by
 obtain⟨v,H',os,bare,un,aI,r,q⟩:=h;obtain⟨hh,g,d,t,os'⟩:=s';obtain rfl:os'=s.os:=os;exact⟨v,H',I.call (h':=hh) (g':=g) (d':=d) (t':=t) (ch:=[]) un aI bare (fun b z=>absurd z (by simp)),r,q⟩
end
def Ga(sp:Sp)(dvs:List V)(E:XK)(t:TA):TE:=fun σ H Q=>t σ H fun vs H1=>sp (vs++dvs) H1 Q E
def AS(C:Addr)(m:Str)(sp:Sp)(dvs:List V)(E:XK)(ta:TE)(t:TA):TE:=fun σ H Q=>ta σ H fun x H1=>∃a dx fs,x= .ref a/\H1 a=some (.ins C dx fs)/\fs.lookup m=none/\
 t σ H1 fun vs H2=>sp (x::(vs++dvs)) H2 Q E
def Fv(C:Addr)(sp:Sp)(dvs:List V)(E:XK)(t:TA):TE:=fun σ H Q=>t σ H fun vs H1=>∀x dx,H1 x=none->H1 dx=none->dx≠x->
 sp (.ref x::(vs++dvs)) (upd (upd H1 dx (.own x)) x (.ins C dx [])) (fun v H2=>v= .aM/\Q (.ref x) H2) E
def Binds(K:PySem.W.Frag)(fd:FuncData)(ps:List Str)(ds:List Value):Prop:=
 ∀(s:Shared) (us:List Value),K.In s.heap->(us++ds).length=ps.length->BindsTo s fd ⟨us,[]⟩ (ps.zip (us++ds))
theorem Binds.all{K:PySem.W.Frag}{fd:FuncData}{ps:List Str}(h:∀us:List Value,us.length=ps.length->bindArgs fd ⟨us,[]⟩=pure (ps.zip us)):Binds K fd ps []:=fun s us _ hl=>by
 rw[List.append_nil]at hl⊢;exact .of_eq (h us hl)
def Passes(CX:s_)(X:Cx)(E:XK):Prop:=∀(pins:List (Addr×Obj)) (σ:St) (H:Hp) (s:Shared) (e:Value) (s':Shared),Inv X pins σ H s->CX X.stack H s E e s'->X.xe e s'
section
variable {X:Cx}{CX:s_}{k:Nat}{f C:Addr}{fd:FuncData}{ps:List Str}{sp:Sp}{dvs:List V}{ds:List Value}{E:XK}{x m:Str}{p pos apos:Pos}{e o:Expr}{es:List Expr}{ta:TE}{t:TA}
theorem zf{pins:List (Addr×Obj)}{σ:St}{H:Hp}{s:Shared}{Q:VK}{us:List Value}{vs:List V}(F:bH X.prog X.w X.K X.mg X.base CX k f fd ps sp)(hr:cR k X.A)(hb:Binds X.K fd ps ds)(hd:Vals dvs ds)(hx:Passes CX X E)
 (I:Inv X pins σ H s) (r:Vals vs us) (h:sp (vs++dvs) H Q E):wpAny (model X.prog X.w) X.A (call (.ref f) us) (EP X pins σ Q) X.xe s:=by
 have r2:Vals (vs++dvs) (us++ds):=r.append hd;have hl:(us++ds).length=ps.length:=by rw[<-r2.length];exact F.len _ _ _ _ h
 refine wpAny_call (codeAny_mono (F.run X.A X.stack s H ⟨us,[]⟩ (us++ds) (vs++dvs) Q E hr I.Iq (hb s us I.nJ hl) r2 h) fun r s' hq=>?_);cases r with
 |error e=>exact hx pins σ H s e s' I hq
 |ok fl=>
  cases fl with
  |ret u=>exact I.after hq
  |next=>exact False.elim hq
  |brk=>exact False.elim hq
  |cont=>exact False.elim hq
theorem G_(F:bH X.prog X.w X.K X.mg X.base CX k f fd ps sp)(hr:cR k X.A)(hg:Gl X x)(hm:X.mg x=some (.ref f))(hk:PySem.W.keepIn X.K (.ref f)=true)(hb:Binds X.K fd ps ds)(hd:Vals dvs ds)(hx:Passes CX X E)
 (ha:PA X (e::es) t) (hdb:(x==("__debug__":Str))=false:=by decide) (he:starEach (e::es) X.env=(false,eval e X.env)::starEach es X.env:=by rfl) (hpl:(backTo pos (starEach es X.env)).any (·.1)=false:=by rfl):
 PE X (.Call (.Name x p) (e::es) [] pos) (Ga sp dvs E t):=by
 intro pins s σ H Q I h;refine wpAny_Call_Name_kw (zF I hg hm ?_ hdb);refine PySem.W.callWith_K (h₀:=X.base) I.ok.mod.Df hk (bZ (ha pos pins s σ H _ I h) fun us s1 ⟨vs,H1,I1,r,q⟩=>⟨I1.nJ,?_⟩) he hpl;exact zf F hr hb hd hx I1 r q
theorem Hx{pl:Sem Bool}(he:PE X o ta)(c:mN X.K C)(hm:Meth X.K C m f)(F:bH X.prog X.w X.K X.mg X.base CX k f fd ps sp)(hr:cR k X.A)(hb:Binds X.K fd ps ds)(hd:Vals dvs ds)(hx:Passes CX X E)(ha:PA X (e::es) t)
 (hst:starEach (e::es) X.env=(false,eval e X.env)::starEach es X.env:=by rfl) (hpl:(backTo pos (starEach es X.env)).any (·.1)=false:=by rfl)
 (ht:eval (.Call (.Attribute o m apos) (e::es) [] pos) X.env=(do
   let ov <-eval o X.env
   standAt apos.atName
   let(f,first) <-holding [ov] (getMethod ov m pl)
   callWith pos f first (backTo pos (starEach (e::es) X.env)) (backToKw pos (keywordEach [] X.env))):=by rfl):
 PE X (.Call (.Attribute o m apos) (e::es) [] pos) (AS C m sp dvs E ta t):=by
 intro pins s σ H Q I h;refine PySem.W.methodCall_KW (pl:=pl) (bZ (he pins s σ H _ I h) fun u s1 ⟨x,H1,I1,rx,a,dx,fs,ex,ea,l,q⟩=>?_) ht;subst ex;obtain rfl:u=Value.ref a:=rx;refine uF I1 ea c hm l ?_;refine PySem.W.callWith_K (first:=[.ref a]) (h₀:=X.base) I.ok.mod.Df hm.kp (bZ (ha pos pins s1 σ H1 _ I1 q) fun us s2 ⟨vs,H2,I2,r,q2⟩=>⟨I2.nJ,?_⟩) hst hpl;exact zf (us:= .ref a::us) (vs:= .ref a::vs) F hr hb hd hx I2 (.cons rfl r) q2
theorem Ei{pl:Sem Bool}(he:PE X o ta)(c:mN X.K C)(hm:Meth X.K C m f)(F:bH X.prog X.w X.K X.mg X.base CX k f fd ps sp)(hr:cR k X.A)(hb:Binds X.K fd ps ds)(hd:Vals dvs ds)(hx:Passes CX X E)
 (ht:eval (.Call (.Attribute o m apos) [] [] pos) X.env=(do
   let ov <-eval o X.env
   standAt apos.atName
   let(f,first) <-holding [ov] (getMethod ov m pl)
   callWith pos f first (backTo pos (starEach [] X.env)) (backToKw pos (keywordEach [] X.env))):=by rfl):
 PE X (.Call (.Attribute o m apos) [] [] pos) (AS C m sp dvs E ta IX):=by
 intro pins s σ H Q I h;refine PySem.W.methodCall_KW (pl:=pl) (bZ (he pins s σ H _ I h) fun u s1 ⟨x,H1,I1,rx,a,dx,fs,ex,ea,l,q⟩=>?_) ht;subst ex;obtain rfl:u=Value.ref a:=rx;refine uF I1 ea c hm l ?_;exact PySem.W.callWith_K0 (first:=[.ref a]) I1.nJ hm.kp (zf (us:=[.ref a]) (vs:=[.ref a]) F hr hb hd hx I1 (.cons rfl .nil) q)
structure Mk(K:PySem.W.Frag)(C f:Addr):Prop where
 makes:PySem.W.makesIn K C=true
 init:PySem.W.findIn K (.ref C) "__init__"=some (some (.ref f))
 fn:PySem.W.isFn K (.ref f)=true
 kp:PySem.W.keepIn K (.ref C)=true
theorem DY{pins:List (Addr×Obj)}{σ:St}{H:Hp}{s:Shared}{Q:VK}{us:List Value}{vs:List V}(M:Mk X.K C f)(F:bH X.prog X.w X.K X.mg X.base CX k f fd ps sp)(hr:cR (k+1) X.A)(hb:Binds X.K fd ps ds)(hd:Vals dvs ds)
 (hx:Passes CX X E) (I:Inv X pins σ H s) (r:Vals vs us)
 (h:∀x dx,H x=none->H dx=none->dx≠x->sp (.ref x::(vs++dvs)) (upd (upd H dx (.own x)) x (.ins C dx [])) (fun v H2=>v= .aM/\Q (.ref x) H2) E):
 wpAny (model X.prog X.w) X.A (call (.ref C) us) (EP X pins σ Q) X.xe s:=by
 have hq:=h (s.heap.objs.size+1) s.heap.objs.size (I.aI.fresh (Nat.le_succ _)) (I.aI.fresh (Nat.le_refl _)) (Nat.ne_of_lt (Nat.lt_succ_self _));have I2:=Inv.made (C:=C) I;have r2:Vals (V.ref (s.heap.objs.size+1)::(vs++dvs)) (Value.ref (s.heap.objs.size+1)::(us++ds)):= .cons rfl (r.append hd)
 have hl:(Value.ref (s.heap.objs.size+1)::us++ds).length=ps.length:=by
  have e:=r2.length;rw[F.len _ _ _ _ hq]at e;exact e.symm
 refine wpAny_call (E4 (f:=f) I.nJ M.makes M.init (beq_iff_eq.mp M.fn) (codeAny_mono (F.run _ X.stack _ _ ⟨Value.ref (s.heap.objs.size+1)::us,[]⟩ (Value.ref (s.heap.objs.size+1)::(us++ds)) _ _ E (hr.make C us [])
  (I2.Iq.make C us []) (hb _ (Value.ref (s.heap.objs.size+1)::us) I2.nJ hl) r2 hq) fun r s' hq'=>?_))
 cases r with
 |error e=>exact hx pins σ _ _ e s' I2 hq'
 |ok fl=>
  cases fl with
  |ret u=>
   obtain⟨v,H',I3,rv,ev,q3⟩:=I2.after hq';subst ev;exact⟨rv,⟨V.ref (s.heap.objs.size+1),H',I3,rfl,q3⟩⟩
  |next=>exact False.elim hq'
  |brk=>exact False.elim hq'
  |cont=>exact False.elim hq'
theorem GI(M:Mk X.K C f)(F:bH X.prog X.w X.K X.mg X.base CX k f fd ps sp)(hr:cR (k+1) X.A)(hg:Gl X x)(hm:X.mg x=some (.ref C))(hb:Binds X.K fd ps ds)(hd:Vals dvs ds)(hx:Passes CX X E)
 (ha:PA X (e::es) t) (hdb:(x==("__debug__":Str))=false:=by decide) (he:starEach (e::es) X.env=(false,eval e X.env)::starEach es X.env:=by rfl) (hpl:(backTo pos (starEach es X.env)).any (·.1)=false:=by rfl):
 PE X (.Call (.Name x p) (e::es) [] pos) (Fv C sp dvs E t):=by
 intro pins s σ H Q I h;refine wpAny_Call_Name_kw (zF I hg hm ?_ hdb);refine PySem.W.callWith_K (h₀:=X.base) I.ok.mod.Df M.kp (bZ (ha pos pins s σ H _ I h) fun us s1 ⟨vs,H1,I1,r,q⟩=>⟨I1.nJ,?_⟩) he hpl;exact DY M F hr hb hd hx I1 r q
end
section
variable {X:Cx}{CX:s_}{k:Nat}{f C:Addr}{fd:FuncData}{ps ks:List Str}{sp:Sp}{E:XK}{x m:Str}{p pos apos kpos:Pos}{e o:Expr}{es:List Expr}{kws:List Keyword}{te ta:TE}{t tk:TA}{nm:Option Str}
variable {g:List Value->List Value->List Value}{gV:List V->List V->List V}
end
structure ba(N P:List Str)(sc:Scope):Prop where
 kind:sc.kind= .function
 co:sc.isCoroutine=false
 gen:sc.isGenerator=false
 nd:N.Nodup
 pre:N.take P.length=P
 par:∀x∈P,sc.names.lookup x=some .local\/sc.names.lookup x=some .cell
 Kt:∀y∈sc.names,y.2≠ .free
theorem wq{kindOf:Str->Option NameKind}{x:Str}:∀ {binds:List (Str×Value)} {m:Str->Option Value},(∀v,(x,v)∉binds)->bindL kindOf binds m x=m x
 | [],_,_=>rfl
 |(n,v)::r,m,h=>by
  unfold bindL;rw[wq fun w hw=>h w (List.mem_cons_of_mem _ hw)];split
  . have:x≠n:=by rintro rfl;exact h v List.mem_cons_self
    simp[this]
  . rfl
theorem vX{kindOf:Str->Option NameKind}{x:Str}:∀ {binds:List (Str×Value)} {m:Str->Option Value},(∀v,(x,v)∉binds)->bindC kindOf binds m x=m x
 | [],_,_=>rfl
 |(n,v)::r,m,h=>by
  unfold bindC;rw[vX fun w hw=>h w (List.mem_cons_of_mem _ hw)];split
  . rfl
  . have:x≠n:=by rintro rfl;exact h v List.mem_cons_self
    simp[this]
theorem wD{kindOf:Str->Option NameKind}{x:Str}{v:Value}:∀ {P:List Str} {vs:List Value} {i:Nat} {m:Str->Option Value},P.Nodup->P[i]?=some x->vs[i]?=some v->kindOf x=some .local->
 bindL kindOf (P.zip vs) m x=some v
 | [],_,_,_,_,h,_,_=>by simp at h
 |_::_,[],_,_,_,_,h,_=>by simp at h
 |p::P,w::vs,0,m,nd,h1,h2,hk=>by
  simp at h1 h2;subst h1;subst h2;show bindL kindOf ((p,w)::P.zip vs) m p=_;unfold bindL;rw[wq fun v hv=>(List.nodup_cons.mp nd).1 (List.of_mem_zip hv).1,if_pos hk];simp
 |p::P,w::vs,i+1,m,nd,h1,h2,hk=>by
  show bindL kindOf ((p,w)::P.zip vs) m x=_;unfold bindL;exact wD (i:=i) (List.nodup_cons.mp nd).2 (by simpa using h1) (by simpa using h2) hk
theorem vZ{kindOf:Str->Option NameKind}{x:Str}{v:Value}:∀ {P:List Str} {vs:List Value} {i:Nat} {m:Str->Option Value},P.Nodup->P[i]?=some x->vs[i]?=some v->kindOf x≠some .local->
 bindC kindOf (P.zip vs) m x=some v
 | [],_,_,_,_,h,_,_=>by simp at h
 |_::_,[],_,_,_,_,h,_=>by simp at h
 |p::P,w::vs,0,m,nd,h1,h2,hk=>by
  simp at h1 h2;subst h1;subst h2;show bindC kindOf ((p,w)::P.zip vs) m p=_;unfold bindC;rw[vX fun v hv=>(List.nodup_cons.mp nd).1 (List.of_mem_zip hv).1,if_neg hk];simp
 |p::P,w::vs,i+1,m,nd,h1,h2,hk=>by
  show bindC kindOf ((p,w)::P.zip vs) m x=_;unfold bindC;exact vZ (i:=i) (List.nodup_cons.mp nd).2 (by simpa using h1) (by simpa using h2) hk
def start(N:List Str)(vs:List V):St:=vs.map some++List.replicate (N.length-vs.length) none
def pE(CX:s_)(P:Program)(w:World)(K:PySem.W.Frag)(mg:Str->Option Value)(base:Heap)(N:List Str)(qual:Str)(scope:Scope)(f:Addr)(cd:Value)(A:Around)(outer:List Env)(s:Shared)(H:Hp)(E:XK):Cx where
 prog:=P
 w:=w
 K:=K
 mg:=mg
 base:=base
 A:=A.deeper (envOfC qual scope s.heap.objs.size f cd)
 N:=N
 s₀:=s
 H₀:=H
 env:=envOfC qual scope s.heap.objs.size f cd
 outer:=outer
 stack:=envOfC qual scope s.heap.objs.size f cd::outer
 ex:=[]
 calm:=true
 fn:=fun _=>true
 pn:=[]
 xe:=fun e s'=>wpAny (model P w) (A.deeper (envOfC qual scope s.heap.objs.size f cd)) (leaving (envOfC qual scope s.heap.objs.size f cd) e) (fun _ s''=>CX outer H s E e s'') (fun e' s''=>CX outer H s E e' s'') s'
theorem x_{sc:Scope}{n:Nat}{x:Str}(h:sc.names.lookup x=some .cell):∃c,(cellsFrom n sc.names []).lookup x=some c:=by
 have q:=PySem.W.cellsFrom_some sc.names n [] (.inl h);exact Option.isSome_iff_exists.mp q
theorem CB{CX:s_}{P:Program}{w:World}{K:PySem.W.Frag}{mg:Str->Option Value}{base:Heap}{N ps:List Str}{qual:Str}{scope:Scope}{f:Addr}{cd:Value}{A:Around}{outer:List Env}{s s1:Shared}{H:Hp}{E:XK}{us:List Value}{vs:List V}
 (S:ba N ps scope) (hd:A.handled=none) (e0:tS P w K mg base A outer s H) (hl:vs.length=ps.length) (r:Vals vs us)
 (x:InCallC s s.heap.objs.size (bindL (envOfC qual scope s.heap.objs.size f cd).kindOf (ps.zip us) fun _=>none) (cellsFrom (s.heap.objs.size+1) scope.names []) (bindC (envOfC qual scope s.heap.objs.size f cd).kindOf (ps.zip us) fun _=>none) s1):
 Inv (pE CX P w K mg base N qual scope f cd A outer s H E) [] (start N vs) H s1:=by
 have hpl:ps.length<=N.length:=by have:=congrArg List.length S.pre;rw[List.length_take]at this;omega
 obtain⟨h1,tk,rfl,hk⟩:=x.done;have noA:∀b:Addr,b∉(pE CX P w K mg base N qual scope f cd A outer s H E).ex:=fun b z=>absurd (show b∈([]:List Addr)from z) (by simp)
 refine⟨⟨e0.mod,S.kind,rfl,rfl,Nat.le_refl _,fun y z c h1 h2=>?_,fun y hy=>?_,fun y c _ h=>?_,fun _=>hd,Around.frames_deeper e0.frames,.inr ⟨rfl,rfl⟩,fun b z=>absurd z (noA b),e0.bs,e0.rp,fun b _ _=>noA b,fun b z=>absurd z (noA b),e0.kX,e0.uD,e0.gt⟩,
  rfl,e0.bare,Un.kept hk,⟨_,x.toInCall.ns,fun i y v h1 h2 h3=>?_⟩,fun y c h=>⟨_,x.cell y c h⟩,e0.aI.fresh (Nat.le_refl _),fun y c h=>?_,fun p hp=>absurd (show p∈([]:List (Addr×Obj))from hp) (by simp),e0.aI.kept hk,?_⟩
 . exact name_of_addr x.apart (PySem.mem_of_lookup h1) (PySem.mem_of_lookup h2)
 . have hy:scope.names.lookup y=some .cell\/scope.names.lookup y=some .free:=hy;rcases hy with hy|hy
   . exact x_ hy
   . exact absurd rfl (S.Kt _ (PySem.mem_of_lookup hy))
 . exact Nat.le_of_lt (x.above y c (PySem.mem_of_lookup h))
 . have hi:i<vs.length:=by
    unfold start at h2;by_cases hi:i<vs.length
    . exact hi
    . rw[List.getElem?_append_right (by simpa using hi)]at h2;rw[List.getElem?_replicate]at h2;split at h2<;>cases h2
   have ha:vs[i]?=some v:=by
    unfold start at h2;rw[List.getElem?_append_left (by simpa using hi),List.getElem?_map]at h2;cases e:vs[i]? with
    |none=>rw[e]at h2;cases h2
    |some a=>rw[e]at h2;cases h2;rfl
   obtain⟨u,hu,rv⟩:=r.get ha
   have hp:ps[i]?=some y:=by
    rw[<-S.pre,List.getElem?_take_of_lt (by omega)];exact h1
   have ndP:ps.Nodup:=by rw[<-S.pre];exact S.nd.sublist (List.take_sublist _ _)
   refine⟨u,rv,?_⟩;rcases S.par y (List.mem_of_getElem? hp)with k|k
   . exact .inl ⟨k,wD ndP hp hu k⟩
   . obtain⟨c,e⟩:=x_ (n:=s.heap.objs.size+1) k;refine .inr ⟨.inl k,c,e,?_⟩;have q:=x.cell y c e;rw[vZ ndP hp hu (by show scope.names.lookup y≠_;rw[k];decide)]at q;exact q
 . exact e0.aI.fresh (Nat.le_of_lt (x.above y c (PySem.mem_of_lookup h)))
 . unfold start;show _=N.length;rw[List.length_append,List.length_map,List.length_replicate];omega
theorem F0{CX:s_}{P:Program}{w:World}{K:PySem.W.Frag}{mg:Str->Option Value}{base:Heap}{k:Nat}{f:Addr}{name qual:Str}{params:Arguments}{body:List Stmt}{scope:Scope}{dV kV doc pm cdv ct oc:Value}{an od:Option Addr}
 {osl:Array (Option Value)} {N ps:List Str} {sp:Sp} (lk:K.lookup f=some ⟨oc,od,.func (PySem.W.fnOf name qual params body scope dV kV doc pm an cdv ct),osl⟩) (hcd:PySem.W.codeIn K cdv qual=true) (S:ba N ps scope)
 (len:∀vs H Q E,sp vs H Q E->vs.length=ps.length)
 (hbody:∀(A:Around) (outer:List Env) (s:Shared) (H:Hp) (vs:List V) (Q:VK) (E:XK),cR k (A.deeper (envOfC qual scope s.heap.objs.size f cdv))->sp vs H Q E->
   ∃t,ij (pE CX P w K mg base N qual scope f cdv A outer s H E) body t/\t {nx:=fun _ H'=>Q .aM H',rt:=Q} (start N vs) H):
 bH P w K mg base CX (k+1) f (PySem.W.fnOf name qual params body scope dV kV doc pm an cdv ct) ps sp:=by
 refine⟨len,fun A outer s H args us vs Q E hr e0 hb r hsp=>?_⟩;have hl:=len _ _ _ _ hsp;have KX:K.In s.heap:=e0.mod.Df.keeps fun b o e=>(e0.bs b o e).1;have lim:s.heap.NoLimit:=e0.mod.nolimit.keeps fun b o e=>(e0.bs b o e).1
 have hkind:∀y∈ps.zip us,scope.names.lookup y.1=some .local\/(scope.names.lookup y.1=some .cell/\((cellsFrom (s.heap.objs.size+1) scope.names []).lookup y.1).isSome=true):=fun⟨n,v⟩ hy=>by
  rcases S.par n (List.of_mem_zip hy).1 with q|q
  . exact .inl q
  . exact .inr ⟨q,PySem.W.cellsFrom_some _ _ _ (.inl q)⟩
 refine codeAny_call_function hr.depth (KX _ _ lk) rfl S.co S.gen rfl (PySem.W.codeRec_of KX hcd) (hb _ _ _ _ ?_);refine wpAny_newFunctionEnv_cells S.kind hkind fun env he s1 x=>?_;subst he;refine⟨lim.keeps x.toInCall.keep,codeAny_func ?_⟩;obtain⟨t,ht,hq⟩:=hbody A outer s H vs Q E (hr.deeper _) hsp;have I:Inv (pE CX P w K mg base N qual scope f cdv A outer s H E) [] (start N vs) H s1:=CB S hr.hd e0 hl r x;refine wpAny_mono (ht [] s1 (start N vs) H _ I hq) (fun fl s' hs=>?_) fun e s' hs=>hs
 have fin:∀ {σ':St} {H':Hp} {v:V} {u:Value},Inv (pE CX P w K mg base N qual scope f cdv A outer s H E) [] σ' H' s'->RelV v u->Q v H'->CE outer P w H s Q u s':=
  fun{σ' H' v u} J rv q=>⟨v,H',J.os,J.bare,J.base,J.aI,rv,q⟩
 cases fl with
 |ret u=>
  obtain⟨v,σ',H',J,rv,q⟩:=hs;exact fin J rv q
 |next=>
  obtain⟨σ',H',J,q⟩:=hs;exact fin (v:=V.aM) (u:=Value.none) J rfl q
 |brk=>
  obtain⟨_,_,_,q⟩:=hs;exact False.elim q
 |cont=>
  obtain⟨_,_,_,q⟩:=hs;exact False.elim q
section
variable {X:Cx}{x:Str}{p pos:Pos}{e:Expr}{es:List Expr}{t:TA}{id T:String}{r:List V->Hp->VK->Prop}
def Kg(r:List V->Hp->VK->Prop)(t:TA):TE:=fun σ H Q=>t σ H fun vs H1=>r vs H1 Q
theorem Eb(hc:cm X (.builtin id) r)(hg:Gl X x)(hm:X.mg x=none)(hv:bootBuiltins x=some (.builtin id))(ha:PA X (e::es) t)(hn:x≠"__name__":=by decide)(hdb:(x==("__debug__":Str))=false:=by decide)
 (he:starEach (e::es) X.env=(false,eval e X.env)::starEach es X.env:=by rfl) (hpl:(backTo pos (starEach es X.env)).any (·.1)=false:=by rfl):PE X (.Call (.Name x p) (e::es) [] pos) (Kg r t):=by
 intro pins s σ H Q I h;refine wpAny_Call_Name_kw (jM I hg hm hv ?_ hn hdb);exact PyProof.Rows.callWith_builtin1 (bZ (ha pos pins s σ H _ I h) fun us s1 ⟨vs,H1,I1,r1,q1⟩=>hc pins s1 σ H1 vs us Q I1 r1 q1) he hpl
theorem BO(hc:cm X (.type T) r)(hg:Gl X x)(hm:X.mg x=none)(hv:bootBuiltins x=some (.type T))(ha:PA X (e::es) t)(hn:x≠"__name__":=by decide)(hdb:(x==("__debug__":Str))=false:=by decide)
 (he:starEach (e::es) X.env=(false,eval e X.env)::starEach es X.env:=by rfl) (hpl:(backTo pos (starEach es X.env)).any (·.1)=false:=by rfl):PE X (.Call (.Name x p) (e::es) [] pos) (Kg r t):=by
 intro pins s σ H Q I h;refine wpAny_Call_Name_kw (jM I hg hm hv ?_ hn hdb);exact PyProof.Rows.callWith_type1 (bZ (ha pos pins s σ H _ I h) fun us s1 ⟨vs,H1,I1,r1,q1⟩=>hc pins s1 σ H1 vs us Q I1 r1 q1) he hpl
end
end L2
namespace HT
open PySem PyProof.Rows
section
open PySem.SeqAt
open PySem.AutoSeq1 (wpAny_loadPart')
open PySem.MeetsSeq PySem.MeetsSeq2 PySem.MeetsSeq3
end
section
variable {prog:Program}{w:World}{A:Around}{E:Value->Shared->Prop}{s:Shared}
theorem Hi{t b:Addr}{vs ws:List Value}{Q:Value->Shared->Prop}(ht:IsTup s.heap t vs.toArray)(hb:IsTup s.heap b ws.toArray)(hv:vs≠ [])
 (h1:ws=[]->Q (.ref t) s) (h2:ws≠ []->Q (.ref s.heap.objs.size) {s with heap:=s.heap.push {cls:= .type "tuple",data:= .seq (vs++ws).toArray}})
 (hsz:vs.length+ws.length<=sizeLine):wpAny (model prog w) A (binaryOp .Add (.ref t) (.ref b)) Q E s:=by
 obtain⟨⟨cls,dd,data,sl⟩,ho,hc,n,hd⟩:=id ht;obtain⟨⟨cls2,dd2,data2,sl2⟩,ho2,hc2,n2,hd2⟩:=id hb;simp only at hc hd hc2 hd2;subst hc hd hc2 hd2;have e:vs.toArray++ws.toArray=(vs++ws).toArray:=by simp
 by_cases hw:ws=[]
 . exact concat_meets ⟨_,ho,rfl⟩ ⟨_,ho2,rfl⟩ noFill_tuple_add seq_tuple_add PySem.F.slot_tuple_add PySem.F.entry_tuple_add (PySem.F.args_tuple_add_2 _ _)
    (tuple_addW1 t b vs.toArray ws.toArray n n2 dd dd2 sl sl2 (by simpa using hv) (by simp[hw])) ⟨ho,ho2,h1 hw⟩
 . refine concat_meets ⟨_,ho,rfl⟩ ⟨_,ho2,rfl⟩ noFill_tuple_add seq_tuple_add PySem.F.slot_tuple_add PySem.F.entry_tuple_add (PySem.F.args_tuple_add_2 _ _)
    (tuple_addW2 t b vs.toArray ws.toArray n n2 dd dd2 sl sl2 (by simpa using hv) (by simpa using hw) (by rw[List.size_toArray,List.size_toArray];exact hsz)) ⟨ho,ho2,?_⟩
   rw[e];exact h2 hw
def bS(n d:Nat):Option Int->Nat
 |none=>d
 |some v=>if v<0 then(v+(n:Int)).toNat else min v.toNat n
theorem EE(n d:Nat):bS n d none=d:=rfl
theorem G7(n d k:Nat):bS n d (some (k:Int))=min k n:=by
 show(if(k:Int)<0 then((k:Int)+(n:Int)).toNat else min (k:Int).toNat n)=min k n;rw[if_neg (by omega),Int.toNat_natCast]
theorem IG(n d:Nat)(hd:d<=n)(o:Option Int):bS n d o<=n:=by
 cases o with
 |none=>exact hd
 |some v=>
  show(if v<0 then(v+(n:Int)).toNat else min v.toNat n)<=n;by_cases hv:v<0
  . rw[if_pos hv];omega
  . rw[if_neg hv];exact Nat.min_le_right _ _
theorem zR(v:Int)(n d:Nat):(if v<0 then max (v+(n:Int)) 0 else min v (n:Int))=((bS n d (some v):Nat):Int):=by
 show(if v<0 then max (v+(n:Int)) 0 else min v (n:Int))=(((if v<0 then(v+(n:Int)).toNat else min v.toNat n):Nat):Int)
 by_cases hv:v<0
 . simp only[if_pos hv];omega
 . simp only[if_neg hv];omega
theorem BB(lo hi:Option Int)(n:Nat):Builtin.Slice.sliceAdjust lo hi 1 (n:Int)=(((bS n 0 lo:Nat):Int),((bS n n hi:Nat):Int)):=by
 have h1:¬((1:Int)<0):=by omega
 unfold Builtin.Slice.sliceAdjust;simp only[h1,if_false];refine Prod.ext ?_ ?_
 . cases lo with
   |none=>rfl
   |some v=>exact zR v n 0
 . cases hi with
   |none=>rfl
   |some v=>exact zR v n n
theorem Bi(i j:Nat):Builtin.Slice.slicePlaces (i:Int) (j:Int) 1=j-i:=by
 unfold Builtin.Slice.slicePlaces;have h1:(1:Int)>0:=by omega
 simp only[h1,if_true,Int.ediv_one];split<;>omega
theorem u7{v:Value}{o:Option Int}{Q:Option Int->Shared->Prop}(p:IsPart v o)(h:Q o s):wpAny (model prog w) A (Builtin.Slice.slicePartIndex v) Q E s:=by
 cases p with
 |none=>exact slicePart_none h
 |int i t=>exact slicePart_int h
theorem n_{sl:Addr}{vl vu:Value}{lo hi:Option Int}{n:Nat}{Q:Int×Int×Nat->Shared->Prop}(hs:s.heap.IsSliceOf sl vl vu .none)(pl:IsPart vl lo)(pu:IsPart vu hi)
 (h:Q (((bS n 0 lo:Nat):Int),1,bS n n hi-bS n 0 lo) s):wpAny (model prog w) A (Builtin.Slice.sliceApplied (.ref sl) (pure (n:Int))) Q E s:=by
 obtain⟨os,hos,hcs,hds⟩:=id hs;unfold Builtin.Slice.sliceApplied Builtin.Slice.sliceFields;refine wpAny_bind (wpAny_bind (wpAny_field hos hds (x:=vl) rfl (wpAny_bind (wpAny_field hos hds (x:=vu) rfl (wpAny_bind (wpAny_field hos hds (x:= .none) rfl (wpAny_pure ?_)))))));refine wpAny_bind (slicePart_none ?_);show wpAny _ _ (if((1:Int)==0)=true then _ else _) _ _ s;rw[if_neg (by decide)];refine wpAny_bind (u7 pl (wpAny_bind (u7 pu (wpAny_bind (wpAny_pure ?_)))));show wpAny _ _ (match Builtin.Slice.sliceAdjust lo hi 1 (n:Int)with|(lo,hi)=>pure (lo,(1:Int),Builtin.Slice.slicePlaces lo hi 1)) _ _ s;rw[BB lo hi n];show wpAny _ _ (pure (((bS n 0 lo:Nat):Int),(1:Int),Builtin.Slice.slicePlaces ((bS n 0 lo:Nat):Int) ((bS n n hi:Nat):Int) 1)) _ _ s;rw[Bi];exact wpAny_pure h
theorem EO(xs:Array Value)(i k:Nat):((List.range k).filterMap fun(m:Nat)=>xs[((i:Int)+(m:Int)*1).toNat]?).toArray=((xs.toList.drop i).take k).toArray:=by
 have e:(fun(m:Nat)=>xs[((i:Int)+(m:Int)*1).toNat]?)=fun m=>xs[i+m]?:=by
  funext m;have:((i:Int)+(m:Int)*1).toNat=i+m:=by omega
  rw[this]
 rw[e];have:=pick_run xs i k;rw[List.filterMap_map]at this;have e2:((fun x=>xs[x]?)∘fun x=>i+x)=fun m=>xs[i+m]?:=rfl;rw[e2]at this;rw[this]
theorem sW{t sl:Addr}{items:Array Value}{vl vu:Value}{lo hi:Option Int}{Q:Value->Shared->Prop}(ht:IsTup s.heap t items)(hs:s.heap.IsSliceOf sl vl vu .none)(pl:IsPart vl lo)(pu:IsPart vu hi)
 (hw:¬(bS items.size 0 lo=0/\bS items.size items.size hi=items.size))
 (h:Q (.ref s.heap.objs.size) {s with heap:=s.heap.push {cls:= .type "tuple",data:= .seq ((items.toList.drop (bS items.size 0 lo)).take (bS items.size items.size hi-bS items.size 0 lo)).toArray}})
 (hsz:items.size<=sizeLine):wpAny (model prog w) A (getItem (.ref t) (.ref sl)) Q E s:=by
 have htake:sizeOk (.seq ((items.toList.drop (bS items.size 0 lo)).take (bS items.size items.size hi-bS items.size 0 lo)).toArray):=by
  show((items.toList.drop (bS items.size 0 lo)).take (bS items.size items.size hi-bS items.size 0 lo)).toArray.size<=sizeLine;rw[List.size_toArray,List.length_take,List.length_drop,Array.length_toList];omega
 have hj:bS items.size items.size hi<=items.size:=IG _ _ (Nat.le_refl _) hi;obtain⟨os,hos,hcs,hds⟩:=id hs;have hTs:s.TypeIs (.ref sl) "slice":=⟨os,hos,hcs⟩
 unfold getItem;try with_reducible refine wpAny_holding ?_
 first|refine wpAny_bind (wpAny_pure ?_)|skip
 refine wpAny_bind (wpAny_sequenceKey ht.typeIs (by decide) ?_)
 refine wpAny_bind (wpAny_callSpecial?_slot (name:=Str.ofString "__getitem__") ht.typeIs PyProof.Rows.slot_tuple_getitem
  (wpAny_call_entry PyProof.Rows.slot_tuple_getitem ht.typeIs entry_tuple_getitem ?_ (args_tuple_getitem _ _)))
 show wpAny _ _ (Builtin.Tuple.tupleItemsOf (.ref t) >>= _) _ _ s;refine wpAny_bind (tupleItemsOf_ ht ?_);refine wpAny_bind (wpAny_typeOf hTs ?_);rw[if_pos (by decide)];refine wpAny_bind (n_ hs pl pu ?_)
 have hno:¬((((bS items.size 0 lo:Nat):Int)==0&&(1:Int)==1&&(bS items.size items.size hi-bS items.size 0 lo)==items.size)=true):=by
  intro q;rw[Bool.and_eq_true,Bool.and_eq_true]at q;have q1:((bS items.size 0 lo:Nat):Int)=0:=eq_of_beq q.1.1;have q2:bS items.size items.size hi-bS items.size 0 lo=items.size:=eq_of_beq q.2;exact hw ⟨by omega,by omega⟩
 show wpAny _ _ (if(((bS items.size 0 lo:Nat):Int)==0&&(1:Int)==1&&(bS items.size items.size hi-bS items.size 0 lo)==items.size)=true then _ else _) _ _ s;rw[if_neg hno,EO]
 first
  |exact wpAny_bind (m:=Builtin.Tuple.tupleExact _) (wpAny_newObj_type (wpAny_pure ⟨_,rfl,wpAny_pure h⟩) htake)
  |exact wpAny_bind (m:=Builtin.Tuple.tupleExact _) (wpAny_newObj_type (wpAny_bind (wpAny_pure (wpAny_pure ⟨_,rfl,wpAny_pure h⟩))) htake)
  |exact wpAny_bind (wpAny_bind (m:=Builtin.Tuple.tupleExact _) (wpAny_newObj_type (wpAny_pure (wpAny_pure ⟨_,rfl,wpAny_pure h⟩)) htake))
  |exact wpAny_bind (wpAny_bind (m:=Builtin.Tuple.tupleExact _) (wpAny_newObj_type (wpAny_pure ⟨_,rfl,wpAny_pure h⟩) htake))
end
end HT
namespace L2
open PySem PySem.Spec PyProof.Rows
abbrev TO:=St->Hp->(Option Int->Hp->Prop)->Prop
def PO(X:Cx)(e:Option Expr)(t:TO):Prop:=
 ∀(pins:List (Addr×Obj)) (s:Shared) (σ:St) (H:Hp) (Q:Option Int->Hp->Prop),Inv X pins σ H s->t σ H Q->
  wpAny (model X.prog X.w) X.A (evalPart e X.env) (fun u s'=>∃o H',Inv X pins σ H' s'/\IsPart u o/\Q o H') X.xe s
def Hn:TO:=fun _ H Q=>Q none H
def Ls(t:TE):TO:=fun σ H Q=>t σ H fun x H1=>∃i,x= .int i/\Q (some i) H1
section
variable {X:Cx}{e:Expr}{te:TE}{lo hi:Option Expr}{tl th:TO}{pos p2:Pos}
theorem HQ:PO X none Hn:=by
 intro pins s σ H Q I h;rw[evalPart_none];exact wpAny_pure ⟨none,H,I,.none,h⟩
theorem GF(h:PE X e te):PO X (some e) (Ls te):=by
 intro pins s σ H Q I hw;rw[evalPart_some];refine bZ (h pins s σ H _ I hw) fun u s1 ⟨x,H1,I1,r1,q1⟩=>?_;obtain⟨i,rfl,q⟩:=q1;obtain⟨t,rfl⟩:=r1;exact⟨some i,H1,I1,.int i t,q⟩
def BJ(X:Cx)(r:V->Option Int->Option Int->Hp->VK->Prop):Prop:=
 ∀(pins:List (Addr×Obj)) (s:Shared) (σ:St) (H:Hp) (x:V) (v vl vu:Value) (lo hi:Option Int) (sl:Addr) (Q:VK),Inv X pins σ H s->RelV x v->s.heap.IsSliceOf sl vl vu .none->IsPart vl lo->IsPart vu hi->r x lo hi H Q->
  ∃T id,typeLookup (.type T) "__getitem__"=pure (some (.builtin id))/\s.TypeIs v T/\wpAny (model X.prog X.w) X.A (getItem v (.ref sl)) (EP X pins σ Q) X.xe s
def N3(r:V->Option Int->Option Int->Hp->VK->Prop)(te:TE)(tl th:TO):TE:=fun σ H Q=>te σ H fun x H1=>tl σ H1 fun l H2=>th σ H2 fun u H3=>r x l u H3 Q
theorem Ea{r:V->Option Int->Option Int->Hp->VK->Prop}(hr:BJ X r)(he:PE X e te)(hl:PO X lo tl)(hu:PO X hi th):PE X (.Subscript e (.Slice lo hi none p2) pos) (N3 r te tl th):=by
 intro pins s σ H Q I h;refine Subscript_ (bZ (he pins s σ H _ I h) fun v s1 ⟨x,H1,I1,r1,q1⟩=>?_);refine wpAny_Slice (bZ (hl pins s1 σ H1 _ I1 q1) fun vl s2 ⟨l,H2,I2,pl,q2⟩=>bZ (hu pins s2 σ H2 _ I2 q2) fun vu s3 ⟨u,H3,I3,pu,q3⟩=>?_);rw[evalPart_none];refine wpAny_pure ?_;have I4:Inv X pins σ H3 {s3 with heap:=s3.heap.push {cls:= .type "slice",data:= .fields #[vl,vu,.none]}}:=I3.kept (t':=s3.toks) fun b ob q=>Heap.get?_push_of_some _ q;obtain⟨T,id,hT,ht,hg⟩:=hr pins {s3 with heap:=s3.heap.push {cls:= .type "slice",data:= .fields #[vl,vu,.none]}} σ H3 x v vl vu l u s3.heap.objs.size Q I4 r1 (Heap.IsSliceOf.new ..) pl pu q3;show wpAny (model X.prog X.w) X.A (subscriptTail e (.Slice lo hi none p2) v (.ref s3.heap.objs.size)) (EP X pins σ Q) X.xe {s3 with heap:=s3.heap.push {cls:= .type "slice",data:= .fields #[vl,vu,.none]}};exact tail_any (ops:=[.ref s3.heap.objs.size,v]) ht hT hg (by with_unfolding_all rfl)
def pD(xs:List V)(lo hi:Option Int):List V:=(xs.drop (HT.bS xs.length 0 lo)).take (HT.bS xs.length xs.length hi-HT.bS xs.length 0 lo)
theorem tu(xs:List V)(lo hi:Option Int):(pD xs lo hi).length<=xs.length:=by
 unfold pD;rw[List.length_take,List.length_drop];omega
def Nq(K:PySem.W.Frag):V->Option Int->Option Int->Hp->VK->Prop:=fun x lo hi H Q=>∃a xs,x= .ref a/\ik K H a xs/\
 ¬(HT.bS xs.length 0 lo=0/\HT.bS xs.length xs.length hi=xs.length)/\∀p,H p=none->Q (.ref p) (upd H p (.tup (pD xs lo hi)))
theorem Iu:BJ X (Nq X.K):=by
 intro pins s σ H x v vl vu lo hi sl Q I rx hs pl pu h;obtain⟨a,xs,rfl,hx,hw,q⟩:=h;cases rx;obtain⟨its,r,ht,hz⟩:=I.tuple hx;have hlen:its.toArray.size=xs.length:=by rw[List.size_toArray];exact r.length.symm
 refine⟨"tuple",_,PyProof.Rows.slot_tuple_getitem.lookup,ht.typeIs,?_⟩;refine HT.sW ht hs pl pu (by rw[hlen];exact hw) ?_ (by rw[hlen];exact hz);rw[hlen];refine⟨.ref s.heap.objs.size,_,I.laid (t':=s.toks) (o:= .tup (pD xs lo hi)) (fun b ob q=>Heap.get?_push_of_some _ q) (Nat.le_refl _) ?_,rfl,q _ (I.aI.fresh (Nat.le_refl _))⟩;exact⟨Nat.le_trans (tu xs lo hi) hz,_,(r.drop (HT.bS xs.length 0 lo)).take (HT.bS xs.length xs.length hi-HT.bS xs.length 0 lo),IsTup.new _ _⟩
def KH(K:PySem.W.Frag):R2:=fun x y H Q=>∃a b xs ys,x= .ref a/\y= .ref b/\ik K H a xs/\ik K H b ys/\xs≠ []/\xs.length+ys.length<=sizeLine/\
 (ys=[]->Q (.ref a) H)/\(ys≠ []->∀p,H p=none->Q (.ref p) (upd H p (.tup (xs++ys))))
theorem Vals.sG{xs:List V}{us:List Value}(r:Vals xs us):us=[]↔xs=[]:=by
 cases r with
 |nil=>simp
 |cons _ _=>simp
theorem Hh:cF X (binaryOp .Add) (KH X.K):=by
 intro pins s σ H x y v u Q I rx ry h;obtain⟨a,b,xs,ys,rfl,rfl,ha,hb,hx,hz,q1,q2⟩:=h;cases rx;cases ry;obtain⟨its,r1,p1,_⟩:=I.tuple ha;obtain⟨its2,r2,p2,_⟩:=I.tuple hb;refine HT.Hi p1 p2 (fun z=>hx (r1.sG.mp z)) (fun z=>⟨.ref a,H,I,rfl,q1 (r2.sG.mp z)⟩) (fun z=>?_) (by rw[<-r1.length,<-r2.length];exact hz);refine⟨.ref s.heap.objs.size,_,I.laid (t':=s.toks) (o:= .tup (xs++ys)) (fun b ob q=>Heap.get?_push_of_some _ q) (Nat.le_refl _) ?_,rfl,q2 (fun w=>z (r2.sG.mpr w)) _ (I.aI.fresh (Nat.le_refl _))⟩;exact⟨by rw[List.length_append];exact hz,_,r1.append r2,IsTup.new _ _⟩
end
def nU(n:Nat)(i:Int):Option Nat:=if 0<=i then(if i<n then some i.toNat else none)else if-(n:Int)<=i then some (i+n).toNat else none
def eQ{α:Type}(xs:List α)(i:Int):Option α:=(nU xs.length i).bind fun j=>xs[j]?
theorem zU{n:Nat}{i:Int}{j:Nat}(h:nU n i=some j):seqIndex? i n=some j/\j<n/\ -(n:Int)<=i/\i<n:=by
 unfold nU at h;by_cases h0:0<=i
 . rw[if_pos h0]at h;by_cases h1:i<n
   . rw[if_pos h1]at h;have e:i.toNat=j:=Option.some.inj h;exact⟨by rw[seqIndex_of h0 h1,e],by omega,by omega,h1⟩
   . rw[if_neg h1]at h;cases h
 . rw[if_neg h0]at h;by_cases h1: -(n:Int)<=i
   . rw[if_pos h1]at h;have e:(i+n).toNat=j:=Option.some.inj h;exact⟨by rw[seqIndex_neg (by omega) h1,e],by omega,h1,by omega⟩
   . rw[if_neg h1]at h;cases h
theorem vK{α:Type}{xs:List α}{i:Int}{v:α}(h:eQ xs i=some v):∃j,seqIndex? i xs.length=some j/\xs[j]?=some v/\j<xs.length/\ -(xs.length:Int)<=i/\i<xs.length:=by
 unfold eQ at h;cases e:nU xs.length i with
 |none=>rw[e]at h;cases h
 |some j=>
  rw[e]at h;obtain⟨h1,h2,h3,h4⟩:=zU e;exact⟨j,h1,h,h2,h3,h4⟩
theorem iO{α:Type}{xs:List α}{j:Nat}{v:α}(h:xs[j]?=some v):eQ xs (j:Int)=some v:=by
 have hj:j<xs.length:=(List.getElem?_eq_some_iff.mp h).1
 have e:nU xs.length (j:Int)=some j:=by
  unfold nU;rw[if_pos (by omega),if_pos (by omega)];simp
 unfold eQ;rw[e];exact h
def r_(b:Expr):Prop:=∀o i,subscripted b false o i=operate [o,i] (getItem o i)
def Fy(X:Cx)(r:R2):Prop:=
 ∀(value slice:Expr) (pins:List (Addr×Obj)) (s:Shared) (σ:St) (H:Hp) (x y:V) (v u:Value) (Q:VK),Inv X pins σ H s->RelV x v->RelV y u->r x y H Q->
  subscripted slice false v u=operate [v,u] (getItem v u)->wpAny (model X.prog X.w) X.A (subscriptTail value slice v u) (EP X pins σ Q) X.xe s
def MM(X:Cx)(id:String)(r:V->List V->Hp->VK->Prop):Prop:=
 ∀(pins:List (Addr×Obj)) (s:Shared) (σ:St) (H:Hp) (x:V) (xs:List V) (v:Value) (us:List Value) (Q:VK),Inv X pins σ H s->RelV x v->Vals xs us->r x xs H Q->
  wpAny (model X.prog X.w) X.A (call (.builtin id) (v::us)) (EP X pins σ Q) X.xe s
section
variable {X:Cx}{a b:Expr}{ta tb:TE}{pos:Pos}
theorem K0{r:R2}(hr:Fy X r)(ha:PE X a ta)(hb:PE X b tb)(hs:r_ b):PE X (.Subscript a b pos) (C_ r ta tb):=by
 intro pins s σ H Q I h;exact Subscript_ (DV ha hb I h fun v u s2 x y H2 I2 rx ry q=>hr a b pins s2 σ H2 x y v u Q I2 rx ry q (hs _ _))
def NK(K:PySem.W.Frag):R2:=fun x y H Q=>∃p xs i v,x= .ref p/\y= .int i/\mB K H p xs/\eQ xs i=some v/\Q v H
def M4(K:PySem.W.Frag):R2:=fun x y H Q=>∃p xs i v,x= .ref p/\y= .int i/\ik K H p xs/\eQ xs i=some v/\Q v H
theorem Ac:Fy X (NK X.K):=by
 intro value slice pins s σ H x y v u Q I rx ry h hs;obtain⟨p,xs,i,z,rfl,rfl,hq,he,q⟩:=h;cases rx;obtain⟨t,rfl⟩:=ry;obtain⟨its,r,pl,hz⟩:=I.list hq;obtain⟨j,h1,h2,h3,h4,h5⟩:=vK he;obtain⟨w,ew,rw'⟩:=r.get h2;have hl:=r.length;have hn:=rf;have fin:EP X pins σ Q w s:=⟨z,H,I,rw',q⟩
 by_cases h0:0<=i
 . have hj:i.toNat=j:=by
    rw[seqIndex_of h0 h5]at h1;exact Option.some.inj h1
   exact item_listR pl.isList h0 (by omega) (by rw[hj];simpa using ew) fin hs
 . have hj:(i+(its.toArray.size:Int)).toNat=j:=by
    rw[seqIndex_neg (by omega) h4]at h1;rw[List.size_toArray,<-hl];exact Option.some.inj h1
   exact subscriptTail_builtinR (x:=w) pl.isList.typeIs slot_list_getitem.lookup
    (wpAny_getItem_list_neg (Q:=fun r s'=>r=w/\EP X pins σ Q r s') pl.isList (by omega) (by rw[List.size_toArray]<;>omega) (by omega) (by rw[hj];simpa using ew) ⟨rfl,fin⟩) hs
theorem Jo:Fy X (M4 X.K):=by
 intro value slice pins s σ H x y v u Q I rx ry h hs;obtain⟨p,xs,i,z,rfl,rfl,hq,he,q⟩:=h;cases rx;obtain⟨t,rfl⟩:=ry;obtain⟨its,r,pl,hz⟩:=I.tuple hq;obtain⟨j,h1,h2,h3,h4,h5⟩:=vK he;obtain⟨w,ew,rw'⟩:=r.get h2;have hl:=r.length;have hn:=rf;have fin:EP X pins σ Q w s:=⟨z,H,I,rw',q⟩
 exact subscriptTail_builtinR (x:=w) pl.typeIs slot_tuple_getitem.lookup
  (getItem_tuple (j:=j) (Q:=fun r s'=>r=w/\EP X pins σ Q r s') pl (by omega) (by omega) (by rw[List.size_toArray,<-hl];exact h1) (by simpa using ew) ⟨rfl,fin⟩) hs
theorem Ay(its:List Value)(n j:Nat)(u:Value):Obj.mapSeq (·.setIfInBounds j u) {cls:= .type "list",data:= .seq its.toArray n}= {cls:= .type "list",data:= .seq (its.set j u).toArray n}:=by
 simp[Obj.mapSeq]
theorem Inv.lst{pins:List (Addr×Obj)}{σ:St}{H:Hp}{s:Shared}{p:Addr}{xs:List V}(I:Inv X pins σ H s)(h:H p=some (.lst xs)):
 ∃(its:List Value) (n:Nat),Vals xs its/\s.heap.get? p=some {cls:= .type "list",data:= .seq its.toArray n}/\xs.length<=sizeLine:=by
 obtain⟨z,its,n,r,e⟩:=I.aI p _ h;exact⟨its,n,r,e,z⟩
theorem Inv.Kb{pins:List (Addr×Obj)}{σ:St}{H:Hp}{s:Shared}{p:Addr}{xs ys:List V}{its its':List Value}{n n':Nat}{f:Obj->Obj}(I:Inv X pins σ H s)(h:H p=some (.lst xs))
 (ho:s.heap.get? p=some {cls:= .type "list",data:= .seq its.toArray n}) (hf:f {cls:= .type "list",data:= .seq its.toArray n}= {cls:= .type "list",data:= .seq its'.toArray n'}) (r:Vals ys its') (hz:ys.length<=sizeLine) (t:Nat):
 Inv X pins σ (upd H p (.lst ys)) {s with heap:=s.heap.update p f,toks:=t}:=by
 have e:(s.heap.update p f).get? p=some {cls:= .type "list",data:= .seq its'.toArray n'}:=by
  rw[Heap.get?_update_self f ho (by rw[hf]<;>rfl),hf]
 refine I.write (x:=p) (e:=p) (by rw[h];trivial) (.inl rfl) (fun b u hb q=>(Heap.get?_update_other _ _ (Ne.symm hb)).trans q) ⟨_,e⟩ ?_;exact⟨hz,its',n',r,e⟩
def rT:V->V->V->Hp->(Hp->Prop)->Prop:=fun o i v H Q=>∃p xs k j,o= .ref p/\i= .int k/\H p=some (.lst xs)/\nU xs.length k=some j/\Q (upd H p (.lst (xs.set j v)))
theorem set_list:Jf X rT:=by
 intro pins s σ H o i v ov iv u Q I ro ri rv h;obtain⟨p,xs,k,j,rfl,rfl,hp,hj,q⟩:=h;cases ro;obtain⟨t,rfl⟩:=ri;obtain⟨its,n,r,ho,hz⟩:=I.lst hp;obtain⟨h1,h2,h3,h4⟩:=zU hj;have hl:=r.length;have hn:=rf
 have I':Inv X pins σ (upd H p (.lst (xs.set j v))) {s with heap:=s.heap.update p (Obj.mapSeq (·.setIfInBounds j u))}:=
  I.Kb hp ho (Ay its n j u) (r.set rv j) (by rw[List.length_set];exact hz) s.toks
 by_cases h0:0<=k
 . have hk:k.toNat=j:=by
    rw[seqIndex_of h0 h4]at h1;exact Option.some.inj h1
   exact PySem.W.ki_setAt ho h0 (by omega) (by rw[List.size_toArray,<-hl];exact h4) (by rw[hk];exact⟨_,I',q⟩)
 . have hk:(k+(its.toArray.size:Int)).toNat=j:=by
    rw[seqIndex_neg (by omega) h3]at h1;rw[List.size_toArray,<-hl];exact Option.some.inj h1
   exact PySem.W.ki_setBack ho (by omega) (by rw[List.size_toArray,<-hl];exact h3) (by omega) (by rw[hk];exact⟨_,I',q⟩)
theorem yx(lo hi:Option Int)(n:Nat):(sliceBounds lo hi none n).1=((HT.bS n 0 lo:Nat):Int)/\(sliceBounds lo hi none n).2.1=((HT.bS n n hi:Nat):Int)/\(sliceBounds lo hi none n).2.2=1:=by
 refine⟨?_,?_,rfl⟩
 . cases lo with
   |none=>simp[sliceBounds,HT.bS]
   |some i=>
    simp only[sliceBounds,HT.bS,Option.getD_none,show(1:Int)>0 by decide,if_true];by_cases h:i<0
    . simp only[h,if_true]<;>omega
    . simp only[h,if_false]<;>omega
 . cases hi with
   |none=>simp[sliceBounds,HT.bS]
   |some i=>
    simp only[sliceBounds,HT.bS,Option.getD_none,show(1:Int)>0 by decide,if_true];by_cases h:i<0
    . simp only[h,if_true]<;>omega
    . simp only[h,if_false]<;>omega
theorem wV(its:List Value)(lo hi:Option Int):slicePick its.toArray lo hi none=((its.drop (HT.bS its.length 0 lo)).take (HT.bS its.length its.length hi-HT.bS its.length 0 lo)).toArray:=by
 obtain⟨h1,h2,h3⟩:=yx lo hi its.toArray.size;unfold slicePick;rw[h1,h2,h3];simp only[sliceRange_one,pick_run,List.size_toArray]<;>rfl
def M0(K:PySem.W.Frag):V->Option Int->Option Int->Hp->VK->Prop:=fun x lo hi H Q=>∃a xs,x= .ref a/\mB K H a xs/\∀p,H p=none->Q (.ref p) (upd H p (.lst (pD xs lo hi)))
theorem Aj:BJ X (M0 X.K):=by
 intro pins s σ H x v vl vu lo hi sl Q I rx hs pl pu h;obtain⟨a,xs,rfl,hx,q⟩:=h;cases rx;obtain⟨its,r,ht,hz⟩:=I.list hx;have hlen:=r.length;refine⟨"list",_,slot_list_getitem.lookup,ht.isList.typeIs,?_⟩;refine wpAny_getItem_list_slice ht.isList hs pl pu .none (by simp) ?_ (by rw[List.size_toArray]<;>omega);rw[wV,<-hlen];refine⟨.ref s.heap.objs.size,_,I.laid (t':=s.toks) (o:= .lst (pD xs lo hi)) (fun b ob q=>Heap.get?_push_of_some _ q) (Nat.le_refl _) ?_,rfl,q _ (I.aI.fresh (Nat.le_refl _))⟩;exact⟨Nat.le_trans (tu xs lo hi) hz,_,0,(r.drop (HT.bS xs.length 0 lo)).take (HT.bS xs.length xs.length hi-HT.bS xs.length 0 lo),Heap.get?_push_size _ rfl⟩
theorem yy:cm X (.builtin "len") (fun xs H Q=>∃p ys,xs=[.ref p]/\(mB X.K H p ys\/ik X.K H p ys)/\Q (.int ys.length) H):=by
 intro pins s σ H xs us Q I r h;obtain⟨p,ys,rfl,hq,q⟩:=h;obtain⟨u,rfl,rx⟩:=vals1 r;cases rx;have hn:=rf;rcases hq with hq|hq
 . obtain⟨its,r',pl,hz⟩:=I.list hq;have hlen:=r'.length;exact Calls.call_len_list pl.isList (by simp only[List.size_toArray]<;>omega) ⟨.int ys.length,H,I.tok _,⟨s.toks+1,by rw[List.size_toArray,hlen]⟩,q⟩
 . obtain⟨its,r',pl,hz⟩:=I.tuple hq;have hlen:=r'.length;exact len_tuple pl (by simp only[List.size_toArray]<;>omega) ⟨.int ys.length,H,I.tok _,⟨s.toks+1,by rw[List.size_toArray,hlen]⟩,q⟩
theorem y6:cm X (.builtin "len") (fun xs H Q=>∃z,xs=[.str z]/\z.length<=sizeLine/\Q (.int z.length) H):=by
 intro pins s σ H xs us Q I r h;obtain⟨z,rfl,hz,q⟩:=h;obtain⟨u,rfl,t,rfl⟩:=vals1 r;have hn:=rf;exact len_str (by omega) ⟨.int z.length,H,I.tok _,⟨_,rfl⟩,q⟩
theorem rq:cm X (.type "list") (fun xs H Q=>∃p ys,xs=[.ref p]/\(mB X.K H p ys\/ik X.K H p ys)/\∀l,H l=none->Q (.ref l) (upd H l (.lst ys))):=by
 intro pins s σ H xs us Q I r h;obtain⟨p,ys,rfl,hq,q⟩:=h;obtain⟨u,rfl,rx⟩:=vals1 r;cases rx
 have fin:∀(its:List Value),Vals ys its->ys.length<=sizeLine->∀(h':Heap) (c':Nat),(∀b o',s.heap.get? b=some o'->h'.get? b=some o')->
  h'.get? s.heap.objs.size=some {cls:= .type "list",dict:=none,data:= .seq its.toArray c',slots:= #[]}->EP X pins σ Q (.ref s.heap.objs.size) {s with heap:=h'}:=fun its r' hz h' c' kp e=>
  ⟨.ref s.heap.objs.size,_,I.laid (t':=s.toks) kp (Nat.le_refl _) (show gd X.prog X.w _ h' _ (.lst ys)from⟨hz,its,c',r',e⟩),rfl,q _ (I.aI.fresh (Nat.le_refl _))⟩
 rcases hq with hq|hq
 . obtain⟨its,r',pl,hz⟩:=I.list hq;have hlen:=r'.length;obtain⟨o,ho,hc,n,hd⟩:=pl.isList;exact call_list_seq p (.inl rfl) ho hc hd (fun h' c' kp e=>fin its r' hz h' c' kp e) (by simp only[List.size_toArray]<;>omega)
 . obtain⟨its,r',pl,hz⟩:=I.tuple hq;have hlen:=r'.length;obtain⟨o,ho,hc,n,hd⟩:=pl;exact call_list_seq p (.inr rfl) ho hc hd (fun h' c' kp e=>fin its r' hz h' c' kp e) (by simp only[List.size_toArray]<;>omega)
theorem wW:cm X (.type "tuple") (fun xs H Q=>∃p ys,xs=[.ref p]/\((mB X.K H p ys/\∀l,H l=none->Q (.ref l) (upd H l (.tup ys)))\/(ik X.K H p ys/\Q (.ref p) H))):=by
 intro pins s σ H xs us Q I r h;obtain⟨p,ys,rfl,h⟩:=h;obtain⟨u,rfl,rx⟩:=vals1 r;cases rx;rcases h with⟨hq,q⟩|⟨hq,q⟩
 . obtain⟨its,r',pl,hz⟩:=I.list hq;have hlen:=r'.length;refine call_tuple_list pl.isList (fun h' kp=>?_) (by simp only[List.size_toArray]<;>omega);have I1:Inv X pins σ H {s with heap:=h'}:=I.kept (t':=s.toks) kp
   have I2:Inv X pins σ (upd H h'.objs.size (.tup ys)) {s with heap:=h'.push {cls:= .type "tuple",data:= .seq its.toArray}}:=
    I1.laid (t':=s.toks) (fun b o e=>Heap.get?_push_of_some _ e) (Nat.le_refl _) (show gd X.prog X.w _ _ _ (.tup ys)from⟨hz,its,r',IsTup.new _ _⟩)
   exact⟨.ref h'.objs.size,_,I2,rfl,q _ (I1.aI.fresh (Nat.le_refl _))⟩
 . obtain⟨its,r',pl,hz⟩:=I.tuple hq;exact call_tuple_same pl ⟨.ref p,H,I,rfl,q⟩
def MB(K:PySem.W.Frag)(T:String)(x:V)(H:Hp):Prop:=match x with
 | .str _=>T="str"
 | .int _=>T="int"
 | .ref p=>(T="list"/\∃xs,mB K H p xs)\/(T="tuple"/\∃o,K.lookup p=some o/\o.cls= .type "tuple"/\o.dict=none)\/
    (T="dict"/\((∃kvs,H p=some (.dK kvs))\/∃kvs,H p=some (.dT kvs)))\/(T="set"/\∃S n,H p=some (.set S n))
 |_=>False
theorem Jz{pins:List (Addr×Obj)}{σ:St}{H:Hp}{s:Shared}{T:String}{x:V}{v:Value}(I:Inv X pins σ H s)(r:RelV x v)(ty:MB X.K T x H):
 s.TypeIs v T/\∀a,v= .ref a->∃ob,s.heap.get? a=some ob/\ob.dict=none:=by
 cases x with
 |str z=>
  obtain⟨t,rfl⟩:=r;cases (show T="str" from ty);exact⟨typeIs_str s z t,fun _ e=>nomatch e⟩
 |int i=>
  obtain⟨t,rfl⟩:=r;cases (show T="int" from ty);exact⟨typeIs_int s i t,fun _ e=>nomatch e⟩
 |ref p=>
  cases r;rcases ty with⟨rfl,xs,hq⟩|⟨rfl,o,hk,hc,hd⟩|⟨rfl,hk⟩|⟨rfl,S,n,hk⟩
  . obtain⟨its,_,pl,_⟩:=I.list hq;refine⟨pl.isList.typeIs,fun a e=>?_⟩;cases e;obtain⟨o,n,e,c,hd,_⟩:=pl;exact⟨o,e,hd⟩
  . refine⟨⟨o,I.nJ p o hk,hc⟩,fun a e=>?_⟩;cases e;exact⟨o,I.nJ _ o hk,hd⟩
  . have z:∃o,s.heap.get? p=some o/\o.ExactDict:=by
     rcases hk with⟨kvs,hk⟩|⟨kvs,hk⟩
     . obtain⟨_,_,_,_,o,_,_,e,ex,_⟩:=I.aI p _ hk;exact⟨o,e,ex⟩
     . obtain⟨_,_,_,_,o,_,_,e,ex,_⟩:=I.aI p _ hk;exact⟨o,e,ex⟩
    obtain⟨o,e,ex⟩:=z;refine⟨⟨o,e,ex.1⟩,fun a e2=>?_⟩;cases e2;exact⟨o,e,ex.2.1⟩
  . obtain⟨o,_,_,_,e,ex,_⟩:=I.aI p _ hk;refine⟨⟨o,e,ex.1⟩,fun a e2=>?_⟩;cases e2;exact⟨o,e,ex.2.1⟩
 |_=>exact False.elim ty
def MT(K:PySem.W.Frag)(T:String)(r:V->List V->Hp->VK->Prop)(to:TE)(t:TA):TE:=fun σ H Q=>to σ H fun x H1=>MB K T x H1/\t σ H1 fun xs H2=>r x xs H2 Q
variable {o e:Expr}{es:List Expr}{to:TE}{t:TA}{name:Str}{apos cpos:Pos}{T id:String}{r:V->List V->Hp->VK->Prop}
theorem L0(pa:PlainAttrs T)(slot:Slot T name id)(hty:typeOf (.builtin id)=pure (.type "method_descriptor"))(hm:MM X id r)(ho:PE X o to)(ha:PA X (e::es) t)
 (hbase:attributeBase o name X.env (eval o X.env)=eval o X.env:=by rfl)
 (hfew:((backTo cpos (starEach (e::es) X.env)).all (fun x=> !x.1)&&(backToKw cpos (keywordEach [] X.env)).all (fun x=>x.1.isSome)
   &&decide ((e::es).length+([]:List Keyword).length+(if([]:List Keyword).isEmpty then 0 else 1)<30))=true:=by rfl)
 (hline:(apos.endLine==cpos.line)=true:=by rfl) (hs:starEach (e::es) X.env=(false,eval e X.env)::starEach es X.env:=by rfl) (hplain:(backTo cpos (starEach es X.env)).any (·.1)=false:=by rfl):
 PE X (.Call (.Attribute o name apos) (e::es) [] cpos) (MT X.K T r to t):=by
 intro pins s σ H Q I h;refine wpAny_Call_method_late hbase hfew hline rfl (bZ (ho pins s σ H _ I h) fun v s1 ⟨x,H1,I1,r1,ty,q1⟩=>?_);obtain⟨h1,h2⟩:=Jz I1 r1 ty;refine⟨T,id,pa,slot,hty,h1,h2,?_⟩;have hA:=ha cpos pins s1 σ H1 _ I1 q1;rw[hs]at hA⊢;refine Calls.callWith_builtin (by show(false||(backTo cpos (starEach es X.env)).any (·.1))=false;rw[hplain]<;>rfl) (Calls.evalArgs_plain ?_);exact bZ hA fun us s2 ⟨vs,H2,I2,r2,q2⟩=>hm pins s2 σ H2 x vs v us Q I2 r1 r2 q2
/-xs.append(e),list.index on a module's tuple .. are MM facts of 06m-/
end
def Og(X:Cx)(id:String)(r:V->List V->Hp->VK->Prop):Prop:=
 ∀(pins:List (Addr×Obj)) (s:Shared) (σ:St) (H:Hp) (x:V) (xs:List V) (v:Value) (us:List Value) (Q:VK),Inv X pins σ H s->RelV x v->Vals xs us->r x xs H Q->
  wpAny (model X.prog X.w) X.A (call (.builtin id) (v::us)) (EP X pins σ Q) X.xe s
theorem Vals.one:∀ {x:V} {us:List Value},Vals [x] us->∃u,us=[u]/\RelV x u
 |_,_,.cons r .nil=>⟨_,rfl,r⟩
theorem Vals.rep{xs:List V}{us:List Value}(h:Vals xs us):∀k:Nat,Vals (List.replicate k xs).flatten (List.replicate k us).flatten
 |0=> .nil
 |k+1=>by
  rw[List.replicate_succ,List.replicate_succ,List.flatten_cons,List.flatten_cons];exact Vals.append h (Vals.rep h k)
theorem foldl_rep(its:List Value):∀(k:Nat) (acc:List Value),
 List.foldl (fun x1 x2=>x1++x2) acc.toArray (List.replicate k its.toArray)=(acc++(List.replicate k its).flatten).toArray
 |0,acc=>by simp
 |k+1,acc=>by
  have e:acc.toArray++its.toArray=(acc++its).toArray:=by simp
  have e2:(acc++its)++(List.replicate k its).flatten=acc++(List.replicate (k+1) its).flatten:=by
   rw[List.replicate_succ,List.flatten_cons,List.append_assoc]
  rw[<-e2,<-foldl_rep its k (acc++its),<-e,List.replicate_succ,List.foldl_cons]
section
variable {X:Cx}{pins:List (Addr×Obj)}{σ:St}{H:Hp}{s:Shared}{l b:Addr}{xs ys zs:List V}
theorem Inv.NB{its its':List Value}{n:Nat}{f:Array Value->Array Value}{t':Nat}(I:Inv X pins σ H s)(hH:H l=some (.lst xs))
 (e:s.heap.get? l=some {cls:= .type "list",data:= .seq its.toArray n}) (hf:f its.toArray=its'.toArray) (hv:Vals ys its') (hz:ys.length<=sizeLine):
 Inv X pins σ (upd H l (.lst ys)) {s with heap:=s.heap.update l (Obj.mapSeq f),toks:=t'}:=by
 have q:=PySem.IsL.update e f;rw[hf]at q;refine I.write (x:=l) (e:=l) (by rw[hH];exact trivial) (.inl rfl) (fun b' u hb hu=>(Heap.get?_update_other s.heap (Obj.mapSeq f) (Ne.symm hb)).trans hu) ⟨_,q⟩ ?_;exact⟨hz,its',_,hv,q⟩
theorem Inv.EI{its:List Value}{t':Nat}(I:Inv X pins σ H s)(hv:Vals ys its)(hz:ys.length<=sizeLine):
 Inv X pins σ (upd H s.heap.objs.size (.lst ys)) {s with heap:=s.heap.push {cls:= .type "list",data:= .seq its.toArray},toks:=t'}:=
 I.laid (fun _ _ q=>Heap.get?_push_of_some _ q) (Nat.le_refl _) ⟨hz,its,0,hv,Heap.get?_push_size _ rfl⟩
theorem Inv.fresh(I:Inv X pins σ H s):H s.heap.objs.size=none:=I.aI.fresh (Nat.le_refl _)
theorem Inv.NO(I:Inv X pins σ H s)(hH:H l=some (.lst xs)):xs.length<=sizeLine/\∃(its:List Value) (n:Nat),Vals xs its/\xs.length=its.length/\s.heap.get? l=some {cls:= .type "list",data:= .seq its.toArray n}:=by
 obtain⟨z,its,n,r,e⟩:=I.aI l _ hH;exact⟨z,its,n,r,r.length,e⟩
theorem DZ{n:Nat}(h:n<=sizeLine):Builtin.List.listTooLong n=false:=by
 unfold Builtin.List.listTooLong;exact decide_eq_false (by omega)
end
section
variable {X:Cx}
def zL:V->List V->Hp->VK->Prop:=fun x vs H Q=>∃l xs y,x= .ref l/\vs=[y]/\H l=some (.lst xs)/\xs.length<sizeLine/\Q .aM (upd H l (.lst (xs++[y])))
theorem wc:Og X "list.append" zL:=by
 intro pins s σ H x vs v us Q I rx rv h;obtain⟨l,xs,y,rfl,rfl,hH,hz,q⟩:=h;cases rx;obtain⟨u,rfl,ru⟩:=rv.one;obtain⟨z,its,n,r,hl,e⟩:=I.NO hH;refine call_meets F.slot_list_append ⟨_,e,rfl⟩ F.entry_list_append (F.args_list_append_2 _ _) (PySem.list_append l its.toArray n u (by rw[List.size_toArray];omega)) ⟨e,?_⟩;refine⟨.aM,_,I.NB (its':=its++[u]) hH e (by simp) (r.append (.cons ru .nil)) ?_,rfl,q⟩;rw[List.length_append,List.length_singleton];omega
theorem len_rep{α:Type}(xs:List α)(k:Nat):(List.replicate k xs).flatten.length=k*xs.length:=by
 induction k with
 |zero=>simp
 |succ k ih=>rw[List.replicate_succ,List.flatten_cons,List.length_append,ih,Nat.succ_mul,Nat.add_comm]
end
section
variable {prog:Program}{w:World}{A:Around}{E:Value->Shared->Prop}{s:Shared}
set_option maxRecDepth 100000 in
end
section
variable {X:Cx}
end
end L2
namespace Att
open PySem PySem.W PySem.Calls PyProof.Rows
theorem uO{P:Params}{h:Heap}:∀(ns:List Int) (vs:List Value),WellAll P h vs (ns.map WData.int)->IntsAre vs ns:=by
 intro ns;induction ns with
 |nil=>
  intro vs w;rw[List.map_nil]at w;cases w;exact .nil
 |cons n ns ih=>
  intro vs w;rw[List.map_cons]at w;cases w with
  |cons a b=>
   cases a;exact .cons _ _ (ih _ b)
theorem C7{l:OpenLaw}{n:Nat}(hn:l.most=some n){P:Params}{h:Heap}{args:List WData}{vals:List Value}
 (hpre:l.row.toRowW.claim.pre args=true) (hwl:WellAll P h vals args):
 ∃a vs ns,vals=[Value.ref a]/\args=[WData.list (ns.map WData.int)]/\h.get? a=some {cls:= .type "list",data:= .seq vs.toArray}/\IntsAre vs ns/\ns.length<=n:=by
 have hsh:WShape.hasAll [] args [.list .int]=true:=(pre_splitW hpre).1;have hc:l.pre.holds [] {args:=args}=true:=(pre_splitW hpre).2;obtain⟨d,r,rfl,h1,h2⟩:=hasAllW_cons hsh;obtain rfl:=hasAllW_nil h2;obtain⟨xs,rfl,h3⟩:=hasW_list h1;obtain⟨ns,rfl⟩:=items_int h3
 have hlen:ns.length<=n:=by
  unfold OpenLaw.pre at hc
  have h4:(WTm.not (.lt (.lit (.int (n:Int))) (.len (.arg 0)))).holds [] {args:=[.list (ns.map .int)]}=true:=by
   have h4:=(holds_andW hc).1;rw[hn]at h4;exact h4
  have h5:=condW_of h4 (w_not (w_lt w_lit (w_len_list (w_arg rfl))));rw[List.length_map]at h5;refine Nat.le_of_not_lt fun q=>?_;have q':(n:Int)<((ns.length:Nat):Int):=by omega
  first
   |(rw[decide_eq_true q']at h5;exact absurd h5 (by decide))
   |(simp at h5;omega)
 cases hwl with
 |cons w1 w2=>
  cases w2;cases w1 with
  |list ho hall=>exact⟨_,_,ns,rfl,rfl,ho,uO ns _ hall,hlen⟩
theorem CS(l:OpenLaw)(args:List WData):l.row.toRowW.claim.post args (.bool true) args=true:=
 postW_of (r:=l.row.toRowW) (X:=(true==true))
  (show WShape.has [] (.bool true) .bool=true by first|rfl|decide|simp[WShape.has,WShape.arms,WShape.armsAll])
  (show(WTm.eq .res (.lit (.bool true))).value [] {args:=args,res:=some (.bool true),after:=args}=some (.bool (true==true))from w_eq_bool (w_res rfl) w_lit) rfl
theorem zl{l:OpenLaw}{n:Nat}{q:Program}{loose:List Str}{XP:(Str->Option Value)->Heap->Prop}{YP:World->Heap->Prop}{d:DefRec}
 (hn:l.most=some n) (hdf:d.params.defaults=[])
 (call:∀(w:World) (s₀ s₁:Shared) (mg mb:Str->Option Value) (fa:Addr) (o:Obj) (pm cd doc:Value) (a:Addr) (vs:List Value) (ns:List Int),
   Ground q loose [] XP w s₀ mg mb s₁.heap->YP w s₁.heap->
   s₁.heap.get? fa=some o->o.data= .func (docDef d.name d.params d.body d.scope pm cd doc)->s₁.heap.CodeRec cd d.name->mg d.name=some (.ref fa)->
   s₁.heap.get? a=some {cls:= .type "list",data:= .seq vs.toArray}->IntsAre vs ns->ns.length<=n->s₁.gens= #[]->
   codeAny (model l.prog w) callerA (.call (.ref fa) ⟨[.ref a],[]⟩) (fun r s'=>r= .ok (.ret (.bool true))/\OldK s₁.heap s'.heap/\s'.os=s₁.os/\AllBare s'.gens) s₁):
 WalkO q loose XP YP l.row.toRowW d [] (fun f vs=>PySem.call f vs):=by
 intro w s₀ s₁ mg mb G Y fa o pm cd doc dV kV ho hd hcd hD hmg hg args vals as hpre hlay hrd hwl hlo;obtain rfl:dV= .none:=Dflts.none hD hdf;obtain rfl:kV= .none:=Dflts.noKw hD;obtain⟨a,vs,ns,rfl,rfl,hobj,hints,hlen⟩:=C7 hn hpre hwl;refine enter_call (codeAny_mono (call w s₀ s₁ mg mb fa o pm cd doc a vs ns G Y ho (fd_plain hd) hcd hmg hobj hints hlen hg) fun r s' hq=>?_);obtain⟨rfl,h2,h3,h4⟩:=hq;exact⟨.inl ⟨.bool true,.bool true,[],rfl,fun _=>rfl,.bool true,CS l _,fun _=>⟨List.Pairwise.nil,fun _ hm=>(nomatch hm)⟩⟩,h2,h3,h4⟩
section
variable {prog:Program}{w:World}{A:Around}{E:Value->Shared->Prop}{s:Shared}{K:Frag}
end
end Att
namespace L2
open PySem PySem.Spec PyProof.Rows
end L2
/-THE LAST THEOREM (shape;LID,My.*are yours):
 My.Adr:a structure of the addresses that your layer names (classes,functions);My.Txt K t:a structure (Prop) of the equations over K;
 My.txt_mk:{K} {implicit addresses ..} (e1:nsIn K mainGlobals "law"=some (some (.ref f))) (e2:K.lookup f=some ⟨oc,od,.func (fnOf "law" "law" params body scope dV kV doc pm an cdv ct),sl⟩) (e3:codeIn K cdv "law"=true) .. :∃t,My.Txt K t
set_option maxRecDepth 100000 in
set_option maxHeartbeats 0 in
(the tactic k_is has no namespace:write k_is)-/
namespace L2
open PySem PySem.Spec PyProof.Rows
def inClass(s:Stmt)(j:Nat):Stmt:=match s with
 | .ClassDef _ _ _ body _ _ _ _ _ _ _=>body.getD j (.Pass ⟨0,0,0,0⟩)
 |_=> .Pass ⟨0,0,0,0⟩
def kv(s:Stmt):Arguments:=match s with
 | .FunctionDef _ a _ _ _ _ _ _ _ _=>a
 |_=>{posonlyargs:=[],args:=[],vararg:=none,kwonlyargs:=[],kw_defaults:=[],kwarg:=none,defaults:=[]}
def g8(s:Stmt):List Stmt:=match s with
 | .FunctionDef _ _ b _ _ _ _ _ _ _=>b
 |_=>[]
def ai(s:Stmt):Scope:=match s with
 | .FunctionDef _ _ _ _ _ _ sc _ _ _=>sc
 |_=>{kind:= .function,names:=[],isGenerator:=false,isCoroutine:=false}
abbrev cW:s_:=fun _ _ _ _ _ _=>False
abbrev E0:XK:=fun _ _ _=>False
theorem xv{X:Cx}:Passes cW X E0:=fun _ _ _ _ _ _ _ h=>h.elim
structure nM(K:PySem.W.Frag)(x qual:Str)(st:Stmt)(f:Addr)(fd:FuncData):Prop where
 ex:∃(oc:Value) (od:Option Addr) (kV doc pm:Value) (an:Option Addr) (cdv ct:Value) (osl:Array (Option Value)),
  fd=PySem.W.fnOf x qual (kv st) (g8 st) (ai st) .none kV doc pm an cdv ct/\K.lookup f=some ⟨oc,od,.func fd,osl⟩/\PySem.W.codeIn K cdv qual=true
 kp:PySem.W.keepIn K (.ref f)=true
section
variable {P:Program}{w:World}{K:PySem.W.Frag}{mg:Str->Option Value}{base:Heap}
theorem nM.ok{x qual:Str}{st:Stmt}{f:Addr}{fd:FuncData}{N ps:List Str}{k:Nat}{sp:Sp}(F:nM K x qual st f fd)(S:ba N ps (ai st))(len:∀vs H Q E,sp vs H Q E->vs.length=ps.length)
 (hbody:∀(cdv:Value) (A:Around) (outer:List Env) (s:Shared) (H:Hp) (vs:List V) (Q:VK) (E:XK),cR k (A.deeper (envOfC qual (ai st) s.heap.objs.size f cdv))->sp vs H Q E->
   ∃t,ij (pE cW P w K mg base N qual (ai st) f cdv A outer s H E).uR (g8 st) t/\t {nx:=fun _ H'=>Q .aM H',rt:=Q} (start N vs) H):bH P w K mg base cW (k+1) f fd ps sp:=by
 obtain⟨oc,od,kV,doc,pm,an,cdv,ct,osl,rfl,lk,hcd⟩:=F.ex;refine F0 lk hcd S len fun A outer s H vs Q E hr hsp=>?_;obtain⟨t,h,q⟩:=hbody cdv A outer s H vs Q E hr hsp;exact⟨t,h.uR,q⟩
theorem nM.binds{x qual:Str}{st:Stmt}{f:Addr}{fd:FuncData}{ps:List Str}(F:nM K x qual st f fd)
 (h:∀(kV doc pm:Value) (an:Option Addr) (cdv ct:Value) (us:List Value),us.length=ps.length->bindArgs (PySem.W.fnOf x qual (kv st) (g8 st) (ai st) .none kV doc pm an cdv ct) ⟨us,[]⟩=pure (ps.zip us)):Binds K fd ps []:=by
 obtain⟨oc,od,kV,doc,pm,an,cdv,ct,osl,rfl,lk,hcd⟩:=F.ex;exact .all (h kV doc pm an cdv ct)
theorem Cp{x qual:Str}{st:Stmt}{f:Addr}{oc:Value}{od an:Option Addr}{osl:Array (Option Value)}{kV doc pm cdv ct:Value}(l:K.lookup f=some ⟨oc,od,.func (PySem.W.fnOf x qual (kv st) (g8 st) (ai st) .none kV doc pm an cdv ct),osl⟩)
 (c:PySem.W.codeIn K cdv qual=true) (k:PySem.W.keepIn K (.ref f)=true):nM K x qual st f (PySem.W.fnOf x qual (kv st) (g8 st) (ai st) .none kV doc pm an cdv ct):=⟨⟨oc,od,kV,doc,pm,an,cdv,ct,osl,rfl,l,c⟩,k⟩
end
section
variable {X:Cx}
end
theorem mD{A B:Prop}(h:A):if true=true then A else B:=by
 rw[if_pos rfl];exact h
def EY(H H':Hp):Prop:=∀b o,H b=some o->H' b=some o
end L2
set_option maxHeartbeats 4000000
namespace Hd
open PySem PySem.W PySem.Calls PyProof.Rows
noncomputable def bt (P:Params):BT:=(.node (boot_o_0 P) (.node (boot_o_1 P) (.node (boot_o_3 P) (.node (boot_o_7 P) .nil .nil) .nil) (.node (boot_o_5 P) (.node (boot_o_9 P) .nil .nil) .nil)) (.node (boot_o_2 P) (.node (boot_o_4 P) (.node (boot_o_8 P) .nil .nil) .nil) (.node (boot_o_6 P) (.node (boot_o_10 P) .nil .nil) .nil)))
theorem IB(P:Params):absHeap (bt P) 11 (boot_heap P).life=boot_heap P:=by kernel_rfl
noncomputable def run (p:Program) (w:World) (n:Nat) (ann:Option Value):Nat->SharedT->Thread->Option SharedT
 |0,_,_=>none
 |k+1,s,t=>match through t with
  |true=>some s
  |false=>match Fast.tw6613529449190102663 n ann t with
   |false=>none
   |true=>match Fast.tw10156331382660048174 (Fast.tw11892475500146522536 Fast.tw14364793385576792824) p w s t with
    |some (s',t')=>run p w n ann k s' t'
    |none=>none
theorem BL{p:Program}{w:World}{n:Nat}{ann:Option Value}:∀ {k:Nat} {s s':SharedT} {t:Thread},run p w n ann k s t=some s'->topRun treeTable p w n ann k s.abs t=some s'.abs
 |0,_,_,_,h=>by cases h
 |k+1,s,s',t,h=>by
  unfold run at h;unfold topRun;cases he:through t with
  |true=>rw[he]at h;cases h;rfl
  |false=>
   rw[he]at h;rw[<-Fast.te6613529449190102663,<-Fast.te10156331382660048174,<-Fast.te11892475500146522536,<-Fast.te14364793385576792824]at h;cases hk:stepOk n ann t with
   |false=>simp only[hk]at h;cases h
   |true=>
    simp only[hk]at h;cases hs:stepT (denote treeTable) p w s t with
    |none=>rw[hs]at h;cases h
    |some r=>obtain⟨s2,t2⟩:=r;rw[hs]at h;rw[stepT_spec hs];exact BL h
noncomputable def b0 (w:World) (os:OsState):SharedT:=⟨bt w.params,11,(boot_heap w.params).life,⟨[]⟩,boot_drawn,boot_toks,os⟩
theorem II(w:World)(os:OsState):(b0 w os).abs=⟨boot_heap w.params,⟨[]⟩,boot_drawn,boot_toks,os⟩:=by
 unfold b0 SharedT.abs;dsimp only;rw[IB]
theorem left{p q:Program}{loose:List Str}{α:Type}{Yf:Shared->α}{Ya:World->α}{N:Nat}
 (e:opening p=plainProg p.main.scope.names) (f:∀s,fenceModules? p s=some s) (hN:Nat.ble 600 N=true)
 (h:∀(w:World) (os:OsState),(run p w 11 (some (.ref 6)) N (b0 w os) (topStub p)).bind (fun s=>match staticsOk (importedModules p.main.body) (boot_heap w.params) s.abs.heap&&namesBound p s.abs.heap&&gensDone s.abs&&laidKept (boot_heap w.params) s.abs.heap with
   |true=>some (Fast.tw4187177175401517315 q loose (importedModules p.main.body) (fun _=>true) true s.abs,Yf s.abs)
   |false=>none)=some (openGood q loose,Ya w)):LeftO p q loose (fun _=>true) Yf Ya N:=fun w=>by
 obtain⟨⟨hp,gs,d,k,os⟩,e1,e2⟩:=Option.map_eq_some_iff.mp (boot_open e hN f w);obtain⟨rfl,rfl,rfl,rfl⟩:hp=boot_heap w.params/\gs=⟨[]⟩/\d=boot_drawn/\k=boot_toks:=by simpa using e2
 obtain⟨s,r1,r2⟩:=Option.bind_eq_some_iff.mp (h w os);have r3:=BL r1;rw[II]at r3;rw[<-Fast.te4187177175401517315]at r2;unfold openEnds;rw[e1];show(topFrom treeTable p w N _).map _=_;unfold topFrom;rw[show((boot_heap w.params).isNs mainGlobals&&(⟨[]⟩:Array GenState).size==0)=true from by kernel_rfl];dsimp only;rw[show(boot_heap w.params).objs.size=11 from by kernel_rfl,show(boot_heap w.params).nsMap mainGlobals "__annotations__"=some (.ref 6)from by kernel_rfl,r3];show((match staticsOk (importedModules p.main.body) (boot_heap w.params) s.abs.heap&&namesBound p s.abs.heap&&gensDone s.abs&&laidKept (boot_heap w.params) s.abs.heap with|true=>some s.abs|false=>none):Option Shared).map _=_;cases z:(staticsOk (importedModules p.main.body) (boot_heap w.params) s.abs.heap&&namesBound p s.abs.heap&&gensDone s.abs&&laidKept (boot_heap w.params) s.abs.heap)with
 |false=>rw[z]at r2;cases r2
 |true=>rw[z]at r2;exact r2
abbrev e(x:Str)(t:Nat)(v:Value):Str×Nat×Value:=(x,t,v)
abbrev k(a:Addr)(o:Obj):Addr×Obj:=(a,o)
def no(P:Params)(n:Nat)(l:List (Str×Nat×Value)):Obj:=⟨.type "dict",none,.dict (l.map fun e=>⟨PyData.keyHash P e.1,.str e.1 e.2.1,e.2.2⟩).toArray n,#[]⟩
def fd(st:Stmt)(x q:Str)(pm:Value)(c:Addr):FuncData:=fnOf x q (L2.kv st) (L2.g8 st) (L2.ai st) .none .none .none pm none (.ref c) .none
def fq(st:Stmt)(x q:Str)(pm:Value)(c:Addr):Obj:=⟨.type "function",none,.func (fd st x q pm c),#[]⟩
def co(x q:Str)(t:Nat)(line argc:Int)(a b:Addr)(u v:Value)(d:Addr)(i:Int)(z:Nat):Obj:=⟨.type "code",none,.fields #[.str x t,.str q (t+1),.str "/claim/cut.py" (t+2),.int line 0,.int argc 0,.int 0 0,.int 0 0,.int 3 0,.ref a,.bool true,.int 181 0,.ref b,.none,u,v,.ref d,.int i 0,.int line 0,.str "/claim/cut.py" z],#[]⟩
end Hd
namespace Row
open PySem L2
open PySem.Spec hiding items?
open PyProof.Rows hiding St
def top(i:Nat):Stmt:=PySem.Challenge.pw_latticeworks_k23_whole_numbers_stay.main.body.getD i (.Pass ⟨0,0,0,0⟩)
abbrev PW:Program:=PySem.Challenge.pw_latticeworks_k23_whole_numbers_stay
abbrev jf:Stmt:=top 1
abbrev lH:Stmt:=top 2
abbrev lu:Stmt:=top 3
abbrev js:Stmt:=top 4
abbrev kh:Stmt:=top 5
abbrev fE:Stmt:=top 6
abbrev iz:Stmt:=top 7
abbrev gY:Stmt:=top 8
abbrev d7:Stmt:=top 10
abbrev iS:Stmt:=top 11
abbrev jj:Stmt:=top 12
abbrev c6:Stmt:=inClass (top 13) 0
abbrev ib:Stmt:=inClass (top 13) 1
abbrev fb:Stmt:=inClass (top 13) 2
abbrev dO:Stmt:=inClass (top 13) 3
abbrev di:Stmt:=inClass (top 13) 4
abbrev fR:Stmt:=inClass (top 13) 5
abbrev dQ:Stmt:=inClass (top 13) 6
abbrev jy:Stmt:=top 14
abbrev eX:Stmt:=inClass (top 16) 0
abbrev eN:Stmt:=inClass (top 16) 1
abbrev d6:Stmt:=inClass (top 16) 2
abbrev d9:Stmt:=inClass (top 16) 3
abbrev dk:Stmt:=inClass (top 16) 4
abbrev fG:Stmt:=top 18
abbrev fQ:Stmt:=inClass (top 16) 5
abbrev eJ:Stmt:=top 17
abbrev gn:Stmt:=inClass (top 16) 6
abbrev fY:Stmt:=top 19
abbrev ju:Stmt:=top 20
abbrev h8:Stmt:=top 22
abbrev jA:Stmt:=top 23
abbrev dY:Stmt:=top 24
abbrev iy:Stmt:=top 25
abbrev cz:Stmt:=top 26
abbrev eL:Stmt:=top 27
abbrev lK:Stmt:=top 28
def i8:Value:=(.str "latticeworks.rows" 187)
def fI:Value:=(.str "latticeworks.standing" 243)
def fJ:Value:=(.str "latticeworks.dividing" 364)
def jH:Value:=(.str "law_latticeworks_k23_whole_numbers_stay" 480)
def KX(P:Params):PySem.W.Frag:=[Hd.k 3 (Hd.no P 34 [Hd.e "__name__" 165 (.str "law_latticeworks_k23_whole_numbers_stay" 480),Hd.e "__doc__" 166 .none,Hd.e "__package__" 167 .none,Hd.e "__loader__" 168 (.builtin "__main__.__loader__#opaque"),Hd.e "__spec__" 169 .none,Hd.e "__annotations__" 170 (.ref 6),Hd.e "__builtins__" 171 (.ref 4),Hd.e "__file__" 173 (.str "/claim/cut.py" 172),Hd.e "__cached__" 174 .none,Hd.e "as_rows" 194 (.ref 19),Hd.e "added" 200 (.ref 24),Hd.e "sum_by" 212 (.ref 31),Hd.e "product" 218 (.ref 36),Hd.e "column" 224 (.ref 41),Hd.e "turned_over" 230 (.ref 46),Hd.e "unit_row" 236 (.ref 51),Hd.e "unit_rows" 242 (.ref 56),Hd.e "nearest_quotient" 252 (.ref 63),Hd.e "exchanged" 262 (.ref 70),Hd.e "negated" 268 (.ref 75),Hd.e "Bench" 352 (.ref 130),Hd.e "standing" 363 (.ref 141),Hd.e "Sides" 450 (.ref 200),Hd.e "unit_rows_but" 456 (.ref 209),Hd.e "is_diagonal" 462 (.ref 214),Hd.e "numbers_of" 468 (.ref 219),Hd.e "dividing" 479 (.ref 226),Hd.e "_law_source" 490 (.ref 233),Hd.e "_law_take" 500 (.ref 240),Hd.e "_law_turned" 506 (.ref 245),Hd.e "_law_over" 512 (.ref 250),Hd.e "_law_small_rows" 518 (.ref 255),Hd.e "_law_others" 524 (.ref 260),Hd.e "law" 530 (.ref 265)]),
 Hd.k 18 (Hd.co "as_rows" "as_rows" 189 2 1 15 16 .none .none 17 192 193),
 Hd.k 19 (Hd.fq jf "as_rows" "as_rows" i8 18),
 Hd.k 23 (Hd.co "added" "added" 195 4 3 20 21 .none .none 22 198 199),
 Hd.k 24 (Hd.fq lH "added" "added" i8 23),
 Hd.k 30 (Hd.co "sum_by" "sum_by" 201 6 3 25 26 (.ref 27) (.ref 28) 29 210 211),
 Hd.k 31 (Hd.fq lu "sum_by" "sum_by" i8 30),
 Hd.k 35 (Hd.co "product" "product" 213 11 2 32 33 .none .none 34 216 217),
 Hd.k 36 (Hd.fq js "product" "product" i8 35),
 Hd.k 40 (Hd.co "column" "column" 219 14 2 37 38 .none .none 39 222 223),
 Hd.k 41 (Hd.fq kh "column" "column" i8 40),
 Hd.k 45 (Hd.co "turned_over" "turned_over" 225 16 2 42 43 .none .none 44 228 229),
 Hd.k 46 (Hd.fq fE "turned_over" "turned_over" i8 45),
 Hd.k 50 (Hd.co "unit_row" "unit_row" 231 18 2 47 48 .none .none 49 234 235),
 Hd.k 51 (Hd.fq iz "unit_row" "unit_row" i8 50),
 Hd.k 55 (Hd.co "unit_rows" "unit_rows" 237 20 1 52 53 .none .none 54 240 241),
 Hd.k 56 (Hd.fq gY "unit_rows" "unit_rows" i8 55),
 Hd.k 62 (Hd.co "nearest_quotient" "nearest_quotient" 245 23 2 57 58 (.ref 59) (.ref 60) 61 250 251),
 Hd.k 63 (Hd.fq d7 "nearest_quotient" "nearest_quotient" fI 62),
 Hd.k 69 (Hd.co "exchanged" "exchanged" 253 25 3 64 65 (.ref 66) (.ref 67) 68 260 261),
 Hd.k 70 (Hd.fq iS "exchanged" "exchanged" fI 69),
 Hd.k 74 (Hd.co "negated" "negated" 263 30 1 71 72 .none .none 73 266 267),
 Hd.k 75 (Hd.fq jj "negated" "negated" fI 74),
 Hd.k 86 (Hd.co "__init__" "Bench.__init__" 281 34 2 83 84 .none .none 85 284 285),
 Hd.k 87 (Hd.fq c6 "__init__" "Bench.__init__" fI 86),
 Hd.k 93 (Hd.co "take" "Bench.take" 287 39 4 88 89 (.ref 90) (.ref 91) 92 294 295),
 Hd.k 94 (Hd.fq ib "take" "Bench.take" fI 93),
 Hd.k 100 (Hd.co "exchange" "Bench.exchange" 297 44 3 95 96 (.ref 97) (.ref 98) 99 303 304),
 Hd.k 101 (Hd.fq fb "exchange" "Bench.exchange" fI 100),
 Hd.k 107 (Hd.co "change_sign" "Bench.change_sign" 306 49 2 102 103 (.ref 104) (.ref 105) 106 311 312),
 Hd.k 108 (Hd.fq dO "change_sign" "Bench.change_sign" fI 107),
 Hd.k 112 (Hd.co "live_rows" "Bench.live_rows" 314 54 3 109 110 .none .none 111 317 318),
 Hd.k 113 (Hd.fq di "live_rows" "Bench.live_rows" fI 112),
 Hd.k 119 (Hd.co "gather" "Bench.gather" 320 58 3 114 115 (.ref 116) (.ref 117) 118 329 330),
 Hd.k 120 (Hd.fq fR "gather" "Bench.gather" fI 119),
 Hd.k 126 (Hd.co "lower_above" "Bench.lower_above" 332 72 3 121 122 (.ref 123) (.ref 124) 125 339 340),
 Hd.k 127 (Hd.fq dQ "lower_above" "Bench.lower_above" fI 126),
 Hd.k 129 (Hd.no P 4 [Hd.e "__module__" 276 (.str "latticeworks.standing" 243),Hd.e "__firstlineno__" 280 (.int (32) 279),Hd.e "__init__" 286 (.ref 87),Hd.e "take" 296 (.ref 94),Hd.e "exchange" 305 (.ref 101),Hd.e "change_sign" 313 (.ref 108),Hd.e "live_rows" 319 (.ref 113),Hd.e "gather" 331 (.ref 120),Hd.e "lower_above" 341 (.ref 127),Hd.e "__static_attributes__" 345 (.ref 128),Hd.e "__dict__" 347 (.ref 131),Hd.e "__weakref__" 349 (.ref 132),Hd.e "__doc__" 350 .none]),
 Hd.k 130 (⟨(.type "type"),none,.cls {name:="Bench",bases:=[(.type "object")],mro:=[(.ref 130),(.type "object")],ns:=129,qualname:="Bench",hasDict:=true,subclasses:=[],abstract:=false,hasDel:=false},#[none,none,(some (.str "Bench" 269)),(some (.str "Bench" 277)),(some (.builtin "object.__new__")),(some (.bool true))]⟩),
 Hd.k 140 (Hd.co "standing" "standing" 353 75 1 135 136 (.ref 137) (.ref 138) 139 361 362),
 Hd.k 141 (Hd.fq jy "standing" "standing" fI 140),
 Hd.k 154 (Hd.co "__init__" "Sides.__init__" 378 87 2 149 150 (.ref 151) (.ref 152) 153 383 384),
 Hd.k 155 (Hd.fq eX "__init__" "Sides.__init__" fJ 154),
 Hd.k 161 (Hd.co "turn_left" "Sides.turn_left" 386 96 3 156 157 (.ref 158) (.ref 159) 160 392 393),
 Hd.k 162 (Hd.fq eN "turn_left" "Sides.turn_left" fJ 161),
 Hd.k 168 (Hd.co "turn_right" "Sides.turn_right" 395 101 3 163 164 (.ref 165) (.ref 166) 167 401 402),
 Hd.k 169 (Hd.fq d6 "turn_right" "Sides.turn_right" fJ 168),
 Hd.k 175 (Hd.co "stand_rows" "Sides.stand_rows" 404 106 1 170 171 (.ref 172) (.ref 173) 174 409 410),
 Hd.k 176 (Hd.fq d9 "stand_rows" "Sides.stand_rows" fJ 175),
 Hd.k 182 (Hd.co "stand_columns" "Sides.stand_columns" 412 110 1 177 178 (.ref 179) (.ref 180) 181 417 418),
 Hd.k 183 (Hd.fq dk "stand_columns" "Sides.stand_columns" fJ 182),
 Hd.k 189 (Hd.co "settle" "Sides.settle" 420 114 1 184 185 (.ref 186) (.ref 187) 188 424 425),
 Hd.k 190 (Hd.fq fQ "settle" "Sides.settle" fJ 189),
 Hd.k 196 (Hd.co "merge" "Sides.merge" 427 121 3 191 192 (.ref 193) (.ref 194) 195 433 434),
 Hd.k 197 (Hd.fq gn "merge" "Sides.merge" fJ 196),
 Hd.k 199 (Hd.no P 4 [Hd.e "__module__" 373 (.str "latticeworks.dividing" 364),Hd.e "__firstlineno__" 377 (.int (85) 376),Hd.e "__init__" 385 (.ref 155),Hd.e "turn_left" 394 (.ref 162),Hd.e "turn_right" 403 (.ref 169),Hd.e "stand_rows" 411 (.ref 176),Hd.e "stand_columns" 419 (.ref 183),Hd.e "settle" 426 (.ref 190),Hd.e "merge" 435 (.ref 197),Hd.e "__static_attributes__" 443 (.ref 198),Hd.e "__dict__" 445 (.ref 201),Hd.e "__weakref__" 447 (.ref 202),Hd.e "__doc__" 448 .none]),
 Hd.k 200 (⟨(.type "type"),none,.cls {name:="Sides",bases:=[(.type "object")],mro:=[(.ref 200),(.type "object")],ns:=199,qualname:="Sides",hasDict:=true,subclasses:=[],abstract:=false,hasDel:=false},#[none,none,(some (.str "Sides" 366)),(some (.str "Sides" 374)),(some (.builtin "object.__new__")),(some (.bool true))]⟩),
 Hd.k 208 (Hd.co "unit_rows_but" "unit_rows_but" 451 124 4 205 206 .none .none 207 454 455),
 Hd.k 209 (Hd.fq eJ "unit_rows_but" "unit_rows_but" fJ 208),
 Hd.k 213 (Hd.co "is_diagonal" "is_diagonal" 457 128 1 210 211 .none .none 212 460 461),
 Hd.k 214 (Hd.fq fG "is_diagonal" "is_diagonal" fJ 213),
 Hd.k 218 (Hd.co "numbers_of" "numbers_of" 463 133 1 215 216 .none .none 217 466 467),
 Hd.k 219 (Hd.fq fY "numbers_of" "numbers_of" fJ 218),
 Hd.k 225 (Hd.co "dividing" "dividing" 469 136 1 220 221 (.ref 222) (.ref 223) 224 477 478),
 Hd.k 226 (Hd.fq ju "dividing" "dividing" fJ 225),
 Hd.k 232 (Hd.co "_law_source" "_law_source" 482 146 2 227 228 (.ref 229) (.ref 230) 231 488 489),
 Hd.k 233 (Hd.fq h8 "_law_source" "_law_source" jH 232),
 Hd.k 239 (Hd.co "_law_take" "_law_take" 491 151 2 234 235 (.ref 236) (.ref 237) 238 498 499),
 Hd.k 240 (Hd.fq jA "_law_take" "_law_take" jH 239),
 Hd.k 244 (Hd.co "_law_turned" "_law_turned" 501 160 2 241 242 .none .none 243 504 505),
 Hd.k 245 (Hd.fq dY "_law_turned" "_law_turned" jH 244),
 Hd.k 249 (Hd.co "_law_over" "_law_over" 507 174 1 246 247 .none .none 248 510 511),
 Hd.k 250 (Hd.fq iy "_law_over" "_law_over" jH 249),
 Hd.k 254 (Hd.co "_law_small_rows" "_law_small_rows" 513 176 1 251 252 .none .none 253 516 517),
 Hd.k 255 (Hd.fq cz "_law_small_rows" "_law_small_rows" jH 254),
 Hd.k 259 (Hd.co "_law_others" "_law_others" 519 186 2 256 257 .none .none 258 522 523),
 Hd.k 260 (Hd.fq eL "_law_others" "_law_others" jH 259),
 Hd.k 264 (Hd.co "law" "law" 525 197 1 261 262 .none .none 263 528 529),
 Hd.k 265 (Hd.fq lK "law" "law" jH 264)]
def KA:List Addr:=[3,18,19,23,24,30,31,35,36,40,41,45,46,50,51,55,56,62,63,69,70,74,75,86,87,93,94,100,101,107,108,112,113,119,120,126,127,129,130,140,141,154,155,161,162,168,169,175,176,182,183,189,190,196,197,199,200,208,209,213,214,218,219,225,226,232,233,239,240,244,245,249,250,254,255,259,260,264,265]
set_option maxHeartbeats 0 in
theorem left:PySem.W.LeftO PW (PySem.W.view PW [1,2,3,4,5,6,7,8,10,11,12,13,14,16,17,18,19,20,22,23,24,25,26,27,28]) [] (fun _=>true) (PySem.W.kmHook Row.KX Row.KA (fun _=>rfl) [110]).obs (PySem.W.kmHook Row.KX Row.KA (fun _=>rfl) [110]).val 3158:=
 Hd.left (by kernel_rfl) (fun s=>by kernel_rfl) rfl fun w os=>by kernel_rfl
end Row
namespace L3
open PySem PySem.Spec PyProof.Rows L2
section
variable {prog:Program}{w:World}{A:Around}{R:Result->Shared->Prop}{s:Shared}
theorem zw{elt target iter:Expr}{ifs:List Expr}{scope:Scope}{pos:Pos}{it acc:Value}{env:Env}(I:Nat->Shared->Prop)
 (turn:∀n s,I n s->wpAny (model prog w) A (pyNext it) (fun r s₁=>match r with
   |none=>R (.ok .next) s₁
   |some v=>wpAny (model prog w) A (letOwnedTupleGo target it v) (fun _ s₀=>wpAny (model prog w) A (assign target env v) (fun _ s₂=>
     wpAny (model prog w) A (forIn ifs true fun c r=>if r=true then do let ok <-isTrue c env (eval c env);pure (ForInStep.yield ok)else pure (ForInStep.yield r)) (fun ok s₃=>
      if ok=true then wpAny (model prog w) A (eval elt env) (fun x s₄=>
       wpAny (model prog w) A (call (.builtin "list.append") [acc,x]) (fun _ s₅=>∃m,m<n/\I m s₅) (fun _ _=>False) s₄) (fun _ _=>False) s₃
      else∃m,m<n/\I m s₃) (fun _ _=>False) s₂) (fun _ _=>False) s₀) (fun _ _=>False) s₁) (fun _ _=>False) s)
 (n:Nat) (h:I n s):
 codeAny (model prog w) A (.compLoop (.ListComp elt [⟨target,iter,ifs,0⟩] scope pos) 0 it acc env) R s:=by
 refine codeAny_loop rfl I (fun n s hI=>?_) n h;show wpAny _ A ((compTurn (.ListComp elt [⟨target,iter,ifs,0⟩] scope pos) 0 it acc env).onRaise (fun x=>do noteFrame x env;theTreesLotGoes x)) _ _ s;refine wpAny_noted ?_;rw[compTurn_list];refine wpAny_bind (wpAny_standAt (wpAny_bind (wpAny_mono (turn n s hI) (fun r s₁ h₁=>?_) fun _ _ h'=>h'.elim)));cases r with
 |none=>exact wpAny_pure h₁
 |some v=>
  refine wpAny_bind (wpAny_mono h₁ (fun _ s₀ h₀=>?_) fun _ _ h'=>h'.elim);refine wpAny_bind (wpAny_mono h₀ (fun _ s₂ h₂=>wpAny_bind (wpAny_mono h₂ (fun ok s₃ h₃=>?_) fun _ _ h'=>h'.elim)) fun _ _ h'=>h'.elim);cases ok with
  |false=>exact wpAny_pure ⟨rfl,h₃⟩
  |true=>
   exact wpAny_bind (wpAny_bind (wpAny_mono h₃ (fun x s₄ h₄=>wpAny_bind (wpAny_mono h₄ (fun _ s₅ h₅=>wpAny_pure (wpAny_pure ⟨rfl,h₅⟩)) fun _ _ h'=>h'.elim)) fun _ _ h'=>h'.elim))
end
def dm(cells:List (Str×Addr)):List (Str×NameKind)->List (Str×Addr)->List (Str×Addr)
 | [],acc=>acc
 |(n,k)::r,acc=>if k== .free then(match cells.lookup n with|some c=>dm cells r ((n,c)::acc)|none=>dm cells r acc)else dm cells r acc
theorem cZ{cells:List (Str×Addr)}:∀(names:List (Str×NameKind)) (acc:List (Str×Addr)),(∀x c,acc.lookup x=some c->cells.lookup x=some c)->
 ∀x c,(dm cells names acc).lookup x=some c->cells.lookup x=some c
 | [],acc,h,x,c,e=>h x c e
 |(n,k)::r,acc,h,x,c,e=>by
  unfold dm at e;split at e
  . split at e
    . rename_i d q;refine cZ r _ (fun y b e'=>?_) x c e;rw[List.lookup_cons]at e';split at e'
      . rename_i z;cases e';have z':y=n:=by simpa using z
        rw[z'];exact q
      . exact h y b e'
    . exact cZ r _ h x c e
  . exact cZ r _ h x c e
theorem jn{cells:List (Str×Addr)}{x:Str}:∀(names:List (Str×NameKind)) (acc:List (Str×Addr)),(∃c,cells.lookup x=some c)->((x,NameKind.free)∈names\/∃c,acc.lookup x=some c)->
 ∃c,(dm cells names acc).lookup x=some c
 | [],acc,_,h=>by
   rcases h with h|h
   . simp at h
   . exact h
 |(n,k)::r,acc,hc,h=>by
  unfold dm;split
  . rename_i hk;split
    . rename_i d q;refine jn r _ hc ?_;rcases h with h|⟨c,h⟩
      . rcases List.mem_cons.mp h with e|e
        . cases e;exact .inr ⟨d,by simp[List.lookup_cons]⟩
        . exact .inl e
      . refine .inr ?_;rw[List.lookup_cons];split
        . exact⟨_,rfl⟩
        . exact⟨c,h⟩
    . rename_i q;refine jn r _ hc ?_;rcases h with h|h
      . rcases List.mem_cons.mp h with e|e
        . cases e;obtain⟨c,hc⟩:=hc;rw[hc]at q;cases q
        . exact .inl e
      . exact .inr h
  . rename_i hk;refine jn r _ hc ?_;rcases h with h|h
    . rcases List.mem_cons.mp h with e|e
      . cases e;exact absurd rfl hk
      . exact .inl e
    . exact .inr h
theorem mM{scope:Scope}{env:Env}(h:∀x∈scope.names,x.2= .free->∃c,env.cells.lookup x.1=some c):closureFor scope env=pure (dm env.cells scope.names []):=by
 have key:∀(names:List (Str×NameKind)) (acc:List (Str×Addr)),(∀x∈names,x.2= .free->∃c,env.cells.lookup x.1=some c)->
  (forIn names acc (fun(x:Str×NameKind) (cs:List (Str×Addr))=>if(x.2==NameKind.free)=true then(do let a <-cellOf env x.1;pure (ForInStep.yield ((x.1,a)::cs)):Sem (ForInStep (List (Str×Addr))))else pure (ForInStep.yield cs)))=(pure (dm env.cells names acc):Sem (List (Str×Addr))):=by
  intro names;induction names with
  |nil=>intro acc _;rfl
  |cons p r ih=>
   intro acc hh;obtain⟨n,k⟩:=p;rw[List.forIn_cons];have ih':=ih;by_cases hk:(k==NameKind.free)=true
   . obtain⟨c,e⟩:=hh (n,k) List.mem_cons_self (by simpa using hk);simp only[hk,if_true]
     have e1:cellOf env n=pure c:=by
      unfold cellOf;rw[e]
     rw[e1];simp only[pure_bind];rw[ih _ fun x hx=>hh x (List.mem_cons_of_mem _ hx)];conv=>rhs;unfold dm
     simp only[hk,if_true];rw[show env.cells.lookup n=some c from e]
   . have hk':(k==NameKind.free)=false:=by simpa using hk
     simp only[hk',Bool.false_eq_true,if_false,pure_bind];rw[ih _ fun x hx=>hh x (List.mem_cons_of_mem _ hx)];conv=>rhs;unfold dm
     simp only[hk',Bool.false_eq_true,if_false]
 unfold closureFor;have:=key scope.names [] h;rw[bind_pure]
 first
  |exact this
  |(simp only[bind_pure]at this⊢;exact this)
end L3
namespace L3
open PySem PySem.Spec L2
open PyProof.Rows hiding St
theorem jt(env:Env):∀(names:List (Str×NameKind)) (x:Str),
 (names.map fun(n,k)=>if(k==NameKind.free&&env.scope.kind== .function&&env.kindOf n==some .cell)then(n,NameKind.cell)else(n,k)).lookup x=
   (names.lookup x).map fun k=>if(k==NameKind.free&&env.scope.kind== .function&&env.kindOf x==some .cell)then NameKind.cell else k
 | [],_=>rfl
 |(n,k)::r,x=>by
  show List.lookup x ((if(k==NameKind.free&&env.scope.kind== .function&&env.kindOf n==some .cell)=true then(n,NameKind.cell)else(n,k))::_)=_;cases hx:x==n with
  |true=>
   have e:x=n:=by simpa using hx
   subst e;by_cases hc:(k==NameKind.free&&env.scope.kind== .function&&env.kindOf x==some .cell)=true
   . rw[if_pos hc];simp only[List.lookup_cons,beq_self_eq_true,Option.map_some];rw[if_pos hc]
   . rw[if_neg hc];simp only[List.lookup_cons,beq_self_eq_true,Option.map_some];rw[if_neg hc]
  |false=>
   by_cases hc:(k==NameKind.free&&env.scope.kind== .function&&env.kindOf n==some .cell)=true
   . rw[if_pos hc];simp only[List.lookup_cons,hx];exact jt env r x
   . rw[if_neg hc];simp only[List.lookup_cons,hx];exact jt env r x
theorem x9{env:Env}{scope:Scope}{x:Str}(h:scope.names.lookup x=some .free):(relabel scope env).names.lookup x=some .cell\/(relabel scope env).names.lookup x=some .free:=by
 have e:(relabel scope env).names.lookup x=_:=jt env scope.names x;rw[e,h];simp only[Option.map_some];split
 . exact .inl rfl
 . exact .inr rfl
theorem yC{env:Env}{scope:Scope}{x:Str}(h:(relabel scope env).names.lookup x=some .cell\/(relabel scope env).names.lookup x=some .free):(x,NameKind.free)∈scope.names\/scope.names.lookup x=some .cell:=by
 have e:(relabel scope env).names.lookup x=_:=jt env scope.names x;rw[e]at h;cases q:scope.names.lookup x with
 |none=>rw[q]at h;rcases h with h|h<;>cases h
 |some k=>
  rw[q]at h;simp only[Option.map_some]at h;have m:=PySem.mem_of_lookup q;by_cases hc:(k==NameKind.free&&env.scope.kind== .function&&env.kindOf x==some .cell)=true
  . have:k= .free:=by
     simp only[Bool.and_eq_true]at hc;simpa using hc.1.1
    subst this;exact .inl m
  . rw[if_neg hc]at h;rcases h with h|h
    . cases h;exact .inr rfl
    . cases h;exact .inl m
theorem gH:∀(names:List (Str×NameKind)) (L:Nat) (acc:List (Str×Addr)),cellsFrom L names acc=cellsFrom L names []++acc
 | [],_,_=>rfl
 |(n,k)::r,L,acc=>by
  unfold cellsFrom;by_cases hk:(k==NameKind.cell)=true
  . rw[if_pos hk,if_pos hk,gH r (L+1) ((n,L)::acc),gH r (L+1) [(n,L)],List.append_assoc];rfl
  . rw[if_neg hk,if_neg hk];exact gH r L acc
theorem qG:∀ {names:List (Str×NameKind)} {L:Nat} {x:Str} {c:Addr},(x,c)∈cellsFrom L names []->(x,NameKind.cell)∈names
 | [],_,_,_,h=>by unfold cellsFrom at h;cases h
 |(n,k)::r,L,x,c,h=>by
  unfold cellsFrom at h;by_cases hk:(k==NameKind.cell)=true
  . rw[if_pos hk,gH]at h;have hk':k= .cell:=by simpa using hk
    subst hk';rcases List.mem_append.mp h with h|h
    . exact List.mem_cons_of_mem _ (qG h)
    . have:(x,c)=(n,L):=by simpa using h
      cases this;exact List.mem_cons_self
  . rw[if_neg hk]at h;exact List.mem_cons_of_mem _ (qG h)
theorem pC:∀ {l1 l2:List (Str×Addr)} {x:Str} {c:Addr},(l1++l2).lookup x=some c->l1.lookup x=some c\/(l1.lookup x=none/\l2.lookup x=some c)
 | [],_,_,_,h=> .inr ⟨rfl,h⟩
 |(n,d)::l1,l2,x,c,h=>by
  rw[List.cons_append,List.lookup_cons]at h;rw[List.lookup_cons];cases hx:x==n with
  |true=>rw[hx]at h;exact .inl h
  |false=>rw[hx]at h;exact pC h
theorem td:∀ {l1 l2:List (Str×Addr)} {x:Str},l1.lookup x=none->(l1++l2).lookup x=l2.lookup x
 | [],_,_,_=>rfl
 |(n,d)::l1,l2,x,h=>by
  rw[List.lookup_cons]at h;rw[List.cons_append,List.lookup_cons];cases hx:x==n with
  |true=>rw[hx]at h;cases h
  |false=>rw[hx]at h;exact td h
def lW(scope:Scope)(C:Addr)(cl:List (Str×Addr)):List (Str×Addr):=cellsFrom (C+1) scope.names cl
theorem jd{scope:Scope}{C:Addr}{cl:List (Str×Addr)}{x:Str}{c:Addr}(h:(lW scope C cl).lookup x=some c):(x,c)∈cellsFrom (C+1) scope.names []\/cl.lookup x=some c:=by
 unfold lW at h;rw[gH]at h;rcases pC h with h|h
 . exact .inl (PySem.mem_of_lookup h)
 . exact .inr h.2
theorem Ja(names:List (Str×NameKind))(h:Heap){C:Addr}(e:h.objs.size=C+1):CellsOk (pushCells h names) (C+1) (cellsFrom (C+1) names []):=by
 have:=cellsFrom_ok names h (C+1) [] ⟨fun _ _ hm=>(nomatch hm),List.Pairwise.nil⟩ (by rw[e];exact Nat.le_refl _);rw[e]at this;exact this
theorem nF{names:List (Str×NameKind)}{C:Addr}{x:Str}{c:Addr}:∀ {L:Nat},C<=L->(x,c)∈cellsFrom L names []->C<=c:=by
 induction names with
 |nil=>intro L _ h;unfold cellsFrom at h;cases h
 |cons p r ih=>
  obtain⟨n,k⟩:=p;intro L hL h;unfold cellsFrom at h;by_cases hk:(k==NameKind.cell)=true
  . rw[if_pos hk,gH]at h;rcases List.mem_append.mp h with h|h
    . exact ih (Nat.le_trans hL (Nat.le_succ L)) h
    . have:(x,c)=(n,L):=by simpa using h
      cases this;exact hL
  . rw[if_neg hk]at h;exact ih hL h
theorem own_apart{names:List (Str×NameKind)}{x y:Str}{c:Addr}:∀ {L:Nat},(x,c)∈cellsFrom L names []->(y,c)∈cellsFrom L names []->x=y:=by
 induction names with
 |nil=>intro L h;unfold cellsFrom at h;cases h
 |cons p r ih=>
  obtain⟨n,k⟩:=p;intro L h1 h2;unfold cellsFrom at h1 h2;by_cases hk:(k==NameKind.cell)=true
  . rw[if_pos hk,gH]at h1 h2;rcases List.mem_append.mp h1 with g1|g1<;>rcases List.mem_append.mp h2 with g2|g2
    . exact ih g1 g2
    . have e2:(y,c)=(n,L):=by simpa using g2
      have ec:c=L:=(Prod.mk.inj e2).2;have:=nF (C:=L+1) (Nat.le_refl _) g1;rw[ec]at this;exact absurd this (Nat.not_succ_le_self _)
    . have e1:(x,c)=(n,L):=by simpa using g1
      have ec:c=L:=(Prod.mk.inj e1).2;have:=nF (C:=L+1) (Nat.le_refl _) g2;rw[ec]at this;exact absurd this (Nat.not_succ_le_self _)
    . have e1:(x,c)=(n,L):=by simpa using g1
      have e2:(y,c)=(n,L):=by simpa using g2
      exact(Prod.mk.inj e1).1.trans (Prod.mk.inj e2).1.symm
  . rw[if_neg hk]at h1 h2;exact ih h1 h2
theorem tV{M:Model}{A:Around}{E:Value->Shared->Prop}{s:Shared}{scope:Scope}{globals:Addr}{cl:List (Str×Addr)}{qual:Str}{env:Env}{Q:Env->Shared->Prop}
 (hQ:Q (newEnv scope s.heap.objs.size globals (lW scope s.heap.objs.size cl) qual none .none (some env) builtinsNs) {s with heap:=pushCells (s.heap.push {cls:= .type "dict",data:= .dict #[]}) scope.names}):
 wpAny M A (newFunctionEnv scope globals cl [] qual none .none (some env)) Q E s:=by
 simp only[newFunctionEnv,Option.isSome_some,if_true];refine wpAny_bind (wpAny_alloc ?_);refine wpAny_bind (wpAny_layCells _ (fun name kind cells=>by cases hkc:kind==NameKind.cell<;>simp[hkc]) _ _ _ _ ?_);rw[show({s with heap:=s.heap.push {cls:= .type "dict",data:= .dict #[]}}:Shared).heap.objs.size=s.heap.objs.size+1 from Heap.size_push ..];rw[List.forIn_nil];exact wpAny_bind (wpAny_pure (wpAny_pure hQ))
structure bq(X:Cx)(scope:Scope)(Nc:List Str)(fr:List (Option Nat)):Prop where
 kind:scope.kind= .function
 cells:∀x∈scope.names,x.2= .cell->scope.names.lookup x.1=some .cell
 names:∀x∈scope.names,x.2= .local->scope.names.lookup x.1=some .local
 free:∀x∈scope.names,x.2= .free->X.env.kindOf x.1=some .cell\/X.env.kindOf x.1=some .free
 len:fr.length=Nc.length
 map:∀(i j:Nat) (x:Str),Nc[i]?=some x->fr[i]?=some (some j)->X.N[j]?=some x/\scope.names.lookup x=some .free/\(X.env.kindOf x=some .cell\/X.env.kindOf x=some .free)
def σC(fr:List (Option Nat))(σ:St):St:=fr.map fun o=>o.bind fun j=>(σ[j]?).join
def fD(X:Cx)(scope:Scope)(Nc:List Str)(C:Addr)(s:Shared)(H:Hp)(ex:List Addr):Cx:=
 {X with N:=Nc,s₀:=s,H₀:=H,env:=compEnvC scope (lW scope C (dm X.env.cells scope.names [])) C X.env,outer:=X.stack,stack:=X.stack,ex:=ex,fn:=fun x=>scope.names.lookup x==some .cell,pn:=[],xe:=fun _ _=>False}
def sf(wi:TI)(fr:List (Option Nat))(g:TG)(c:TT)(te:TE):TE:=fun σ H Q=>wi σ H fun J H1=>∀l,H1 l=none->
 ∃W:Nat->Nat->L2.St->Hp->Prop,(∃m,W 0 m (σC fr σ) (upd H1 l (.lst [])))/\∀i m σ H,W i m σ H->
  (J.stop i H/\Q (.ref l) H)\/(J.go i H/\∃N:L2.St->Hp->Prop,(∀σ' H',N σ' H'->∃m',m'<m/\W (i+1) m' σ' H')/\∀x H',J.oz i H x H'->
    g x σ H' fun σ2 H2=>c σ2 H2 fun b H3=>if b=true then te σ2 H3 fun y H4=>∃ys,H4 l=some (.lst ys)/\ys.length<sizeLine/\N σ2 (upd H4 l (.lst (ys++[y])))else N σ2 H3)
def qH(X:Cx)(ifs:List Expr)(t:TT):Prop:=
 ∀(pins:List (Addr×Obj)) (s:Shared) (σ:St) (H:Hp) (Q:Bool->Hp->Prop),Inv X pins σ H s->t σ H Q->
  wpAny (model X.prog X.w) X.A (forIn ifs true fun c r=>if r=true then do let ok <-isTrue c X.env (eval c X.env);pure (ForInStep.yield ok)else pure (ForInStep.yield r)) (TP X pins σ Q) X.xe s
def MA:TT:=fun _ H Q=>Q true H
theorem GZ{X:Cx}:qH X [] MA:=fun _ _ _ H _ I h=>wpAny_tests_nil ⟨H,I,h⟩
theorem HW{X:Cx}{c:Expr}{t:TT}(h:PT X c t):qH X [c] t:=fun pins s σ H Q I q=>wpAny_tests_one (h pins s σ H Q I q)
section
variable {X:Cx}{scope:Scope}{Nc:List Str}{fr:List (Option Nat)}{pins:List (Addr×Obj)}{σ:St}{H:Hp}{s:Shared}
theorem Ic{C:Addr}{fp:List Addr}(S:bq X scope Nc fr)(I:Inv X pins σ H s)(hC:C=s.heap.objs.size)(hf:∀b∈fp,lz X pins H b)(hlt:∀b∈fp,b<s.heap.objs.size)(hnc:∀b∈fp,∀x c,X.env.cells.lookup x=some c->c≠b):
 (fD X scope Nc C s H fp).Ok where
 mod:=I.ok.mod
 kind:=S.kind
 glob:=I.ok.glob
 blt:=I.ok.blt
 above:=Nat.le_of_eq hC.symm
 inj:=fun x y c h1 h2=>by
  have low:∀ {z},(dm X.env.cells scope.names []).lookup z=some c->c<s.heap.objs.size:=fun{z} hz=>by
   obtain⟨v,q⟩:=I.cell z c (cZ _ [] (fun _ _ e=>by cases e) z c hz);exact q.lt
  rcases jd h1 with h1|h1<;>rcases jd h2 with h2|h2
  . exact own_apart h1 h2
  . have a:=nF (C:=C+1) (Nat.le_refl _) h1;have b:c<C:=by rw[hC];exact low h2
    exact absurd a (Nat.not_le_of_gt (Nat.lt_succ_of_lt b))
  . have a:=nF (C:=C+1) (Nat.le_refl _) h2;have b:c<C:=by rw[hC];exact low h1
    exact absurd a (Nat.not_le_of_gt (Nat.lt_succ_of_lt b))
  . exact I.ok.inj x y c (cZ _ [] (fun _ _ e=>by cases e) x c h1) (cZ _ [] (fun _ _ e=>by cases e) y c h2)
 has:=fun x hx=>by
  rcases yC hx with m|m
  . obtain⟨c,e⟩:=jn scope.names [] (I.ok.has x (S.free _ m rfl)) (.inl m);exact Option.isSome_iff_exists.mp (PySem.W.cellsFrom_some _ _ _ (.inr (by rw[e];rfl)))
  . exact Option.isSome_iff_exists.mp (PySem.W.cellsFrom_some _ _ _ (.inl m))
 yv:=fun x c hf h=>by
  have hl:scope.names.lookup x=some .cell:=by
   have:(scope.names.lookup x==some .cell)=true:=hf;simpa using this
  obtain⟨c',e⟩:=Option.isSome_iff_exists.mp (PySem.W.cellsFrom_some (x:=x) scope.names (C+1) [] (.inl hl))
  have h':(cellsFrom (C+1) scope.names []++dm X.env.cells scope.names []).lookup x=some c:=by
   rw[<-gH];exact h
  rcases pC h' with q|q
  . have:=nF (C:=C+1) (Nat.le_refl _) (PySem.mem_of_lookup q);show s.heap.objs.size<=c;rw[<-hC];exact Nat.le_of_succ_le this
  . rw[q.1]at e;cases e
 hd:=I.ok.hd
 frames:=I.ok.frames
 Al:= .inl rfl
 Dc:=fun b hb=>⟨by rw[show(fD X scope Nc C s H fp).env.locals=s.heap.objs.size from hC];exact Nat.ne_of_lt (hlt b hb),fun x c h=>by
  rcases jd h with h|h
  . have a:=nF (C:=C+1) (Nat.le_refl _) h;have b':b<C:=by rw[hC];exact hlt b hb
    exact Nat.ne_of_gt (Nat.lt_of_lt_of_le b' (Nat.le_of_succ_le a))
  . exact hnc b hb x c (cZ _ [] (fun _ _ e=>by cases e) x c h)⟩
 bs:=I.bs
 rp:=Nat.le_trans I.ok.rp I.sz
 tK:=fun b o e hb=>by
  have hn:=(hf b hb).2.2.2.1;rcases hn with hn|hn
  . exact I.ok.tK b o e hn
  . exact absurd (Heap.lt_size (I.ok.bs b o e).1) (Nat.not_lt.mpr hn)
 ud:=fun b hb z=>by
  have q:=I.xM b z;rcases List.mem_cons.mp q with q|q
  . exact(hf b hb).2.1 q
  . exact(hf b hb).2.2.1 q
 kX:=I.stack
 uD:=fun b hb=>I.vG b hb
 gt:=I.ok.gt
theorem zM{i:Nat}{v:V}(h:(σC fr σ)[i]?=some (some v)):∃j,fr[i]?=some (some j)/\σ[j]?=some (some v):=by
 unfold σC at h;rw[List.getElem?_map]at h;cases q:fr[i]? with
 |none=>rw[q]at h;cases h
 |some o=>
  rw[q]at h;cases o with
  |none=>simp at h
  |some j=>
   simp only[Option.map_some,Option.some.injEq,Option.bind_some]at h;refine⟨j,rfl,?_⟩;cases r:σ[j]? with
   |none=>rw[r]at h;cases h
   |some u=>rw[r]at h;simp at h;rw[h]
theorem EG{s':Shared}{h':Heap}{C:Addr}{fp:List Addr}{t':Nat}(S:bq X scope Nc fr)(I:Inv X pins σ H s)(hC:C=s.heap.objs.size)(ok:(fD X scope Nc C s H fp).Ok)(hfr:∀b∈fp,H b=none)
 (k:∀b o,s.heap.get? b=some o->h'.get? b=some o) (hn:h'.Ns C (fun _=>none)) (hcs:∀x c,(x,c)∈cellsFrom (C+1) scope.names []->h'.IsCell c none):Inv (fD X scope Nc C s H fp) [] (σC fr σ) H {s with heap:=h',toks:=t'} where
 ok:=ok
 os:=rfl
 bare:=I.bare
 base:=Un.kept k
 loc:=⟨_,hn,fun i x v h1 h2 h3=>by
  obtain⟨j,q1,q2⟩:=zM h2;obtain⟨n1,n2,n3⟩:=S.map i j x h1 q1;obtain⟨m,hm,hl⟩:=I.loc
  have vis:yQ X.env.scope x:=by
   rcases n3 with z|z
   . exact .inr (.inl z)
   . exact .inr (.inr z)
  obtain⟨u,r,lk⟩:=hl j x v n1 q2 vis;refine⟨u,r,?_⟩;rcases lk with⟨z,_⟩|⟨z,c,e,ic⟩
  . rcases n3 with y|y
    . rw[y]at z;cases z
    . rw[y]at z;cases z
  . refine .inr ⟨x9 n2,?_⟩;obtain⟨c',e'⟩:=jn scope.names [] ⟨c,e⟩ (.inl (PySem.mem_of_lookup n2));have e2:=cZ _ [] (fun _ _ e=>by cases e) x c' e';rw[e]at e2;cases e2;refine⟨c,?_,ic.keeps k⟩;show(lW scope C (dm X.env.cells scope.names [])).lookup x=some c;unfold lW;rw[gH,td ?_]
    . exact e'
    . cases q:(cellsFrom (C+1) scope.names []).lookup x with
      |none=>rfl
      |some c2=>
       have:=S.cells _ (qG (PySem.mem_of_lookup q)) rfl;rw[n2]at this;cases this⟩
 cell:=fun x c h=>by
  rcases jd h with h|h
  . exact⟨_,hcs x c h⟩
  obtain⟨v,q⟩:=I.cell x c (cZ _ [] (fun _ _ e=>by cases e) x c h);exact⟨v,q.keeps k⟩
 free:=by show H C=none;rw[hC];exact I.aI.fresh (Nat.le_refl _)
 i_:=fun x c h=>by
  rcases jd h with h|h
  . have a:=nF (C:=C+1) (Nat.le_refl _) h;exact I.aI.fresh (by rw[<-hC];exact Nat.le_of_succ_le a)
  . exact I.i_ x c (cZ _ [] (fun _ _ e=>by cases e) x c h)
 pin:=fun p hp=>by cases hp
 aI:=I.aI.kept k
 len:=by unfold σC;rw[List.length_map];exact S.len
theorem Inv.forget{C:Addr}{h':Heap}(I:Inv X pins σ H s)(f:lz X pins H C)(hs:Heap.SameBut C s.heap h'):Inv X pins σ H {s with heap:=h'}:=by
 refine I.AG (s':={s with heap:=h'}) (ch:=[C]) rfl ?_ ?_ I.bare fun b hb=>?_
 . have ne:∀b,b∉[C]->b≠C:=fun b hb z=>hb (by simp[z]);exact{keep:=fun b o q _ _ hx=>(hs.2 b (ne b hx)).trans q,slot:=fun b o q _ _ hx=>⟨o.slots,(hs.2 b (ne b hx)).trans q⟩,free:=fun b o q n _=>n,there:=fun b o q hx=>⟨o,(hs.2 b (ne b hx)).trans q⟩,oN:=fun _ _ e=>e,nG:=fun _ _ _ e=>e,nC:=fun b ps e=>⟨#[],by rw[e];simp⟩}
 . intro a o q;have na:∀b u,H b=some u->b≠C:=fun b u q z=>by rw[z,f.1]at q;cases q
   refine(I.aI a o q).oG (fun b u hb e=>?_) (fun _ q=>q) fun _ _ q=>q;rw[hs.2 b ?_]
   . exact e
   . rcases hb with rfl|hb
     . exact na _ _ q
     . exact na _ _ hb
 . have:b=C:=by simpa using hb
   subst this;exact⟨f.2.2.2.1,f.2.1,f.2.2.2.2.1,f.2.2.2.2.2⟩
theorem uX{elt tg iter:Expr}{ifs:List Expr}{wi:TI}{g:TG}{c:TT}{te:TE}{pos:Pos}{Q:VK}{RR:Value->Addr->Result->Shared->Prop}(hx:X.xe=fun _ _=>False)(hc:X.calm=true)(S:bq X scope Nc fr)(hi:PI X tg iter wi)
 (hg:∀C s H ex,PG (fD X scope Nc C s H ex) tg g) (ht:∀C s H ex,qH (fD X scope Nc C s H ex) ifs c) (he:∀C s H ex,PE (fD X scope Nc C s H ex) elt te) (I:Inv X pins σ H s) (h:sf wi fr g c te σ H Q)
 (fin:∀(l C:Addr) (s6:Shared) (H5:Hp) (m:Str->Option Value),s6.heap.Ns C m->lz X pins H5 C->Inv X pins σ H5 s6->Q (.ref l) H5->RR (.ref l) C (.ok .next) s6):
 wpAny (model X.prog X.w) X.A (eval iter X.env) (fun x s₁=>wpAny (model X.prog X.w) X.A (pyIter x) (fun it s₂=>wpAny (model X.prog X.w) X.A (newList []) (fun acc s₃=>
  wpAny (model X.prog X.w) X.A (newFunctionEnv scope X.env.globals (dm X.env.cells scope.names []) [] X.env.qual none .none (some X.env)) (fun cenv s₄=>
   codeAny (model X.prog X.w) X.A (.compStart (.ListComp elt [⟨tg,iter,ifs,0⟩] scope pos) 0 it acc {cenv with scope:=relabel scope X.env}) (RR acc cenv.locals) s₄) X.xe s₃) X.xe s₂) X.xe s₁) X.xe s:=by
 refine bZ (hi pins s σ H _ I h) fun v s1 h1=>bZ h1 fun itv s2 h2=>?_;obtain⟨it,fp,tn,J,H2,e,I2,T,st2,f2,hR⟩:=h2;subst e;refine wpAny_newList ?_ (Nat.zero_le _);have I3:=I2.EI (t':=s2.toks) (its:=[]) (ys:=[]) .nil (Nat.zero_le _);generalize e3:({s2 with heap:=s2.heap.push {cls:= .type "list",data:= .seq ([]:List Value).toArray}}:Shared)=s3;have I3:Inv X pins σ (upd H2 s2.heap.objs.size (.lst [])) s3:=by rw[<-e3];exact I3
 have ml:s2.heap.objs.size<s3.heap.objs.size:=by rw[<-e3];show _<(s2.heap.push _).objs.size;rw[Heap.size_push];omega
 have k3:∀b o,s2.heap.get? b=some o->s3.heap.get? b=some o:=fun b o q=>by rw[<-e3];exact Heap.get?_push_of_some _ q
 obtain⟨W,⟨m0,w0⟩,turn⟩:=hR s2.heap.objs.size (I2.aI.fresh (Nat.le_refl _));refine tV ?_;have hn:(pushCells (s3.heap.push {cls:= .type "dict",data:= .dict #[]}) scope.names).Ns s3.heap.objs.size (fun _=>none):=(Heap.Ns.new s3.heap (.type "dict")).keeps (pushCells_keeps _ _);have hcs:∀x c,(x,c)∈cellsFrom (s3.heap.objs.size+1) scope.names []->(pushCells (s3.heap.push {cls:= .type "dict",data:= .dict #[]}) scope.names).IsCell c none:=fun x c h=>((Ja scope.names _ (Heap.size_push ..)).empty x c h).1;have k4:∀b o,s3.heap.get? b=some o->(pushCells (s3.heap.push {cls:= .type "dict",data:= .dict #[]}) scope.names).get? b=some o:=fun b o q=>pushCells_keeps _ _ b o (Heap.get?_push_of_some _ q);generalize(pushCells (s3.heap.push {cls:= .type "dict",data:= .dict #[]}) scope.names)=h' at hn hcs k4⊢;have hobj:∀b∈fp,∃o,s2.heap.get? b=some o/\∀v,o.data≠ .cell v:=T.obj _ _ st2;have hlt2:∀b∈fp,b<s3.heap.objs.size:=fun b hb=>let⟨o,q,_⟩:=hobj b hb;Heap.lt_size (k3 b o q)
 have hnl:∀b∈fp,b≠s2.heap.objs.size:=fun b hb=>by
  obtain⟨o,q,_⟩:=hobj b hb;exact Nat.ne_of_lt (Heap.lt_size q)
 have f3:∀b∈fp,lz X pins (upd H2 s2.heap.objs.size (.lst [])) b:=fun b hb=>⟨by rw[ax (hnl b hb)];exact(f2 b hb).1,(f2 b hb).2⟩
 have ok:=Ic (C:=s3.heap.objs.size) (fp:=fp) S I3 rfl f3 hlt2 fun b hb=>(f2 b hb).2.2.2.2.1
 have I4:Inv (fD X scope Nc s3.heap.objs.size s3 (upd H2 s2.heap.objs.size (.lst [])) fp) [] (σC fr σ) (upd H2 s2.heap.objs.size (.lst [])) {s3 with heap:=h',toks:=s3.toks}:=
  EG (s':=s3) S I3 rfl ok (fun b hb=>(f3 b hb).1) k4 hn hcs
 have st4:tn 0 h':=T.keep _ _ _ st2 fun b _ o q=>k4 b o (k3 b o q);generalize hXc:fD X scope Nc s3.heap.objs.size s3 (upd H2 s2.heap.objs.size (.lst [])) fp=Xc at I4;have hgc:PG Xc tg g:=by rw[<-hXc];exact hg _ _ _ _
 have htc:qH Xc ifs c:=by rw[<-hXc];exact ht _ _ _ _
 have hec:PE Xc elt te:=by rw[<-hXc];exact he _ _ _ _
 have xP:Xc.prog=X.prog:=by rw[<-hXc];rfl
 have xW:Xc.w=X.w:=by rw[<-hXc];rfl
 have xK:Xc.K=X.K:=by rw[<-hXc];rfl
 have xc:Xc.calm=true:=by rw[<-hXc];exact hc
 have xA:Xc.A=X.A:=by rw[<-hXc];rfl
 have xE:Xc.env=compEnvC scope (lW scope s3.heap.objs.size (dm X.env.cells scope.names [])) s3.heap.objs.size X.env:=by rw[<-hXc];rfl
 have xx:Xc.xe=fun _ _=>False:=by rw[<-hXc];rfl
 have fpc:∀ {H':Hp},(∀b∈fp,H' b=none)->∀b∈fp,lz Xc [] H' b:=fun{H'} hn b hb=>by
  rw[<-hXc];refine⟨hn b hb,Nat.ne_of_lt (hlt2 b hb),ok.ud b hb,.inl hb,(ok.Dc b hb).2,fun p hp=>by cases hp⟩
 have loop:codeAny (model X.prog X.w) X.A (.compLoop (.ListComp elt [⟨tg,iter,ifs,0⟩] scope pos) 0 (.ref it) (.ref s2.heap.objs.size) (compEnvC scope (lW scope s3.heap.objs.size (dm X.env.cells scope.names [])) s3.heap.objs.size X.env))
  (RR (.ref s2.heap.objs.size) s3.heap.objs.size) {s3 with heap:=h',toks:=s3.toks}:=by
  refine zw (fun n s'=>∃i σ' H',Inv Xc [] σ' H' s'/\tn i s'.heap/\(∀b∈fp,H' b=none)/\W i n σ' H') ?_ m0 ⟨0,_,_,I4,st4,fun b hb=>(f3 b hb).1,w0⟩;rintro n s5 ⟨i,σ5,H5,I5,st5,fr5,w5⟩;rcases turn i n σ5 H5 w5 with⟨stop,qn⟩|⟨go,N,hN,step⟩
  . have q:=T.done Xc xP xW xK xc i [] s5 σ5 H5 (fun _ _=>False) I5 (fpc fr5) st5 stop;rw[xA]at q;refine bZ q fun r s6 ⟨hr,I6⟩=>?_;subst hr;obtain⟨m,hm,_⟩:=I6.loc;rw[xE]at hm;have free6:H5 s3.heap.objs.size=none:=by have:=I6.free;rw[xE]at this;exact this
    have un6:Un (oQ X.stack) fp (upd H2 s2.heap.objs.size (.lst [])) H5 s3.heap s6.heap:=by have:=I6.base;rw[<-hXc]at this;exact this
    have os6:s6.os=s3.os:=by have:=I6.os;rw[<-hXc]at this;exact this
    have hok6:iJ X.prog X.w H5 s6.heap:=by have:=I6.aI;rw[xP,xW]at this;exact this
    have J:=I3.AG (s':=s6) (ch:=fp) os6 un6 hok6 I6.bare fun b hb=>⟨(f3 b hb).2.2.2.1,(f3 b hb).2.1,(f3 b hb).2.2.2.2.1,(f3 b hb).2.2.2.2.2⟩
    exact fin _ _ s6 H5 m hm (I3.uh (Nat.le_refl _) free6) J qn
  . have q:=T.item Xc xP xW xK xc i [] s5 σ5 H5 (fun _ _=>False) I5 (fpc fr5) st5 go;rw[xA]at q;refine bZ q fun r s6 ⟨u,hr,h6⟩=>?_;subst hr;refine bZ h6 fun _ s7 ⟨x,H7,I7,r7,y7,st7,fr7⟩=>?_;have I7':=I7.pinned (fpc fr7) (T.obj _ _ st7);have q8:=hgc _ s7 σ5 H7 x u _ I7' r7 (step x H7 y7);rw[xP,xW,xA,xE,xx]at q8;refine bZ q8 fun _ s8 ⟨σ8,H8,I8,q8⟩=>?_;have q9:=htc _ s8 σ8 H8 _ I8 q8;rw[xP,xW,xA,xE,xx]at q9;refine bZ q9 fun b s9 ⟨H9,I9,q9⟩=>?_
    have again:∀ {H':Hp} {s':Shared},Inv Xc ([]++rg fp s7.heap) σ8 H' s'->N σ8 H'->∃m,m<n/\∃i σ' H',Inv Xc [] σ' H' s'/\tn i s'.heap/\(∀b∈fp,H' b=none)/\W i m σ' H':=fun{H' s'} J nn=>by
     obtain⟨m',hm,w7⟩:=hN σ8 H' nn;refine⟨m',hm,i+1,σ8,H',J.iE,T.keep _ _ _ st7 fun b hb o e=>(J.pin (b,o) (List.mem_append_right _ (List.mem_append_right _ (mX hb e)))).1,fun b hb=>?_,w7⟩;obtain⟨o,e,d⟩:=T.obj _ _ st7 b hb;exact(J.pin (b,o) (List.mem_append_right _ (List.mem_append_right _ (mX hb e)))).2.1
    cases b with
    |false=>exact again I9 q9
    |true=>
     have qe:=hec _ s9 σ8 H9 _ I9 q9;rw[xP,xW,xA,xE,xx]at qe;refine bZ qe fun y s10 ⟨vy,H10,I10,ry,ys,hy,hlt,qN⟩=>?_;have qa:=wc (X:=Xc) _ s10 σ8 H10 (.ref s2.heap.objs.size) [vy] (.ref s2.heap.objs.size) [y] (fun _ H'=>N σ8 H') I10 rfl (.cons ry .nil) ⟨_,ys,vy,rfl,rfl,hy,hlt,qN⟩;rw[xP,xW,xA,xx]at qa;exact bZ qa fun _ s11 ⟨_,H11,I11,_,q11⟩=>again I11 q11
 refine codeAny_compStart_list ?_ ?_
 . exact loop
 . exact T.self _ 0 _ _ _ st4 loop
theorem z8{elt tg iter:Expr}{ifs:List Expr}{wi:TI}{g:TG}{c:TT}{te:TE}{pos:Pos}(hx:X.xe=fun _ _=>False)(hc:X.calm=true)(S:bq X scope Nc fr)(hi:PI X tg iter wi)
 (hg:∀C s H ex,PG (fD X scope Nc C s H ex) tg g) (ht:∀C s H ex,qH (fD X scope Nc C s H ex) ifs c) (he:∀C s H ex,PE (fD X scope Nc C s H ex) elt te)
 (hs:∀x,foldedSetIterable iter X.env x=pure x:=by intro _;rfl):PE X (.ListComp elt [⟨tg,iter,ifs,0⟩] scope pos) (sf wi fr g c te):=by
 intro pins s σ H Q I h;rw[eval_ListComp];have hcl:closureFor scope X.env=pure (dm X.env.cells scope.names []):=mM fun x hx hk=>I.ok.has x.1 (S.free x hx hk);refine wpAny_comprehension_free rfl hs hcl S.kind S.names ?_;exact uX (RR:=fun acc C=>compPost (model X.prog X.w) X.A X.xe none (EP X pins σ Q) acc C) hx hc S hi hg ht he I h fun l C s6 H5 m hm f J q=>⟨m,hm,fun h'' hs''=>⟨.ref l,H5,Inv.forget J f hs'',rfl,q⟩⟩
theorem zX{elt tg iter:Expr}{ifs:List Expr}{wi:TI}{g:TG}{c:TT}{te:TE}{pos pos' spos:Pos}{i:Nat}{x:Str}(hx:X.xe=fun _ _=>False)(hc:X.calm=true)(S:bq X scope Nc fr)(hi:PI X tg iter wi)
 (hg:∀C s H ex,PG (fD X scope Nc C s H ex) tg g) (ht:∀C s H ex,qH (fD X scope Nc C s H ex) ifs c) (he:∀C s H ex,PE (fD X scope Nc C s H ex) elt te) (hN:X.N.Nodup) (hni:X.N[i]?=some x) (hl:Loc X.env.scope x) (hf:X.fn x=true\/X.env.scope.names.lookup x=some .local)
 (hsw:swapsWith (.ListComp elt [⟨tg,iter,ifs,0⟩] scope pos) (some (.Name x pos')) spos.line X.env=pure true)
 (hs:∀x,foldedSetIterable iter X.env x=pure x:=by intro _;rfl):PS X (.Assign [.Name x pos'] (.ListComp elt [⟨tg,iter,ifs,0⟩] scope pos) spos) (mJ (sf wi fr g c te) (lQ i)):=by
 intro pins s σ H D I h;have hcl:closureFor scope X.env=pure (dm X.env.cells scope.names []):=mM fun x hx hk=>I.ok.has x.1 (S.free x hx hk);rw[exec_Assign_Name_used _ _ _ _ hsw];refine wpAny_bind (wpAny_standAt (wpAny_bind ?_));show wpAny _ X.A (do let _ <-comprehension (.ListComp elt [⟨tg,iter,ifs,0⟩] scope pos) scope X.env _ (newList []) false (eval iter X.env) (some (assign (.Name x pos') X.env))) _ _ s
 refine wpAny_bind (wpAny_mono (wpAny_comprehension_free (use:=some (assign (.Name x pos') X.env)) (Q:=fun _ s'=>SP X pins D .next s') rfl hs hcl S.kind S.names
  (uX (RR:=fun acc C=>compPost (model X.prog X.w) X.A X.xe (some (assign (.Name x pos') X.env)) (fun _ s'=>SP X pins D .next s') acc C) hx hc S hi hg ht he I h fun l C s6 H5 m hm f J q=>?_)) (fun _ s' hq=>wpAny_pure (wpAny_pure hq)) fun _ _ e=>e)
 show wpAny _ X.A (assign (.Name x pos') X.env (.ref l)) _ _ _;refine wpAny_assign_Name (wx J hN hni hl (show RelV (.ref l) (.ref l)from rfl) (fun s7 J7 hch=>?_) hf);obtain⟨a,hsame,ha⟩:=hch
 have hCa:C≠a:=by
  rcases ha with rfl|ha
  . exact f.2.1
  . exact fun z=>f.2.2.2.2.1 x a ha z.symm
 refine⟨m,hm.sameBut hsame hCa,fun h'' hs''=>⟨σ.set i (some (.ref l)),H5,Inv.forget J7 f hs'',q⟩⟩
end
inductive D where
 |aM|bl (b:Bool)|int (i:Int)|str (x:Str)|ty (n:String)|ref (n:Nat)|lst (xs:List D)|tup (xs:List D)
inductive Cell where
 |lst (xs:List D)|ins (C:Addr) (fs:List (Str×D))|dead
  |tab (P:Addr) (pos:Pos) (qual:Str) (b:Bool)
abbrev af:=List Cell
abbrev bR:=List (Option D)
mutual
def Rep(α:List (Option Addr))(H:Hp):D->V->Prop
 | .aM,v=>v= .aM
 | .bl b,v=>v= .bl b
 | .int i,v=>v= .int i
 | .str x,v=>v= .str x
 | .ty n,v=>v= .ty n
 | .ref n,v=>α[n]?=some none\/∃a,α[n]?=some (some a)/\v= .ref a
 | .lst xs,v=>∃a vs,v= .ref a/\some a∉α/\Rd H a (.lst vs)/\aG α H xs vs
 | .tup xs,v=>∃a vs,v= .ref a/\some a∉α/\H a=some (.tup vs)/\aG α H xs vs
def aG(α:List (Option Addr))(H:Hp):List D->List V->Prop
 | [],vs=>vs=[]
 |d::ds,vs=>∃v r,vs=v::r/\Rep α H d v/\aG α H ds r
end
theorem bh{α:List (Option Addr)}{H:Hp}:∀ {ds:List D} {vs:List V},aG α H ds vs↔Paired (Rep α H) ds vs
 | [],vs=>by
   unfold aG;constructor
   . rintro rfl;exact .nil
   . intro h;cases h;rfl
 |d::ds,vs=>by
  unfold aG;constructor
  . rintro⟨v,r,rfl,h1,h2⟩;exact .cons h1 (bh.mp h2)
  . intro h;cases h with|cons h1 h2=>exact⟨_,_,rfl,h1,bh.mpr h2⟩
section
variable {α:List (Option Addr)}{H:Hp}
theorem aG.length{ds:List D}{vs:List V}(h:aG α H ds vs):ds.length=vs.length:=Paired.length (bh.mp h)
theorem uS{A B:Type}{F:A->B->Prop}:∀ {xs:List A} {ys:List B} {i:Nat} {x:A},Paired F xs ys->xs[i]?=some x->∃y,ys[i]?=some y/\F x y
 |_,_,_,_,.nil,e=>by simp at e
 |_,_,0,_,.cons r _,e=>by simp at e;subst e;exact⟨_,rfl,r⟩
 |_,_,i+1,x,.cons _ t,e=>by
  obtain⟨u,h1,h2⟩:=uS (i:=i) (x:=x) t (by simpa using e);exact⟨u,by simpa using h1,h2⟩
theorem gw{A B:Type}{F:A->B->Prop}:∀ {xs xs':List A} {ys ys':List B},Paired F xs ys->Paired F xs' ys'->Paired F (xs++xs') (ys++ys')
 |_,_,_,_,.nil,s=>s
 |_,_,_,_,.cons r t,s=> .cons r (gw t s)
theorem tH{A B:Type}{F:A->B->Prop}:∀ {xs:List A} {ys:List B} (n:Nat),Paired F xs ys->Paired F (xs.take n) (ys.take n)
 |_,_,0,_=> .nil
 |_,_,_+1,.nil=> .nil
 |_,_,n+1,.cons r t=> .cons r (tH n t)
theorem tj{A B:Type}{F:A->B->Prop}:∀ {xs:List A} {ys:List B} (n:Nat),Paired F xs ys->Paired F (xs.drop n) (ys.drop n)
 |_,_,0,r=>r
 |_,_,_+1,.nil=> .nil
 |_,_,n+1,.cons _ t=>tj n t
theorem pW{A B:Type}{F:A->B->Prop}{x:A}{y:B}(r:F x y):∀ {xs:List A} {ys:List B} (i:Nat),Paired F xs ys->Paired F (xs.set i x) (ys.set i y)
 |_,_,_,.nil=> .nil
 |_,_,0,.cons _ t=> .cons r t
 |_,_,i+1,.cons q t=> .cons q (pW r i t)
theorem oC{A B:Type}{F:A->B->Prop}{xs:List A}{ys:List B}(h:Paired F xs ys):∀k:Nat,Paired F (List.replicate k xs).flatten (List.replicate k ys).flatten
 |0=> .nil
 |k+1=>by
  rw[List.replicate_succ,List.replicate_succ,List.flatten_cons,List.flatten_cons];exact gw h (oC h k)
theorem aG.get{ds:List D}{vs:List V}{i:Nat}{d:D}(h:aG α H ds vs)(e:ds[i]?=some d):∃v,vs[i]?=some v/\Rep α H d v:=uS (bh.mp h) e
end
structure Step(α:List (Option Addr))(H:Hp)(α':List (Option Addr))(H':Hp):Prop where
 ext:∀b o,some b∉α->H b=some o->H' b=some o
 pre:∀(n:Nat) (x:Option Addr),α[n]?=some x->α'[n]?=some x\/α'[n]?=some none
 new:∀b,some b∈α'->some b∉α->H b=none
theorem Step.refl{α:List (Option Addr)}{H:Hp}:Step α H α H:=⟨fun _ _ _ h=>h,fun _ _ h=> .inl h,fun _ h n=>absurd h n⟩
theorem Step.trans{α α1 α2:List (Option Addr)}{H H1 H2:Hp}(a:Step α H α1 H1)(b:Step α1 H1 α2 H2):Step α H α2 H2 where
 ext:=fun c o hc e=>b.ext c o (fun z=>by rw[a.new c z hc]at e;cases e) (a.ext c o hc e)
 pre:=fun n x e=>by
  rcases a.pre n x e with h|h
  . exact b.pre n x h
  . rcases b.pre n none h with h'|h'
    . exact .inr h'
    . exact .inr h'
 new:=fun c hc n=>by
  by_cases h1:some c∈α1
  . exact a.new c h1 n
  . have:=b.new c hc h1;cases q:H c with
    |none=>rfl
    |some o=>rw[a.ext c o n q]at this;cases this
theorem Step.laid{α:List (Option Addr)}{H:Hp}{p:Addr}{o:HO}(h:H p=none):Step α H α (upd H p o):=
 ⟨fun b u _ e=>by rw[ax (dA e h)];exact e,fun _ _ h=> .inl h,fun _ h n=>absurd h n⟩
theorem Step.cell{α:List (Option Addr)}{H:Hp}{p:Addr}{o:HO}(h:H p=none):Step α H (α++[some p]) (upd H p o):=
 ⟨fun b u _ e=>by rw[ax (dA e h)];exact e,fun n x e=> .inl (by rw[List.getElem?_append_left (List.getElem?_eq_some_iff.mp e).1];exact e),fun b hb n=>by
  rcases List.mem_append.mp hb with z|z
  . exact absurd z n
  . have:b=p:=by simpa using z
    subst this;exact h⟩
theorem Step.write{α:List (Option Addr)}{H:Hp}{p:Addr}{o:HO}(h:some p∈α):Step α H α (upd H p o):=
 ⟨fun b u n e=>by rw[ax (fun z=>by subst z;exact n h)];exact e,fun _ _ h=> .inl h,fun _ h n=>absurd h n⟩
theorem Step.ig{α:List (Option Addr)}{H:Hp}{n:Nat}:Step α H (α.set n none) H:=
 ⟨fun _ _ _ h=>h,fun m x e=>by
  by_cases hm:n=m
  . subst hm;exact .inr (List.getElem?_set_self (List.getElem?_eq_some_iff.mp e).1)
  . exact .inl (by rw[List.getElem?_set_ne hm];exact e),fun b hb hn=>by
  rcases List.mem_or_eq_of_mem_set hb with z|z
  . exact absurd z hn
  . cases z⟩
mutual
theorem Rep.step{α α':List (Option Addr)}{H H':Hp}(s:Step α H α' H'):∀ {d:D} {v:V},Rep α H d v->Rep α' H' d v
 | .aM,_,h=>by unfold Rep at h⊢;exact h
 | .bl _,_,h=>by unfold Rep at h⊢;exact h
 | .int _,_,h=>by unfold Rep at h⊢;exact h
 | .str _,_,h=>by unfold Rep at h⊢;exact h
 | .ty _,_,h=>by unfold Rep at h⊢;exact h
 | .ref n,_,h=>by
   unfold Rep at h⊢;rcases h with h|⟨a,e,r⟩
   . rcases s.pre _ _ h with z|z<;>exact .inl z
   . rcases s.pre _ _ e with z|z
     . exact .inr ⟨a,z,r⟩
     . exact .inl z
 | .lst xs,_,h=>by
   unfold Rep at h⊢;obtain⟨a,vs,e,n,r,q⟩:=h;refine⟨a,vs,e,fun z=>?_,?_,aG.step s q⟩
   . have:=s.new a z n;rcases r with r|⟨o,r⟩<;>(rw[this]at r;cases r)
   . rcases r with r|⟨o,r⟩
     . exact .inl (s.ext _ _ n r)
     . exact .inr ⟨o,s.ext _ _ n r⟩
 | .tup xs,_,h=>by
   unfold Rep at h⊢;obtain⟨a,vs,e,n,r,q⟩:=h;exact⟨a,vs,e,(fun z=>by rw[s.new a z n]at r;exact nomatch r),s.ext _ _ n r,aG.step s q⟩
theorem aG.step{α α':List (Option Addr)}{H H':Hp}(s:Step α H α' H'):∀ {ds:List D} {vs:List V},aG α H ds vs->aG α' H' ds vs
 | [],_,h=>by unfold aG at h⊢;exact h
 |d::ds,_,h=>by
  unfold aG at h⊢;obtain⟨v,r,e,h1,h2⟩:=h;exact⟨v,r,e,Rep.step s h1,aG.step s h2⟩
end
structure bW(G F H:Hp):Prop where
 eq:∀b,H b=(G b).or (F b)
 xI:∀b o,G b=some o->F b=none
section
variable {G F H:Hp}
theorem bW.get(P:bW G F H){b:Addr}{o:HO}(h:G b=some o):H b=some o:=by rw[P.eq b,h];rfl
theorem bW.same(P:bW G F H):EY G H:=fun _ _ h=>P.get h
theorem bW.none(P:bW G F H){b:Addr}(h:H b=none):G b=none/\F b=none:=by
 have e:=P.eq b;rw[h]at e;cases q:G b with
 |none=>rw[q]at e;exact⟨rfl,e.symm⟩
 |some o=>rw[q]at e;cases e
theorem bW.frame(P:bW G F H){b:Addr}{o:HO}(h:F b=some o):H b=some o/\G b=Option.none:=by
 have hn:G b=Option.none:=by
  cases q:G b with
  |none=>rfl
  |some u=>rw[P.xI b u q]at h;cases h
 exact⟨by rw[P.eq b,hn,h];rfl,hn⟩
theorem bW.laid(P:bW G F H){p:Addr}{o:HO}(h:H p=Option.none):bW (upd G p o) F (upd H p o):=by
 obtain⟨h1,h2⟩:=P.none h;refine⟨fun b=>?_,fun b u e=>?_⟩
 . by_cases hb:b=p
   . subst hb;rw[aV,aV];rfl
   . rw[ax hb,ax hb];exact P.eq b
 . by_cases hb:b=p
   . subst hb;exact h2
   . rw[ax hb]at e;exact P.xI b u e
theorem bW.write(P:bW G F H){p:Addr}{o o':HO}(h:G p=some o):bW (upd G p o') F (upd H p o'):=by
 refine⟨fun b=>?_,fun b u e=>?_⟩
 . by_cases hb:b=p
   . subst hb;rw[aV,aV];rfl
   . rw[ax hb,ax hb];exact P.eq b
 . by_cases hb:b=p
   . subst hb;exact P.xI b o h
   . rw[ax hb]at e;exact P.xI b u e
theorem bW.hide(P:bW G F H){p:Addr}{o:HO}(h:H p=Option.none):bW G (upd F p o) (upd H p o):=by
 obtain⟨h1,h2⟩:=P.none h;refine⟨fun b=>?_,fun b u e=>?_⟩
 . by_cases hb:b=p
   . subst hb;rw[aV,aV,h1];rfl
   . rw[ax hb,ax hb];exact P.eq b
 . by_cases hb:b=p
   . subst hb;rw[h1]at e;cases e
   . rw[ax hb];exact P.xI b u e
theorem bW.C3(P:bW G F H){p:Addr}{o o':HO}(h:F p=some o):bW G (upd F p o') (upd H p o'):=by
 have h1:=(P.frame h).2;refine⟨fun b=>?_,fun b u e=>?_⟩
 . by_cases hb:b=p
   . subst hb;rw[aV,aV,h1];rfl
   . rw[ax hb,ax hb];exact P.eq b
 . by_cases hb:b=p
   . subst hb;rw[h1]at e;cases e
   . rw[ax hb];exact P.xI b u e
theorem bW.show{p:Addr}{o:HO}(P:bW G (upd F p o) H)(h:F p=Option.none):bW (upd G p o) F H:=by
 have h1:=(P.frame (b:=p) aV)
 refine⟨fun b=>?_,fun b u e=>?_⟩
 . by_cases hb:b=p
   . subst hb;rw[aV,h1.1];rfl
   . rw[ax hb,P.eq b,ax hb]
 . by_cases hb:b=p
   . subst hb;exact h
   . rw[ax hb]at e;have:=P.xI b u e;rw[ax hb]at this;exact this
end
mutual
theorem Rep.mono{α:List (Option Addr)}{G H:Hp}(s:EY G H):∀ {d:D} {v:V},Rep α G d v->Rep α H d v
 | .aM,_,h=>by unfold Rep at h⊢;exact h
 | .bl _,_,h=>by unfold Rep at h⊢;exact h
 | .int _,_,h=>by unfold Rep at h⊢;exact h
 | .str _,_,h=>by unfold Rep at h⊢;exact h
 | .ty _,_,h=>by unfold Rep at h⊢;exact h
 | .ref n,_,h=>by unfold Rep at h⊢;exact h
 | .lst xs,_,h=>by
   unfold Rep at h⊢;obtain⟨a,vs,e,n,r,q⟩:=h;refine⟨a,vs,e,n,?_,aG.mono s q⟩;rcases r with r|⟨o,r⟩
   . exact .inl (s _ _ r)
   . exact .inr ⟨o,s _ _ r⟩
 | .tup xs,_,h=>by
   unfold Rep at h⊢;obtain⟨a,vs,e,n,r,q⟩:=h;exact⟨a,vs,e,n,s _ _ r,aG.mono s q⟩
theorem aG.mono{α:List (Option Addr)}{G H:Hp}(s:EY G H):∀ {ds:List D} {vs:List V},aG α G ds vs->aG α H ds vs
 | [],_,h=>by unfold aG at h⊢;exact h
 |d::ds,_,h=>by
  unfold aG at h⊢;obtain⟨v,r,e,h1,h2⟩:=h;exact⟨v,r,e,Rep.mono s h1,aG.mono s h2⟩
end
def j9(α:List (Option Addr))(H:Hp):List (Str×D)->List (Str×V)->Prop:=Paired fun p q=>p.1=q.1/\Rep α H p.2 q.2
def kG(α:List (Option Addr))(H:Hp)(a:Addr):Cell->Prop
 | .lst xs=>∃vs,H a=some (.lst vs)/\aG α H xs vs
 | .ins C fs=>∃dx vs,H a=some (.ins C dx vs)/\j9 α H fs vs
 | .dead=>False
 | .tab P pos qual b=>a=P/\∃ps:Array Value,H a=some (.ky ps)/\TriplesOk ps.toList/\
    ((b=false/\codeAmong pos ps.toList=none)\/(b=true/\∃c o vs t,codeAmong pos ps.toList=some (.ref c)/\some c∉α/\H c=some (.ig o (.own c))/\o.data= .fields vs/\vs[1]?=some (.str qual t)))
structure aO(α:List (Option Addr))(st:af)(H:Hp):Prop where
 len:α.length=st.length
 nd:∀(i j:Nat) (a:Addr),α[i]?=some (some a)->α[j]?=some (some a)->i=j
 at':∀(n:Nat) (c:Cell),st[n]?=some c->(c= .dead/\α[n]?=some none)\/∃a,α[n]?=some (some a)/\kG α H a c
theorem j9.step{α α':List (Option Addr)}{H H':Hp}(s:Step α H α' H'){ds:List (Str×D)}{vs:List (Str×V)}(h:j9 α H ds vs):j9 α' H' ds vs:=Paired.Ej h fun _ _ z=>⟨z.1,z.2.step s⟩
theorem kG.same{α α':List (Option Addr)}{H H':Hp}{a:Addr}{c:Cell}(s:Step α H α' H')(e:H' a=H a)(h:kG α H a c):kG α' H' a c:=by
 cases c with
 |lst xs=>obtain⟨vs,h1,h2⟩:=h;exact⟨vs,e.trans h1,h2.step s⟩
 |ins C fs=>obtain⟨dx,vs,h1,h2⟩:=h;exact⟨dx,vs,e.trans h1,h2.step s⟩
 |dead=>exact h.elim
 |tab P pos qual b=>
  obtain⟨z,ps,h1,h2,h3⟩:=h;refine⟨z,ps,e.trans h1,h2,?_⟩;rcases h3 with h3|⟨hb,c,o,vs,t,q1,q2,q3,q4⟩
  . exact .inl h3
  . exact .inr ⟨hb,c,o,vs,t,q1,(fun y=>by rw[s.new c y q2]at q3;cases q3),s.ext c _ q2 q3,q4⟩
theorem kG.some{α:List (Option Addr)}{H:Hp}{a:Addr}{c:Cell}(h:kG α H a c):∃o,H a=some o:=by
 cases c with
 |lst xs=>obtain⟨vs,h1,h2⟩:=h;exact⟨_,h1⟩
 |ins C fs=>obtain⟨dx,vs,h1,h2⟩:=h;exact⟨_,h1⟩
 |dead=>exact h.elim
 |tab P pos qual b=>obtain⟨_,ps,h1,_⟩:=h;exact⟨_,h1⟩
theorem fH{α:List (Option Addr)}{H:Hp}{n:Nat}{v:V}{a:Addr}(e:α[n]?=Option.some (Option.some a))(r:Rep α H (.ref n) v):v= .ref a:=by
 unfold Rep at r;rcases r with r|⟨b,eb,rfl⟩
 . rw[e]at r;cases r
 . rw[e]at eb;cases eb;rfl
section
variable {α:List (Option Addr)}{st:af}{H:Hp}
theorem aO.jZ(S:aO α st H){n:Nat}{xs:List D}(e:st[n]?=Option.some (.lst xs)):∃a,α[n]?=Option.some (Option.some a)/\∃vs,H a=Option.some (.lst vs)/\aG α H xs vs:=by
 rcases S.at' n _ e with⟨z,_⟩|z
 . cases z
 . exact z
theorem aO.xr(S:aO α st H){n:Nat}{C:Addr}{fs:List (Str×D)}(e:st[n]?=Option.some (.ins C fs)):∃a,α[n]?=Option.some (Option.some a)/\∃dx vs,H a=Option.some (.ins C dx vs)/\j9 α H fs vs:=by
 rcases S.at' n _ e with⟨z,_⟩|z
 . cases z
 . exact z
theorem aO.mem(S:aO α st H){a:Addr}(h:Option.some a∈α):∃(n:Nat) (c:Cell),α[n]?=Option.some (Option.some a)/\st[n]?=Option.some c/\kG α H a c:=by
 obtain⟨n,hn,e⟩:=List.mem_iff_getElem.mp h;have hl:n<st.length:=by rw[<-S.len];exact hn
 have e':α[n]?=Option.some (Option.some a):=by rw[List.getElem?_eq_getElem hn,e]
 rcases S.at' n st[n] (by simp[hl])with⟨_,q⟩|⟨a',q,ca⟩
 . rw[e']at q;cases q
 . rw[e']at q;cases q;exact⟨n,_,e',by simp[hl],ca⟩
theorem aO.kI(S:aO α st H){p:Addr}(h:H p=none):Option.some p∉α:=fun z=>by
 obtain⟨n,c,_,_,ca⟩:=S.mem z;obtain⟨o,e⟩:=ca.some;rw[h]at e;cases e
theorem aO.laid(S:aO α st H){p:Addr}{o:HO}(h:H p=none):aO α st (upd H p o):=
 ⟨S.len,S.nd,fun n c e=>by
  rcases S.at' n c e with z|⟨a,q,ca⟩
  . exact .inl z
  . exact .inr ⟨a,q,ca.same (Step.laid h) (ax (by obtain⟨u,z⟩:=ca.some;exact dA z h))⟩⟩
theorem aO.cell(S:aO α st H){p:Addr}{o:HO}{c:Cell}(h:H p=none)(hc:kG (α++[Option.some p]) (upd H p o) p c):aO (α++[Option.some p]) (st++[c]) (upd H p o) where
 len:=by rw[List.length_append,List.length_append,S.len];rfl
 nd:=fun i j a ei ej=>by
  have key:∀(i:Nat) (a:Addr),(α++[Option.some p])[i]?=Option.some (Option.some a)->(i<α.length/\α[i]?=Option.some (Option.some a))\/(i=α.length/\a=p):=by
   intro i a e;by_cases hi:i<α.length
   . rw[List.getElem?_append_left hi]at e;exact .inl ⟨hi,e⟩
   . rw[List.getElem?_append_right (Nat.le_of_not_lt hi)]at e
     have h0:i-α.length=0:=by
      cases q:i-α.length with
      |zero=>rfl
      |succ k=>rw[q]at e;simp at e
     rw[h0]at e;have:p=a:=by simpa using e
     exact .inr ⟨by omega,this.symm⟩
  rcases key i a ei with⟨h1,e1⟩|⟨h1,e1⟩<;>rcases key j a ej with⟨h2,e2⟩|⟨h2,e2⟩
  . exact S.nd i j a e1 e2
  . subst e2;exact absurd (List.mem_of_getElem? e1) (S.kI h)
  . subst e1;exact absurd (List.mem_of_getElem? e2) (S.kI h)
  . omega
 at':=fun n d e=>by
  by_cases hn:n<st.length
  . rw[List.getElem?_append_left hn]at e;have hl:n<α.length:=by rw[S.len];exact hn
    rcases S.at' n d e with⟨z,q⟩|⟨a,q,ca⟩
    . exact .inl ⟨z,by rw[List.getElem?_append_left hl];exact q⟩
    . exact .inr ⟨a,by rw[List.getElem?_append_left hl];exact q,ca.same (Step.cell h) (ax (by obtain⟨u,z⟩:=ca.some;exact dA z h))⟩
  . rw[List.getElem?_append_right (Nat.le_of_not_lt hn)]at e
    have h0:n-st.length=0:=by
     cases q:n-st.length with
     |zero=>rfl
     |succ k=>rw[q]at e;simp at e
    rw[h0]at e;have hd:c=d:=by simpa using e
    subst hd;refine .inr ⟨p,?_,hc⟩;rw[List.getElem?_append_right (by rw[S.len];exact Nat.le_of_not_lt hn),S.len,h0];rfl
theorem aO.write(S:aO α st H){p:Addr}{o:HO}{c:Cell}{n:Nat}(e:α[n]?=Option.some (Option.some p))(hc:kG α (upd H p o) p c):aO α (st.set n c) (upd H p o) where
 len:=by rw[List.length_set];exact S.len
 nd:=S.nd
 at':=fun m d q=>by
  have hp:Option.some p∈α:=List.mem_of_getElem? e;by_cases hm:m=n
  . subst hm
    have hl:m<st.length:=by
     have:=(List.getElem?_eq_some_iff.mp q).1;rw[List.length_set]at this;exact this
    rw[List.getElem?_set_self hl]at q;cases q;exact .inr ⟨p,e,hc⟩
  . rw[List.getElem?_set_ne (Ne.symm hm)]at q;rcases S.at' m d q with z|⟨a,r,ca⟩
    . exact .inl z
    . refine .inr ⟨a,r,ca.same (Step.write hp) (ax fun z=>?_)⟩;subst z;exact hm (S.nd m n _ r e)
theorem aO.ig(S:aO α st H){n:Nat}(hn:n<st.length):aO (α.set n none) (st.set n .dead) H where
 len:=by rw[List.length_set,List.length_set];exact S.len
 nd:=fun i j a ei ej=>by
  have key:∀(i:Nat),(α.set n none)[i]?=Option.some (Option.some a)->α[i]?=Option.some (Option.some a):=by
   intro i e;by_cases hi:n=i
   . subst hi;rw[List.getElem?_set_self (by rw[S.len];exact hn)]at e;cases e
   . rw[List.getElem?_set_ne hi]at e;exact e
  exact S.nd i j a (key i ei) (key j ej)
 at':=fun m d q=>by
  by_cases hm:n=m
  . subst hm;rw[List.getElem?_set_self hn]at q;cases q;exact .inl ⟨rfl,List.getElem?_set_self (by rw[S.len];exact hn)⟩
  . rw[List.getElem?_set_ne hm]at q;rcases S.at' m d q with⟨z,r⟩|⟨a,r,ca⟩
    . exact .inl ⟨z,by rw[List.getElem?_set_ne hm];exact r⟩
    . exact .inr ⟨a,by rw[List.getElem?_set_ne hm];exact r,ca.same Step.ig rfl⟩
theorem aO.HU(S:aO α st H){n:Nat}{xs:List D}{v:V}(e:st[n]?=Option.some (.lst xs))(r:Rep α H (.ref n) v):Rep (α.set n none) H (.lst xs) v:=by
 obtain⟨a,ea,vs,h1,h2⟩:=S.jZ e;have:=fH ea r;subst this;unfold Rep;refine⟨a,vs,rfl,fun z=>?_,.inl h1,h2.step Step.ig⟩;obtain⟨m,hm,em⟩:=List.mem_iff_getElem.mp z;have em':(α.set n none)[m]?=Option.some (Option.some a):=by rw[List.getElem?_eq_getElem hm,em]
 by_cases hx:n=m
 . subst hx;rw[List.getElem?_set_self (List.getElem?_eq_some_iff.mp ea).1]at em';cases em'
 . rw[List.getElem?_set_ne hx]at em';exact hx (S.nd n m a ea em')
end
abbrev DK:=D->af->Prop
abbrev DE:=bR->af->DK->Prop
abbrev DT:=bR->af->(Bool->af->Prop)->Prop
abbrev DA:=bR->af->(List D->af->Prop)->Prop
structure m7 where
 nx:bR->af->Prop
 rt:DK
 bk:bR->af->Prop:=fun _ _=>False
 ct:bR->af->Prop:=fun _ _=>False
abbrev DS:=m7->bR->af->Prop
structure dU(α:List (Option Addr))(H:Hp)(σd:bR)(σ:L2.St):Prop where
 len:σd.length=σ.length
 at':∀(i:Nat) (d:D),σd[i]?=some (some d)->∃v,σ[i]?=some (some v)/\Rep α H d v
theorem dU.step{α α':List (Option Addr)}{H H':Hp}{σd:bR}{σ:L2.St}(s:Step α H α' H')(h:dU α H σd σ):dU α' H' σd σ:=
 ⟨h.len,fun i d e=>let⟨v,q,r⟩:=h.at' i d e;⟨v,q,r.step s⟩⟩
theorem dU.set{α:List (Option Addr)}{H:Hp}{σd:bR}{σ:L2.St}(h:dU α H σd σ)(i:Nat){d:D}{v:V}(r:Rep α H d v):dU α H (σd.set i (some d)) (σ.set i (some v)):=by
 refine⟨by rw[List.length_set,List.length_set,h.len],fun j e q=>?_⟩;have hl:=h.len;by_cases hj:j=i
 . subst hj
   have hlt:j<σd.length:=by
    have:=(List.getElem?_eq_some_iff.mp q).1;rw[List.length_set]at this;exact this
   rw[List.getElem?_set_self hlt]at q;cases q;exact⟨v,List.getElem?_set_self (by omega),r⟩
 . rw[List.getElem?_set_ne (Ne.symm hj)]at q;rw[List.getElem?_set_ne (Ne.symm hj)];exact h.at' j e q
def LK(α:List (Option Addr))(G F:Hp)(K:DK)(Q:VK):Prop:=∀d st',K d st'->∀α' G' H' v,Step α G α' G'->bW G' F H'->aO α' st' G'->Rep α' G' d v->Q v H'
def Ol(α:List (Option Addr))(G F:Hp)(K:Bool->af->Prop)(Q:Bool->Hp->Prop):Prop:=∀b st',K b st'->∀α' G' H',Step α G α' G'->bW G' F H'->aO α' st' G'->Q b H'
def Oa(α:List (Option Addr))(G F:Hp)(K:List D->af->Prop)(Q:List V->Hp->Prop):Prop:=∀ds st',K ds st'->∀α' G' H' vs,Step α G α' G'->bW G' F H'->aO α' st' G'->aG α' G' ds vs->Q vs H'
inductive MH(t:DE)(σ:L2.St)(H:Hp)(Q:VK):Prop
 |mk (α:List (Option Addr)) (σd:bR) (st:af) (K:DK) (G F:Hp) (P:bW G F H) (R:dU α G σd σ) (S:aO α st G) (h:t σd st K) (k:LK α G F K Q):MH t σ H Q
def LE(t:DE):TE:=MH t
inductive MZ(t:DT)(σ:L2.St)(H:Hp)(Q:Bool->Hp->Prop):Prop
 |mk (α:List (Option Addr)) (σd:bR) (st:af) (K:Bool->af->Prop) (G F:Hp) (P:bW G F H) (R:dU α G σd σ) (S:aO α st G) (h:t σd st K) (k:Ol α G F K Q):MZ t σ H Q
def LT(t:DT):TT:=MZ t
inductive MY(t:DA)(σ:L2.St)(H:Hp)(Q:List V->Hp->Prop):Prop
 |mk (α:List (Option Addr)) (σd:bR) (st:af) (K:List D->af->Prop) (G F:Hp) (P:bW G F H) (R:dU α G σd σ) (S:aO α st G) (h:t σd st K) (k:Oa α G F K Q):MY t σ H Q
def LA(t:DA):TA:=MY t
theorem LK.here{α:List (Option Addr)}{G F H:Hp}{K:DK}{Q:VK}(h:LK α G F K Q)(P:bW G F H){d:D}{st:af}{v:V}(k:K d st)(S:aO α st G)(r:Rep α G d v):Q v H:=h d st k α G H v Step.refl P S r
theorem LK.at{α α1:List (Option Addr)}{G F G1:Hp}{K:DK}{Q:VK}(h:LK α G F K Q)(s:Step α G α1 G1):LK α1 G1 F K Q:=fun d st' k α' G' H' v s' P S r=>h d st' k α' G' H' v (s.trans s') P S r
section
variable {X:Cx}{a b c e:Expr}{es:List Expr}{ta tb tc te:DE}{pos:Pos}
theorem PE.imp{t t':TE}(h:PE X e t)(f:∀σ H Q,t' σ H Q->t σ H Q):PE X e t':=fun pins s σ H Q I q=>h pins s σ H Q I (f σ H Q q)
theorem PT.imp{t t':TT}(h:PT X e t)(f:∀σ H Q,t' σ H Q->t σ H Q):PT X e t':=fun pins s σ H Q I q=>h pins s σ H Q I (f σ H Q q)
theorem PA.imp{t t':TA}(h:PA X es t)(f:∀σ H Q,t' σ H Q->t σ H Q):PA X es t':=fun p pins s σ H Q I q=>h p pins s σ H Q I (f σ H Q q)
def ab(i:Nat):DE:=fun σ st K=>match σ[i]? with|some (some d)=>K d st|_=>False
def dC(d:D):DE:=fun _ st K=>K d st
theorem KL{i:Nat}{x:Str}(h:PE X (.Name x pos) (J8 i)):PE X (.Name x pos) (LE (ab i)):=PE.imp h fun σ H Q ⟨α,σd,st,K,G,F,P,R,S,t,k⟩=>by
 unfold ab at t;split at t
 . rename_i d q;obtain⟨v,e,r⟩:=R.at' i d q;exact⟨v,e,k.here P t S r⟩
 . exact t.elim
theorem Aa{v:V}{d:D}(h:PE X e (tC v))(r:∀α H,Rep α H d v):PE X e (LE (dC d)):=PE.imp h fun σ H Q ⟨α,σd,st,K,G,F,P,R,S,t,k⟩=>k.here P t S (r α G)
theorem L_{i:Int}{j:Nat}:PE X (.Constant (.int i) j pos) (LE (dC (.int i))):=Aa J9 fun _ _=>by unfold Rep;rfl
theorem Ny{i:Bool}{j:Nat}:PE X (.Constant (.bool i) j pos) (LE (dC (.bl i))):=Aa Mh fun _ _=>by unfold Rep;rfl
abbrev eE:=D->D->af->DK->Prop
abbrev yl:=D->af->DK->Prop
abbrev gM:=List D->af->DK->Prop
inductive MI(r:eE)(x y:V)(H:Hp)(Q:VK):Prop
 |mk (α:List (Option Addr)) (d e:D) (st:af) (K:DK) (G F:Hp) (P:bW G F H) (rx:Rep α G d x) (ry:Rep α G e y) (S:aO α st G) (h:r d e st K) (k:LK α G F K Q):MI r x y H Q
def LR(r:eE):R2:=MI r
inductive Ki(r:yl)(x:V)(H:Hp)(Q:VK):Prop
 |mk (α:List (Option Addr)) (d:D) (st:af) (K:DK) (G F:Hp) (P:bW G F H) (rx:Rep α G d x) (S:aO α st G) (h:r d st K) (k:LK α G F K Q):Ki r x H Q
def FW(r:yl):V->Hp->VK->Prop:=Ki r
inductive IC(r:gM)(xs:List V)(H:Hp)(Q:VK):Prop
 |mk (α:List (Option Addr)) (ds:List D) (st:af) (K:DK) (G F:Hp) (P:bW G F H) (rx:aG α G ds xs) (S:aO α st G) (h:r ds st K) (k:LK α G F K Q):IC r xs H Q
def jo(r:gM):List V->Hp->VK->Prop:=IC r
def aE(r:eE)(ta tb:DE):DE:=fun σ st K=>ta σ st fun x st1=>tb σ st1 fun y st2=>r x y st2 K
def oa(r:yl)(ta:DE):DE:=fun σ st K=>ta σ st fun x st1=>r x st1 K
theorem LE.op{r:eE}{σ:L2.St}{H:Hp}{Q:VK}(h:LE (aE r ta tb) σ H Q):C_ (LR r) (LE ta) (LE tb) σ H Q:=by
 obtain⟨α,σd,st,K,G,F,P,R,S,t,k⟩:=h;refine⟨α,σd,st,_,G,F,P,R,S,t,fun d st1 q α1 G1 H1 v s1 P1 S1 r1=>?_⟩;refine⟨α1,σd,st1,_,G1,F,P1,R.step s1,S1,q,fun d2 st2 q2 α2 G2 H2 v2 s2 P2 S2 r2=>?_⟩;exact⟨α2,d,d2,st2,K,G2,F,P2,r1.step s2,r2,S2,q2,(k.at s1).at s2⟩
theorem LE.un{r:yl}{σ:L2.St}{H:Hp}{Q:VK}(h:LE (oa r ta) σ H Q):MS (FW r) (LE ta) σ H Q:=by
 obtain⟨α,σd,st,K,G,F,P,R,S,t,k⟩:=h;refine⟨α,σd,st,_,G,F,P,R,S,t,fun d st1 q α1 G1 H1 v s1 P1 S1 r1=>?_⟩;exact⟨α1,d,st1,K,G1,F,P1,r1,S1,q,k.at s1⟩
theorem M_{op:Operator}{r:eE}(ho:cF X (binaryOp op) (LR r))(ha:PE X a (LE ta))(hb:PE X b (LE tb)):PE X (.BinOp a op b pos) (LE (aE r ta tb)):=PE.imp (KU ho ha hb) fun _ _ _ h=>LE.op h
theorem NI{op:UnaryOp}{r:yl}(ho:zW X (unaryOp op) (FW r))(ha:PE X a (LE ta)):PE X (.UnaryOp op a pos) (LE (oa r ta)):=PE.imp (LH ho ha) fun _ _ _ h=>LE.un h
theorem LQ{op:CmpOp}{r:eE}(ho:cF X (compareOp op) (LR r))(ha:PE X a (LE ta))(hb:PE X b (LE tb))(hm:behindInMarks op b=false:=by first|exact dX _|rfl):PE X (.Compare a [op] [b] pos) (LE (aE r ta tb)):=PE.imp (GH ho ha hb hm) fun _ _ _ h=>LE.op h
def ef(t:DE):DT:=fun σ st K=>t σ st fun d st1=>match d with| .bl b=>K b st1|_=>False
theorem LT.test{σ:L2.St}{H:Hp}{Q:Bool->Hp->Prop}(h:LT (ef te) σ H Q):LE te σ H fun x H'=>∃k,x= .bl k/\Q k H':=by
 obtain⟨α,σd,st,K,G,F,P,R,S,t,k⟩:=h;refine⟨α,σd,st,_,G,F,P,R,S,t,fun d st1 q α1 G1 H1 v s1 P1 S1 r1=>?_⟩;cases d with
 |bl b=>
  unfold Rep at r1;exact⟨b,r1,k b st1 q α1 G1 H1 s1 P1 S1⟩
 |_=>exact q.elim
theorem JD{op:CmpOp}{r:eE}(ho:cF X (compareOp op) (LR r))(ha:PE X a (LE ta))(hb:PE X b (LE tb))(hm:behindInMarks op b=false:=by first|exact dX _|rfl):PT X (.Compare a [op] [b] pos) (LT (ef (aE r ta tb))):=PT.imp (HX ho ha hb hm) fun σ H Q h=>by
 have q:=LT.test h;exact LE.op (Q:=fun x H'=>∃k,x= .bl k/\Q k H') q
theorem Kw(he:PE X e (LE te))(hv:∀whole,isTrue e X.env whole=(do let v <-whole;standAt e.pos;holding [v] (truthy v)):=by intro _;rfl):PT X e (LT (ef te)):=PT.imp (IF he hv) fun σ H Q h=>LT.test h
def uP(t:DT):DT:=fun σ st K=>t σ st fun b st1=>K (!b) st1
theorem IS{t:DT}(ha:PT X a (LT t)):PT X (.UnaryOp .Not a pos) (LT (uP t)):=PT.imp (J4 ha) fun σ H Q ⟨α,σd,st,K,G,F,P,R,S,t,k⟩=>
 ⟨α,σd,st,_,G,F,P,R,S,t,fun b st1 q α1 G1 H1 s1 P1 S1=>k _ st1 q α1 G1 H1 s1 P1 S1⟩
def Bm(ta tb:DE):DE:=fun σ st K=>ta σ st fun d st1=>match d with| .bl b=>if b=true then K (.bl true) st1 else tb σ st1 K|_=>False
theorem Lf{op:BoolOp}(ha:PE X a (LE ta)):PE X (.BoolOp op [a] pos) (LE ta):=Kh ha
theorem Nf(ha:PE X a (LE ta))(hb:PE X (.BoolOp .Or (b::es) pos) (LE tb)):PE X (.BoolOp .Or (a::b::es) pos) (LE (Bm ta tb)):=PE.imp (Lw ha hb) fun σ H Q ⟨α,σd,st,K,G,F,P,R,S,t,k⟩=>by
 refine⟨α,σd,st,_,G,F,P,R,S,t,fun d st1 q α1 G1 H1 v s1 P1 S1 r1=>?_⟩;cases d with
 |bl b=>
  unfold Rep at r1;refine⟨b,r1,?_⟩;cases b with
  |false=>exact⟨α1,σd,st1,K,G1,F,P1,R.step s1,S1,q,k.at s1⟩
  |true=>exact k _ st1 q α1 G1 H1 _ s1 P1 S1 (by unfold Rep;rfl)
 |_=>exact q.elim
def FJ(t:DT)(ta tb:DE):DE:=fun σ st K=>t σ st fun b st1=>if b=true then ta σ st1 K else tb σ st1 K
theorem Lq{t:DT}(hc:PT X c (LT t))(ha:PE X a (LE ta))(hb:PE X b (LE tb)):PE X (.IfExp c a b pos) (LE (FJ t ta tb)):=PE.imp (D4 hc ha hb) fun σ H Q ⟨α,σd,st,K,G,F,P,R,S,t,k⟩=>by
 refine⟨α,σd,st,_,G,F,P,R,S,t,fun b st1 q α1 G1 H1 s1 P1 S1=>?_⟩;cases b with
 |true=>exact⟨α1,σd,st1,K,G1,F,P1,R.step s1,S1,q,k.at s1⟩
 |false=>exact⟨α1,σd,st1,K,G1,F,P1,R.step s1,S1,q,k.at s1⟩
def ak:DA:=fun _ st K=>K [] st
def ae(ta:DE)(tr:DA):DA:=fun σ st K=>ta σ st fun x st1=>tr σ st1 fun xs st2=>K (x::xs) st2
theorem yP:PA X [] (LA ak):=PA.imp HY fun σ H Q ⟨α,σd,st,K,G,F,P,R,S,t,k⟩=>k [] st t α G H [] Step.refl P S (by unfold aG;rfl)
theorem vg{tr:DA}(ha:PE X e (LE te))(hr:PA X es (LA tr))(hs:starEach (e::es) X.env=(false,eval e X.env)::starEach es X.env:=by rfl):PA X (e::es) (LA (ae te tr)):=PA.imp (Hj ha hr hs) fun σ H Q ⟨α,σd,st,K,G,F,P,R,S,t,k⟩=>by
 refine⟨α,σd,st,_,G,F,P,R,S,t,fun d st1 q α1 G1 H1 v s1 P1 S1 r1=>?_⟩;refine⟨α1,σd,st1,_,G1,F,P1,R.step s1,S1,q,fun ds st2 q2 α2 G2 H2 vs s2 P2 S2 r2=>?_⟩;exact k _ st2 q2 α2 G2 H2 (v::vs) (s1.trans s2) P2 S2 (by unfold aG;exact⟨v,vs,rfl,r1.step s2,r2⟩)
def qd(t:DA):DE:=fun σ st K=>t σ st fun ds st1=>ds.length<=sizeLine/\K (.tup ds) st1
def vL(t:DA):DE:=fun σ st K=>t σ st fun ds st1=>ds.length<=sizeLine/\K (.lst ds) st1
def vU(t:DA):DE:=fun σ st K=>t σ st fun ds st1=>ds.length<=sizeLine/\K (.ref st1.length) (st1++[.lst ds])
theorem LK.tup{α:List (Option Addr)}{G F H:Hp}{K:DK}{Q:VK}{ds:List D}{vs:List V}{st:af}{p:Addr}(k:LK α G F K Q)(P:bW G F H)(q:K (.tup ds) st)(S:aO α st G)(r:aG α G ds vs)(hp:H p=none):Q (.ref p) (upd H p (.tup vs)):=
 have hg:=(P.none hp).1
 k _ st q α _ _ _ (Step.laid hg) (P.laid hp) (S.laid hg) (by unfold Rep;exact⟨p,vs,rfl,S.kI hg,aV,r.step (Step.laid hg)⟩)
theorem LK.lst{α:List (Option Addr)}{G F H:Hp}{K:DK}{Q:VK}{ds:List D}{vs:List V}{st:af}{p:Addr}(k:LK α G F K Q)(P:bW G F H)(q:K (.lst ds) st)(S:aO α st G)(r:aG α G ds vs)(hp:H p=none):Q (.ref p) (upd H p (.lst vs)):=
 have hg:=(P.none hp).1
 k _ st q α _ _ _ (Step.laid hg) (P.laid hp) (S.laid hg) (by unfold Rep;exact⟨p,vs,rfl,S.kI hg,.of aV,r.step (Step.laid hg)⟩)
theorem LK.new{α:List (Option Addr)}{G F H:Hp}{K:DK}{Q:VK}{ds:List D}{vs:List V}{st:af}{p:Addr}(k:LK α G F K Q)(P:bW G F H)(q:K (.ref st.length) (st++[.lst ds]))(S:aO α st G)(r:aG α G ds vs)(hp:H p=none):Q (.ref p) (upd H p (.lst vs)):=
 have hg:=(P.none hp).1
 k _ _ q (α++[some p]) _ _ _ (Step.cell hg) (P.laid hp) (S.cell hg ⟨vs,aV,r.step (Step.cell hg)⟩) (by
  unfold Rep;refine .inr ⟨p,?_,rfl⟩;rw[List.getElem?_append_right (by rw[S.len];exact Nat.le_refl _),S.len,Nat.sub_self];rfl)
theorem LP{n:Nat}{t:DA}(h:PA X es (LA t)):PE X (.Tuple es n pos) (LE (qd t)):=PE.imp (JM h) fun σ H Q ⟨α,σd,st,K,G,F,P,R,S,t,k⟩=>
 ⟨α,σd,st,_,G,F,P,R,S,t,fun ds st1 q α1 G1 H1 vs s1 P1 S1 r1=>⟨by rw[<-r1.length];exact q.1,fun p hp=>(k.at s1).tup P1 q.2 S1 r1 hp⟩⟩
theorem L7{t:DA}(h:PA X es (LA t)):PE X (.List es pos) (LE (vL t)):=PE.imp (CH h) fun σ H Q ⟨α,σd,st,K,G,F,P,R,S,t,k⟩=>
 ⟨α,σd,st,_,G,F,P,R,S,t,fun ds st1 q α1 G1 H1 vs s1 P1 S1 r1=>⟨by rw[<-r1.length];exact q.1,fun p hp=>(k.at s1).lst P1 q.2 S1 r1 hp⟩⟩
theorem Md{t:DA}(h:PA X es (LA t)):PE X (.List es pos) (LE (vU t)):=PE.imp (CH h) fun σ H Q ⟨α,σd,st,K,G,F,P,R,S,t,k⟩=>
 ⟨α,σd,st,_,G,F,P,R,S,t,fun ds st1 q α1 G1 H1 vs s1 P1 S1 r1=>⟨by rw[<-r1.length];exact q.1,fun p hp=>(k.at s1).new P1 q.2 S1 r1 hp⟩⟩
abbrev cV:=List D->af->DK->Prop
inductive JR(T:cV)(vs:List V)(H:Hp)(Q:VK):Prop
 |mk (α:List (Option Addr)) (ds:List D) (st:af) (K:DK) (G F:Hp) (P:bW G F H) (rx:aG α G ds vs) (S:aO α st G) (h:T ds st K) (k:LK α G F K Q):JR T vs H Q
def c8(S:cV):Sp:=fun vs H Q _=>JR S vs H Q
def aL(S:cV)(t:DA):DE:=fun σ st K=>t σ st fun ds st1=>S ds st1 K
theorem LE.call{S:cV}{t:DA}{σ:L2.St}{H:Hp}{Q:VK}(h:LE (aL S t) σ H Q):Ga (c8 S) [] E0 (LA t) σ H Q:=by
 obtain⟨α,σd,st,K,G,F,P,R,S,t,k⟩:=h;refine⟨α,σd,st,_,G,F,P,R,S,t,fun ds st1 q α1 G1 H1 vs s1 P1 S1 r1=>?_⟩;try dsimp only
 rw[List.append_nil];exact⟨α1,ds,st1,K,G1,F,P1,r1,S1,q,k.at s1⟩
theorem Im{S:cV}{k:Nat}{f:Addr}{fd:FuncData}{ps:List Str}{x:Str}{p:Pos}{t:DA}(F:bH X.prog X.w X.K X.mg X.base cW k f fd ps (c8 S))(hr:cR k X.A)(hg:Gl X x)(hm:X.mg x=some (.ref f))(hk:PySem.W.keepIn X.K (.ref f)=true)(hb:Binds X.K fd ps [])
 (ha:PA X (e::es) (LA t)) (hdb:(x==("__debug__":Str))=false:=by decide) (he:starEach (e::es) X.env=(false,eval e X.env)::starEach es X.env:=by rfl) (hpl:(backTo pos (starEach es X.env)).any (·.1)=false:=by rfl):
 PE X (.Call (.Name x p) (e::es) [] pos) (LE (aL S t)):=PE.imp (G_ F hr hg hm hk hb .nil xv ha hdb he hpl) fun _ _ _ h=>LE.call h
def cy(r:gM)(t:DA):DE:=fun σ st K=>t σ st fun ds st1=>r ds st1 K
theorem LE.cb{r:gM}{t:DA}{σ:L2.St}{H:Hp}{Q:VK}(h:LE (cy r t) σ H Q):Kg (jo r) (LA t) σ H Q:=by
 obtain⟨α,σd,st,K,G,F,P,R,S,t,k⟩:=h;refine⟨α,σd,st,_,G,F,P,R,S,t,fun ds st1 q α1 G1 H1 vs s1 P1 S1 r1=>?_⟩;exact⟨α1,ds,st1,K,G1,F,P1,r1,S1,q,k.at s1⟩
end
section
variable {X:Cx}
theorem cF.imp{f:Value->Value->Sem Value}{r r':R2}(h:cF X f r)(k:∀x y H Q,r' x y H Q->r x y H Q):cF X f r':=fun pins s σ H x y v u Q I rx ry q=>h pins s σ H x y v u Q I rx ry (k x y H Q q)
theorem cm.imp{f:Value}{r r':List V->Hp->VK->Prop}(h:cm X f r)(k:∀xs H Q,r' xs H Q->r xs H Q):cm X f r':=fun pins s σ H xs us Q I rs q=>h pins s σ H xs us Q I rs (k xs H Q q)
def uA(C:Int->Int->Prop)(g:Int->Int->D):eE:=fun x y st K=>match x,y with| .int i,.int j=>C i j/\K (g i j) st|_,_=>False
theorem mw{f:Value->Value->Sem Value}{C:Int->Int->Prop}{g:Int->Int->D}{g':Int->Int->V}(hg:∀i j α H,Rep α H (g i j) (g' i j))(h:cF X f (rI C g')):cF X f (LR (uA C g)):=cF.imp h fun x y H Q ⟨α,d,e,st,K,G,F',P,r1,r2,S,q,k⟩=>by
 cases d<;>cases e<;>first
  |exact q.elim
  |(unfold Rep at r1 r2;exact⟨_,_,r1,r2,q.1,k.here P q.2 S (hg _ _ _ _)⟩)
abbrev T2:Int->Int->Prop:=fun _ _=>True
theorem xa{g:Int->Int->V}{f:Value->Value->Sem Value}(h:cF X f (wF g)):cF X f (rI T2 g):=cF.imp h fun x y H Q ⟨i,j,e1,e2,_,q⟩=>⟨i,j,e1,e2,q⟩
abbrev Fm:eE:=uA T2 fun i j=> .int (i-j)
abbrev DJ:eE:=uA (fun _ j=>j≠0/\j.natAbs.log2<9000) fun i j=> .int (i.fdiv j)
abbrev FF:eE:=uA (fun _ j=>j≠0) fun i j=> .int (i.fmod j)
abbrev FR:eE:=uA E8 fun i j=> .int (i^j.toNat)
abbrev IY:eE:=uA T2 fun i j=> .bl (decide (i<j))
abbrev JK:eE:=uA T2 fun i j=> .bl (decide (j<i))
abbrev Ji:eE:=uA T2 fun i j=> .bl (decide (j<=i))
theorem Lk:cF X (binaryOp .Sub) (LR Fm):=mw (fun _ _ _ _=>by unfold Rep;rfl) (xa Jd)
theorem Kn:cF X (binaryOp .FloorDiv) (LR DJ):=mw (fun _ _ _ _=>by unfold Rep;rfl) (FE fun i j _ _ _ _ _ hc q=>floordiv_int hc.1 q (.inl (PyProof.noPylong_of_log2 hc.2)))
theorem Lj:cF X (binaryOp .Mod) (LR FF):=mw (fun _ _ _ _=>by unfold Rep;rfl) GX
theorem KJ:cF X (binaryOp .Pow) (LR FR):=mw (fun _ _ _ _=>by unfold Rep;rfl) Ko
theorem Nz:cF X (compareOp .Lt) (LR IY):=mw (fun _ _ _ _=>by unfold Rep;rfl) (xa Ld)
theorem Nl:cF X (compareOp .Gt) (LR JK):=mw (fun _ _ _ _=>by unfold Rep;rfl) (xa Lc)
theorem Nb:cF X (compareOp .GtE) (LR Ji):=mw (fun _ _ _ _=>by unfold Rep;rfl) (xa KZ)
def FK:yl:=fun x st K=>match x with| .int i=>K (.int (-i)) st|_=>False
theorem Mw:zW X (unaryOp .USub) (FW FK):=fun pins s σ H x v Q I rx ⟨α,d,st,K,G,F',P,r,S,q,k⟩=>by
 cases d<;>first
  |exact q.elim
  |(unfold Rep at r;exact IE pins s σ H x v Q I rx ⟨_,r,k.here P q S (by unfold Rep;rfl)⟩)
theorem Inv.yt{pins:List (Addr×Obj)}{σ:L2.St}{H:Hp}{s:Shared}{l:Addr}{xs:List V}(I:Inv X pins σ H s)(h:Rd H l (.lst xs)):
 xs.length<=sizeLine/\∃(its:List Value) (n:Nat),Vals xs its/\xs.length=its.length/\s.heap.get? l=some {cls:= .type "list",data:= .seq its.toArray n}:=by
 obtain⟨z,its,n,r,e⟩:=h.ok I.aI;exact⟨z,its,n,r,r.length,e⟩
theorem i9{G F H:Hp}(P:bW G F H){a:Addr}{u:HO}(h:Rd G a u):Rd H a u:=by
 rcases h with h|⟨o,h⟩
 . exact .inl (P.get h)
 . exact .inr ⟨o,P.get h⟩
theorem Gx:cF X (binaryOp .Add) (fun x y H Q=>∃l b xs zs,x= .ref l/\y= .ref b/\Rd H l (.lst xs)/\Rd H b (.lst zs)/\xs.length+zs.length<=sizeLine/\∀p,H p=none->Q (.ref p) (upd H p (.lst (xs++zs)))):=by
 intro pins s σ H x y v u Q I rx ry h;obtain⟨l,b,xs,zs,rfl,rfl,hH,hB,hz,q⟩:=h;cases rx;cases ry;obtain⟨z,its,n,r,hl,e⟩:=Inv.yt I hH;obtain⟨z2,its2,n2,r2,hl2,e2⟩:=Inv.yt I hB;refine PySem.P.add_list e e2 ?_ (by rw[List.size_toArray,List.size_toArray];omega);have ea:its.toArray++its2.toArray=(its++its2).toArray:=by simp
 rw[ea];exact⟨.ref _,_,I.EI (t':=s.toks) (r.append r2) (by rw[List.length_append];omega),rfl,q _ I.fresh⟩
theorem HN:cF X (binaryOp .Mult) (fun x y H Q=>∃l k xs,x= .ref l/\y= .int k/\Rd H l (.lst xs)/\ -(2^63)<=k/\k<2^63/\xs.length*k.toNat<=sizeLine/\
 ∀p,H p=none->Q (.ref p) (upd H p (.lst (List.replicate k.toNat xs).flatten))):=by
 intro pins s σ H x y v u Q I rx ry h;obtain⟨l,k,xs,rfl,rfl,hH,h1,h2,hz,q⟩:=h;cases rx;obtain⟨t,rfl⟩:=ry;obtain⟨z,its,n,r,hl,e⟩:=Inv.yt I hH;have hlen:its.toArray.size*k.toNat<=sizeLine:=by rw[List.size_toArray,<-hl];exact hz
 have hcap:¬its.toArray.size*k.toNat>(2^63-1)/8:=by
  have:(sizeLine:Nat)<=(2^63-1)/8:=by decide
  omega
 have hfit:¬(!Builtin.List.listFitsIndex k)=true:=by
  rw[fitsIndex_both h1 h2];exact Bool.false_ne_true
 have hlong:¬Builtin.List.listTooLong (its.toArray.size*k.toNat)=true:=by
  rw[DZ hlen];exact Bool.false_ne_true
 have hnew:List.foldl (fun x1 x2=>x1++x2) #[] (List.replicate (if its.toArray.isEmpty=true then 0 else k.toNat) its.toArray)=(List.replicate k.toNat its).flatten.toArray:=by
  have f0:∀m:Nat,List.foldl (fun x1 x2=>x1++x2) #[] (List.replicate m its.toArray)=(List.replicate m its).flatten.toArray:=fun m=>by
   have:=foldl_rep its m [];rw[List.nil_append]at this;exact this
  rw[f0];cases its with
  |nil=>simp
  |cons a r'=>rw[if_neg (by simp)]
 refine wpAny_binaryOp_repeat_ref (T:="list") (U:="int") (by decide) ⟨_,e,rfl⟩ (fun s'=>typeIs_int s' k t) noFill_list_mul F.fills_int_mul F.slot_int_rmul repeat_list F.slot_int_index.lookup
  (call_meets F.slot_int_rmul (typeIs_int s k t) F.entry_int_rmul (F.args_int_rmul_2 _ _) (int___rmul___int_list k t l its.toArray n)
    ⟨e,rfl,⟨_,e,rfl⟩,call_meets F.slot_list_mul ⟨_,e,rfl⟩ F.entry_list_mul (F.args_list_mul_2 _ _) (AutoListH.list___mul___list_int_3 l its.toArray n k t hfit hcap hlong) ⟨e,?_⟩⟩)
 rw[hnew];exact⟨.ref _,_,I.EI (t':=s.toks) (r.rep k.toNat) (by rw[len_rep,Nat.mul_comm];exact hz),rfl,q _ I.fresh⟩
theorem Ef:cF X (binaryOp .Add) (fun x y H Q=>∃a b xs ys,x= .ref a/\y= .ref b/\H a=some (.tup xs)/\H b=some (.tup ys)/\xs.length+ys.length<=sizeLine/\
 (xs=[]->Q (.ref b) H)/\(xs≠ []->ys=[]->Q (.ref a) H)/\(xs≠ []->ys≠ []->∀p,H p=none->Q (.ref p) (upd H p (.tup (xs++ys))))):=by
 intro pins s σ H x y v u Q I rx ry h;obtain⟨a,b,xs,ys,rfl,rfl,ha,hb,hz,q0,q1,q2⟩:=h;by_cases hx:xs=[]
 . cases rx;cases ry;obtain⟨its,r1,p1,_⟩:=I.tuple (.of ha);obtain⟨its2,r2,p2,_⟩:=I.tuple (.of hb);obtain⟨⟨cls,dd,data,sl⟩,ho,hc,n,hd⟩:=id p1;obtain⟨⟨cls2,dd2,data2,sl2⟩,ho2,hc2,n2,hd2⟩:=id p2;simp only at hc hd hc2 hd2;subst hc hd hc2 hd2;have hi:its=[]:=(L2.Vals.sG r1).mpr hx
   exact concat_meets ⟨_,ho,rfl⟩ ⟨_,ho2,rfl⟩ noFill_tuple_add seq_tuple_add PySem.F.slot_tuple_add PySem.F.entry_tuple_add (PySem.F.args_tuple_add_2 _ _)
    (tuple_addW0 a b its.toArray its2.toArray n n2 dd dd2 sl sl2 (by simp[hi])) ⟨ho,ho2,⟨.ref b,H,I,rfl,q0 hx⟩⟩
 . exact Hh pins s σ H _ _ v u Q I rx ry ⟨a,b,xs,ys,rfl,rfl,.of ha,.of hb,hx,hz,q1 hx,q2 hx⟩
theorem vA:fillsNumberSlot (.type "tuple") "mul"=pure false:=
 PySem.fillsNumberSlot_seq (id:="tuple.__mul__") (r:=some (.builtin "tuple.__rmul__")) F.slot_tuple_mul.lookup (by decide+kernel) F.slot_tuple_rmul.lookup (by decide+kernel)
theorem Aw:seqRepeat? (.type "tuple")=pure (some (.builtin "tuple.__mul__")):=by
 unfold seqRepeat?;rw[PySem.seqSlot_of (T:="tuple") (name:="__mul__") (id:="tuple.__mul__") F.slot_tuple_mul.lookup (by decide+kernel),PySem.seqSlot_of (T:="tuple") (name:="__rmul__") (id:="tuple.__rmul__") F.slot_tuple_rmul.lookup (by decide+kernel)];rfl
theorem x8(a:Int)(t:Tok)(l:Addr)(its:Array Value)(n:Nat)(dd:Option Addr)(sl:Array (Option Value)):Meets (Builtin.«int.__rmul__» ⟨[.int a t,.ref l],[]⟩) (fun _ R s=>s.heap.get? l=some {cls:= .type "tuple",dict:=dd,data:= .seq its n,slots:=sl}/\R (.ok (.ret Value.notImplemented)) s):=
 .of_wp fun P w A R s h=>by
  obtain⟨hp,g,d,tk,os⟩:=s;obtain⟨hl,h⟩:=h
  wp_walk
  exact⟨_,rfl,h⟩
theorem yd(l:Addr)(its:Array Value)(n:Nat)(dd:Option Addr)(sl:Array (Option Value))(x:Int)(u:Tok)(h0:(decide (x< -(2^63))||decide (x>=2^63))=false)(h1:(its.isEmpty||x==1)=true):
 Meets (Builtin.«tuple.__mul__» ⟨[.ref l,.int x u],[]⟩) (fun _ R s=>s.heap.get? l=some {cls:= .type "tuple",dict:=dd,data:= .seq its n,slots:=sl}/\R (.ok (.ret (.ref l))) s):=
 .of_wp fun P w A R s h=>by
  obtain⟨hp,g,d,tk,os⟩:=s;obtain⟨hl,h⟩:=h
  wp_walk
  refine wpAny_ite_false (by rw[h0];rfl) ?_
  wp_walk
  exact⟨_,rfl,h⟩
theorem yj(l:Addr)(its:Array Value)(n:Nat)(dd:Option Addr)(sl:Array (Option Value))(x:Int)(u:Tok)(h0:(decide (x< -(2^63))||decide (x>=2^63))=false)(h1:(its.isEmpty||x==1)=false)(h2:(decide (x<=0)||its.isEmpty)=true):
 Meets (Builtin.«tuple.__mul__» ⟨[.ref l,.int x u],[]⟩) (fun _ R s=>s.heap.get? l=some {cls:= .type "tuple",dict:=dd,data:= .seq its n,slots:=sl}/\R (.ok (.ret (.ref s.heap.objs.size))) {s with heap:=s.heap.push {cls:= .type "tuple",data:= .seq #[]}}):=
 .of_wp fun P w A R s h=>by
  obtain⟨hp,g,d,tk,os⟩:=s;obtain⟨hl,h⟩:=h
  wp_walk
  refine wpAny_ite_false (by rw[h0];rfl) ?_
  wp_walk
  exact⟨_,rfl,h⟩
theorem yZ(l:Addr)(its:Array Value)(n:Nat)(dd:Option Addr)(sl:Array (Option Value))(x:Int)(u:Tok)(h0:(decide (x< -(2^63))||decide (x>=2^63))=false)(h1:(its.isEmpty||x==1)=false)(h2:(decide (x<=0)||its.isEmpty)=false)(h3:¬((its.size:Int)*x>(2^63-1)/8))(h4:Builtin.Tuple.tupleTooMany (its.size*x)=false)
 (hz:(List.foldl (fun x1 x2=>x1++x2) #[] (List.replicate x.toNat its)).size<=sizeLine):
 Meets (Builtin.«tuple.__mul__» ⟨[.ref l,.int x u],[]⟩) (fun _ R s=>s.heap.get? l=some {cls:= .type "tuple",dict:=dd,data:= .seq its n,slots:=sl}/\R (.ok (.ret (.ref s.heap.objs.size))) {s with heap:=s.heap.push {cls:= .type "tuple",data:= .seq (List.foldl (fun x1 x2=>x1++x2) #[] (List.replicate x.toNat its))}}):=
 .of_wp fun P w A R s h=>by
  obtain⟨hp,g,d,tk,os⟩:=s;obtain⟨hl,h⟩:=h
  wp_walk
  refine wpAny_ite_false (by rw[h0];rfl) ?_
  wp_walk
  refine wpAny_ite_false (decide_eq_false h3) ?_
  wp_walk
  exact⟨_,rfl,h⟩
theorem GK:cF X (binaryOp .Mult) (fun x y H Q=>∃l k xs,x= .ref l/\y= .int k/\H l=some (.tup xs)/\ -(2^63)<=k/\k<2^63/\xs.length*k.toNat<=sizeLine/\
 ((xs=[]\/k=1)->Q (.ref l) H)/\(¬(xs=[]\/k=1)->∀p,H p=none->Q (.ref p) (upd H p (.tup (List.replicate k.toNat xs).flatten)))):=by
 intro pins s σ H x y v u Q I rx ry h;obtain⟨l,k,xs,rfl,rfl,hH,h1,h2,hz,q1,q2⟩:=h;cases rx;obtain⟨t,rfl⟩:=ry;obtain⟨its,r,p1,_⟩:=I.tuple (.of hH);obtain⟨⟨cls,dd,data,sl⟩,ho,hc,n,hd⟩:=id p1;simp only at hc hd;subst hc hd;have hl:xs.length=its.length:=r.length
 have f0:(decide (k< -(2^63))||decide (k>=2^63))=false:=by
  rw[decide_eq_false (by omega),decide_eq_false (by omega)];rfl
 refine wpAny_binaryOp_repeat_ref (T:="tuple") (U:="int") (by decide) ⟨_,ho,rfl⟩ (fun s'=>typeIs_int s' k t) vA F.fills_int_mul F.slot_int_rmul Aw F.slot_int_index.lookup
  (call_meets F.slot_int_rmul (typeIs_int s k t) F.entry_int_rmul (F.args_int_rmul_2 _ _) (x8 k t l its.toArray n dd sl) ⟨ho,rfl,⟨_,ho,rfl⟩,?_⟩)
 by_cases hs:xs=[]\/k=1
 . have f1:(its.toArray.isEmpty||k==1)=true:=by
    rcases hs with z|z
    . have:its=[]:=List.length_eq_zero_iff.mp (by rw[<-hl,z];rfl);rw[this];rfl
    . rw[z];simp
   exact call_meets F.slot_tuple_mul ⟨_,ho,rfl⟩ F.entry_tuple_mul (F.args_tuple_mul_2 _ _) (yd l its.toArray n dd sl k t f0 f1) ⟨ho,⟨.ref l,H,I,rfl,q1 hs⟩⟩
 . have hne:its≠ []:=fun z=>hs (.inl (List.length_eq_zero_iff.mp (by rw[hl,z];rfl)));have hk1:k≠1:=fun z=>hs (.inr z);have e1:its.toArray.isEmpty=false:=by simpa using hne
   have f1:(its.toArray.isEmpty||k==1)=false:=by rw[e1];simpa using hk1
   have new:∀(us:List Value) (ys:List V),Vals ys us->ys.length<=sizeLine->Inv X pins σ (upd H s.heap.objs.size (.tup ys)) {s with heap:=s.heap.push {cls:= .type "tuple",data:= .seq us.toArray}}:=fun us ys hv hy=>
    I.laid (t':=s.toks) (fun _ _ q=>Heap.get?_push_of_some _ q) (Nat.le_refl _) ⟨hy,us,hv,⟨_,Heap.get?_push_size _ rfl,rfl,_,rfl⟩⟩
   by_cases h0:k<=0
   . have f2:(decide (k<=0)||its.toArray.isEmpty)=true:=by rw[decide_eq_true h0];rfl
     refine call_meets F.slot_tuple_mul ⟨_,ho,rfl⟩ F.entry_tuple_mul (F.args_tuple_mul_2 _ _) (yj l its.toArray n dd sl k t f0 f1 f2) ⟨ho,?_⟩;have ez:k.toNat=0:=by omega
     rw[ez]at q2;exact⟨.ref _,_,new [] [] .nil (Nat.zero_le _),rfl,q2 hs _ I.fresh⟩
   . have f2:(decide (k<=0)||its.toArray.isEmpty)=false:=by rw[decide_eq_false h0,e1];rfl
     have hk:(k.toNat:Int)=k:=by omega
     have hlen:its.toArray.size*k.toNat<=sizeLine:=by rw[List.size_toArray,<-hl];exact hz
     have hsz:((its.toArray.size:Nat):Int)*k<=(sizeLine:Int):=by
      rw[<-hk]
      exact_mod_cast hlen
     have f3:¬(((its.toArray.size:Nat):Int)*k>(2^63-1)/8):=by
      have:((sizeLine:Nat):Int)<=(2^63-1)/8:=by decide
      omega
     have f4:Builtin.Tuple.tupleTooMany (((its.toArray.size:Nat):Int)*k)=false:=by
      unfold Builtin.Tuple.tupleTooMany;exact decide_eq_false (by omega)
     have hnew:List.foldl (fun x1 x2=>x1++x2) #[] (List.replicate k.toNat its.toArray)=(List.replicate k.toNat its).flatten.toArray:=by
      have:=foldl_rep its k.toNat [];rw[List.nil_append]at this;exact this
     have hfl:(List.replicate k.toNat its).flatten.length=its.length*k.toNat:=by rw[len_rep,Nat.mul_comm]
     refine call_meets F.slot_tuple_mul ⟨_,ho,rfl⟩ F.entry_tuple_mul (F.args_tuple_mul_2 _ _) (yZ l its.toArray n dd sl k t f0 f1 f2 f3 f4 (by rw[hnew,List.size_toArray,hfl];exact hlen)) ⟨ho,?_⟩;rw[hnew];exact⟨.ref _,_,new _ _ (r.rep k.toNat) (by rw[len_rep,Nat.mul_comm];exact hz),rfl,q2 hs _ I.fresh⟩
def Fs:eE:=fun x y st K=>match x,y with
 | .int i,.int j=>K (.int (i+j)) st
 | .tup xs,.tup ys=>xs.length+ys.length<=sizeLine/\K (.tup (xs++ys)) st
 | .lst xs,.lst ys=>xs.length+ys.length<=sizeLine/\K (.lst (xs++ys)) st
 | .str x,.str y=>x.length+y.length<=sizeLine/\K (.str (x++y)) st
 |_,_=>False
theorem Mc:cF X (binaryOp .Add) (LR Fs):=fun pins s σ H x y v u Q I rx ry ⟨α,d,e,st,K,G,F',P,r1,r2,S,q,k⟩=>by
 cases d<;>cases e<;>try exact q.elim
 . unfold Rep at r1 r2;exact IA pins s σ H x y v u Q I rx ry ⟨_,_,r1,r2,k.here P q S (by unfold Rep;rfl)⟩
 . unfold Rep at r1 r2;exact AA pins s σ H x y v u Q I rx ry ⟨_,_,r1,r2,q.1,k.here P q.2 S (by unfold Rep;rfl)⟩
 . unfold Rep at r1 r2;obtain⟨a,vs,rfl,na,ha,ra⟩:=r1;obtain⟨b,ws,rfl,nb,hb,rb⟩:=r2;refine Gx pins s σ H _ _ v u Q I rx ry ⟨a,b,vs,ws,rfl,rfl,i9 P ha,i9 P hb,by rw[<-ra.length,<-rb.length];exact q.1,fun p hp=>?_⟩;exact k.lst P q.2 S (bh.mpr (gw (bh.mp ra) (bh.mp rb))) hp
 . rename_i xs ys;unfold Rep at r1 r2;obtain⟨a,vs,rfl,na,ha,ra⟩:=r1;obtain⟨b,ws,rfl,nb,hb,rb⟩:=r2;have hl1:=ra.length;have hl2:=rb.length;refine Ef pins s σ H _ _ v u Q I rx ry ⟨a,b,vs,ws,rfl,rfl,P.get ha,P.get hb,by rw[<-hl1,<-hl2];exact q.1,fun z=>?_,fun _ z=>?_,fun _ _ p hp=>?_⟩
   . refine k.here P q.2 S ?_;unfold Rep;have:xs=[]:=by rw[z]at hl1;exact List.length_eq_zero_iff.mp hl1
     subst this;exact⟨b,ws,rfl,nb,hb,rb⟩
   . refine k.here P q.2 S ?_;unfold Rep;have:ys=[]:=by rw[z]at hl2;exact List.length_eq_zero_iff.mp hl2
     subst this;rw[List.append_nil];exact⟨a,vs,rfl,na,ha,ra⟩
   . exact k.tup P q.2 S (bh.mpr (gw (bh.mp ra) (bh.mp rb))) hp
def F_:eE:=fun x y st K=>match x,y with
 | .int i,.int j=>IntMulOk i j/\K (.int (i*j)) st
 | .lst xs,.int k=>(-(2^63)<=k/\k<2^63/\xs.length*k.toNat<=sizeLine)/\K (.lst (List.replicate k.toNat xs).flatten) st
 | .tup xs,.int k=>(-(2^63)<=k/\k<2^63/\xs.length*k.toNat<=sizeLine)/\K (.tup (List.replicate k.toNat xs).flatten) st
 |_,_=>False
theorem Mu:cF X (binaryOp .Mult) (LR F_):=fun pins s σ H x y v u Q I rx ry ⟨α,d,e,st,K,G,F',P,r1,r2,S,q,k⟩=>by
 cases d<;>cases e<;>try exact q.elim
 . unfold Rep at r1 r2;have h:cF X (binaryOp .Mult) (rI IntMulOk fun i j=> .int (i*j)):=FE fun _ _ _ _ _ _ _ hc q=>mul_int q hc;exact h pins s σ H x y v u Q I rx ry ⟨_,_,r1,r2,q.1,k.here P q.2 S (by unfold Rep;rfl)⟩
 . unfold Rep at r1 r2;obtain⟨a,vs,rfl,na,ha,ra⟩:=r1;refine HN pins s σ H _ _ v u Q I rx ry ⟨a,_,vs,rfl,r2,i9 P ha,q.1.1,q.1.2.1,by rw[<-ra.length];exact q.1.2.2,fun p hp=>?_⟩;exact k.lst P q.2 S (bh.mpr (oC (bh.mp ra) _)) hp
 . rename_i xs m;have r1':=r1;unfold Rep at r1 r2;obtain⟨a,vs,rfl,na,ha,ra⟩:=r1;refine GK pins s σ H _ _ v u Q I rx ry ⟨a,_,vs,rfl,r2,P.get ha,q.1.1,q.1.2.1,by rw[<-ra.length];exact q.1.2.2,fun hs=>?_,fun _ p hp=>k.tup P q.2 S (bh.mpr (oC (bh.mp ra) _)) hp⟩
   have e:(List.replicate m.toNat xs).flatten=xs:=by
    rcases hs with z|z
    . have:xs=[]:=List.length_eq_zero_iff.mp (by rw[ra.length,z];rfl);rw[this];simp
    . rw[z];simp
   have q2:=q.2;rw[e]at q2;exact k.here P q2 S r1'
def live(st:af):D->Bool
 | .ref n=>(match st[n]? with|some (.lst _)=>true|some (.ins _ _)=>true|_=>false)
 |_=>true
def pP:eE:=fun x y st K=>match y with
 | .int i=>(match x with
   | .lst xs=>(match eQ xs i with|some d=>K d st|none=>False)
   | .tup xs=>(match eQ xs i with|some d=>K d st|none=>False)
   | .ref n=>(match st[n]? with|some (.lst xs)=>(match eQ xs i with|some d=>K d st|none=>False)|_=>False)
   |_=>False)
 |_=>False
theorem aG.eQ{α:List (Option Addr)}{H:Hp}{ds:List D}{vs:List V}{i:Int}{d:D}(h:aG α H ds vs)(e:L2.eQ ds i=some d):∃v,L2.eQ vs i=some v/\Rep α H d v:=by
 unfold L2.eQ at e⊢;rw[<-h.length];cases q:nU ds.length i with
 |none=>rw[q]at e;cases e
 |some j=>rw[q]at e;exact h.get e
theorem Np:Fy X (LR pP):=fun value slice pins s σ H x y v u Q I rx ry ⟨α,d,e,st,K,G,F',P,r1,r2,S,q,k⟩ hs=>by
 cases e<;>try exact q.elim
 unfold Rep at r2;cases d<;>try exact q.elim
 . rename_i i n;unfold pP at q;simp only at q;split at q
   . split at q
     . rename_i xs e1 _ d' e2;obtain⟨a,ea,vs,hv,rv⟩:=S.jZ e1;have r1':=fH ea r1;subst r1';obtain⟨z,ez,rz⟩:=rv.eQ e2;exact Ac value slice pins s σ H _ _ v u Q I rx ry ⟨a,vs,_,z,rfl,r2,.of (P.get hv),ez,k.here P q S rz⟩ hs
     . exact q.elim
   . exact q.elim
 . unfold pP at q;simp only at q;split at q
   . rename_i xs d' e2;unfold Rep at r1;obtain⟨a,vs,rfl,na,ha,ra⟩:=r1;obtain⟨z,ez,rz⟩:=ra.eQ e2;exact Ac value slice pins s σ H _ _ v u Q I rx ry ⟨a,vs,_,z,rfl,r2,.inl (i9 P ha),ez,k.here P q S rz⟩ hs
   . exact q.elim
 . unfold pP at q;simp only at q;split at q
   . rename_i xs d' e2;unfold Rep at r1;obtain⟨a,vs,rfl,na,ha,ra⟩:=r1;obtain⟨z,ez,rz⟩:=ra.eQ e2;exact Jo value slice pins s σ H _ _ v u Q I rx ry ⟨a,vs,_,z,rfl,r2,.of (P.get ha),ez,k.here P q S rz⟩ hs
   . exact q.elim
theorem M7{a b:Expr}{ta tb:DE}{pos:Pos}(ha:PE X a (LE ta))(hb:PE X b (LE tb))(hs:r_ b:=by intro _ _;rfl):PE X (.Subscript a b pos) (LE (aE pP ta tb)):=PE.imp (K0 Np ha hb hs) fun _ _ _ h=>LE.op h
def items?(st:af):D->Option (List D)
 | .lst xs=>some xs
 | .tup xs=>some xs
 | .ref n=>(match st[n]? with|some (.lst xs)=>some xs|_=>none)
 |_=>none
@[simp] theorem MK(st:af)(xs:List D):items? st (.lst xs)=some xs:=rfl
@[simp] theorem MD(st:af)(xs:List D):items? st (.tup xs)=some xs:=rfl
@[simp] theorem items_int(st:af)(i:Int):items? st (.int i)=none:=rfl
@[simp] theorem Nk(st:af)(i:Bool):items? st (.bl i)=none:=rfl
@[simp] theorem items_str(st:af)(i:Str):items? st (.str i)=none:=rfl
@[simp] theorem MF(st:af):items? st .aM=none:=rfl
theorem aW{st:af}{n:Nat}{xs:List D}(h:st[n]?=some (.lst xs)):items? st (.ref n)=some xs:=by unfold items?;simp only[h]
theorem ox{α:List (Option Addr)}{H:Hp}{st:af}{d:D}{v:V}{xs:List D}(S:aO α st H)(r:Rep α H d v)(e:items? st d=some xs):
 ∃p vs,v= .ref p/\aG α H xs vs/\(Rd H p (.lst vs)\/H p=some (.tup vs)):=by
 cases d<;>try(cases e;done)
 . unfold items? at e;simp only at e;split at e
   . rename_i ys q;cases e;obtain⟨a,ea,vs,h1,h2⟩:=S.jZ q;have r':=fH ea r;subst r';exact⟨a,vs,rfl,h2,.inl (.of h1)⟩
   . cases e
 . cases e;unfold Rep at r;obtain⟨a,vs,rfl,_,h1,h2⟩:=r;exact⟨a,vs,rfl,h2,.inl h1⟩
 . cases e;unfold Rep at r;obtain⟨a,vs,rfl,_,h1,h2⟩:=r;exact⟨a,vs,rfl,h2,.inr h1⟩
theorem Bs{K:PySem.W.Frag}{G F H:Hp}(P:bW G F H){p:Addr}{vs:List V}(h:Rd G p (.lst vs)\/G p=some (.tup vs)):mB K H p vs\/ik K H p vs:=h.elim (fun z=> .inl (.inl (i9 P z))) fun z=> .inr (.of (P.get z))
theorem iu{α:List (Option Addr)}{H:Hp}{ds:List D}{xs:List V}{d:D}(r:aG α H ds xs)(e:ds=[d]):∃v,xs=[v]/\Rep α H d v:=by
 subst e;unfold aG at r;obtain⟨v,q,rfl,h1,h2⟩:=r;unfold aG at h2;subst h2;exact⟨v,rfl,h1⟩
theorem sv{α:List (Option Addr)}{H:Hp}{ds:List D}{xs:List V}{d e:D}(r:aG α H ds xs)(q:ds=[d,e]):∃v u,xs=[v,u]/\Rep α H d v/\Rep α H e u:=by
 subst q;unfold aG at r;obtain⟨v,q,rfl,h1,h2⟩:=r;obtain⟨u,rfl,h3⟩:=iu h2 rfl;exact⟨v,u,rfl,h1,h3⟩
def xC:gM:=fun ds st K=>match ds with
 | [.str x]=>x.length<=sizeLine/\K (.int x.length) st
 | [d]=>(match items? st d with|some xs=>K (.int xs.length) st|none=>False)
 |_=>False
theorem Lu:cm X (.builtin "len") (jo xC):=fun pins s σ H xs us Q I rs ⟨α,ds,st,K,G,F',P,r,S,q,k⟩=>by
 unfold xC at q;split at q
 . rename_i x;obtain⟨v,rfl,r1⟩:=iu r rfl;unfold Rep at r1;subst r1;exact y6 pins s σ H _ us Q I rs ⟨x,rfl,q.1,k.here P q.2 S (by unfold Rep;rfl)⟩
 . rename_i d _;split at q
   . rename_i ys e;obtain⟨v,rfl,r1⟩:=iu r rfl;obtain⟨p,vs,rfl,r2,h⟩:=ox S r1 e;refine yy pins s σ H _ us Q I rs ⟨p,vs,rfl,Bs P h,k.here P q S (by unfold Rep;rw[r2.length])⟩
   . exact q.elim
 . exact q.elim
def MR(g:Int->Int):gM:=fun ds st K=>match ds with| [.int i]=>K (.int (g i)) st|_=>False
abbrev AQ:gM:=MR fun i=>if i<0 then-i else i
theorem Lm:cm X (.builtin "abs") (jo AQ):=cm.imp ER fun xs H Q ⟨α,ds,st,K,G,F',P,r,S,q,k⟩=>by
 unfold AQ MR at q;split at q
 . obtain⟨v,rfl,r1⟩:=iu r rfl;unfold Rep at r1;subst r1;exact⟨_,rfl,k.here P q S (by unfold Rep;rfl)⟩
 . exact q.elim
def JP(g:Int->Int->Int):gM:=fun ds st K=>match ds with| [.int i,.int j]=>K (.int (g i j)) st|_=>False
abbrev Bg:gM:=JP fun i j=>if j<i then j else i
theorem Lp(hc:X.calm=true):cm X (.builtin "min") (jo Bg):=cm.imp (Dr hc) fun xs H Q ⟨α,ds,st,K,G,F',P,r,S,q,k⟩=>by
 unfold Bg JP at q;split at q
 . obtain⟨v,u,rfl,r1,r2⟩:=sv r rfl;unfold Rep at r1 r2;subst r1 r2;exact⟨_,_,rfl,k.here P q S (by unfold Rep;rfl)⟩
 . exact q.elim
def AM:gM:=fun ds st K=>match ds with| [.int i]=>K (.int i) st| [.bl b]=>K (.int (if b then 1 else 0)) st|_=>False
theorem Lr:cm X (.type "int") (jo AM):=cm.imp C9 fun xs H Q ⟨α,ds,st,K,G,F',P,r,S,q,k⟩=>by
 unfold AM at q;split at q
 . obtain⟨v,rfl,r1⟩:=iu r rfl;unfold Rep at r1;subst r1;exact .inl ⟨_,rfl,k.here P q S (by unfold Rep;rfl)⟩
 . obtain⟨v,rfl,r1⟩:=iu r rfl;unfold Rep at r1;subst r1;exact .inr ⟨_,rfl,k.here P q S (by unfold Rep;rfl)⟩
 . exact q.elim
def se:gM:=fun ds st K=>match ds with| [d]=>(match items? st d with|some xs=>K (.tup xs) st|none=>False)|_=>False
theorem Hg:cm X (.type "tuple") (jo se):=cm.imp wW fun xs H Q ⟨α,ds,st,K,G,F',P,r,S,q,k⟩=>by
 unfold se at q;split at q
 . rename_i d;split at q
   . rename_i ys e;obtain⟨v,rfl,r1⟩:=iu r rfl;cases d with
     |tup zs=>
      cases e;have r0:=r1;unfold Rep at r1;obtain⟨a,vs,rfl,na,h1,h2⟩:=r1;exact⟨a,vs,rfl,.inr ⟨.of (P.get h1),k.here P q S r0⟩⟩
     |_=>
      obtain⟨p,vs,rfl,r2,h⟩:=ox S r1 e;refine⟨p,vs,rfl,?_⟩;rcases h with h|h
      . exact .inl ⟨.inl (i9 P h),fun l hl=>k.tup P q S r2 hl⟩
      . first
         |(cases e;done)
         |(exfalso
           unfold items? at e;simp only at e
           first
            |(split at e
              . rename_i z;obtain⟨a,ea,vs',h1,h2⟩:=S.jZ z;have e':=fH ea r1;cases e';rw[h]at h1;cases h1
              . cases e)
            |(unfold Rep at r1
              obtain⟨a,vs',e',_,h1,_⟩:=r1;cases e';rcases h1 with h1|⟨o,h1⟩<;>(rw[h]at h1;cases h1)))
   . exact q.elim
 . exact q.elim
def uN:gM:=fun ds st K=>match ds with| [d]=>(match items? st d with|some xs=>K (.lst xs) st|none=>False)|_=>False
theorem Jb:cm X (.type "list") (jo uN):=cm.imp rq fun xs H Q ⟨α,ds,st,K,G,F',P,r,S,q,k⟩=>by
 unfold uN at q;split at q
 . split at q
   . rename_i ys e;obtain⟨v,rfl,r1⟩:=iu r rfl;obtain⟨p,vs,rfl,r2,h⟩:=ox S r1 e;exact⟨p,vs,rfl,Bs P h,fun l hl=>k.lst P q S r2 hl⟩
   . exact q.elim
 . exact q.elim
def r9:gM:=fun ds st K=>match ds with| [d]=>(match items? st d with|some xs=>K (.ref st.length) (st++[.lst xs])|none=>False)|_=>False
theorem GS:cm X (.type "list") (jo r9):=cm.imp rq fun xs H Q ⟨α,ds,st,K,G,F',P,r,S,q,k⟩=>by
 unfold r9 at q;split at q
 . split at q
   . rename_i ys e;obtain⟨v,rfl,r1⟩:=iu r rfl;obtain⟨p,vs,rfl,r2,h⟩:=ox S r1 e;exact⟨p,vs,rfl,Bs P h,fun l hl=>k.new P q S r2 hl⟩
   . exact q.elim
 . exact q.elim
def mq:List D->Option (List Bool)
 | []=>some []
 | .bl b::r=>(mq r).map (b:: ·)
 |_::_=>none
theorem va{α:List (Option Addr)}{H:Hp}:∀ {ds:List D} {vs:List V} {bs:List Bool},aG α H ds vs->mq ds=some bs->vs=bs.map V.bl
 | [],vs,bs,r,e=>by
   unfold aG at r;cases e;exact r
 |d::ds,vs,bs,r,e=>by
  unfold aG at r;obtain⟨v,q,rfl,h1,h2⟩:=r;cases d<;>try(cases e;done)
  unfold mq at e;cases z:mq ds with
  |none=>rw[z]at e;cases e
  |some cs=>
   rw[z]at e;cases e;unfold Rep at h1;rw[h1,va h2 z];rfl
theorem uB:∀ {bs:List Bool} {us:List Value},Vals (bs.map V.bl) us->us=bs.map Value.bool
 | [],_,.nil=>rfl
 |b::bs,_,.cons h t=>by
  have h:_=Value.bool b:=h;rw[h,uB t];rfl
def xo:gM:=fun ds st K=>match ds with| [.lst xs]=>(match mq xs with|some bs=>K (.bl (bs.all id)) st|none=>False)|_=>False
theorem range_all{α:Type}(l:List α)(f:α->Bool)(tr:Nat->Bool)(h:∀i x,l[i]?=some x->tr i=f x):(List.range l.length).all tr=l.all f:=by
 induction l generalizing tr with
 |nil=>rfl
 |cons a l ih=>
  rw[List.length_cons,List.range_succ_eq_map,List.all_cons,List.all_cons,List.all_map,h 0 a rfl];congr 1;exact ih (tr∘Nat.succ) fun i x e=>h (i+1) x (by simpa using e)
theorem KO(hc:X.calm=true):cm X (.builtin "all") (jo xo):=fun pins s σ H xs us Q I rs ⟨α,ds,st,K,G,F',P,r,S,q,k⟩=>by
 unfold xo at q;split at q
 . rename_i ys;split at q
   . rename_i bs e;obtain⟨v,rfl,r1⟩:=iu r rfl;unfold Rep at r1;obtain⟨a,vs,rfl,na,h1,h2⟩:=r1;obtain⟨u,rfl,ru⟩:=vals1 rs;cases ru;have hv:=va h2 e;subst hv;obtain⟨z,its,n,rv,hl,eo⟩:=Inv.yt I (i9 P h1);have hits:=uB rv;subst hits;have isL:s.heap.IsList a (bs.map Value.bool).toArray:=⟨_,eo,rfl,n,rfl⟩
     refine call_all_walk (wpAny_pyIter_list isL ?_);have hne:a≠s.heap.objs.size:=Nat.ne_of_lt (Heap.lt_size eo);refine⟨s.heap.objs.size,_,_,_,_,_,fun i=>(bs[i]?).getD true,rfl,Walks.list (A:=X.A.in1) (I.ok.hd hc) _ a hne (bs.map Value.bool).toArray,⟨⟨_,Heap.get?_push_size _ rfl,rfl,rfl⟩,⟨_,Heap.get?_push_of_some _ eo,rfl,n,rfl⟩⟩,?_,?_⟩
     . intro i w s' Q' E' hP hQ;rw[List.getElem?_toArray,List.getElem?_map]at hP;cases zb:bs[i]? with
       |none=>rw[zb]at hP;cases hP
       |some b=>
        rw[zb]at hP;cases hP;simp only[zb]at hQ;exact wpAny_truthy_bool hQ
     . intro h' tk hk
       have kp:∀b o,s.heap.get? b=some o->h'.get? b=some o:=fun b o q=>hk b o (by
        intro hb;have:b=s.heap.objs.size:=by simpa using hb
        exact absurd (Heap.lt_size q) (by rw[this];exact Nat.lt_irrefl _)) (Heap.get?_push_of_some _ q)
       have ea:(List.range (bs.map Value.bool).toArray.size).all (fun i=>(bs[i]?).getD true)=bs.all id:=by
        rw[List.size_toArray,List.length_map];exact range_all bs id _ fun i x e=>by rw[e];rfl
       rw[ea];exact⟨.bl (bs.all id),H,I.kept (t':=tk) kp,rfl,k.here P q S (by unfold Rep;rfl)⟩
   . exact q.elim
 . exact q.elim
def rZ(st:af):D->Option String
 | .aM=>some "NoneType"
 | .bl _=>some "bool"
 | .int _=>some "int"
 | .str _=>some "str"
 | .lst _=>some "list"
 | .tup _=>some "tuple"
 | .ref n=>(match st[n]? with|some (.lst _)=>some "list"|_=>none)
 | .ty _=>none
@[simp] theorem NY(st:af)(xs:List D):rZ st (.lst xs)=some "list":=rfl
@[simp] theorem NR(st:af)(xs:List D):rZ st (.tup xs)=some "tuple":=rfl
@[simp] theorem ty_int(st:af)(i:Int):rZ st (.int i)=some "int":=rfl
@[simp] theorem Oq(st:af)(i:Bool):rZ st (.bl i)=some "bool":=rfl
@[simp] theorem ty_str(st:af)(i:Str):rZ st (.str i)=some "str":=rfl
@[simp] theorem Om(st:af):rZ st .aM=some "NoneType":=rfl
end
end L3
namespace L3
open PySem PySem.Spec L2 PySem.SeqAt
open PyProof.Rows hiding St
mutual
def cU:D->D->Bool
 | .aM,.aM=>true
 | .bl a,.bl b=>a==b
 | .bl a,.int b=>(if a then 1 else 0)==b
 | .int a,.bl b=>a==(if b then 1 else 0)
 | .int a,.int b=>a==b
 | .str a,.str b=>a==b
 | .lst xs,.lst ys=>lG xs ys
 | .tup xs,.tup ys=>lG xs ys
 |_,_=>false
def lG:List D->List D->Bool
 | [],[]=>true
 |x::xs,y::ys=>cU x y&&lG xs ys
 |_,_=>false
end
def pl:Nat->D->Bool
 |_,.aM=>true
 |_,.bl _=>true
 |_,.int _=>true
 |_,.str _=>true
 |n+1,.lst xs=>xs.all (pl n)
 |n+1,.tup xs=>xs.all (pl n)
 |_,_=>false
mutual
theorem p_:∀(n:Nat) (d:D),pl n d=true->cU d d=true
 |_,.aM,_=>rfl
 |_,.bl _,_=>by simp[cU]
 |_,.int _,_=>by simp[cU]
 |_,.str _,_=>by simp[cU]
 |n+1,.lst xs,h=>by unfold cU;exact rO n xs (by unfold pl at h;exact h)
 |n+1,.tup xs,h=>by unfold cU;exact rO n xs (by unfold pl at h;exact h)
 |0,.lst xs,h=>by cases h
 |0,.tup xs,h=>by cases h
 |_,.ref _,h=>by unfold pl at h;cases h
 |_,.ty _,h=>by unfold pl at h;cases h
theorem rO:∀(n:Nat) (xs:List D),xs.all (pl n)=true->lG xs xs=true
 |_,[],_=>by unfold lG;rfl
 |n,x::xs,h=>by
  rw[List.all_cons,Bool.and_eq_true]at h;unfold lG;rw[p_ n x h.1,rO n xs h.2];rfl
end
mutual
theorem Rep.inj{α:List (Option Addr)}{H:Hp}:∀ {d e:D} {v:V} (n:Nat),pl n d=true->pl n e=true->Rep α H d v->Rep α H e v->d=e
 | .aM,e,v,n,_,he,h1,h2=>by
   unfold Rep at h1;subst h1;cases e<;>first|(unfold pl at he;cases he;done)|(unfold Rep at h2;cases h2;rfl)|(unfold Rep at h2;cases h2;done)|(unfold Rep at h2;obtain⟨_,_,h2,_⟩:=h2;cases h2)|rfl|(cases h2;done)|(obtain⟨_,_,h2,_⟩:=h2;cases h2)|(obtain⟨_,_,h2⟩:=h2;cases h2)
 | .bl b,e,v,n,_,he,h1,h2=>by
   unfold Rep at h1;subst h1;cases e<;>first|(unfold pl at he;cases he;done)|(unfold Rep at h2;cases h2;rfl)|(unfold Rep at h2;cases h2;done)|(unfold Rep at h2;obtain⟨_,_,h2,_⟩:=h2;cases h2)|(cases h2;rfl)|(cases h2;done)|(obtain⟨_,_,h2,_⟩:=h2;cases h2)|(obtain⟨_,_,h2⟩:=h2;cases h2)
 | .int b,e,v,n,_,he,h1,h2=>by
   unfold Rep at h1;subst h1;cases e<;>first|(unfold pl at he;cases he;done)|(unfold Rep at h2;cases h2;rfl)|(unfold Rep at h2;cases h2;done)|(unfold Rep at h2;obtain⟨_,_,h2,_⟩:=h2;cases h2)|(cases h2;rfl)|(cases h2;done)|(obtain⟨_,_,h2,_⟩:=h2;cases h2)|(obtain⟨_,_,h2⟩:=h2;cases h2)
 | .str b,e,v,n,_,he,h1,h2=>by
   unfold Rep at h1;subst h1;cases e<;>first|(unfold pl at he;cases he;done)|(unfold Rep at h2;cases h2;rfl)|(unfold Rep at h2;cases h2;done)|(unfold Rep at h2;obtain⟨_,_,h2,_⟩:=h2;cases h2)|(cases h2;rfl)|(cases h2;done)|(obtain⟨_,_,h2,_⟩:=h2;cases h2)|(obtain⟨_,_,h2⟩:=h2;cases h2)
 | .ty b,e,v,n,hd,he,h1,h2=>by unfold pl at hd;cases hd
 | .ref b,e,v,n,hd,he,h1,h2=>by unfold pl at hd;cases hd
 | .lst xs,e,v,0,hd,he,h1,h2=>by cases hd
 | .tup xs,e,v,0,hd,he,h1,h2=>by cases hd
 | .lst xs,e,v,n+1,hd,he,h1,h2=>by
   unfold Rep at h1;obtain⟨a,vs,rfl,na,ha,ra⟩:=h1;cases e<;>unfold Rep at h2<;>try(cases h2;done)
   . unfold pl at he;cases he
   . obtain⟨a',vs',e',na',ha',ra'⟩:=h2;cases e'
     have:vs=vs':=by
      rcases ha with ha|⟨o,ha⟩<;>rcases ha' with ha'|⟨o',ha'⟩<;>(rw[ha]at ha';first|(cases ha';rfl)|(cases ha';done))
     subst this;rw[aG.inj n (by unfold pl at hd;exact hd) (by unfold pl at he;exact he) ra ra']
   . obtain⟨a',vs',e',na',ha',ra'⟩:=h2;cases e';rcases ha with ha|⟨o,ha⟩<;>(rw[ha]at ha';cases ha')
 | .tup xs,e,v,n+1,hd,he,h1,h2=>by
   unfold Rep at h1;obtain⟨a,vs,rfl,na,ha,ra⟩:=h1;cases e<;>unfold Rep at h2<;>try(cases h2;done)
   . unfold pl at he;cases he
   . obtain⟨a',vs',e',na',ha',ra'⟩:=h2;cases e';rcases ha' with ha'|⟨o,ha'⟩<;>(rw[ha]at ha';cases ha')
   . obtain⟨a',vs',e',na',ha',ra'⟩:=h2;cases e';rw[ha]at ha';cases ha';rw[aG.inj n (by unfold pl at hd;exact hd) (by unfold pl at he;exact he) ra ra']
theorem aG.inj{α:List (Option Addr)}{H:Hp}:∀ {ds es:List D} {vs:List V} (n:Nat),ds.all (pl n)=true->es.all (pl n)=true->aG α H ds vs->aG α H es vs->ds=es
 | [],es,vs,n,_,_,h1,h2=>by
   unfold aG at h1;subst h1;cases es with
   |nil=>rfl
   |cons e es=>unfold aG at h2;obtain⟨_,_,h,_⟩:=h2;cases h
 |d::ds,es,vs,n,hd,he,h1,h2=>by
  unfold aG at h1;obtain⟨v,r,rfl,r1,r2⟩:=h1;cases es with
  |nil=>unfold aG at h2;cases h2
  |cons e es=>
   unfold aG at h2;obtain⟨v',r',h,q1,q2⟩:=h2;cases h;rw[List.all_cons,Bool.and_eq_true]at hd he;rw[Rep.inj n hd.1 he.1 r1 q1,aG.inj n hd.2 he.2 r2 q2]
end
theorem nX:∀ {xs ys:List D},xs.length≠ys.length->lG xs ys=false
 | [],[],h=>absurd rfl h
 | [],_::_,_=>by unfold lG;rfl
 |_::_,[],_=>by unfold lG;rfl
 |x::xs,y::ys,h=>by
  unfold lG;rw[nX (by simpa using h),Bool.and_false]
theorem nV:∀ {xs ys:List D},xs.length=ys.length->lG xs ys=(List.range xs.length).all fun j=>cU (xs.getD j .aM) (ys.getD j .aM)
 | [],[],_=>by unfold lG;rfl
 | [],_::_,h=>by cases h
 |_::_,[],h=>by cases h
 |x::xs,y::ys,h=>by
  unfold lG;rw[List.length_cons,List.range_succ_eq_map,List.all_cons,List.all_map,nV (by simpa using h)];rfl
section
variable {X:Cx}{pins:List (Addr×Obj)}{σ:L2.St}{H:Hp}{s:Shared}{α:List (Option Addr)}
theorem kn{xs:List D}{vs:List V}{its:List Value}(r:aG α H xs vs)(v:Vals vs its)(j:Nat)(hj:j<its.length):∃x,xs[j]?=some (xs.getD j .aM)/\Rep α H (xs.getD j .aM) x/\RelV x its[j]:=by
 have h1:=r.length;have h2:=v.length;have hx:j<xs.length:=by omega
 have e:xs[j]?=some (xs.getD j .aM):=by rw[List.getElem?_eq_getElem hx,List.getD_eq_getElem?_getD,List.getElem?_eq_getElem hx];rfl
 obtain⟨x,q,rr⟩:=r.get e;obtain⟨u,q2,rv⟩:=v.get q;rw[List.getElem?_eq_getElem hj]at q2;cases q2;exact⟨x,e,rr,rv⟩
theorem je{xs:List D}{n:Nat}(h:xs.all (pl n)=true)(j:Nat):pl n (xs.getD j .aM)=true:=by
 rw[List.getD_eq_getElem?_getD];cases e:xs[j]? with
 |none=>cases n<;>rfl
 |some d=>exact List.all_eq_true.mp h d (List.mem_of_getElem? e)
def wC:D->Bool
 | .aM=>true
 | .bl _=>true
 | .int _=>true
 | .str _=>true
 |_=>false
theorem Ah{A:Around}{d e:D}{x y:V}{u v:Value}(hd:wC d=true)(he:wC e=true)(rd:Rep α H d x)(re:Rep α H e y)(rx:RelV x u)(ry:RelV y v):RcAt A s u v (cU d e)/\EqAt A s u v (cU d e):=by
 cases d<;>cases e<;>try(first|(cases hd;done)|(cases he;done))
 all_goals(unfold Rep at rd re;subst rd re)
 all_goals(first|(obtain⟨t,rfl⟩:=rx;obtain⟨t',rfl⟩:=ry)|(obtain⟨t,rfl⟩:=rx;cases ry)|(cases rx;obtain⟨t,rfl⟩:=ry)|(cases rx;cases ry))
 all_goals unfold cU
 . exact⟨RcAt.none_none,EqAt.same _⟩
 . exact⟨RcAt.none_bool _,EqAt.none_bool _⟩
 . exact⟨RcAt.none_int _ _,EqAt.none_int _ _⟩
 . exact⟨RcAt.none_str _ _,EqAt.none_str _ _⟩
 . exact⟨RcAt.bool_none _,EqAt.bool_none _⟩
 . exact⟨RcAt.bool_bool _ _,EqAt.bool_bool _ _⟩
 . exact⟨RcAt.bool_int _ _ _,EqAt.bool_int _ _ _⟩
 . exact⟨RcAt.bool_str _ _ _,EqAt.bool_str _ _ _⟩
 . exact⟨RcAt.int_none _ _,EqAt.int_none _ _⟩
 . exact⟨RcAt.int_bool _ _ _,EqAt.int_bool _ _ _⟩
 . exact⟨RcAt.int_int _ _ _ _,EqAt.int_int _ _ _ _⟩
 . exact⟨RcAt.int_str _ _ _ _,EqAt.int_str _ _ _ _⟩
 . exact⟨RcAt.str_none _ _,EqAt.str_none _ _⟩
 . exact⟨RcAt.str_bool _ _ _,EqAt.str_bool _ _ _⟩
 . exact⟨RcAt.str_int _ _ _ _,EqAt.str_int _ _ _ _⟩
 . exact⟨RcAt.str_str _ _ _ _,EqAt.str_str _ _ _ _⟩
theorem lst_is(I:Inv X pins σ H s){xs:List D}{x:V}{u:Value}(r:Rep α H (.lst xs) x)(rx:RelV x u):∃a vs its,u= .ref a/\aG α H xs vs/\Vals vs its/\s.heap.IsList a its.toArray:=by
 unfold Rep at r;obtain⟨a,vs,rfl,na,ha,ra⟩:=r;cases rx;obtain⟨z,its,n,rv,hl,eo⟩:=Inv.yt I ha;exact⟨a,vs,its,rfl,ra,rv,⟨_,eo,rfl,n,rfl⟩⟩
theorem tup_is(I:Inv X pins σ H s){xs:List D}{x:V}{u:Value}(r:Rep α H (.tup xs) x)(rx:RelV x u):∃a vs its,u= .ref a/\aG α H xs vs/\Vals vs its/\s.heap.IsTuple a its.toArray:=by
 unfold Rep at r;obtain⟨a,vs,rfl,na,ha,ra⟩:=r;cases rx;obtain⟨its,r',p,hz⟩:=I.tuple (ik.of ha);exact⟨a,vs,its,rfl,ra,r',p⟩
theorem wB(I:Inv X pins σ H s){A:Around}{xs:List D}{e:D}{x y:V}{u v:Value}(he:wC e=true)(rd:Rep α H (.lst xs) x)(re:Rep α H e y)(rx:RelV x u)(ry:RelV y v)(hu:A.units<cLine):
 (RcAt A s u v (cU (.lst xs) e)/\EqAt A s u v (cU (.lst xs) e))/\RcAt A s v u (cU e (.lst xs))/\EqAt A s v u (cU e (.lst xs)):=by
 obtain⟨a,vs,its,rfl,_,_,hl⟩:=lst_is I rd rx;cases e<;>try(cases he;done)
 all_goals(unfold Rep at re;subst re)
 all_goals(first|(obtain⟨t,rfl⟩:=ry)|(cases ry))
 all_goals unfold cU
 . exact⟨⟨RcAt.list_none hl hu,EqAt.list_none hl hu⟩,RcAt.none_list hl hu,EqAt.none_list hl hu⟩
 . exact⟨⟨RcAt.list_bool _ hl hu,EqAt.list_bool _ hl hu⟩,RcAt.bool_list _ hl hu,EqAt.bool_list _ hl hu⟩
 . exact⟨⟨RcAt.list_int _ _ hl hu,EqAt.list_int _ _ hl hu⟩,RcAt.int_list _ _ hl hu,EqAt.int_list _ _ hl hu⟩
 . exact⟨⟨RcAt.list_str _ _ hl hu,EqAt.list_str _ _ hl hu⟩,RcAt.str_list _ _ hl hu,EqAt.str_list _ _ hl hu⟩
theorem wu(I:Inv X pins σ H s){A:Around}{xs:List D}{e:D}{x y:V}{u v:Value}(he:wC e=true)(rd:Rep α H (.tup xs) x)(re:Rep α H e y)(rx:RelV x u)(ry:RelV y v)(hu:A.units<cLine):
 (RcAt A s u v (cU (.tup xs) e)/\EqAt A s u v (cU (.tup xs) e))/\RcAt A s v u (cU e (.tup xs))/\EqAt A s v u (cU e (.tup xs)):=by
 obtain⟨a,vs,its,rfl,_,_,hl⟩:=tup_is I rd rx;cases e<;>try(cases he;done)
 all_goals(unfold Rep at re;subst re)
 all_goals(first|(obtain⟨t,rfl⟩:=ry)|(cases ry))
 all_goals unfold cU
 . exact⟨⟨RcAt.tuple_none hl hu,EqAt.tuple_none hl hu⟩,RcAt.none_tuple hl hu,EqAt.none_tuple hl hu⟩
 . exact⟨⟨RcAt.tuple_bool _ hl hu,EqAt.tuple_bool _ hl hu⟩,RcAt.bool_tuple _ hl hu,EqAt.bool_tuple _ hl hu⟩
 . exact⟨⟨RcAt.tuple_int _ _ hl hu,EqAt.tuple_int _ _ hl hu⟩,RcAt.int_tuple _ _ hl hu,EqAt.int_tuple _ _ hl hu⟩
 . exact⟨⟨RcAt.tuple_str _ _ hl hu,EqAt.tuple_str _ _ hl hu⟩,RcAt.str_tuple _ _ hl hu,EqAt.str_tuple _ _ hl hu⟩
theorem zD{A:Around}{n:Nat}{d e:D}{x y:V}{a b:Addr}(hd:pl n d=true)(he:pl n e=true)(rd:Rep α H d x)(re:Rep α H e y)(rx:RelV x (.ref a))(ry:RelV y (.ref b))(h:RcAt A s (.ref a) (.ref b) (cU d e)):
 RcAt A s (.ref a) (.ref b) (cU d e)/\EqAt A s (.ref a) (.ref b) (cU d e):=by
 refine⟨h,?_⟩;by_cases hab:a=b
 . subst hab;have hx:x=y:=RelV.inj rx ry;subst hx;have:=Rep.inj n hd he rd re;subst this;rw[p_ n d hd];exact EqAt.same _
 . exact EqAt.of_refs hab h
theorem Bj(I:Inv X pins σ H s):∀(n:Nat) (A:Around) (d e:D) (x y:V) (u v:Value),pl n d=true->pl n e=true->Rep α H d x->Rep α H e y->RelV x u->RelV y v->A.units+n<cLine->
 RcAt A s u v (cU d e)/\EqAt A s u v (cU d e):=by
 intro n;induction n with
 |zero=>
  intro A d e x y u v hd he rd re rx ry hu;refine Ah ?_ ?_ rd re rx ry
  . cases d<;>first|rfl|(cases hd)
  . cases e<;>first|rfl|(cases he)
 |succ n ih=>
  intro A d e x y u v hd he rd re rx ry hu;have hu0:A.units<cLine:=by omega
  have hin:A.in1.units+n<cLine:=by rw[Around.in1_units];omega
  cases d<;>try(cases hd;done)
  case lst xs=>
   cases e<;>try(cases he;done)
   case lst ys=>
    have rd0:=rd;have re0:=re;have rx0:=rx;have ry0:=ry;obtain⟨a,vs,its,rfl,r1,v1,l1⟩:=lst_is I rd rx;obtain⟨b,ws,jts,rfl,r2,v2,l2⟩:=lst_is I re ry;have e1:=r1.length;have e2:=v1.length;have e3:=r2.length;have e4:=v2.length;refine zD hd he rd0 re0 rx0 ry0 ?_;unfold cU;by_cases hlen:xs.length=ys.length
    . rw[nV hlen];have hsz:its.toArray.size=jts.toArray.size:=by simp only[List.size_toArray];omega
      have hx:xs.length=its.toArray.size:=by simp only[List.size_toArray];omega
      rw[hx];refine RcAt.lists l1 l2 hsz hu0 fun j h1 h2=>?_;have h1':j<its.length:=by simpa using h1
      have h2':j<jts.length:=by simpa using h2
      obtain⟨p,_,q1,q2⟩:=kn r1 v1 j h1';obtain⟨p',_,q1',q2'⟩:=kn r2 v2 j h2';exact(ih A.in1 _ _ p p' _ _ (je (by unfold pl at hd;exact hd) j) (je (by unfold pl at he;exact he) j) q1 q1' (by simpa using q2) (by simpa using q2') hin).2
    . rw[nX hlen];exact RcAt.lists_lengths l1 l2 (by simp only[List.size_toArray,bne_iff_ne,ne_eq];omega) hu0
   case tup ys=>
    obtain⟨a,vs,its,rfl,r1,v1,l1⟩:=lst_is I rd rx;obtain⟨b,ws,jts,rfl,r2,v2,l2⟩:=tup_is I re ry;unfold cU;exact⟨RcAt.list_tuple l1 l2 hu0,EqAt.list_tuple l1 l2 hu0⟩
   all_goals exact(wB I rfl rd re rx ry hu0).1
  case tup xs=>
   cases e<;>try(cases he;done)
   case tup ys=>
    have rd0:=rd;have re0:=re;have rx0:=rx;have ry0:=ry;obtain⟨a,vs,its,rfl,r1,v1,l1⟩:=tup_is I rd rx;obtain⟨b,ws,jts,rfl,r2,v2,l2⟩:=tup_is I re ry;have e1:=r1.length;have e2:=v1.length;have e3:=r2.length;have e4:=v2.length;refine zD hd he rd0 re0 rx0 ry0 ?_;unfold cU
    have key:=RcAt.tuples (e:=fun j=>cU (xs.getD j .aM) (ys.getD j .aM)) l1 l2 hu0 fun j h1 h2=>by
     have h1':j<its.length:=by simpa using h1
     have h2':j<jts.length:=by simpa using h2
     obtain⟨p,_,q1,q2⟩:=kn r1 v1 j h1';obtain⟨p',_,q1',q2'⟩:=kn r2 v2 j h2';exact(ih A.in1 _ _ p p' _ _ (je (by unfold pl at hd;exact hd) j) (je (by unfold pl at he;exact he) j) q1 q1' (by simpa using q2) (by simpa using q2') hin).2
    by_cases hlen:xs.length=ys.length
    . rw[nV hlen];have hsz:its.toArray.size=jts.toArray.size:=by simp only[List.size_toArray];omega
      have hx:xs.length=its.toArray.size:=by simp only[List.size_toArray];omega
      rw[hsz,Nat.min_self,beq_self_eq_true,Bool.and_true,<-hsz,<-hx]at key;exact key
    . rw[nX hlen];have hne:(its.toArray.size==jts.toArray.size)=false:=by simp only[List.size_toArray,beq_eq_false_iff_ne,ne_eq];omega
      rw[hne,Bool.and_false]at key;exact key
   case lst ys=>
    obtain⟨a,vs,its,rfl,r1,v1,l1⟩:=tup_is I rd rx;obtain⟨b,ws,jts,rfl,r2,v2,l2⟩:=lst_is I re ry;unfold cU;exact⟨RcAt.tuple_list l1 l2 hu0,EqAt.tuple_list l1 l2 hu0⟩
   all_goals exact(wu I rfl rd re rx ry hu0).1
  all_goals
   cases e<;>try(cases he;done)
   case lst ys=>exact(wB I rfl re rd ry rx hu0).2
   case tup ys=>exact(wu I rfl re rd ry rx hu0).2
   all_goals exact Ah rfl rfl rd re rx ry
def Kx:eE:=fun x y st K=>pl 40 x=true/\pl 40 y=true/\K (.bl (cU x y)) st
theorem NJ{k:Nat}(hr:cR k X.A):cF X (compareOp .Eq) (LR Kx):=fun pins s σ H x y v u Q I rx ry ⟨α,d,e,st,K,G,F',P,r1,r2,S,q,k⟩=>by
 have hu:=hr.units;exact(Bj I 40 X.A d e x y v u q.1 q.2.1 (r1.mono P.same) (r2.mono P.same) rx ry (by omega)).1 _ _ _ _ ⟨.bl (cU d e),H,I,rfl,k.here P q.2.2 S (by unfold Rep;rfl)⟩
def Io:eE:=fun x y st K=>match x,y with
 | .int i,.int j=>K (.bl (!decide (i=j))) st
 | .bl i,.bl j=>K (.bl (!decide (i=j))) st
 | .str i,.str j=>K (.bl (!decide (i=j))) st
 |_,_=>False
theorem Nw:cF X (compareOp .NotEq) (LR Io):=cF.imp Li fun x y H Q ⟨α,d,e,st,K,G,F',P,r1,r2,S,q,k⟩=>by
 cases d<;>cases e<;>try exact q.elim
 all_goals(unfold Rep at r1 r2;subst r1 r2)
 . exact⟨rfl,k.here P q S (by unfold Rep;congr 2;exact decide_eq_decide.mpr ⟨fun h=>by cases h;rfl,fun h=>by rw[h]⟩)⟩
 . exact⟨rfl,k.here P q S (by unfold Rep;congr 2;exact decide_eq_decide.mpr ⟨fun h=>by cases h;rfl,fun h=>by rw[h]⟩)⟩
 . exact⟨rfl,k.here P q S (by unfold Rep;congr 2;exact decide_eq_decide.mpr ⟨fun h=>by cases h;rfl,fun h=>by rw[h]⟩)⟩
end
end L3
namespace L3
open PySem PySem.Spec L2
open PyProof.Rows hiding St
def LC(α:List (Option Addr))(G F:Hp)(K:bR->af->Prop)(Q:L2.St->Hp->Prop):Prop:=∀σd' st',K σd' st'->∀α' G' H' σ',Step α G α' G'->bW G' F H'->dU α' G' σd' σ'->aO α' st' G'->Q σ' H'
structure xD(α:List (Option Addr))(G F:Hp)(DD:m7)(D:Ends):Prop where
 nx:LC α G F DD.nx D.nx
 rt:LK α G F DD.rt D.rt
 bk:LC α G F DD.bk D.bk
 ct:LC α G F DD.ct D.ct
inductive MV(t:DS)(D:Ends)(σ:L2.St)(H:Hp):Prop
 |mk (α:List (Option Addr)) (σd:bR) (st:af) (DD:m7) (G F:Hp) (P:bW G F H) (R:dU α G σd σ) (S:aO α st G) (h:t DD σd st) (k:xD α G F DD D):MV t D σ H
def LS(t:DS):TS:=MV t
theorem LC.at{α α1:List (Option Addr)}{G F G1:Hp}{K:bR->af->Prop}{Q:L2.St->Hp->Prop}(h:LC α G F K Q)(s:Step α G α1 G1):LC α1 G1 F K Q:=fun d st' k α' G' H' v s' P R S=>h d st' k α' G' H' v (s.trans s') P R S
theorem LC.here{α:List (Option Addr)}{G F H:Hp}{K:bR->af->Prop}{Q:L2.St->Hp->Prop}(h:LC α G F K Q)(P:bW G F H){σd:bR}{st:af}{σ:L2.St}(k:K σd st)(R:dU α G σd σ)(S:aO α st G):Q σ H:=h σd st k α G H σ Step.refl P R S
theorem xD.at{α α1:List (Option Addr)}{G F G1:Hp}{DD:m7}{D:Ends}(h:xD α G F DD D)(s:Step α G α1 G1):xD α1 G1 F DD D:=⟨h.nx.at s,h.rt.at s,h.bk.at s,h.ct.at s⟩
section
variable {X:Cx}{a b c e o i:Expr}{es:List Expr}{ta tb tc te:DE}{pos:Pos}{st:Stmt}{sts:List Stmt}{t u:DS}
theorem PS.imp{t t':TS}(h:PS X st t)(f:∀D σ H,t' D σ H->t D σ H):PS X st t':=fun pins s σ H D I q=>h pins s σ H D I (f D σ H q)
theorem ij.imp{t t':TS}(h:ij X sts t)(f:∀D σ H,t' D σ H->t D σ H):ij X sts t':=fun pins s σ H D I q=>h pins s σ H D I (f D σ H q)
def j5:DS:=fun D σ st=>D.nx σ st
def aP(t u:DS):DS:=fun D σ st=>t {D with nx:=u D} σ st
theorem GQ:ij X [] (LS j5):=ij.imp GR fun D σ H ⟨α,σd,st,DD,G,F,P,R,S,t,k⟩=>k.nx.here P t R S
theorem HF(h:PS X st (LS t)):ij X [st] (LS t):=HA h
theorem E3(h:PS X st (LS t))(h2:ij X sts (LS u)):ij X (st::sts) (LS (aP t u)):=ij.imp (EA h h2) fun D σ H ⟨α,σd,st,DD,G,F,P,R,S,t,k⟩=>
 ⟨α,σd,st,_,G,F,P,R,S,t,fun σd' st' q α' G' H' σ' s' P' R' S'=>⟨α',σd',st',DD,G',F,P',R',S',q,k.at s'⟩,k.rt,k.bk,k.ct⟩
def dJ(te:DE):DS:=fun D σ st=>te σ st D.rt
theorem Ii(h:PE X e (LE te)):PS X (.Return (some e) pos) (LS (dJ te)):=PS.imp (Iv h) fun D σ H ⟨α,σd,st,DD,G,F,P,R,S,t,k⟩=>⟨α,σd,st,_,G,F,P,R,S,t,k.rt⟩
def eK(te:DE):DS:=fun D σ st=>te σ st fun _ st1=>D.nx σ st1
theorem GN(h:PE X e (LE te))(hs:swapsWith e none pos.line X.env=pure false:=by rfl):PS X (.Expr e pos) (LS (eK te)):=PS.imp (Hu h hs) fun D σ H ⟨α,σd,st,DD,G,F,P,R,S,t,k⟩=>
 ⟨α,σd,st,_,G,F,P,R,S,t,fun d st1 q α1 G1 H1 v s1 P1 S1 r1=>(k.nx.at s1).here P1 q (R.step s1) S1⟩
def ki(c:DT)(t u:DS):DS:=fun D σ st=>c σ st fun b st1=>if b=true then t D σ st1 else u D σ st1
theorem LF{x y:List Stmt}{tc:DT}(hc:PT X c (LT tc))(ha:ij X x (LS t))(hb:ij X y (LS u)):PS X (.If c x y pos) (LS (ki tc t u)):=PS.imp (K9 hc ha hb) fun D σ H ⟨α,σd,st,DD,G,F,P,R,S,t,k⟩=>by
 refine⟨α,σd,st,_,G,F,P,R,S,t,fun b st1 q α1 G1 H1 s1 P1 S1=>?_⟩;cases b with
 |true=>exact⟨α1,σd,st1,DD,G1,F,P1,R.step s1,S1,q,k.at s1⟩
 |false=>exact⟨α1,σd,st1,DD,G1,F,P1,R.step s1,S1,q,k.at s1⟩
abbrev gh:=D->bR->Option bR
def cj(i:Nat):gh:=fun d σ=>some (σ.set i (some d))
def kH(i j:Nat):gh:=fun d σ=>match d with| .tup [x,y]=>some ((σ.set i (some x)).set j (some y))|_=>none
inductive MW(t:gh)(v:V)(σ:L2.St)(H:Hp)(Q:L2.St->Hp->Prop):Prop
 |mk (α:List (Option Addr)) (σd:bR) (st:af) (d:D) (K:bR->af->Prop) (G F:Hp) (P:bW G F H) (R:dU α G σd σ) (S:aO α st G) (r:Rep α G d v) (h:∃σ',t d σd=some σ'/\K σ' st) (k:LC α G F K Q):MW t v σ H Q
def LG(t:gh):TG:=MW t
theorem PG.imp{tg:Expr}{t t':TG}(h:PG X tg t)(f:∀v σ H Q,t' v σ H Q->t v σ H Q):PG X tg t':=fun pins s σ H v u Q I r q=>h pins s σ H v u Q I r (f v σ H Q q)
theorem G0{tg:Expr}{i:Nat}(h:PG X tg (lQ i)):PG X tg (LG (cj i)):=PG.imp h fun v σ H Q ⟨α,σd,st,d,K,G,F,P,R,S,r,⟨σ',e,q⟩,k⟩=>by
 cases e;exact k.here P q (R.set i r) S
theorem Kd{tg:Expr}{i j:Nat}(h:PG X tg (Ka X.K 2 (uZ (lQ i) (uZ (lQ j) D6)))):PG X tg (LG (kH i j)):=PG.imp h fun v σ H Q ⟨α,σd,st,d,K,G,F,P,R,S,r,⟨σ',e,q⟩,k⟩=>by
 unfold kH at e;split at e
 . rename_i x y;cases e;unfold Rep at r;obtain⟨a,vs,rfl,na,h1,h2⟩:=r;obtain⟨v1,v2,rfl,r1,r2⟩:=sv h2 rfl;exact⟨a,_,rfl,.of (P.get h1),rfl,v1,_,rfl,v2,_,rfl,rfl,k.here P q ((R.set i r1).set j r2) S⟩
 . cases e
def cv(i:Nat)(te:DE):DS:=fun D σ st=>te σ st fun d st1=>D.nx (σ.set i (some d)) st1
theorem Jx{i:Nat}(h:PS X st (mJ (LE te) (lQ i))):PS X st (LS (cv i te)):=PS.imp h fun D σ H ⟨α,σd,st,DD,G,F,P,R,S,t,k⟩=>
 ⟨α,σd,st,_,G,F,P,R,S,t,fun d st1 q α1 G1 H1 v s1 P1 S1 r1=>(k.nx.at s1).here P1 q ((R.step s1).set i r1) S1⟩
def Bf(i j:Nat)(ta:DA):DS:=fun D σ st=>ta σ st fun ds st1=>match ds with| [x,y]=>D.nx ((σ.set i (some x)).set j (some y)) st1|_=>False
theorem JU{i j:Nat}{ta:DA}(h:PS X st (IW i j (LA ta))):PS X st (LS (Bf i j ta)):=PS.imp h fun D σ H ⟨α,σd,st,DD,G,F,P,R,S,t,k⟩=>by
 refine⟨α,σd,st,_,G,F,P,R,S,t,fun ds st1 q α1 G1 H1 vs s1 P1 S1 r1=>?_⟩;match ds,q,r1 with
 | [x,y],q,r1=>
   obtain⟨v1,v2,rfl,q1,q2⟩:=sv r1 rfl;exact⟨v1,v2,rfl,(k.nx.at s1).here P1 q (((R.step s1).set i q1).set j q2) S1⟩
def AB(i:Nat)(r:eE)(te:DE):DS:=fun D σ st=>match σ[i]? with|some (some x)=>te σ st fun y st1=>r x y st1 fun z st2=>D.nx (σ.set i (some z)) st2|_=>False
def zc(f:Int->Int->Int):eE:=fun x y st K=>match x,y with| .int i,.int j=>K (.int (f i j)) st|_,_=>False
theorem IM{i:Nat}{f:Int->Int->Int}(h:PS X st (IL i (LE te) (Kp f))):PS X st (LS (AB i (zc f) te)):=PS.imp h fun D σ H ⟨α,σd,st,DD,G,F,P,R,S,t,k⟩=>by
 unfold AB at t;split at t
 . rename_i x e;obtain⟨v,ev,rv⟩:=R.at' i x e;refine⟨v,ev,α,σd,st,_,G,F,P,R,S,t,fun y st1 q α1 G1 H1 w s1 P1 S1 r1=>?_⟩;cases x<;>cases y<;>try exact q.elim
   have rv':=rv;unfold Rep at rv r1;exact⟨_,_,rv,r1,(k.nx.at s1).here P1 q ((R.step s1).set i (by unfold Rep;rfl)) S1⟩
 . exact t.elim
def xV(x y d:D)(st:af)(K:af->Prop):Prop:=match x,y with
 | .ref n,.int k=>(match st[n]? with
   |some (.lst xs)=>(match nU xs.length k with|some j=>K (st.set n (.lst (xs.set j d)))|none=>False)
   |_=>False)
 |_,_=>False
def IV(to ti te:DE):DS:=fun D σ st=>te σ st fun d st1=>to σ st1 fun x st2=>ti σ st2 fun y st3=>xV x y d st3 fun st4=>D.nx σ st4
theorem E1{to ti:DE}(h:PS X st (mJ (LE te) (vN (LE to) (LE ti) rT))):PS X st (LS (IV to ti te)):=PS.imp h fun D σ H ⟨α,σd,st,DD,G,F,P,R,S,t,k⟩=>by
 refine⟨α,σd,st,_,G,F,P,R,S,t,fun d st1 q α1 G1 H1 v s1 P1 S1 r1=>?_⟩;refine⟨α1,σd,st1,_,G1,F,P1,R.step s1,S1,q,fun x st2 q2 α2 G2 H2 v2 s2 P2 S2 r2=>?_⟩;refine⟨α2,σd,st2,_,G2,F,P2,(R.step s1).step s2,S2,q2,fun y st3 q3 α3 G3 H3 v3 s3 P3 S3 r3=>?_⟩;cases x<;>cases y<;>try exact q3.elim
 rename_i n kk;unfold xV at q3;simp only at q3;split at q3
 . rename_i xs e;split at q3
   . rename_i j ej;obtain⟨p,ep,vs,hv,rv⟩:=S3.jZ e;have r2':=fH ep (r2.step s3);subst r2';unfold Rep at r3;have hm:some p∈α3:=List.mem_of_getElem? ep;have rd:=(r1.step s2).step s3;refine⟨p,vs,kk,j,rfl,r3,P3.get hv,by rw[<-rv.length];exact ej,?_⟩;refine(((k.nx.at s1).at s2).at s3) σd _ q3 α3 (upd G3 p (.lst (vs.set j v))) _ σ (Step.write hm) (P3.write hv) ((((R.step s1).step s2).step s3).step (Step.write hm)) ?_;exact S3.write ep ⟨vs.set j v,aV,(bh.mpr (pW rd j (bh.mp rv))).step (Step.write hm)⟩
   . exact q3.elim
 . exact q3.elim
def ur(c:DT)(tb:DS):DS:=fun D σ st=>∃W:Nat->bR->af->Prop,(∃m,W m σ st)/\∀m σ st,W m σ st->
 c σ st fun b st1=>if b=true then tb {D with nx:=fun σ' st'=>∃m',m'<m/\W m' σ' st',ct:=fun σ' st'=>∃m',m'<m/\W m' σ' st',bk:=D.nx} σ st1 else D.nx σ st1
theorem D7{tc:DT}(h:PS X st (BQ (LT tc) (LS t))):PS X st (LS (ur tc t)):=PS.imp h fun D σ H ⟨α,σd,st,DD,G,F,P,R,S,⟨W,⟨m0,w0⟩,turn⟩,k⟩=>by
 refine⟨fun m σ' H'=>∃α' σd' st' G',Step α G α' G'/\bW G' F H'/\dU α' G' σd' σ'/\aO α' st' G'/\W m σd' st',⟨m0,α,σd,st,G,Step.refl,P,R,S,w0⟩,?_⟩;rintro m σ1 H1 ⟨α1,σd1,st1,G1,s1,P1,R1,S1,w1⟩;refine⟨α1,σd1,st1,_,G1,F,P1,R1,S1,turn m σd1 st1 w1,fun b st2 q α2 G2 H2 s2 P2 S2=>?_⟩;cases b with
 |false=>exact((k.nx.at s1).at s2).here P2 q (R1.step s2) S2
 |true=>
  refine⟨fun σ' H'=>∃m',m'<m/\∃α' σd' st' G',Step α G α' G'/\bW G' F H'/\dU α' G' σd' σ'/\aO α' st' G'/\W m' σd' st',fun σ' H' z=>z,?_⟩;refine⟨α2,σd1,st2,_,G2,F,P2,R1.step s2,S2,q,?_⟩;refine⟨?_,(k.rt.at s1).at s2,(k.nx.at s1).at s2,?_⟩
  . rintro σd3 st3 ⟨m',hm,w3⟩ α3 G3 H3 σ3 s3 P3 R3 S3;exact⟨m',hm,α3,σd3,st3,G3,(s1.trans s2).trans s3,P3,R3,S3,w3⟩
  . rintro σd3 st3 ⟨m',hm,w3⟩ α3 G3 H3 σ3 s3 P3 R3 S3;exact⟨m',hm,α3,σd3,st3,G3,(s1.trans s2).trans s3,P3,R3,S3,w3⟩
abbrev DI:=bR->af->(List D->(af->Prop)->af->Prop)->Prop
structure tW(J:It)(α:List (Option Addr))(G:Hp)(ok:af->Prop)(xs:List D):Prop where
 stop:∀(n:Nat) α' G' F' H' st',Step α G α' G'->bW G' F' H'->aO α' st' G'->ok st'->xs.length<=n->J.stop n H'
 go:∀(n:Nat) d α' G' F' H' st',Step α G α' G'->bW G' F' H'->aO α' st' G'->ok st'->xs[n]?=some d->J.go n H'
 oz:∀(n:Nat) d α' G' F' H' st' x H'',Step α G α' G'->bW G' F' H'->aO α' st' G'->ok st'->xs[n]?=some d->J.oz n H' x H''->∃G'',Step α' G' α' G''/\bW G'' F' H''/\aO α' st' G''/\Rep α' G'' d x
def LI(t:DI):TI:=fun σ H R=>∃α σd st K G F,bW G F H/\dU α G σd σ/\aO α st G/\t σd st K/\∀xs ok st1,K xs ok st1->∀J α1 G1 H1,Step α G α1 G1->bW G1 F H1->aO α1 st1 G1->tW J α1 G1 ok xs->R J H1
def ye(d:D)(st1:af)(K:List D->(af->Prop)->af->Prop):Prop:=match d with
 | .lst xs=>K xs (fun _=>True) st1
 | .tup xs=>K xs (fun _=>True) st1
 | .ref n=>(match st1[n]? with|some (.lst xs)=>K xs (fun st'=>st'[n]?=some (.lst xs)) st1|_=>False)
 |_=>False
def Mv(t:DE):DI:=fun σ st K=>t σ st fun d st1=>ye d st1 K
theorem zV{K:PySem.W.Frag}{a:Addr}{α:List (Option Addr)}{G:Hp}{ok:af->Prop}{xs:List D}
 (h:∀α' G' st',Step α G α' G'->aO α' st' G'->ok st'->∃vs,Rd G' a (.lst vs)/\aG α' G' xs vs):tW (Ku K a) α G ok xs where
 stop:=fun n α' G' F' H' st' s P S o hn=>by
  obtain⟨vs,h1,h2⟩:=h α' G' st' s S o;exact⟨vs,.inl (i9 P h1),by rw[<-h2.length];exact hn⟩
 go:=fun n d α' G' F' H' st' s P S o hn=>by
  obtain⟨vs,h1,h2⟩:=h α' G' st' s S o;obtain⟨v,e,_⟩:=h2.get hn;exact⟨vs,v,.inl (i9 P h1),e⟩
 oz:=fun n d α' G' F' H' st' x H'' s P S o hn y=>by
  obtain⟨vs,h1,h2⟩:=h α' G' st' s S o;obtain⟨v,e,r⟩:=h2.get hn;obtain⟨rfl,y⟩:=y;have:=y vs (.inl (i9 P h1));rw[e]at this;cases this;exact⟨G',Step.refl,P,S,r⟩
theorem Iz{K:PySem.W.Frag}{a:Addr}{α:List (Option Addr)}{G:Hp}{ok:af->Prop}{xs:List D}
 (h:∀α' G' st',Step α G α' G'->aO α' st' G'->ok st'->∃vs,G' a=some (.tup vs)/\aG α' G' xs vs):tW (JW K a) α G ok xs where
 stop:=fun n α' G' F' H' st' s P S o hn=>by
  obtain⟨vs,h1,h2⟩:=h α' G' st' s S o;exact⟨vs,.of (P.get h1),by rw[<-h2.length];exact hn⟩
 go:=fun n d α' G' F' H' st' s P S o hn=>by
  obtain⟨vs,h1,h2⟩:=h α' G' st' s S o;obtain⟨v,e,_⟩:=h2.get hn;exact⟨vs,v,.of (P.get h1),e⟩
 oz:=fun n d α' G' F' H' st' x H'' s P S o hn y=>by
  obtain⟨vs,h1,h2⟩:=h α' G' st' s S o;obtain⟨v,e,r⟩:=h2.get hn;obtain⟨rfl,y⟩:=y;have:=y vs (.of (P.get h1));rw[e]at this;cases this;exact⟨G',Step.refl,P,S,r⟩
theorem E2{α α':List (Option Addr)}{G G':Hp}{a:Addr}{vs:List V}{xs:List D}(s:Step α G α' G')(na:some a∉α)(h1:Rd G a (.lst vs))(h2:aG α G xs vs):Rd G' a (.lst vs)/\aG α' G' xs vs:=by
 refine⟨?_,h2.step s⟩;rcases h1 with h|⟨o,h⟩
 . exact .inl (s.ext _ _ na h)
 . exact .inr ⟨o,s.ext _ _ na h⟩
theorem JF{l tg:Expr}{tl:DE}(hl:PE X l (LE tl)):PI X tg l (LI (Mv tl)):=by
 intro pins s σ H R I h;obtain⟨α,σd,st,K,G,F,P,RS,S,t,k⟩:=h;refine bZ (hl pins s σ H (fun x H1=>∃d α1 G1 st1,Step α G α1 G1/\bW G1 F H1/\aO α1 st1 G1/\Rep α1 G1 d x/\ye d st1 K) I ⟨α,σd,st,_,G,F,P,RS,S,t,fun d st1 q α1 G1 H1 v s1 P1 S1 r1=>⟨d,α1,G1,st1,s1,P1,S1,r1,q⟩⟩) fun v s1 ⟨x,H1,I1,rx,d,α1,G1,st1,s1',P1,S1,r1,q⟩=>?_;unfold ye at q
 have viaL:∀ {a:Addr} {vs:List V},x= .ref a->Rd H1 a (.lst vs)->R (Ku X.K a) H1->wpAny (model X.prog X.w) X.A (pyIter v) (Fw X pins σ tg R) X.xe s1:=by
  intro a vs ex hr hR;subst ex;cases rx;obtain⟨its,rv,p,hz⟩:=I1.list (.inl hr);refine wpAny_pyIter_list p.isList ?_;refine⟨s1.heap.objs.size,[s1.heap.objs.size],_,_,H1,rfl,I1.kept (t':=s1.toks) fun b o e=>Heap.get?_push_of_some _ e,CN a _,⟨_,Heap.get?_push_size _ rfl,rfl,rfl⟩,fun b hb=>?_,hR⟩;have e:b=s1.heap.objs.size:=by simpa using hb
  subst e;exact I1.uh (Nat.le_refl _) (I1.aI.fresh (Nat.le_refl _))
 have viaT:∀ {a:Addr} {vs:List V},x= .ref a->H1 a=some (.tup vs)->R (JW X.K a) H1->wpAny (model X.prog X.w) X.A (pyIter v) (Fw X pins σ tg R) X.xe s1:=by
  intro a vs ex hr hR;subst ex;cases rx;obtain⟨its,rv,p,hz⟩:=I1.tuple (ik.of hr);refine wpAny_pyIter_tuple (show s1.heap.IsTuple a its.toArray from p) ?_;refine⟨s1.heap.objs.size,[s1.heap.objs.size],_,_,H1,rfl,I1.kept (t':=s1.toks) fun b o e=>Heap.get?_push_of_some _ e,Bp a _,⟨_,Heap.get?_push_size _ rfl,rfl,rfl⟩,fun b hb=>?_,hR⟩;have e:b=s1.heap.objs.size:=by simpa using hb
  subst e;exact I1.uh (Nat.le_refl _) (I1.aI.fresh (Nat.le_refl _))
 cases d<;>try exact q.elim
 . rename_i n;simp only at q;split at q
   . rename_i xs e;obtain⟨a,ea,vs,h1,h2⟩:=S1.jZ e;have r1':=fH ea r1;subst r1';refine viaL rfl (i9 P1 (.of h1)) (k _ _ st1 q _ α1 G1 H1 s1' P1 S1 (zV fun α' G' st' s S o=>?_));obtain⟨b,eb,ws,g1,g2⟩:=S.jZ o
     have hb:b=a:=by
      rcases s.pre _ _ ea with z|z<;>(rw[z]at eb;cases eb)
      rfl
     subst hb;exact⟨ws,.of g1,g2⟩
   . exact q.elim
 . unfold Rep at r1;obtain⟨a,vs,rfl,na,ha,ra⟩:=r1;exact viaL rfl (i9 P1 ha) (k _ _ st1 q _ α1 G1 H1 s1' P1 S1 (zV fun α' G' st' s S o=>⟨vs,E2 s na ha ra⟩))
 . unfold Rep at r1;obtain⟨a,vs,rfl,na,ha,ra⟩:=r1;exact viaT rfl (P1.get ha) (k _ _ st1 q _ α1 G1 H1 s1' P1 S1 (Iz fun α' G' st' s S o=>⟨vs,s.ext _ _ na ha,ra.step s⟩))
def d_(lo:Int)(n:Nat):List D:=(List.range n).map fun(k:Nat)=>D.int (lo+(k:Int))
theorem uW{lo:Int}{n k:Nat}:(d_ lo n)[k]?=if k<n then some (.int (lo+(k:Int)))else none:=by
 unfold d_;rw[List.getElem?_map];by_cases h:k<n
 . rw[List.getElem?_range h,if_pos h];rfl
 . rw[List.getElem?_eq_none (by simpa using h),if_neg h];rfl
theorem gK{lo:Int}{n:Nat}:(d_ lo n).length=n:=by unfold d_;simp
theorem xT{α:List (Option Addr)}{G:Hp}{lo:Int}{n:Nat}:tW (wm lo n) α G (fun _=>True) (d_ lo n) where
 stop:=fun m α' G' F' H' st' s P S o hn=>by rw[gK]at hn;exact hn
 go:=fun m d α' G' F' H' st' s P S o hn=>by
  rw[uW]at hn;split at hn
  . assumption
  . cases hn
 oz:=fun m d α' G' F' H' st' x H'' s P S o hn y=>by
  obtain⟨rfl,rfl⟩:=y;rw[uW]at hn;split at hn
  . cases hn;exact⟨G',Step.refl,P,S,by unfold Rep;rfl⟩
  . cases hn
theorem PI.imp{tg iter:Expr}{t t':TI}(h:PI X tg iter t)(f:∀σ H R,t' σ H R->t σ H R):PI X tg iter t':=fun pins s σ H R I q=>h pins s σ H R I (f σ H R q)
def FT(ds:List D)(st1:af)(K:List D->(af->Prop)->af->Prop):Prop:=match ds with
 | [.int j]=>(-(2^62)<=j/\j<2^62)/\K (d_ 0 j.toNat) (fun _=>True) st1
 |_=>False
def FV(ds:List D)(st1:af)(K:List D->(af->Prop)->af->Prop):Prop:=match ds with
 | [.int i,.int j]=>(-(2^62)<=i/\i<2^62/\ -(2^62)<=j/\j<2^62)/\K (d_ i (j-i).toNat) (fun _=>True) st1
 |_=>False
def HS(t:DA):DI:=fun σ st K=>t σ st fun ds st1=>FT ds st1 K
def Gs(t:DA):DI:=fun σ st K=>t σ st fun ds st1=>FV ds st1 K
theorem BZ{tg iter:Expr}{t:DA}(h:PI X tg iter (AD (LA t))):PI X tg iter (LI (HS t)):=PI.imp h fun σ H R ⟨α,σd,st,K,G,F,P,RS,S,t,k⟩=>by
 refine⟨α,σd,st,_,G,F,P,RS,S,t,fun ds st1 q α1 G1 H1 vs s1 P1 S1 r1=>?_⟩;match ds,q,r1 with
 | [.int j],q,r1=>
   obtain⟨v,rfl,r2⟩:=iu r1 rfl;unfold Rep at r2;subst r2;exact⟨j,rfl,q.1.1,q.1.2,k _ _ st1 q.2 _ α1 G1 H1 s1 P1 S1 xT⟩
theorem DN{tg iter:Expr}{t:DA}(h:PI X tg iter (AU (LA t))):PI X tg iter (LI (Gs t)):=PI.imp h fun σ H R ⟨α,σd,st,K,G,F,P,RS,S,t,k⟩=>by
 refine⟨α,σd,st,_,G,F,P,RS,S,t,fun ds st1 q α1 G1 H1 vs s1 P1 S1 r1=>?_⟩;match ds,q,r1 with
 | [.int i,.int j],q,r1=>
   obtain⟨v,u,rfl,r2,r3⟩:=sv r1 rfl;unfold Rep at r2 r3;subst r2 r3;exact⟨i,j,rfl,q.1,k _ _ st1 q.2 _ α1 G1 H1 s1 P1 S1 xT⟩
def jq(tg:gh)(body:DS)(ok:af->Prop)(E:m7):List D->bR->af->Prop
 | [],σ,st=>ok st/\E.nx σ st
 |x::xs,σ,st=>ok st/\∃σ1,tg x σ=some σ1/\body {E with nx:=jq tg body ok E xs,ct:=jq tg body ok E xs,bk:=E.nx} σ1 st
def lF(src:DI)(tg:gh)(body:DS):DS:=fun D σ st=>src σ st fun xs ok st1=>jq tg body ok D xs σ st1
theorem Il{src:DI}{tg:gh}(h:PS X st (JX (LI src) (LG tg) (LS t))):PS X st (LS (lF src tg t)):=PS.imp h fun D σ H ⟨α,σd,st,DD,G,F,P,R,S,tt,k⟩=>by
 refine⟨α,σd,st,_,G,F,P,R,S,tt,fun xs ok st1 q J α1 G1 H1 s1 P1 S1 it=>?_⟩;refine⟨fun i m σ' H'=>∃α' σd' st' G',Step α1 G1 α' G'/\bW G' F H'/\dU α' G' σd' σ'/\aO α' st' G'/\jq tg t ok DD (xs.drop i) σd' st'/\m=xs.length-i,⟨xs.length,α1,σd,st1,G1,Step.refl,P1,R.step s1,S1,q,rfl⟩,?_⟩;rintro i m σ2 H2 ⟨α2,σd2,st2,G2,s2,P2,R2,S2,q2,rfl⟩;cases e:xs[i]? with
 |none=>
  have hl:xs.length<=i:=List.getElem?_eq_none_iff.mp e;rw[List.drop_eq_nil_of_le hl]at q2;unfold jq at q2;exact .inl ⟨it.stop i α2 G2 F H2 st2 s2 P2 S2 q2.1 hl,((k.nx.at s1).at s2).here P2 q2.2 R2 S2⟩
 |some d=>
  have hl:i<xs.length:=(List.getElem?_eq_some_iff.mp e).1
  have ed:xs.drop i=d::xs.drop (i+1):=by
   rw[List.drop_eq_getElem_cons hl];congr 1;rw[List.getElem?_eq_getElem hl]at e;exact Option.some.inj e
  rw[ed]at q2;unfold jq at q2;obtain⟨aI,σ3,e3,q3⟩:=q2;refine .inr ⟨it.go i d α2 G2 F H2 st2 s2 P2 S2 aI e,fun σ' H'=>∃α' σd' st' G',Step α1 G1 α' G'/\bW G' F H'/\dU α' G' σd' σ'/\aO α' st' G'/\jq tg t ok DD (xs.drop (i+1)) σd' st',?_,?_⟩
  . rintro σ' H' ⟨α',σd',st',G',z1,z2,z3,z4,z5⟩;exact⟨xs.length-(i+1),by omega,α',σd',st',G',z1,z2,z3,z4,z5,rfl⟩
  . intro x H' y;obtain⟨G3,s3,P3,S3,r3⟩:=it.oz i d α2 G2 F H2 st2 x H' s2 P2 S2 aI e y;refine⟨α2,σd2,st2,d,fun σ' st'=>σ'=σ3/\st'=st2,G3,F,P3,R2.step s3,S3,r3,⟨σ3,e3,rfl,rfl⟩,?_⟩;rintro σ' st' ⟨rfl,rfl⟩ α4 G4 H4 σ4 s4 P4 R4 S4;have s24:=(s2.trans s3).trans s4;refine⟨α4,σ',st',_,G4,F,P4,R4,S4,q3,?_,((k.rt.at s1).at s24),(k.nx.at s1).at s24,?_⟩
    . intro σd5 st5 q5 α5 G5 H5 σ5 s5 P5 R5 S5;exact⟨α5,σd5,st5,G5,s24.trans s5,P5,R5,S5,q5⟩
    . intro σd5 st5 q5 α5 G5 H5 σ5 s5 P5 R5 S5;exact⟨α5,σd5,st5,G5,s24.trans s5,P5,R5,S5,q5⟩
end
def g9(fr:List (Option Nat))(σ:bR):bR:=fr.map fun o=>o.bind fun j=>(σ[j]?).join
theorem dU.comp{α:List (Option Addr)}{G:Hp}{σd:bR}{σ:L2.St}{fr:List (Option Nat)}(h:dU α G σd σ):dU α G (g9 fr σd) (σC fr σ):=by
 refine⟨by unfold g9 σC;simp,fun i d e=>?_⟩;unfold g9 at e;rw[List.getElem?_map]at e;cases q:fr[i]? with
 |none=>rw[q]at e;cases e
 |some o=>
  rw[q]at e;cases o with
  |none=>simp at e
  |some j=>
   simp only[Option.map_some,Option.some.injEq,Option.bind_some]at e
   have ej:σd[j]?=some (some d):=by
    cases r:σd[j]? with
    |none=>rw[r]at e;cases e
    |some u=>rw[r]at e;simp at e;rw[e]
   obtain⟨v,ev,rv⟩:=h.at' j d ej;refine⟨v,?_,rv⟩;unfold σC;rw[List.getElem?_map,q];simp[ev]
def dc(tg:gh)(c:DT)(te:DE)(ok:af->Prop)(σc:bR):List D->List D->af->(List D->af->Prop)->Prop
 | [],acc,st,K=>ok st/\K acc st
 |x::xs,acc,st,K=>ok st/\∃σ2,tg x σc=some σ2/\c σ2 st fun b st1=>if b=true then te σ2 st1 fun y st2=>dc tg c te ok σc xs (acc++[y]) st2 K else dc tg c te ok σc xs acc st1 K
def dz(src:DI)(fr:List (Option Nat))(tg:gh)(c:DT)(te:DE):DE:=fun σ st K=>src σ st fun xs ok st1=>xs.length<=sizeLine/\dc tg c te ok (g9 fr σ) xs [] st1 fun ys st2=>K (.lst ys) st2
def kD(src:DI)(fr:List (Option Nat))(tg:gh)(c:DT)(te:DE):DE:=fun σ st K=>src σ st fun xs ok st1=>xs.length<=sizeLine/\dc tg c te ok (g9 fr σ) xs [] st1 fun ys st2=>K (.ref st2.length) (st2++[.lst ys])
def cB:DT:=fun _ st K=>K true st
def qj(fr:List (Option Nat))(tg:gh):Prop:=∀(σ:bR) (d:D) (σ2:bR),tg d (g9 fr σ)=some σ2->σ2.length=(g9 fr σ).length/\∀(i:Nat) (e:D),(g9 fr σ)[i]?=some (some e)->σ2[i]?=some (some e)
theorem qA{fr:List (Option Nat)}{σ:bR}{k:Nat}(h:fr[k]?=some none){e:D}(q:(g9 fr σ)[k]?=some (some e)):False:=by
 unfold g9 at q;rw[List.getElem?_map,h]at q;simp at q
theorem cx{fr:List (Option Nat)}{k:Nat}(h:fr[k]?=some none:=by rfl):qj fr (cj k):=fun σ d σ2 e=>by
 cases e;refine⟨List.length_set,fun i x q=>?_⟩;by_cases hi:i=k
 . subst hi;exact(qA h q).elim
 . rw[List.getElem?_set_ne (Ne.symm hi)];exact q
theorem rX{fr:List (Option Nat)}{k j:Nat}(h:fr[k]?=some none:=by rfl)(h':fr[j]?=some none:=by rfl):qj fr (kH k j):=fun σ d σ2 e=>by
 unfold kH at e;split at e
 . cases e;refine⟨by rw[List.length_set,List.length_set],fun i x q=>?_⟩;by_cases hi:i=k
   . subst hi;exact(qA h q).elim
   . by_cases hj:i=j
     . subst hj;exact(qA h' q).elim
     . rw[List.getElem?_set_ne (Ne.symm hj),List.getElem?_set_ne (Ne.symm hi)];exact q
 . cases e
section
variable {X:Cx}
theorem JN{c:Expr}{t:DT}(h:PT X c (LT t)):qH X [c] (LT t):=HW h
theorem Ep:qH X [] (LT cB):=fun pins s σ H Q I ⟨α,σd,st,K,G,F,P,R,S,t,k⟩=>GZ pins s σ H Q I (k true st t α G H Step.refl P S)
theorem LE.comp{src:DI}{fr:List (Option Nat)}{tg:gh}{c:DT}{te:DE}(fit:qj fr tg){σ:L2.St}{H:Hp}{Q:VK}{α:List (Option Addr)}{σd:bR}{st:af}{KE:List D->af->Prop}{G F:Hp}(P:bW G F H)(R:dU α G σd σ)(S:aO α st G)
 (t:src σd st fun xs ok st1=>xs.length<=sizeLine/\dc tg c te ok (g9 fr σd) xs [] st1 KE)
 (fin:∀ys st2 α2 G2 H2 l vs,KE ys st2->Step α G α2 G2->bW G2 (upd F l (.lst vs)) H2->F l=none->aO α2 st2 G2->aG α2 G2 ys vs->Q (.ref l) H2):
 sf (LI src) fr (LG tg) (LT c) (LE te) σ H Q:=by
 refine⟨α,σd,st,_,G,F,P,R,S,t,fun xs ok st1 q J α1 G1 H1 s1 P1 S1 it l hl=>?_⟩;obtain⟨hsz,q⟩:=q;obtain⟨hG,hF⟩:=P1.none hl
 refine⟨fun i m σ' H'=>∃α' st' G' acc vs,Step α1 G1 α' G'/\bW G' (upd F l (.lst vs)) H'/\dU α' G' (g9 fr σd) σ'/\aO α' st' G'/\aG α' G' acc vs/\acc.length<=i/\i<=xs.length/\dc tg c te ok (g9 fr σd) (xs.drop i) acc st' KE/\m=xs.length-i,
  ⟨xs.length,α1,st1,G1,[],[],Step.refl,P1.hide hl,(R.step s1).comp,S1,by unfold aG;rfl,Nat.le_refl _,Nat.zero_le _,q,rfl⟩,?_⟩
 rintro i m σ2 H2 ⟨α2,st2,G2,acc,vs,s2,P2,R2,S2,ra,hacc,hi,q2,rfl⟩;cases e:xs[i]? with
 |none=>
  have hl2:xs.length<=i:=List.getElem?_eq_none_iff.mp e;rw[List.drop_eq_nil_of_le hl2]at q2;unfold dc at q2;exact .inl ⟨it.stop i α2 G2 _ H2 st2 s2 P2 S2 q2.1 hl2,fin acc st2 α2 G2 H2 l vs q2.2 (s1.trans s2) P2 hF S2 ra⟩
 |some d=>
  have hl2:i<xs.length:=(List.getElem?_eq_some_iff.mp e).1
  have ed:xs.drop i=d::xs.drop (i+1):=by
   rw[List.drop_eq_getElem_cons hl2];congr 1;rw[List.getElem?_eq_getElem hl2]at e;exact Option.some.inj e
  rw[ed]at q2;unfold dc at q2;obtain⟨aI,σ3,e3,q3⟩:=q2;refine .inr ⟨it.go i d α2 G2 _ H2 st2 s2 P2 S2 aI e,fun σ' H'=>∃α' st' G' acc vs,Step α1 G1 α' G'/\bW G' (upd F l (.lst vs)) H'/\dU α' G' (g9 fr σd) σ'/\aO α' st' G'/\aG α' G' acc vs/\acc.length<=i+1/\dc tg c te ok (g9 fr σd) (xs.drop (i+1)) acc st' KE,?_,?_⟩
  . rintro σ' H' ⟨α',st',G',acc',vs',z1,z2,z3,z4,z5,z6,z7⟩;exact⟨xs.length-(i+1),by omega,α',st',G',acc',vs',z1,z2,z3,z4,z5,z6,hl2,z7,rfl⟩
  . intro x H' y;obtain⟨G3,s3,P3,S3,r3⟩:=it.oz i d α2 G2 _ H2 st2 x H' s2 P2 S2 aI e y;refine⟨α2,g9 fr σd,st2,d,fun σ' st'=>σ'=σ3/\st'=st2,G3,_,P3,R2.step s3,S3,r3,⟨σ3,e3,rfl,rfl⟩,?_⟩;rintro σ' st' ⟨rfl,rfl⟩ α4 G4 H4 σ4 s4 P4 R4 S4;have s24:=(s2.trans s3).trans s4;have Rc:dU α4 G4 (g9 fr σd) σ4:=⟨by rw[<-(fit σd d σ' e3).1];exact R4.len,fun j z hz=>R4.at' j z ((fit σd d σ' e3).2 j z hz)⟩
    refine⟨α4,σ',st',_,G4,_,P4,R4,S4,q3,fun b st5 q5 α5 G5 H5 s5 P5 S5=>?_⟩;cases b with
    |false=>exact⟨α5,st5,G5,acc,vs,s24.trans s5,P5,Rc.step s5,S5,((ra.step s3).step s4).step s5,by omega,q5⟩
    |true=>
     refine⟨α5,σ',st5,_,G5,_,P5,R4.step s5,S5,q5,fun z st6 q6 α6 G6 H6 v6 s6 P6 S6 r6=>?_⟩;have hr:=(((ra.step s3).step s4).step s5).step s6;refine⟨vs,(P6.frame aV).1,by rw[<-hr.length];omega,α6,st6,G6,acc++[z],vs++[v6],(s24.trans s5).trans s6,?_,(Rc.step s5).step s6,S6,bh.mpr (gw (bh.mp hr) (.cons r6 .nil)),by rw[List.length_append,List.length_singleton];omega,q6⟩;have:=P6.C3 (p:=l) (o':= .lst (vs++[v6])) aV;rw[Hl]at this;exact this
theorem J6{scope:Scope}{Nc:List Str}{elt tg iter:Expr}{ifs:List Expr}{pos:Pos}{src:DI}{fr:List (Option Nat)}{dtg:gh}{c:DT}{te:DE}(S:bq X scope Nc fr)(hi:PI X tg iter (LI src))
 (hg:∀C s H ex,PG (fD X scope Nc C s H ex) tg (LG dtg)) (ht:∀C s H ex,qH (fD X scope Nc C s H ex) ifs (LT c)) (he:∀C s H ex,PE (fD X scope Nc C s H ex) elt (LE te)) (fit:qj fr dtg)
 (hx:X.xe=fun _ _=>False:=by rfl) (hc:X.calm=true:=by rfl) (hs:∀x,foldedSetIterable iter X.env x=pure x:=by intro _;rfl):PE X (.ListComp elt [⟨tg,iter,ifs,0⟩] scope pos) (LE (dz src fr dtg c te)):=
 PE.imp (z8 hx hc S hi hg ht he hs) fun σ H Q ⟨α,σd,st,K,G,F,P,R,S,t,k⟩=>LE.comp fit P R S t fun ys st2 α2 G2 H2 l vs q s2 P2 hl S2 r=>by
  have hg:G2 l=none:=(P2.frame aV).2;refine k _ st2 q α2 (upd G2 l (.lst vs)) H2 (.ref l) (s2.trans (Step.laid hg)) (P2.show hl) (S2.laid hg) ?_;unfold Rep;exact⟨l,vs,rfl,S2.kI hg,.of aV,r.step (Step.laid hg)⟩
theorem Gy{scope:Scope}{Nc:List Str}{elt tg iter:Expr}{ifs:List Expr}{pos:Pos}{src:DI}{fr:List (Option Nat)}{dtg:gh}{c:DT}{te:DE}(S:bq X scope Nc fr)(hi:PI X tg iter (LI src))
 (hg:∀C s H ex,PG (fD X scope Nc C s H ex) tg (LG dtg)) (ht:∀C s H ex,qH (fD X scope Nc C s H ex) ifs (LT c)) (he:∀C s H ex,PE (fD X scope Nc C s H ex) elt (LE te)) (fit:qj fr dtg)
 (hx:X.xe=fun _ _=>False:=by rfl) (hc:X.calm=true:=by rfl) (hs:∀x,foldedSetIterable iter X.env x=pure x:=by intro _;rfl):PE X (.ListComp elt [⟨tg,iter,ifs,0⟩] scope pos) (LE (kD src fr dtg c te)):=
 PE.imp (z8 hx hc S hi hg ht he hs) fun σ H Q ⟨α,σd,st,K,G,F,P,R,S,t,k⟩=>LE.comp fit P R S t fun ys st2 α2 G2 H2 l vs q s2 P2 hl S2 r=>by
  have hg:G2 l=none:=(P2.frame aV).2;refine k _ _ q (α2++[some l]) (upd G2 l (.lst vs)) H2 (.ref l) (s2.trans (Step.cell hg)) (P2.show hl) (S2.cell hg ⟨vs,aV,r.step (Step.cell hg)⟩) ?_;unfold Rep;refine .inr ⟨l,?_,rfl⟩;rw[List.getElem?_append_right (by rw[S2.len];exact Nat.le_refl _),S2.len,Nat.sub_self];rfl
theorem Hv{st:Stmt}{k:Nat}{src:DI}{fr:List (Option Nat)}{dtg:gh}{c:DT}{te:DE}(fit:qj fr dtg)(h:PS X st (mJ (sf (LI src) fr (LG dtg) (LT c) (LE te)) (lQ k))):PS X st (LS (cv k (dz src fr dtg c te))):=
 PS.imp h fun D σ H ⟨α,σd,st,DD,G,F,P,R,S,t,q⟩=>LE.comp fit P R S t fun ys st2 α2 G2 H2 l vs qq s2 P2 hl S2 r=>by
  have hg:G2 l=none:=(P2.frame aV).2;have s3:=s2.trans (Step.laid (o:= .lst vs) hg);refine q.nx _ st2 qq α2 (upd G2 l (.lst vs)) H2 _ s3 (P2.show hl) ((R.step s3).set k ?_) (S2.laid hg);unfold Rep;exact⟨l,vs,rfl,S2.kI hg,.of aV,r.step (Step.laid hg)⟩
theorem Eh{st:Stmt}{k:Nat}{src:DI}{fr:List (Option Nat)}{dtg:gh}{c:DT}{te:DE}(fit:qj fr dtg)(h:PS X st (mJ (sf (LI src) fr (LG dtg) (LT c) (LE te)) (lQ k))):PS X st (LS (cv k (kD src fr dtg c te))):=
 PS.imp h fun D σ H ⟨α,σd,st,DD,G,F,P,R,S,t,q⟩=>LE.comp fit P R S t fun ys st2 α2 G2 H2 l vs qq s2 P2 hl S2 r=>by
  have hg:G2 l=none:=(P2.frame aV).2;have s3:=s2.trans (Step.cell (o:= .lst vs) hg);refine q.nx _ _ qq (α2++[some l]) (upd G2 l (.lst vs)) H2 _ s3 (P2.show hl) ((R.step s3).set k ?_) (S2.cell hg ⟨vs,aV,r.step (Step.cell hg)⟩);unfold Rep;refine .inr ⟨l,?_,rfl⟩;rw[List.getElem?_append_right (by rw[S2.len];exact Nat.le_refl _),S2.len,Nat.sub_self];rfl
def bj(N:List Str)(ds:List D):bR:=ds.map some++List.replicate (N.length-ds.length) none
theorem dU.start{α:List (Option Addr)}{G:Hp}{N:List Str}{ds:List D}{vs:List V}(r:aG α G ds vs):dU α G (bj N ds) (L2.start N vs):=by
 have hl:=r.length;refine⟨by unfold bj L2.start;simp[hl],fun i d e=>?_⟩;unfold bj at e;by_cases hi:i<ds.length
 . rw[List.getElem?_append_left (by simpa using hi),List.getElem?_map]at e;cases q:ds[i]? with
   |none=>rw[q]at e;cases e
   |some x=>
    rw[q]at e;cases e;obtain⟨v,ev,rv⟩:=r.get q;refine⟨v,?_,rv⟩;unfold L2.start;rw[List.getElem?_append_left (by rw[List.length_map];omega),List.getElem?_map,ev];rfl
 . rw[List.getElem?_append_right (by simpa using hi),List.getElem?_replicate]at e;split at e<;>cases e
theorem KI{P:Program}{w:World}{K:PySem.W.Frag}{mg:Str->Option Value}{base:Heap}{x qual:Str}{st:Stmt}{f:Addr}{fd:FuncData}{N ps:List Str}{k:Nat}{sp:cV}{t:DS}(F:nM K x qual st f fd)(S:ba N ps (ai st))
 (hbody:∀(cdv:Value) (A:Around) (outer:List Env) (s:Shared) (H:Hp) (E:XK),cR k (A.deeper (envOfC qual (ai st) s.heap.objs.size f cdv))->ij (pE cW P w K mg base N qual (ai st) f cdv A outer s H E).uR (g8 st) (LS t))
 (hsp:∀ds st K,sp ds st K->ds.length=ps.length/\t {nx:=fun _ st'=>K .aM st',rt:=K} (bj N ds) st):bH P w K mg base cW (k+1) f fd ps (c8 sp):=by
 refine F.ok S (fun vs H Q E h=>?_) fun cdv A outer s H vs Q E hr h=>⟨_,hbody cdv A outer s H E hr,?_⟩
 . obtain⟨α,ds,st,K,G,F,P,r,S,q,k⟩:=h;rw[<-r.length];exact(hsp ds st K q).1
 . obtain⟨α,ds,st,K,G,F,P,r,S,q,k⟩:=h;refine⟨α,bj N ds,st,_,G,F,P,dU.start r,S,(hsp ds st K q).2,?_,k,?_,?_⟩
   . intro σd' st' kk α' G' H' σ' s' P' R' S';exact k .aM st' kk α' G' H' .aM s' P' S' (by unfold Rep;rfl)
   . intro σd' st' kk;exact kk.elim
   . intro σd' st' kk;exact kk.elim
def ph(to te:DE):DE:=fun σ st K=>to σ st fun x st1=>match x with
 | .ref n=>(match st1[n]? with
   |some (.lst _)=>te σ st1 fun y st2=>∃y',[y]=[y']/\(match st2[n]? with|some (.lst xs)=>xs.length<sizeLine/\K .aM (st2.set n (.lst (xs++[y'])))|_=>False)
   |_=>False)
 |_=>False
end
structure c_(K:PySem.W.Frag)(mg:Str->Option Value)(x qual:Str)(st:Stmt)(ps:List Str)(f:Addr)(fd:FuncData):Prop where
 fn:nM K x qual st f fd
 mg:mg x=some (.ref f)
 bd:Binds K fd ps []
def uE(sc:Scope)(N:List Str)(scope:Scope)(Nc:List Str)(fr:List (Option Nat)):Bool:=
 (scope.kind== .function)&&scope.names.all (fun x=>x.2 != .cell||scope.names.lookup x.1==some .cell)&&scope.names.all (fun x=>x.2 != .local||scope.names.lookup x.1==some .local)&&
 scope.names.all (fun x=>x.2 != .free||sc.names.lookup x.1==some .cell||sc.names.lookup x.1==some .free)&&(fr.length==Nc.length)&&
 (List.range fr.length).all fun i=>match fr[i]?,Nc[i]? with
   |some (some j),some x=>(N[j]?==some x)&&(scope.names.lookup x==some .free)&&(sc.names.lookup x==some .cell||sc.names.lookup x==some .free)
   |_,_=>true
theorem bq.look{X:Cx}{scope:Scope}{Nc:List Str}{fr:List (Option Nat)}(sc:Scope)(N:List Str)(h:uE sc N scope Nc fr=true)(hsc:X.env.scope=sc:=by rfl)(hN:X.N=N:=by rfl):bq X scope Nc fr:=by
 unfold uE at h;simp only[Bool.and_eq_true]at h;obtain⟨⟨⟨⟨⟨h1,h2⟩,h3⟩,h4⟩,h5⟩,h6⟩:=h;subst hsc hN;refine⟨by simpa using h1,fun x hx hk=>?_,fun x hx hk=>?_,fun x hx hk=>?_,by simpa using h5,fun i j x e1 e2=>?_⟩
 . have:=List.all_eq_true.mp h2 x hx;rw[hk]at this;simpa using this
 . have:=List.all_eq_true.mp h3 x hx;rw[hk]at this;simpa using this
 . have:=List.all_eq_true.mp h4 x hx;rw[hk]at this;have z:X.env.scope.names.lookup x.1=some .cell\/X.env.scope.names.lookup x.1=some .free:=by simpa using this
   exact z
 . have hi:i<fr.length:=(List.getElem?_eq_some_iff.mp e2).1;have:=List.all_eq_true.mp h6 i (List.mem_range.mpr hi);rw[e1,e2]at this;simp only[Bool.and_eq_true,Bool.or_eq_true,beq_iff_eq]at this;exact⟨this.1.1,this.1.2,this.2⟩
section
variable {X:Cx}
theorem NG{e:Expr}{es:List Expr}{pos p:Pos}{x:Str}{id:String}{r:gM}{t:DA}(hc:cm X (.builtin id) (jo r))(ha:PA X (e::es) (LA t))(hm:X.mg x=none)(hv:bootBuiltins x=some (.builtin id))(hg:Gl X x:=by rfl)(hn:x≠"__name__":=by decide)(hdb:(x==("__debug__":Str))=false:=by decide)
 (he:starEach (e::es) X.env=(false,eval e X.env)::starEach es X.env:=by rfl) (hpl:(backTo pos (starEach es X.env)).any (·.1)=false:=by rfl):PE X (.Call (.Name x p) (e::es) [] pos) (LE (cy r t)):=PE.imp (Eb hc hg hm hv ha hn hdb he hpl) fun _ _ _ h=>LE.cb h
theorem M3{e:Expr}{es:List Expr}{pos p:Pos}{x:Str}{T:String}{r:gM}{t:DA}(hc:cm X (.type T) (jo r))(ha:PA X (e::es) (LA t))(hm:X.mg x=none)(hv:bootBuiltins x=some (.type T))(hg:Gl X x:=by rfl)(hn:x≠"__name__":=by decide)(hdb:(x==("__debug__":Str))=false:=by decide)
 (he:starEach (e::es) X.env=(false,eval e X.env)::starEach es X.env:=by rfl) (hpl:(backTo pos (starEach es X.env)).any (·.1)=false:=by rfl):PE X (.Call (.Name x p) (e::es) [] pos) (LE (cy r t)):=PE.imp (BO hc hg hm hv ha hn hdb he hpl) fun _ _ _ h=>LE.cb h
theorem M8{e:Expr}{es:List Expr}{pos p:Pos}{x qual:Str}{st:Stmt}{ps:List Str}{f:Addr}{fd:FuncData}{k:Nat}{S:cV}{t:DA}(A:c_ X.K X.mg x qual st ps f fd)(F:bH X.prog X.w X.K X.mg X.base cW k f fd ps (c8 S))(hr:cR k X.A)
 (ha:PA X (e::es) (LA t)) (hg:Gl X x:=by rfl) (hdb:(x==("__debug__":Str))=false:=by decide) (he:starEach (e::es) X.env=(false,eval e X.env)::starEach es X.env:=by rfl) (hpl:(backTo pos (starEach es X.env)).any (·.1)=false:=by rfl):
 PE X (.Call (.Name x p) (e::es) [] pos) (LE (aL S t)):=Im F hr hg A.mg A.fn.kp A.bd ha hdb he hpl
theorem LE.append{to te:DE}{σ:L2.St}{H:Hp}{Q:VK}(h:LE (ph to te) σ H Q):MT X.K "list" zL (LE to) (LA (ae te ak)) σ H Q:=by
 obtain⟨α,σd,st,K,G,F,P,R,S,t,k⟩:=h;refine⟨α,σd,st,_,G,F,P,R,S,t,fun x st1 q α1 G1 H1 v s1 P1 S1 r1=>?_⟩;cases x<;>try exact q.elim
 rename_i n;simp only at q;split at q
 . rename_i ys e;obtain⟨p,ep,vs,h1,h2⟩:=S1.jZ e;have r1':=fH ep r1;subst r1';refine⟨.inl ⟨rfl,vs,.inl (.of (P1.get h1))⟩,α1,σd,st1,fun ds st2=>∃y,ds=[y]/\(match st2[n]? with|some (.lst xs)=>xs.length<sizeLine/\K .aM (st2.set n (.lst (xs++[y])))|_=>False),G1,F,P1,R.step s1,S1,?_,?_⟩
   . refine Eq.mp ?_ q;rfl
   . rintro ds st2 ⟨y,rfl,q2⟩ α2 G2 H2 ws s2 P2 S2 r2;obtain⟨w,rfl,rw'⟩:=iu r2 rfl;split at q2
     . rename_i xs e2;obtain⟨p2,ep2,us,g1,g2⟩:=S2.jZ e2
       have:p2=p:=by
        rcases s2.pre _ _ ep with z|z<;>(rw[z]at ep2;cases ep2)
        rfl
       subst this;have hm:some p2∈α2:=List.mem_of_getElem? ep2;refine⟨p2,us,w,rfl,rfl,P2.get g1,by rw[<-g2.length];exact q2.1,?_⟩;refine((k.at s1).at s2) _ _ q2.2 α2 (upd G2 p2 (.lst (us++[w]))) _ .aM (Step.write hm) (P2.write g1) ?_ (by unfold Rep;rfl);exact S2.write ep2 ⟨us++[w],aV,(bh.mpr (gw (bh.mp g2) (.cons rw' .nil))).step (Step.write hm)⟩
     . exact q2.elim
 . exact q.elim
theorem E_{o e:Expr}{to te:DE}{apos cpos:Pos}(ho:PE X o (LE to))(he:PE X e (LE te))(hbase:attributeBase o "append" X.env (eval o X.env)=eval o X.env:=by rfl)
 (hfew:((backTo cpos (starEach [e] X.env)).all (fun x=> !x.1)&&(backToKw cpos (keywordEach [] X.env)).all (fun x=>x.1.isSome)
   &&decide (([e]:List Expr).length+([]:List Keyword).length+(if([]:List Keyword).isEmpty then 0 else 1)<30))=true:=by rfl)
 (hline:(apos.endLine==cpos.line)=true:=by rfl) (hs:starEach [e] X.env=(false,eval e X.env)::starEach [] X.env:=by rfl) (hplain:(backTo cpos (starEach [] X.env)).any (·.1)=false:=by rfl):PE X (.Call (.Attribute o "append" apos) [e] [] cpos) (LE (ph to te)):=
 PE.imp (L0 PySem.F.plainAttrs_list PySem.F.slot_list_append PySem.F.type_list_append wc ho (vg he yP hs) hbase hfew hline hs hplain) fun _ _ _ h=>LE.append h
end
end L3
namespace L3
open PySem L2
open PySem.Spec hiding items?
open PyProof.Rows hiding St
section
variable {X:Cx}
@[irreducible] def fL:eE:=Fs
theorem gf:cF X (binaryOp .Add) (LR fL):=by unfold fL;exact Mc
@[irreducible] def vC:eE:=Fm
theorem FO:cF X (binaryOp .Sub) (LR vC):=by unfold vC;exact Lk
@[irreducible] def eW:eE:=F_
theorem gL:cF X (binaryOp .Mult) (LR eW):=by unfold eW;exact Mu
@[irreducible] def sE:eE:=DJ
theorem Dl:cF X (binaryOp .FloorDiv) (LR sE):=by unfold sE;exact Kn
@[irreducible] def mF:eE:=FF
theorem ow:cF X (binaryOp .Mod) (LR mF):=by unfold mF;exact Lj
@[irreducible] def vj:eE:=FR
theorem Mr:cF X (binaryOp .Pow) (LR vj):=by unfold vj;exact KJ
@[irreducible] def wg:eE:=IY
theorem Nd:cF X (compareOp .Lt) (LR wg):=by unfold wg;exact Nz
@[irreducible] def qZ:eE:=JK
theorem Bb:cF X (compareOp .Gt) (LR qZ):=by unfold qZ;exact Nl
@[irreducible] def zP:eE:=Ji
theorem NM:cF X (compareOp .GtE) (LR zP):=by unfold zP;exact Nb
@[irreducible] def tD:eE:=Io
theorem EX:cF X (compareOp .NotEq) (LR tD):=by unfold tD;exact Nw
@[irreducible] def mR:eE:=Kx
theorem rG{k:Nat}(hr:cR k X.A):cF X (compareOp .Eq) (LR mR):=by unfold mR;exact NJ hr
@[irreducible] def jK:yl:=FK
theorem Ll:zW X (unaryOp .USub) (FW jK):=by unfold jK;exact Mw
@[irreducible] def bN:eE:=pP
theorem Nt{a b:Expr}{ta tb:DE}{pos:Pos}(ha:PE X a (LE ta))(hb:PE X b (LE tb))(hs:r_ b:=by intro _ _;rfl):PE X (.Subscript a b pos) (LE (aE bN ta tb)):=by unfold bN;exact M7 ha hb hs
@[irreducible] def fm:gM:=xC
theorem eS:cm X (.builtin "len") (jo fm):=by unfold fm;exact Lu
@[irreducible] def vm:gM:=AQ
theorem FA:cm X (.builtin "abs") (jo vm):=by unfold vm;exact Lm
@[irreducible] def yY:gM:=Bg
theorem L4(hc:X.calm=true):cm X (.builtin "min") (jo yY):=by unfold yY;exact Lp hc
@[irreducible] def vz:gM:=AM
theorem La:cm X (.type "int") (jo vz):=by unfold vz;exact Lr
@[irreducible] def c7:gM:=se
theorem de:cm X (.type "tuple") (jo c7):=by unfold c7;exact Hg
@[irreducible] def oA:gM:=uN
theorem uM:cm X (.type "list") (jo oA):=by unfold oA;exact Jb
@[irreducible] def oP:gM:=r9
theorem zS:cm X (.type "list") (jo oP):=by unfold oP;exact GS
@[irreducible] def yT:gM:=xo
theorem Ma(hc:X.calm=true):cm X (.builtin "all") (jo yT):=by unfold yT;exact KO hc
@[irreducible] def rD:D->af->(List D->(af->Prop)->af->Prop)->Prop:=ye
def fx(t:DE):DI:=fun σ st K=>t σ st fun d st1=>rD d st1 K
theorem Jj{l tg:Expr}{tl:DE}(hl:PE X l (LE tl)):PI X tg l (LI (fx tl)):=by unfold fx rD;exact JF hl
@[irreducible] def xq:List D->af->(List D->(af->Prop)->af->Prop)->Prop:=FT
@[irreducible] def w_:List D->af->(List D->(af->Prop)->af->Prop)->Prop:=FV
def fB(t:DA):DI:=fun σ st K=>t σ st fun ds st1=>xq ds st1 K
def pv(t:DA):DI:=fun σ st K=>t σ st fun ds st1=>w_ ds st1 K
theorem DP{tg iter:Expr}{t:DA}(h:PI X tg iter (AD (LA t))):PI X tg iter (LI (fB t)):=by unfold fB xq;exact BZ h
theorem Dz{tg iter:Expr}{t:DA}(h:PI X tg iter (AU (LA t))):PI X tg iter (LI (pv t)):=by unfold pv w_;exact DN h
@[irreducible] def t9:D->D->D->af->(af->Prop)->Prop:=xV
def fw(to ti te:DE):DS:=fun D σ st=>te σ st fun d st1=>to σ st1 fun x st2=>ti σ st2 fun y st3=>t9 x y d st3 fun st4=>D.nx σ st4
theorem yh{st:Stmt}{to ti te:DE}(h:PS X st (mJ (LE te) (vN (LE to) (LE ti) rT))):PS X st (LS (fw to ti te)):=by unfold fw t9;exact E1 h
end
section
variable {st:af}{K:DK}{i j:Int}{b c:Bool}{xs ys:List D}{d e:D}{n:Nat}
theorem gO(k:K (.int (i+j)) st):fL (.int i) (.int j) st K:=by unfold fL;exact k
theorem sr(h:xs.length+ys.length<=sizeLine)(k:K (.tup (xs++ys)) st):fL (.tup xs) (.tup ys) st K:=by unfold fL;exact⟨h,k⟩
theorem BF(k:K (.int (i-j)) st):vC (.int i) (.int j) st K:=by unfold vC;exact⟨trivial,k⟩
theorem fV(h:IntMulOk i j)(k:K (.int (i*j)) st):eW (.int i) (.int j) st K:=by unfold eW;exact⟨h,k⟩
theorem HK(h: -(2^63)<=i/\i<2^63/\xs.length*i.toNat<=sizeLine)(k:K (.lst (List.replicate i.toNat xs).flatten) st):eW (.lst xs) (.int i) st K:=by unfold eW;exact⟨h,k⟩
theorem Hw(h: -(2^63)<=i/\i<2^63/\xs.length*i.toNat<=sizeLine)(k:K (.tup (List.replicate i.toNat xs).flatten) st):eW (.tup xs) (.int i) st K:=by unfold eW;exact⟨h,k⟩
theorem zI(h0:j≠0)(h:j.natAbs.log2<9000)(k:K (.int (i.fdiv j)) st):sE (.int i) (.int j) st K:=by unfold sE;exact⟨⟨h0,h⟩,k⟩
theorem mh(h0:j≠0)(k:K (.int (i.fmod j)) st):mF (.int i) (.int j) st K:=by unfold mF;exact⟨h0,k⟩
theorem Jp(h:E8 i j)(k:K (.int (i^j.toNat)) st):vj (.int i) (.int j) st K:=by unfold vj;exact⟨h,k⟩
theorem Fg(k:K (.bl (decide (i<j))) st):wg (.int i) (.int j) st K:=by unfold wg;exact⟨trivial,k⟩
theorem AW(k:K (.bl (decide (j<i))) st):qZ (.int i) (.int j) st K:=by unfold qZ;exact⟨trivial,k⟩
theorem LU(k:K (.bl (decide (j<=i))) st):zP (.int i) (.int j) st K:=by unfold zP;exact⟨trivial,k⟩
theorem FH(k:K (.bl (!decide (i=j))) st):tD (.int i) (.int j) st K:=by unfold tD;exact k
theorem Bu(h1:pl 40 d=true)(h2:pl 40 e=true)(k:K (.bl (cU d e)) st):mR d e st K:=by unfold mR;exact⟨h1,h2,k⟩
theorem Gj(a b:Int):(a==b)=decide (a=b):=by
 by_cases h:a=b
 . subst h;simp
 . simp[h]
theorem Dn(k:K (.bl (decide (i=j))) st):mR (.int i) (.int j) st K:=by
 refine Bu rfl rfl ?_;have:cU (.int i) (.int j)=decide (i=j):=by unfold cU;exact Gj i j
 rw[this];exact k
theorem ji(k:K (.int (-i)) st):jK (.int i) st K:=by unfold jK;exact k
theorem EV(h:items? st d=some xs)(a:eQ xs i=some e)(k:K e st):pP d (.int i) st K:=by
 cases d<;>unfold items? at h<;>first
  |(cases h;done)
  |(cases h;simp only[pP,a];exact k)
  |(simp only at h
    split at h
    . rename_i q;cases h;simp only[pP,q,a];exact k
    . cases h)
theorem aU(h:items? st d=some xs)(a:eQ xs i=some e)(k:K e st):bN d (.int i) st K:=by unfold bN;exact EV h a k
theorem dG(h:items? st d=some xs)(k:K (.int xs.length) st):fm [d] st K:=by
 unfold fm xC;split
 . rename_i z;cases z;cases h
 . rename_i z;cases z;rw[h];exact k
 . rename_i z1 z2;exact absurd rfl (z2 d)
theorem HJ(i:Int):(if i<0 then-i else i)=((i.natAbs:Nat):Int):=by split<;>omega
theorem BV(k:K (.int ((i.natAbs:Nat):Int)) st):vm [.int i] st K:=by unfold vm;show K (.int (if i<0 then-i else i)) st;rw[HJ];exact k
theorem Km(k:K (.int (if j<i then j else i)) st):yY [.int i,.int j] st K:=by unfold yY;exact k
theorem GO(k:K (.int (if b then 1 else 0)) st):vz [.bl b] st K:=by unfold vz;exact k
theorem cM(h:items? st d=some xs)(k:K (.tup xs) st):c7 [d] st K:=by unfold c7 se;simp only[h];exact k
theorem sD(h:items? st d=some xs)(k:K (.lst xs) st):oA [d] st K:=by unfold oA uN;simp only[h];exact k
theorem yV(h:items? st d=some xs)(k:K (.ref st.length) (st++[.lst xs])):oP [d] st K:=by unfold oP r9;simp only[h];exact k
theorem Jy{bs:List Bool}(h:mq xs=some bs)(k:K (.bl (bs.all id)) st):yT [.lst xs] st K:=by unfold yT xo;simp only[h];exact k
theorem nW{K:List D->(af->Prop)->af->Prop}(h:items? st d=some xs)(k:∀ok:af->Prop,ok st->K xs ok st):rD d st K:=by
 unfold rD ye
 cases d<;>unfold items? at h<;>first
  |(cases h;done)
  |(cases h;exact k _ trivial)
  |(simp only at h
    split at h
    . rename_i q;cases h;simp only[q];exact k _ q
    . cases h)
theorem zZ{K:List D->(af->Prop)->af->Prop}(k:K xs (fun _=>True) st):rD (.lst xs) st K:=by unfold rD;exact k
theorem kq{K:List D->(af->Prop)->af->Prop}(k:K xs (fun _=>True) st):rD (.tup xs) st K:=by unfold rD;exact k
theorem ie{K:List D->(af->Prop)->af->Prop}(h: -(2^62)<=j/\j<2^62)(k:K (d_ 0 j.toNat) (fun _=>True) st):xq [.int j] st K:=by unfold xq;exact⟨h,k⟩
theorem zY{K:List D->(af->Prop)->af->Prop}(h: -(2^62)<=i/\i<2^62/\ -(2^62)<=j/\j<2^62)(k:K (d_ i (j-i).toNat) (fun _=>True) st):w_ [.int i,.int j] st K:=by unfold w_;exact⟨h,k⟩
theorem fU{K:af->Prop}{m:Nat}(h:st[n]?=some (.lst xs))(e:nU xs.length i=some m)(k:K (st.set n (.lst (xs.set m d)))):t9 (.ref n) (.int i) d st K:=by unfold t9 xV;simp only[h,e];exact k
end
def Co(K:PySem.W.Frag):Bool:=K.all fun p=>p.2.cls != .type "list"
theorem tF{a:Addr}{o:Obj}:∀ {l:List (Addr×Obj)},l.lookup a=some o->(a,o)∈l
 | [],h=>by cases h
 |(b,u)::r,h=>by
  rw[List.lookup_cons]at h;split at h
  . rename_i z;cases h;have:a=b:=by simpa using z
    subst this;exact List.mem_cons_self
  . exact List.mem_cons_of_mem _ (tF h)
theorem wN{K:PySem.W.Frag}(h:Co K=true){a:Addr}{o:Obj}(e:K.lookup a=some o):o.cls≠ .type "list":=by
 have:=List.all_eq_true.mp h (a,o) (tF e);simpa using this
theorem wG{α:List (Option Addr)}{G:Hp}:∀ns:List Int,aG α G (ns.map D.int) (ns.map V.int)
 | []=>by unfold aG;rfl
 |n::ns=>by
  rw[List.map_cons,List.map_cons];unfold aG;exact⟨_,_,rfl,by unfold Rep;rfl,wG ns⟩
def notStar:Expr->Bool
 | .Starred .. =>false
 |_=>true
theorem cE{e:Expr}{es:List Expr}{env:Env}(h:notStar e=true):starEach (e::es) env=(false,eval e env)::starEach es env:=by
 cases e<;>first|rfl|cases h
def hW:List Expr->Bool
 | []=>true
 |e::es=>notStar e&&hW es
theorem lh{pos:Pos}{env:Env}:∀ {es:List Expr},hW es=true->(backTo pos (starEach es env)).any (·.1)=false
 | [],_=>rfl
 |e::es,h=>by
  unfold hW at h;rw[Bool.and_eq_true]at h;rw[cE h.1];have ih:=lh (pos:=pos) (env:=env) h.2;unfold backTo at ih⊢;rw[List.map_cons,List.any_cons,ih];rfl
def ka:Expr->Bool
 | .Slice .. =>false
 |_=>true
def rJ:Expr->Bool
 | .Name .. =>true
 | .Call .. =>true
 | .Subscript .. =>true
 | .Attribute .. =>true
 |_=>false
def lI:Expr->Bool
 | .ListComp .. =>false
 | .SetComp .. =>false
 | .DictComp .. =>false
 |_=>true
section
variable {X:Cx}
theorem EM{b:Expr}(h:ka b=true):r_ b:=by
 intro o i;cases b<;>first|rfl|cases h
theorem By{e:Expr}(h:rJ e=true):∀whole,isTrue e X.env whole=(do let v <-whole;standAt e.pos;holding [v] (truthy v)):=by
 intro whole;cases e<;>first|(cases h;done)|rfl
theorem vF{e:Expr}{tg:Option Expr}{n:Nat}{env:Env}(h:lI e=true):swapsWith e tg n env=pure false:=by
 cases e<;>first|(cases h;done)|rfl
theorem E9{e:Expr}{es:List Expr}{te:DE}{tr:DA}(ha:PE X e (LE te))(hr:PA X es (LA tr))(hs:notStar e=true:=by rfl):PA X (e::es) (LA (ae te tr)):=vg ha hr (cE hs)
theorem LJ{e:Expr}{es:List Expr}{pos p:Pos}{x:Str}{id:String}{r:gM}{t:DA}(hc:cm X (.builtin id) (jo r))(ha:PA X (e::es) (LA t))(hm:X.mg x=none)(hv:bootBuiltins x=some (.builtin id))(hn:x≠"__name__")(hdb:(x==("__debug__":Str))=false)(hg:Gl X x:=by rfl)(hs:notStar e=true:=by rfl)(hs2:hW es=true:=by rfl):
 PE X (.Call (.Name x p) (e::es) [] pos) (LE (cy r t)):=NG hc ha hm hv hg hn hdb (cE hs) (lh hs2)
theorem Lv{e:Expr}{es:List Expr}{pos p:Pos}{x:Str}{T:String}{r:gM}{t:DA}(hc:cm X (.type T) (jo r))(ha:PA X (e::es) (LA t))(hm:X.mg x=none)(hv:bootBuiltins x=some (.type T))(hn:x≠"__name__")(hdb:(x==("__debug__":Str))=false)(hg:Gl X x:=by rfl)(hs:notStar e=true:=by rfl)(hs2:hW es=true:=by rfl):
 PE X (.Call (.Name x p) (e::es) [] pos) (LE (cy r t)):=M3 hc ha hm hv hg hn hdb (cE hs) (lh hs2)
theorem KY{e:Expr}{es:List Expr}{pos p:Pos}{x qual:Str}{st:Stmt}{ps:List Str}{f:Addr}{fd:FuncData}{k:Nat}{S:cV}{t:DA}(A:c_ X.K X.mg x qual st ps f fd)(F:bH X.prog X.w X.K X.mg X.base cW k f fd ps (c8 S))(hr:cR k X.A)
 (ha:PA X (e::es) (LA t)) (hdb:(x==("__debug__":Str))=false) (hg:Gl X x:=by rfl) (hs:notStar e=true:=by rfl) (hs2:hW es=true:=by rfl):
 PE X (.Call (.Name x p) (e::es) [] pos) (LE (aL S t)):=M8 A F hr ha hg hdb (cE hs) (lh hs2)
theorem Mm{a b:Expr}{ta tb:DE}{pos:Pos}(ha:PE X a (LE ta))(hb:PE X b (LE tb))(hs:ka b=true:=by rfl):PE X (.Subscript a b pos) (LE (aE bN ta tb)):=Nt ha hb (EM hs)
theorem Hz{e:Expr}{te:DE}(he:PE X e (LE te))(h:rJ e=true:=by rfl):PT X e (LT (ef te)):=Kw he (By h)
theorem EK{e:Expr}{te:DE}{pos:Pos}(he:PE X e (LE te))(h:lI e=true:=by rfl):PS X (.Expr e pos) (LS (eK te)):=GN he (vF h)
theorem HH{i:Nat}{x:Str}{e:Expr}{te:TE}{pos pos':Pos}(hN:X.N.Nodup)(hi:X.N[i]?=some x)(hx:Loc X.env.scope x)(he:PE X e te)(hf:X.fn x=true\/X.env.scope.names.lookup x=some .local:=by first|exact .inl rfl|exact .inr rfl)(h:lI e=true:=by rfl):
 PS X (.Assign [.Name x pos'] e pos) (mJ te (lQ i)):=Kj hN hi hx he (vF h) hf
theorem Hk{i:Nat}{x:Str}{pos:Pos}(hd:(x==("__debug__":Str))=false)(hcd:(x==("__classdict__":Str))=false)(hv:yQ X.env.scope x)(hN:X.N[i]?=some x:=by rfl):PE X (.Name x pos) (LE (ab i)):=KL (Ky hN hv hd hcd)
theorem JH{o i e:Expr}{to ti te:TE}{pos pos':Pos}(he:PE X e te)(ho:PE X o to)(hi:PE X i ti)(h1:lI e=true:=by rfl)(h2:ka i=true:=by rfl):PS X (.Assign [.Subscript o i pos'] e pos) (mJ te (vN to ti rT)):=
 xS he (uu ho hi set_list (by intro v;cases i<;>first|rfl|cases h2)) (by unfold swapsWithSole;exact vF h1) (by cases e<;>rfl) rfl
end
@[irreducible] def JE(X:Cx)(e:Expr)(t:DE):Prop:=PE X e (LE t)
@[irreducible] def JT(X:Cx)(e:Expr)(t:DT):Prop:=PT X e (LT t)
@[irreducible] def JA(X:Cx)(es:List Expr)(t:DA):Prop:=PA X es (LA t)
@[irreducible] def JS(X:Cx)(s:Stmt)(t:DS):Prop:=PS X s (LS t)
@[irreducible] def JB(X:Cx)(s:List Stmt)(t:DS):Prop:=ij X s (LS t)
@[irreducible] def JG(X:Cx)(e:Expr)(t:gh):Prop:=PG X e (LG t)
@[irreducible] def JI(X:Cx)(tg e:Expr)(t:DI):Prop:=PI X tg e (LI t)
@[irreducible] def JC(X:Cx)(es:List Expr)(t:DT):Prop:=qH X es (LT t)
section
variable {X:Cx}{a b c e o i:Expr}{es:List Expr}{ta tb tc te to ti:DE}{t u:DT}{ar:DA}{pos p pos':Pos}{s:Stmt}{ss:List Stmt}{T U:DS}
theorem CL{n:Nat}{x:Str}(hd:(x==("__debug__":Str))=false)(hcd:(x==("__classdict__":Str))=false)(hv:yQ X.env.scope x)(hN:X.N[n]?=some x:=by rfl):JE X (.Name x pos) (ab n):=by unfold JE;exact Hk hd hcd hv hN
theorem aB{k:Int}{j:Nat}:JE X (.Constant (.int k) j pos) (dC (.int k)):=by unfold JE;exact L_
theorem vP{k:Bool}{j:Nat}:JE X (.Constant (.bool k) j pos) (dC (.bl k)):=by unfold JE;exact Ny
theorem cn{op:Operator}{r:eE}(ho:cF X (binaryOp op) (LR r))(ha:JE X a ta)(hb:JE X b tb):JE X (.BinOp a op b pos) (aE r ta tb):=by unfold JE at*;exact M_ ho ha hb
theorem kJ(ha:JE X a ta):JE X (.UnaryOp .USub a pos) (oa jK ta):=by unfold JE at*;exact NI Ll ha
theorem FG{op:BoolOp}(ha:JE X a ta):JE X (.BoolOp op [a] pos) ta:=by unfold JE at*;exact Lf ha
theorem Kc(ha:JE X a ta)(hb:JE X (.BoolOp .Or (b::es) pos) tb):JE X (.BoolOp .Or (a::b::es) pos) (Bm ta tb):=by unfold JE at*;exact Nf ha hb
theorem sI{op:CmpOp}{r:eE}(ho:cF X (compareOp op) (LR r))(hm:behindInMarks op b=false)(ha:JE X a ta)(hb:JE X b tb):JE X (.Compare a [op] [b] pos) (aE r ta tb):=by unfold JE at*;exact LQ ho ha hb hm
theorem Fh(hc:JT X c t)(ha:JE X a ta)(hb:JE X b tb):JE X (.IfExp c a b pos) (FJ t ta tb):=by unfold JE at*;unfold JT at hc;exact Lq hc ha hb
theorem pH{n:Nat}(h:JA X es ar):JE X (.Tuple es n pos) (qd ar):=by unfold JE;unfold JA at h;exact LP h
theorem xl(h:JA X es ar):JE X (.List es pos) (vL ar):=by unfold JE;unfold JA at h;exact L7 h
theorem Aq(h:JA X es ar):JE X (.List es pos) (vU ar):=by unfold JE;unfold JA at h;exact Md h
theorem aj:JA X [] ak:=by unfold JA;exact yP
theorem aa(ha:JE X e te)(hr:JA X es ar)(hs:notStar e=true:=by rfl):JA X (e::es) (ae te ar):=by unfold JA at*;unfold JE at ha;exact E9 ha hr hs
theorem bp(ha:JE X a ta)(hb:JE X b tb)(hs:ka b=true:=by rfl):JE X (.Subscript a b pos) (aE bN ta tb):=by unfold JE at*;exact Mm ha hb hs
theorem fv{x:Str}{id:String}{r:gM}(hc:cm X (.builtin id) (jo r))(ha:JA X (e::es) ar)(hm:X.mg x=none)(hv:bootBuiltins x=some (.builtin id))(hn:x≠"__name__")(hdb:(x==("__debug__":Str))=false)(hg:Gl X x)(hs:notStar e=true:=by rfl)(hs2:hW es=true:=by rfl):JE X (.Call (.Name x p) (e::es) [] pos) (cy r ar):=by
 unfold JE;unfold JA at ha;exact LJ hc ha hm hv hn hdb hg hs hs2
theorem eR{x:Str}{T:String}{r:gM}(hc:cm X (.type T) (jo r))(ha:JA X (e::es) ar)(hm:X.mg x=none)(hv:bootBuiltins x=some (.type T))(hn:x≠"__name__")(hdb:(x==("__debug__":Str))=false)(hg:Gl X x)(hs:notStar e=true:=by rfl)(hs2:hW es=true:=by rfl):JE X (.Call (.Name x p) (e::es) [] pos) (cy r ar):=by
 unfold JE;unfold JA at ha;exact Lv hc ha hm hv hn hdb hg hs hs2
theorem bx{x qual:Str}{st:Stmt}{ps:List Str}{f:Addr}{fd:FuncData}{k:Nat}{S:cV}(A:c_ X.K X.mg x qual st ps f fd)(F:bH X.prog X.w X.K X.mg X.base cW k f fd ps (c8 S))(hr:cR k X.A)(ha:JA X (e::es) ar)(hdb:(x==("__debug__":Str))=false)(hg:Gl X x)(hs:notStar e=true:=by rfl)(hs2:hW es=true:=by rfl):
 JE X (.Call (.Name x p) (e::es) [] pos) (aL S ar):=by unfold JE;unfold JA at ha;exact KY A F hr ha hdb hg hs hs2
theorem Et{apos cpos:Pos}(ho:JE X o to)(he:JE X e te)(hbase:attributeBase o "append" X.env (eval o X.env)=eval o X.env:=by rfl)(hline:(apos.endLine==cpos.line)=true:=by rfl)(hs:notStar e=true:=by rfl):JE X (.Call (.Attribute o "append" apos) [e] [] cpos) (ph to te):=by
 unfold JE at*;refine E_ ho he hbase ?_ hline (cE hs) rfl;rw[cE hs];rfl
theorem g7{op:CmpOp}{r:eE}(ho:cF X (compareOp op) (LR r))(hm:behindInMarks op b=false)(ha:JE X a ta)(hb:JE X b tb):JT X (.Compare a [op] [b] pos) (ef (aE r ta tb)):=by unfold JE at*;unfold JT;exact JD ho ha hb hm
theorem xQ(ha:JT X a t):JT X (.UnaryOp .Not a pos) (uP t):=by unfold JT at*;exact IS ha
theorem qz(he:JE X e te)(h:rJ e=true:=by rfl):JT X e (ef te):=by unfold JT;unfold JE at he;exact Hz he h
theorem gy{l tg:Expr}(hl:JE X l ta):JI X tg l (fx ta):=by unfold JI;unfold JE at hl;exact Jj hl
theorem fW{tg:Expr}(hg:Gl X "range")(hm:X.mg "range"=none)(ha:JA X [a] ar)(hs:notStar a=true:=by rfl):JI X tg (.Call (.Name "range" p) [a] [] pos) (fB ar):=by unfold JI;unfold JA at ha;exact DP (Dh hg hm ha (cE hs))
theorem yf{tg:Expr}(hg:Gl X "range")(hm:X.mg "range"=none)(ha:JA X [a,b] ar)(hs:notStar a=true:=by rfl)(hs2:notStar b=true:=by rfl):JI X tg (.Call (.Name "range" p) [a,b] [] pos) (pv ar):=by unfold JI;unfold JA at ha;exact Dz (DH hg hm ha (by rw[cE hs,cE hs2];rfl) (cE hs2))
theorem d5{k:Nat}{x:Str}(hN:X.N.Nodup)(hx:Loc X.env.scope x)(hf:X.fn x=true\/X.env.scope.names.lookup x=some .local)(hi:X.N[k]?=some x:=by rfl):JG X (.Name x pos) (cj k):=by unfold JG;exact G0 (vI hN hi hx hf)
theorem su{k j n:Nat}{x y:Str}{px py:Pos}(hc:X.calm=true)(hN:X.N.Nodup)(hx:Loc X.env.scope x)(hf:X.fn x=true\/X.env.scope.names.lookup x=some .local)(hy:Loc X.env.scope y)(hg:X.fn y=true\/X.env.scope.names.lookup y=some .local)(hi:X.N[k]?=some x:=by rfl)(hj:X.N[j]?=some y:=by rfl):
 JG X (.Tuple [.Name x px,.Name y py] n pos) (kH k j):=by unfold JG;exact Kd (CP hc (pJ (vI hN hi hx hf) (pJ (vI hN hj hy hg) zQ)))
theorem cC:JC X [] cB:=by unfold JC;exact Ep
theorem Dj(h:JT X c t):JC X [c] t:=by unfold JC;unfold JT at h;exact JN h
theorem dF{scope:Scope}{Nc:List Str}{elt tg iter:Expr}{ifs:List Expr}{src:DI}{fr:List (Option Nat)}{dtg:gh}(S:bq X scope Nc fr)(hi:JI X tg iter src)(hg:∀C s H ex,JG (fD X scope Nc C s H ex) tg dtg)(ht:∀C s H ex,JC (fD X scope Nc C s H ex) ifs t)(he:∀C s H ex,JE (fD X scope Nc C s H ex) elt te)(fit:qj fr dtg)
 (hx:X.xe=fun _ _=>False:=by rfl) (hc:X.calm=true:=by rfl) (hs:∀x,foldedSetIterable iter X.env x=pure x:=by intro _;rfl):JE X (.ListComp elt [⟨tg,iter,ifs,0⟩] scope pos) (dz src fr dtg t te):=by
 unfold JE JI JG JC at*;exact J6 S hi hg ht he fit hx hc hs
theorem vt{scope:Scope}{Nc:List Str}{elt tg iter:Expr}{ifs:List Expr}{src:DI}{fr:List (Option Nat)}{dtg:gh}(S:bq X scope Nc fr)(hi:JI X tg iter src)(hg:∀C s H ex,JG (fD X scope Nc C s H ex) tg dtg)(ht:∀C s H ex,JC (fD X scope Nc C s H ex) ifs t)(he:∀C s H ex,JE (fD X scope Nc C s H ex) elt te)(fit:qj fr dtg)
 (hx:X.xe=fun _ _=>False:=by rfl) (hc:X.calm=true:=by rfl) (hs:∀x,foldedSetIterable iter X.env x=pure x:=by intro _;rfl):JE X (.ListComp elt [⟨tg,iter,ifs,0⟩] scope pos) (kD src fr dtg t te):=by
 unfold JE JI JG JC at*;exact Gy S hi hg ht he fit hx hc hs
theorem jR:JB X [] j5:=by unfold JB;exact GQ
theorem aK(h:JS X s T):JB X [s] T:=by unfold JB;unfold JS at h;exact HF h
theorem au(h:JS X s T)(h2:JB X ss U):JB X (s::ss) (aP T U):=by unfold JB at*;unfold JS at h;exact E3 h h2
theorem cG(h:JE X e te):JS X (.Return (some e) pos) (dJ te):=by unfold JS;unfold JE at h;exact Ii h
theorem dj(h:JE X e te)(hc:lI e=true:=by rfl):JS X (.Expr e pos) (eK te):=by unfold JS;unfold JE at h;exact EK h hc
theorem jY{x y:List Stmt}(hc:JT X c t)(ha:JB X x T)(hb:JB X y U):JS X (.If c x y pos) (ki t T U):=by unfold JS;unfold JB at*;unfold JT at hc;exact LF hc ha hb
theorem yR{x:List Stmt}(hc:JT X c t)(hb:JB X x T)(hx:X.xe=fun _ _=>False:=by rfl):JS X (.While c x [] pos) (ur t T):=by unfold JS;unfold JB at hb;unfold JT at hc;exact D7 (E6 (by rw[hx];exact PassesOwn.never) hc hb)
theorem k9{tg iter:Expr}{x:List Stmt}{src:DI}{dtg:gh}(hi:JI X tg iter src)(hg:JG X tg dtg)(hb:JB X x T)(hx:X.xe=fun _ _=>False:=by rfl)(hc:X.calm=true:=by rfl)(hs:∀x,foldedSetIterable iter X.env x=pure x:=by intro _;rfl):JS X (.For tg iter x [] pos) (lF src dtg T):=by
 unfold JS;unfold JI at hi;unfold JG at hg;unfold JB at hb;exact Il (JL (by rw[hx];exact PassesOwn.never) hc hi hg hb hs)
theorem bK{k:Nat}{x:Str}(hN:X.N.Nodup)(hx:Loc X.env.scope x)(he:JE X e te)(hf:X.fn x=true\/X.env.scope.names.lookup x=some .local:=by first|exact .inl rfl|exact .inr rfl)(h:lI e=true:=by rfl)(hi:X.N[k]?=some x:=by rfl):JS X (.Assign [.Name x pos'] e pos) (cv k te):=by
 unfold JS;unfold JE at he;exact Jx (HH hN hi hx he hf h)
theorem GV{scope:Scope}{Nc:List Str}{elt tg iter:Expr}{ifs:List Expr}{src:DI}{fr:List (Option Nat)}{dtg:gh}{k:Nat}{x:Str}(hN:X.N.Nodup)(hl:Loc X.env.scope x)(S:bq X scope Nc fr)(hi:JI X tg iter src)(hg:∀C s H ex,JG (fD X scope Nc C s H ex) tg dtg)(ht:∀C s H ex,JC (fD X scope Nc C s H ex) ifs t)(he:∀C s H ex,JE (fD X scope Nc C s H ex) elt te)(fit:qj fr dtg)
 (hf:X.fn x=true\/X.env.scope.names.lookup x=some .local:=by first|exact .inl rfl|exact .inr rfl) (hsw:swapsWith (.ListComp elt [⟨tg,iter,ifs,0⟩] scope p) (some (.Name x pos')) pos.line X.env=pure true:=by rfl) (hni:X.N[k]?=some x:=by rfl) (hx:X.xe=fun _ _=>False:=by rfl) (hc:X.calm=true:=by rfl) (hs:∀x,foldedSetIterable iter X.env x=pure x:=by intro _;rfl):
 JS X (.Assign [.Name x pos'] (.ListComp elt [⟨tg,iter,ifs,0⟩] scope p) pos) (cv k (dz src fr dtg t te)):=by
 unfold JS;unfold JE JI JG JC at*;exact Hv fit (zX hx hc S hi hg ht he hN hni hl hf hsw hs)
theorem yM{scope:Scope}{Nc:List Str}{elt tg iter:Expr}{ifs:List Expr}{src:DI}{fr:List (Option Nat)}{dtg:gh}{k:Nat}{x:Str}(hN:X.N.Nodup)(hl:Loc X.env.scope x)(S:bq X scope Nc fr)(hi:JI X tg iter src)(hg:∀C s H ex,JG (fD X scope Nc C s H ex) tg dtg)(ht:∀C s H ex,JC (fD X scope Nc C s H ex) ifs t)(he:∀C s H ex,JE (fD X scope Nc C s H ex) elt te)(fit:qj fr dtg)
 (hf:X.fn x=true\/X.env.scope.names.lookup x=some .local:=by first|exact .inl rfl|exact .inr rfl) (hsw:swapsWith (.ListComp elt [⟨tg,iter,ifs,0⟩] scope p) (some (.Name x pos')) pos.line X.env=pure true:=by rfl) (hni:X.N[k]?=some x:=by rfl) (hx:X.xe=fun _ _=>False:=by rfl) (hc:X.calm=true:=by rfl) (hs:∀x,foldedSetIterable iter X.env x=pure x:=by intro _;rfl):
 JS X (.Assign [.Name x pos'] (.ListComp elt [⟨tg,iter,ifs,0⟩] scope p) pos) (cv k (kD src fr dtg t te)):=by
 unfold JS;unfold JE JI JG JC at*;exact Eh fit (zX hx hc S hi hg ht he hN hni hl hf hsw hs)
theorem fT(he:JE X e te)(ho:JE X o to)(hi:JE X i ti)(h1:lI e=true:=by rfl)(h2:ka i=true:=by rfl):JS X (.Assign [.Subscript o i pos'] e pos) (fw to ti te):=by unfold JS;unfold JE at*;exact yh (JH he ho hi h1 h2)
theorem Kv{k:Nat}{x:Str}{op:Operator}{f:Int->Int->Int}(hN:X.N.Nodup)(hx:Loc X.env.scope x)(he:JE X e te)(ho:JJ X op (Kp f))(hf:X.fn x=true\/X.env.scope.names.lookup x=some .local:=by first|exact .inl rfl|exact .inr rfl)(hi:X.N[k]?=some x:=by rfl):JS X (.AugAssign (.Name x pos') op e pos) (AB k (zc f) te):=by
 unfold JS;unfold JE at he;exact IM (Ij hN hi hx he ho hf)
theorem CJ{k j kt k2:Nat}{x y:Str}{px py pt pt2:Pos}(hN:X.N.Nodup)(hij:k≠j)(hx:X.env.scope.names.lookup x=some .local)(hy:X.env.scope.names.lookup y=some .local)(ha:JA X [a,b] ar)
 (hw:swappedStores [.Tuple [.Name x px,.Name y py] kt pt] (.Tuple [a,b] k2 pt2) X.env=pure (some [x,y]):=by rfl) (hc:X.calm=true:=by rfl) (hi:X.N[k]?=some x:=by rfl) (hj:X.N[j]?=some y:=by rfl) (hs:swapsWithSole [.Tuple [.Name x px,.Name y py] kt pt] (.Tuple [a,b] k2 pt2) pos.line X.env=pure false:=by rfl):
 JS X (.Assign [.Tuple [.Name x px,.Name y py] kt pt] (.Tuple [a,b] k2 pt2) pos) (Bf k j ar):=by unfold JS;unfold JA at ha;exact JU (Kf hc hN hi hj hij hx hy ha hw hs)
end
theorem cH{P:Program}{w:World}{K:PySem.W.Frag}{mg:Str->Option Value}{base:Heap}{x qual:Str}{st:Stmt}{f:Addr}{fd:FuncData}{N ps:List Str}{k:Nat}{sp:cV}{t:DS}(F:nM K x qual st f fd)(S:ba N ps (ai st))
 (hbody:∀(cdv:Value) (A:Around) (outer:List Env) (s:Shared) (H:Hp) (E:XK),cR k (A.deeper (envOfC qual (ai st) s.heap.objs.size f cdv))->JB (pE cW P w K mg base N qual (ai st) f cdv A outer s H E).uR (g8 st) t)
 (hsp:∀ds st K,sp ds st K->ds.length=ps.length/\t {nx:=fun _ st'=>K .aM st',rt:=K} (bj N ds) st):bH P w K mg base cW (k+1) f fd ps (c8 sp):=by
 unfold JB at hbody;exact KI F S hbody hsp
end L3
namespace HT
open PySem PyProof.Rows
section
variable {prog:Program}{w:World}{A:Around}{E:Value->Shared->Prop}{s:Shared}
theorem qu{t sl:Addr}{items:Array Value}{vl vu:Value}{lo hi:Option Int}{Q:Value->Shared->Prop}(ht:IsTup s.heap t items)(hs:s.heap.IsSliceOf sl vl vu .none)(pl:IsPart vl lo)(pu:IsPart vu hi)
 (hw:bS items.size 0 lo=0/\bS items.size items.size hi=items.size) (h:Q (.ref t) s):wpAny (model prog w) A (getItem (.ref t) (.ref sl)) Q E s:=by
 obtain⟨os,hos,hcs,hds⟩:=id hs;have hTs:s.TypeIs (.ref sl) "slice":=⟨os,hos,hcs⟩
 unfold getItem;try with_reducible refine wpAny_holding ?_
 first|refine wpAny_bind (wpAny_pure ?_)|skip
 refine wpAny_bind (wpAny_sequenceKey ht.typeIs (by decide) ?_)
 refine wpAny_bind (wpAny_callSpecial?_slot (name:=Str.ofString "__getitem__") ht.typeIs PyProof.Rows.slot_tuple_getitem
  (wpAny_call_entry PyProof.Rows.slot_tuple_getitem ht.typeIs entry_tuple_getitem ?_ (args_tuple_getitem _ _)))
 show wpAny _ _ (Builtin.Tuple.tupleItemsOf (.ref t) >>= _) _ _ s;refine wpAny_bind (tupleItemsOf_ ht ?_);refine wpAny_bind (wpAny_typeOf hTs ?_);rw[if_pos (by decide)];refine wpAny_bind (n_ hs pl pu ?_)
 have hyes:(((bS items.size 0 lo:Nat):Int)==0&&(1:Int)==1&&(bS items.size items.size hi-bS items.size 0 lo)==items.size)=true:=by
  rw[hw.1,hw.2];simp
 show wpAny _ _ (if(((bS items.size 0 lo:Nat):Int)==0&&(1:Int)==1&&(bS items.size items.size hi-bS items.size 0 lo)==items.size)=true then _ else _) _ _ s;rw[if_pos hyes];refine wpAny_bind ?_;unfold Builtin.Tuple.tupleIsExact;exact wpAny_bind (wpAny_typeOf ht.typeIs (wpAny_pure (wpAny_bind (wpAny_rule (wpAny_pure ⟨_,rfl,wpAny_pure h⟩)))))
end
end HT
namespace L3
open PySem L2
open PySem.Spec hiding items?
open PyProof.Rows hiding St
abbrev DO:=bR->af->(Option Int->af->Prop)->Prop
def vJ:DO:=fun _ st K=>K none st
def As(t:DE):DO:=fun σ st K=>t σ st fun d st1=>match d with| .int i=>K (some i) st1|_=>False
def cutD(xs:List D)(lo hi:Option Int):List D:=(xs.drop (HT.bS xs.length 0 lo)).take (HT.bS xs.length xs.length hi-HT.bS xs.length 0 lo)
def ym(d:D)(lo hi:Option Int)(st:af)(K:DK):Prop:=match d with
 | .lst xs=>K (.lst (cutD xs lo hi)) st
 | .tup xs=>K (.tup (cutD xs lo hi)) st
 | .ref n=>(match st[n]? with|some (.lst xs)=>K (.lst (cutD xs lo hi)) st|_=>False)
 |_=>False
@[irreducible] def qY:D->Option Int->Option Int->af->DK->Prop:=ym
def x6(t:DE)(lo hi:DO):DE:=fun σ st K=>t σ st fun d st1=>lo σ st1 fun l st2=>hi σ st2 fun u st3=>qY d l u st3 K
theorem tI{α:List (Option Addr)}{G:Hp}{xs:List D}{vs:List V}{lo hi:Option Int}(r:aG α G xs vs):aG α G (cutD xs lo hi) (pD vs lo hi):=by
 unfold cutD pD;rw[<-r.length];exact bh.mpr (tH _ (tj _ (bh.mp r)))
def NV(α:List (Option Addr))(G F:Hp)(K:Option Int->af->Prop)(Q:Option Int->Hp->Prop):Prop:=∀o st',K o st'->∀α' G' H',Step α G α' G'->bW G' F H'->aO α' st' G'->Q o H'
inductive MC(t:DO)(σ:L2.St)(H:Hp)(Q:Option Int->Hp->Prop):Prop
 |mk (α:List (Option Addr)) (σd:bR) (st:af) (K:Option Int->af->Prop) (G F:Hp) (P:bW G F H) (R:dU α G σd σ) (S:aO α st G) (h:t σd st K) (k:NV α G F K Q):MC t σ H Q
def LO(t:DO):TO:=MC t
section
variable {X:Cx}
theorem PO.imp{e:Option Expr}{t t':TO}(h:PO X e t)(f:∀σ H Q,t' σ H Q->t σ H Q):PO X e t':=fun pins s σ H Q I q=>h pins s σ H Q I (f σ H Q q)
theorem HG:PO X none (LO vJ):=PO.imp HQ fun σ H Q ⟨α,σd,st,K,G,F,P,R,S,t,k⟩=>k none st t α G H Step.refl P S
theorem HR{e:Expr}{te:DE}(h:PE X e (LE te)):PO X (some e) (LO (As te)):=PO.imp (GF h) fun σ H Q ⟨α,σd,st,K,G,F,P,R,S,t,k⟩=>by
 refine⟨α,σd,st,_,G,F,P,R,S,t,fun d st1 q α1 G1 H1 v s1 P1 S1 r1=>?_⟩;cases d<;>try exact q.elim
 unfold Rep at r1;exact⟨_,r1,k _ st1 q α1 G1 H1 s1 P1 S1⟩
def Oh(x:V)(lo hi:Option Int)(H:Hp)(Q:VK):Prop:=∃α d st K G F,bW G F H/\Rep α G d x/\aO α st G/\qY d lo hi st K/\LK α G F K Q
theorem GP:BJ X (fun x lo hi H Q=>∃a xs,x= .ref a/\H a=some (.tup xs)/\((HT.bS xs.length 0 lo=0/\HT.bS xs.length xs.length hi=xs.length)->Q (.ref a) H)/\(¬(HT.bS xs.length 0 lo=0/\HT.bS xs.length xs.length hi=xs.length)->∀p,H p=none->Q (.ref p) (upd H p (.tup (pD xs lo hi))))):=by
 intro pins s σ H x v vl vu lo hi sl Q I rx hs pl pu h;obtain⟨a,xs,rfl,hx,q1,q2⟩:=h;by_cases hw:HT.bS xs.length 0 lo=0/\HT.bS xs.length xs.length hi=xs.length
 . cases rx;obtain⟨its,r,ht,hz⟩:=I.tuple (ik.of hx);have hlen:its.toArray.size=xs.length:=by rw[List.size_toArray];exact r.length.symm
   exact⟨"tuple",_,PyProof.Rows.slot_tuple_getitem.lookup,ht.typeIs,HT.qu ht hs pl pu (by rw[hlen];exact hw) ⟨.ref a,H,I,rfl,q1 hw⟩⟩
 . exact Iu pins s σ H _ v vl vu lo hi sl Q I rx hs pl pu ⟨a,xs,rfl,.of hx,hw,q2 hw⟩
theorem Di{xs:List D}{lo hi:Option Int}(hw:HT.bS xs.length 0 lo=0/\HT.bS xs.length xs.length hi=xs.length):cutD xs lo hi=xs:=by
 unfold cutD;rw[hw.1,hw.2];simp
theorem Jt:BJ X Oh:=by
 intro pins s σ H x v vl vu lo hi sl Q I rx hs pl pu ⟨α,d,st,K,G,F',P,r1,S,q,k⟩;unfold qY ym at q;cases d<;>try exact q.elim
 . rename_i n;simp only at q;split at q
   . rename_i xs e;obtain⟨a,ea,vs,h1,h2⟩:=S.jZ e;have r1':=fH ea r1;subst r1';exact Aj pins s σ H _ v vl vu lo hi sl Q I rx hs pl pu ⟨a,vs,rfl,.inl (.of (P.get h1)),fun p hp=>k.lst P q S (tI h2) hp⟩
   . exact q.elim
 . unfold Rep at r1;obtain⟨a,vs,rfl,na,ha,ra⟩:=r1;exact Aj pins s σ H _ v vl vu lo hi sl Q I rx hs pl pu ⟨a,vs,rfl,.inl (i9 P ha),fun p hp=>k.lst P q S (tI ra) hp⟩
 . rename_i xs;have r0:=r1;unfold Rep at r1;obtain⟨a,vs,rfl,na,ha,ra⟩:=r1;refine GP pins s σ H _ v vl vu lo hi sl Q I rx hs pl pu ⟨a,vs,rfl,P.get ha,fun hw=>?_,fun _ p hp=>k.tup P q S (tI ra) hp⟩;rw[<-ra.length]at hw;simp only at q;rw[Di hw]at q;exact k.here P q S r0
theorem GD{e:Expr}{lo hi:Option Expr}{te:DE}{tl th:DO}{p2 pos:Pos}(he:PE X e (LE te))(hl:PO X lo (LO tl))(hh:PO X hi (LO th)):PE X (.Subscript e (.Slice lo hi none p2) pos) (LE (x6 te tl th)):=PE.imp (Ea Jt he hl hh) fun σ H Q ⟨α,σd,st,K,G,F,P,R,S,t,k⟩=>by
 refine⟨α,σd,st,_,G,F,P,R,S,t,fun d st1 q α1 G1 H1 v s1 P1 S1 r1=>?_⟩;refine⟨α1,σd,st1,_,G1,F,P1,R.step s1,S1,q,fun l st2 q2 α2 G2 H2 s2 P2 S2=>?_⟩;refine⟨α2,σd,st2,_,G2,F,P2,(R.step s1).step s2,S2,q2,fun u st3 q3 α3 G3 H3 s3 P3 S3=>?_⟩;exact⟨α3,d,st3,K,G3,F,P3,(r1.step s2).step s3,S3,q3,((k.at s1).at s2).at s3⟩
@[irreducible] def JO(X:Cx)(e:Option Expr)(t:DO):Prop:=PO X e (LO t)
theorem GY:JO X none vJ:=by unfold JO;exact HG
theorem Gq{e:Expr}{te:DE}(h:JE X e te):JO X (some e) (As te):=by unfold JO;unfold JE at h;exact HR h
theorem GJ{e:Expr}{lo hi:Option Expr}{te:DE}{tl th:DO}{p2 pos:Pos}(he:JE X e te)(hl:JO X lo tl)(hh:JO X hi th):JE X (.Subscript e (.Slice lo hi none p2) pos) (x6 te tl th):=by unfold JE at*;unfold JO at*;exact GD he hl hh
end
theorem CD{st:af}{K:DK}{xs:List D}{lo hi:Option Int}{n:Nat}(h:st[n]?=some (.lst xs))(k:K (.lst (cutD xs lo hi)) st):qY (.ref n) lo hi st K:=by unfold qY ym;simp only[h];exact k
section
variable {prog:Program}{w:World}{A:Around}{E:Value->Shared->Prop}{s:Shared}
theorem AX{iT tp:Addr}{n:Nat}{its:Array Value}{v:Value}{Q:Value->Shared->Prop}(hI:s.heap.IsTupleIter iT tp n)(hT:s.heap.IsTuple tp its)(hv:its[n]?=some v)
 (q:∀g,g.IsTupleIter iT tp (n+1)->Heap.SameBut iT s.heap g->Q v {s with heap:=g}):wpAny (model prog w) A (Builtin.SmallTypes.nextOf (.ref iT)) Q E s:=by
 obtain⟨oI,eI,cI,dI⟩:=id hI;obtain⟨oT,eT,_,nT,dT⟩:=hT;unfold Builtin.SmallTypes.nextOf;refine wpAny_bind (wpAny_callSpecial?_slot (name:=Str.ofString "__next__") hI.typeIs F.slot_tuple_iterator_next (wpAny_call_entry F.slot_tuple_iterator_next hI.typeIs F.entry_tuple_iterator_next ?_ (F.args_tuple_iterator_next_1 _)));show wpAny _ _ (field (.ref iT) 0 >>= _) _ _ s;refine wpAny_bind (wpAny_field eI dI (x:= .ref tp) rfl ?_);show wpAny _ _ (if(Value.ref tp==Value.none)=true then _ else _) _ _ s;rw[if_neg (show¬((Value.ref tp==Value.none)=true)from Bool.false_ne_true)];show wpAny _ _ (field (.ref iT) 1 >>= _) _ _ s;refine wpAny_bind (wpAny_field eI dI (x:= .int n 0) rfl ?_);show wpAny _ _ (seqItems? (.ref tp) >>= _) _ _ s;refine wpAny_bind (wpAny_seqItems eT dT ?_);simp only[Int.toNat_natCast,hv];refine wpAny_bind (wpAny_setField eI dI (by simp) (wpAny_pure ⟨v,rfl,wpAny_pure (q _ ?_ (Heap.SameBut.update ..))⟩));refine⟨_,Heap.get?_update_self _ eI (Obj.isFreed_of_fields (Obj.data_mapFields dI _)),(Obj.cls_mapFields ..).trans cI,?_⟩;rw[Obj.data_mapFields dI];simp[rawInt]
theorem Cd{iT tp:Addr}{n:Nat}{its:Array Value}{Q:Value->Shared->Prop}(hh:A.handled=none)(hI:s.heap.IsTupleIter iT tp n)(hT:s.heap.IsTuple tp its)(hv:its[n]?=none)
 (q:∀g e,Heap.ExtBut iT s.heap g->(∃o,g.get? e=some o/\o.cls= .type "StopIteration")->E (.ref e) {s with heap:=g}):wpAny (model prog w) A (Builtin.SmallTypes.nextOf (.ref iT)) Q E s:=by
 obtain⟨oI,eI,cI,dI⟩:=id hI;obtain⟨oT,eT,_,nT,dT⟩:=hT;unfold Builtin.SmallTypes.nextOf;refine wpAny_bind (wpAny_callSpecial?_slot (name:=Str.ofString "__next__") hI.typeIs F.slot_tuple_iterator_next (wpAny_call_entry F.slot_tuple_iterator_next hI.typeIs F.entry_tuple_iterator_next ?_ (F.args_tuple_iterator_next_1 _)));show wpAny _ _ (field (.ref iT) 0 >>= _) _ _ s;refine wpAny_bind (wpAny_field eI dI (x:= .ref tp) rfl ?_);show wpAny _ _ (if(Value.ref tp==Value.none)=true then _ else _) _ _ s;rw[if_neg (show¬((Value.ref tp==Value.none)=true)from Bool.false_ne_true)];show wpAny _ _ (field (.ref iT) 1 >>= _) _ _ s;refine wpAny_bind (wpAny_field eI dI (x:= .int n 0) rfl ?_);show wpAny _ _ (seqItems? (.ref tp) >>= _) _ _ s;refine wpAny_bind (wpAny_seqItems eT dT ?_);simp only[Int.toNat_natCast,hv];refine wpAny_bind (wpAny_rule (wpAny_bind (wpAny_setField eI dI (by simp) ?_)));show wpAny _ _ (newExc (.type "StopIteration") [] >>= _) _ _ _;refine wpAny_bind ?_;simp only[newExc,newTuple];refine wpAny_bind (wpAny_newObj_type ?_ (by size_fits));refine wpAny_bind (m:=firstArgMember _ _) (wpAny_of_eq (a:=Value.none) (by first|rfl|(simp only[firstArgMember];rfl)) ?_);refine wpAny_newObj_type ?_ (by size_fits);simp only[raiseNew];refine wpAny_bind (wpAny_handled ?_);first|rw[show A.in1.handled=none from hh]|rw[hh]
 refine wpAny_bind (wpAny_pure (wpAny_throw ?_));exact q _ _ (((Heap.SameBut.update ..).extBut.push _).push _) ⟨_,Heap.get?_push_size _ rfl,rfl⟩
end
section
variable {st:af}{K:DK}{i j:Int}{b c:Bool}{xs ys:List D}{d e:D}{n:Nat}
theorem eqT(h:i=j)(k:K (.bl true) st):mR (.int i) (.int j) st K:=Dn (by rw[decide_eq_true h];exact k)
theorem NS(h:i≠j)(k:K (.bl false) st):mR (.int i) (.int j) st K:=Dn (by rw[decide_eq_false h];exact k)
theorem eq2(h1:i=j->K (.bl true) st)(h2:i≠j->K (.bl false) st):mR (.int i) (.int j) st K:=by
 by_cases h:i=j
 . exact eqT h (h1 h)
 . exact NS h (h2 h)
theorem neT(h:i≠j)(k:K (.bl true) st):tD (.int i) (.int j) st K:=FH (by rw[decide_eq_false h];exact k)
theorem Od(h:i=j)(k:K (.bl false) st):tD (.int i) (.int j) st K:=FH (by rw[decide_eq_true h];exact k)
theorem ne2(h1:i≠j->K (.bl true) st)(h2:i=j->K (.bl false) st):tD (.int i) (.int j) st K:=by
 by_cases h:i=j
 . exact Od h (h2 h)
 . exact neT h (h1 h)
theorem Ob(h:i<j)(k:K (.bl true) st):wg (.int i) (.int j) st K:=Fg (by rw[decide_eq_true h];exact k)
theorem NW(h:j<=i)(k:K (.bl false) st):wg (.int i) (.int j) st K:=Fg (by rw[decide_eq_false (by omega)];exact k)
theorem Oj(h1:i<j->K (.bl true) st)(h2:j<=i->K (.bl false) st):wg (.int i) (.int j) st K:=by
 by_cases h:i<j
 . exact Ob h (h1 h)
 . exact NW (by omega) (h2 (by omega))
theorem NZ(h:j<i)(k:K (.bl true) st):qZ (.int i) (.int j) st K:=AW (by rw[decide_eq_true h];exact k)
theorem N_(h:i<=j)(k:K (.bl false) st):qZ (.int i) (.int j) st K:=AW (by rw[decide_eq_false (by omega)];exact k)
theorem Jl(h1:j<i->K (.bl true) st)(h2:i<=j->K (.bl false) st):qZ (.int i) (.int j) st K:=by
 by_cases h:j<i
 . exact NZ h (h1 h)
 . exact N_ (by omega) (h2 (by omega))
theorem Oe{P:Prop}(h:xs.length<=1000)(k:P):xs.length<=sizeLine/\P:=⟨by rw[sizeLine_eq];omega,k⟩
theorem bJ{m:Nat}(h:m<=1000):m<=sizeLine:=by rw[sizeLine_eq];omega
theorem vK(h0:0<=i)(e:xs[i.toNat]?=some d):eQ xs i=some d:=by
 have:=iO e;rw[Int.toNat_of_nonneg h0]at this;exact this
theorem oY{m:Nat}(h0:0<=i)(h:i.toNat<m):nU m i=some i.toNat:=by
 unfold nU;have:i<(m:Int):=by omega
 simp[h0,this]
end
theorem nA{tg:gh}{body:DS}{ok:af->Prop}{E:m7}(I:List D->bR->af->Prop)(hend:∀σ st,I [] σ st->ok st/\E.nx σ st)
 (hstep:∀x xs σ st,I (x::xs) σ st->(∀σ' st',I xs σ' st'->jq tg body ok E xs σ' st')->ok st/\∃σ1,tg x σ=some σ1/\body {E with nx:=jq tg body ok E xs,ct:=jq tg body ok E xs,bk:=E.nx} σ1 st):
 ∀xs σ st,I xs σ st->jq tg body ok E xs σ st
 | [],σ,st,h=>by unfold jq;exact hend σ st h
 |x::xs,σ,st,h=>by unfold jq;exact hstep x xs σ st h fun σ' st' h'=>nA I hend hstep xs σ' st' h'
theorem gT{tg:gh}{c:DT}{te:DE}{ok:af->Prop}{σc:bR}{K:List D->af->Prop}(I:List D->List D->af->Prop)(hend:∀acc st,I [] acc st->ok st/\K acc st)
 (hstep:∀x xs acc st,I (x::xs) acc st->(∀acc' st',I xs acc' st'->dc tg c te ok σc xs acc' st' K)->ok st/\∃σ2,tg x σc=some σ2/\c σ2 st fun b st1=>if b=true then te σ2 st1 fun y st2=>dc tg c te ok σc xs (acc++[y]) st2 K else dc tg c te ok σc xs acc st1 K):
 ∀xs acc st,I xs acc st->dc tg c te ok σc xs acc st K
 | [],acc,st,h=>by unfold dc;exact hend acc st h
 |x::xs,acc,st,h=>by unfold dc;exact hstep x xs acc st h fun acc' st' h'=>gT I hend hstep xs acc' st' h'
theorem comp_map{tg:gh}{te:DE}{ok:af->Prop}{σc:bR}{st:af}{K:List D->af->Prop}{g:D->D}(aI:ok st)(xs:List D)(hx:∀x∈xs,∀K',K' (g x) st->∃σ2,tg x σc=some σ2/\te σ2 st K')(k:K (xs.map g) st):dc tg cB te ok σc xs [] st K:=by
 refine gT (fun r acc st'=>st'=st/\(∀x∈r,x∈xs)/\acc++r.map g=xs.map g) (fun acc st' h=>?_) (fun x r acc st' h next=>?_) xs [] st ⟨rfl,fun _ h=>h,rfl⟩
 . obtain⟨rfl,_,e⟩:=h;rw[List.map_nil,List.append_nil]at e;rw[e];exact⟨aI,k⟩
 . obtain⟨rfl,hm,e⟩:=h;obtain⟨σ2,e2,q⟩:=hx x (hm x List.mem_cons_self) (fun y st2=>dc tg cB te ok σc r (acc++[y]) st2 K) (next _ _ ⟨rfl,fun z hz=>hm z (List.mem_cons_of_mem _ hz),by rw[<-e];simp⟩);exact⟨aI,σ2,e2,q⟩
theorem nt{A B:DS}{E:m7}{σ:bR}{st:af}(J:bR->af->Prop)(h:∀nx,(∀σ' st',J σ' st'->nx σ' st')->A {E with nx:=nx} σ st)(k:∀σ' st',J σ' st'->B E σ' st'):aP A B E σ st:=h (B E) k
def Ju(n:Nat)(K:DK)(y:D)(st2:af):Prop:=∃y',[y]=[y']/\(match st2[n]? with|some (.lst xs)=>xs.length<sizeLine/\K .aM (st2.set n (.lst (xs++[y'])))|_=>False)
theorem pd{n:Nat}{K:DK}{y:D}{st:af}{xs:List D}(e:st[n]?=some (.lst xs))(h:xs.length<sizeLine)(k:K .aM (st.set n (.lst (xs++[y])))):Ju n K y st:=by
 refine⟨y,rfl,?_⟩;simp only[e];exact⟨h,k⟩
@[irreducible] def jE(to te:DE):DE:=ph to te
theorem q_{σ:bR}{st:af}{K:DK}{i n:Nat}{xs:List D}{te:DE}(ei:σ[i]?=some (some (.ref n)))(e:st[n]?=some (.lst xs))(h:te σ st (Ju n K)):jE (ab i) te σ st K:=by
 unfold jE ph ab;simp only[ei,e];exact h
theorem mz{X:Cx}{o e:Expr}{to te:DE}{apos cpos:Pos}(ho:JE X o to)(he:JE X e te)(hbase:attributeBase o "append" X.env (eval o X.env)=eval o X.env:=by rfl)(hline:(apos.endLine==cpos.line)=true:=by rfl)(hs:notStar e=true:=by rfl):JE X (.Call (.Attribute o "append" apos) [e] [] cpos) (jE to te):=by
 unfold jE;exact Et ho he hbase hline hs
@[irreducible] def rV(i:Nat)(t:DS):DS:=fun D σ st=>match σ[i]? with
 |some (some (.ref n))=>(match st[n]? with|some (.lst xs)=>t D (σ.set i (some (.lst xs))) (st.set n .dead)|_=>False)
 |_=>False
section
variable {X:Cx}
theorem ID{s:Stmt}{i:Nat}{t:DS}(h:PS X s (LS t)):PS X s (LS (rV i t)):=PS.imp h fun D σ H ⟨α,σd,st,DD,G,F,P,R,S,q,k⟩=>by
 unfold rV at q;split at q
 . rename_i n e;split at q
   . rename_i xs e2;have hn:n<st.length:=(List.getElem?_eq_some_iff.mp e2).1;obtain⟨v,ev,rv⟩:=R.at' i _ e;have R2:dU (α.set n none) G (σd.set i (some (.lst xs))) (σ.set i (some v)):=(R.step Step.ig).set i (S.HU e2 rv)
     have es:σ.set i (some v)=σ:=by
      refine List.ext_getElem? fun j=>?_;by_cases hj:i=j
      . subst hj;rw[List.getElem?_set_self (List.getElem?_eq_some_iff.mp ev).1,ev]
      . rw[List.getElem?_set_ne hj]
     rw[es]at R2;exact⟨α.set n none,_,_,DD,G,F,P,R2,S.ig hn,q,k.at Step.ig⟩
   . exact q.elim
 . exact q.elim
theorem Ir{s:Stmt}{i:Nat}{t:DS}(h:JS X s t):JS X s (rV i t):=by unfold JS at*;exact ID h
end
theorem IP{σ:bR}{st:af}{E:m7}{i n:Nat}{t:DS}{xs:List L3.D}(e:σ[i]?=some (some (.ref n)))(e2:st[n]?=some (.lst xs))(k:t E (σ.set i (some (.lst xs))) (st.set n .dead)):rV i t E σ st:=by
 unfold rV;simp only[e,e2];exact k
structure Src(P:Program)(w:World)(t a:Addr)(J:Nat->Heap->Prop)(us:Array Value):Prop where
 fr:∀n g k,J n g->(∀b,b=t\/b=a->∀o,g.get? b=some o->k.get? b=some o)->J n k
 lv:∀n g,J n g->(∃o,g.get? t=some o)/\∃o,g.get? a=some o
 nx:∀n (A:Around) (s:Shared) (Q:Value->Shared->Prop) (E:Value->Shared->Prop) v,J n s.heap->us[n]?=some v->(∀k,J (n+1) k->Heap.SameBut t s.heap k->Q v {s with heap:=k})->wpAny (model P w) A (Builtin.SmallTypes.nextOf (.ref t)) Q E s
 en:∀n (A:Around) (s:Shared) (Q:Value->Shared->Prop) (E:Value->Shared->Prop),A.handled=none->J n s.heap->us[n]?=none->(∀k e,Heap.ExtBut t s.heap k->(∃o,k.get? e=some o/\o.cls= .type "StopIteration")->E (.ref e) {s with heap:=k})->wpAny (model P w) A (Builtin.SmallTypes.nextOf (.ref t)) Q E s
section
variable {P:Program}{w:World}
theorem src_list(t a:Addr)(hne:a≠t)(us:Array Value):Src P w t a (fun n g=>g.IsListIter t a n/\g.IsList a us) us where
 fr:=fun n g k j kp=>⟨j.1.at fun o e=>kp t (.inl rfl) o e,j.2.at fun o e=>kp a (.inr rfl) o e⟩
 lv:=fun n g j=>⟨let⟨o,e,_⟩:=j.1;⟨o,e⟩,let⟨o,e,_⟩:=j.2;⟨o,e⟩⟩
 nx:=fun n A s Q E v j hv q=>wpAny_nextOf_list_item j.1 j.2 hv fun k jk sb=>q k ⟨jk,j.2.extBut sb.extBut hne⟩ sb
 en:=fun n A s Q E hh j hv q=>wpAny_nextOf_list_end hh j.1 j.2 hv q
theorem HI(t a:Addr)(hne:a≠t)(us:Array Value):Src P w t a (fun n g=>g.IsTupleIter t a n/\g.IsTuple a us) us where
 fr:=fun n g k j kp=>by
  obtain⟨⟨o,e,r⟩,⟨o2,e2,r2⟩⟩:=j;exact⟨⟨o,kp t (.inl rfl) o e,r⟩,⟨o2,kp a (.inr rfl) o2 e2,r2⟩⟩
 lv:=fun n g j=>⟨let⟨o,e,_⟩:=j.1;⟨o,e⟩,let⟨o,e,_⟩:=j.2;⟨o,e⟩⟩
 nx:=fun n A s Q E v j hv q=>AX j.1 j.2 hv fun k jk sb=>q k ⟨jk,j.2.extBut sb.extBut hne⟩ sb
 en:=fun n A s Q E hh j hv q=>Cd hh j.1 j.2 hv q
theorem Src.ext{t a c:Addr}{J:Nat->Heap->Prop}{us:Array Value}(S:Src P w t a J us){n:Nat}{g k:Heap}(j:J n g)(x:Heap.ExtBut c g k)(h1:c≠t)(h2:c≠a):J n k:=
 S.fr n g k j fun b hb o e=>x b o (by rcases hb with rfl|rfl;exact Ne.symm h1;exact Ne.symm h2) e
structure zJ(z ti to t1 t2 a1 a2:Addr):Prop where
 nd: [z,ti,to,t1,t2].Nodup
 a1:a1∉[z,ti,to,t1,t2]
 a2:a2∉[z,ti,to,t1,t2]
section
variable {z ti to t1 t2 a1 a2:Addr}
theorem zJ.n(D:zJ z ti to t1 t2 a1 a2):(ti≠z/\to≠z/\t1≠z/\t2≠z)/\(ti≠to/\ti≠t1/\ti≠t2)/\(to≠t1/\to≠t2)/\t1≠t2:=by
 have:=D.nd;simp only[List.nodup_cons,List.mem_cons,not_or,List.not_mem_nil,not_false_eq_true,and_true,List.nodup_nil]at this;obtain⟨⟨b1,b2,b3,b4⟩,⟨b5,b6,b7⟩,⟨b8,b9⟩,b10⟩:=this;exact⟨⟨Ne.symm b1,Ne.symm b2,Ne.symm b3,Ne.symm b4⟩,⟨b5,b6,b7⟩,⟨b8,b9⟩,b10⟩
theorem BS{A:Around}{s:Shared}{E:Value->Shared->Prop}{J1 J2:Nat->Heap->Prop}{us vs:Array Value}{n:Nat}{x y a b:Value}{Q:Value->Shared->Prop}(D:zJ z ti to t1 t2 a1 a2)(S1:Src P w t1 a1 J1 us)(S2:Src P w t2 a2 J2 vs)
 (Z:IsZip s.heap z ti to .none) (pI:IsPair s.heap ti (.ref t1) (.ref t2)) (pO:IsPair s.heap to a b) (j1:J1 n s.heap) (j2:J2 n s.heap) (ex:us[n]?=some x) (ey:vs[n]?=some y)
 (q:∀k,IsZip k z ti to (rawInt s.heap.objs.size)->IsPair k to x y->J1 (n+1) k->J2 (n+1) k->IsPair k s.heap.objs.size x y->k.objs.size=s.heap.objs.size+1->
   (∀c o,c≠z->c≠to->c≠t1->c≠t2->s.heap.get? c=some o->k.get? c=some o)->Q (.ref s.heap.objs.size) {s with heap:=k}):
 wpAny (model P w) A (Builtin.«zip.__next__» ⟨[.ref z],[]⟩) (fun fin s'=>∃v,fin= .done (.ret v)/\Q v s') E s:=by
 obtain⟨⟨n1,n2,n3,n4⟩,⟨n5,n6,n7⟩,⟨n8,n9⟩,n10⟩:=D.n;have m1:=D.a1;have m2:=D.a2;simp only[List.mem_cons,not_or,List.not_mem_nil,not_false_eq_true,and_true]at m1 m2;show wpAny _ _ (field (.ref z) 2 >>= _) _ _ _;refine wpAny_bind (wpAny_field Z rfl (x:= .bool false) rfl ?_);show wpAny _ _ (field (.ref z) 3 >>= _) _ _ _;refine wpAny_bind (wpAny_field Z rfl (x:= .ref ti) rfl ?_);refine wpAny_bind (wpAny_seqItems pI rfl ?_);show wpAny _ _ (Builtin.SmallTypes.ownedTupleIsFree (.ref z) >>= _) _ _ _;refine wpAny_bind ?_;unfold Builtin.SmallTypes.ownedTupleIsFree;refine wpAny_bind (wpAny_field Z rfl (x:= .none) rfl (wpAny_pure ?_));simp only[if_true];refine wpAny_bind (wpAny_rule ?_);refine wpAny_bind (wpAny_field Z rfl (x:= .ref to) rfl ?_);refine wpAny_bind (wpAny_setField_rec Z (by simp) fun k1 Z1 b1=>?_);replace Z1:IsZip k1 z ti to .ellipsis:=Z1;refine wpAny_bind ?_;simp only[List.zipIdx_cons,List.zipIdx_nil,List.forIn_cons,List.forIn_nil];refine wpAny_bind (wpAny_bind (wpAny_onRaise ?_));show wpAny _ _ (Builtin.SmallTypes.nextOf (.ref t1) >>= _) _ _ _;refine wpAny_bind (S1.nx n _ _ _ _ x (S1.ext j1 b1.extBut (Ne.symm n3) (Ne.symm m1.1)) ex fun k2 j1b b2=>wpAny_pure ?_);have pO2:IsPair k2 to a b:=b2.extBut _ _ n8 (b1.extBut _ _ n2 pO);refine wpAny_bind (wpAny_seqItems pO2 rfl ?_);refine wpAny_bind (wpAny_updateSeq_pair pO2 fun k3 pO3 b3=>?_);replace pO3:IsPair k3 to x b:=pO3;refine wpAny_bind (wpAny_letGo (wpAny_pure ?_));refine wpAny_bind (wpAny_bind (wpAny_onRaise ?_));show wpAny _ _ (Builtin.SmallTypes.nextOf (.ref t2) >>= _) _ _ _;have j2c:J2 n k3:=S2.ext (S2.ext (S2.ext j2 b1.extBut (Ne.symm n4) (Ne.symm m2.1)) b2.extBut n10 (Ne.symm m2.2.2.2.1)) b3.extBut n9 (Ne.symm m2.2.2.1);refine wpAny_bind (S2.nx n _ _ _ _ y j2c ey fun k4 j2d b4=>wpAny_pure ?_);have pO4:IsPair k4 to x b:=b4.extBut _ _ n9 pO3;refine wpAny_bind (wpAny_seqItems pO4 rfl ?_);refine wpAny_bind (wpAny_updateSeq_pair pO4 fun k5 pO5 b5=>?_);replace pO5:IsPair k5 to x y:=pO5;refine wpAny_bind (wpAny_letGo (wpAny_pure (wpAny_pure ?_)));refine wpAny_bind (wpAny_seqItems pO5 rfl ?_);refine wpAny_bind (wpAny_newTuple ?_);have sz:k5.objs.size=s.heap.objs.size:=by rw[b5.1,b4.1,b3.1,b2.1,b1.1]
 have Z5:IsZip k5 z ti to .ellipsis:=b5.extBut _ _ (Ne.symm n2) (b4.extBut _ _ (Ne.symm n4) (b3.extBut _ _ (Ne.symm n2) (b2.extBut _ _ (Ne.symm n3) Z1)));have kp5:∀c o,c≠z->c≠to->c≠t1->c≠t2->s.heap.get? c=some o->k5.get? c=some o:=fun c o c1 c2 c3 c4 e=>b5.extBut _ _ c2 (b4.extBut _ _ c4 (b3.extBut _ _ c2 (b2.extBut _ _ c3 (b1.extBut _ _ c1 e))));have j1e:J1 (n+1) k5:=S1.ext (S1.ext (S1.ext j1b b3.extBut n8 (Ne.symm m1.2.2.1)) b4.extBut (Ne.symm n10) (Ne.symm m1.2.2.2.2)) b5.extBut n8 (Ne.symm m1.2.2.1);have j2e:J2 (n+1) k5:=S2.ext j2d b5.extBut n9 (Ne.symm m2.2.2.1);have ltz:z<k5.objs.size:=Heap.lt_size Z5;show wpAny _ _ (Builtin.SmallTypes.ownedTupleHandOut (.ref z) (.ref k5.objs.size) >>= _) _ _ _;refine wpAny_bind ?_;unfold Builtin.SmallTypes.ownedTupleHandOut;have Z6:IsZip (k5.push {cls:= .type "tuple",data:= .seq #[x,y]}) z ti to .ellipsis:=Heap.get?_push_of_some _ Z5;refine wpAny_bind (wpAny_setField_rec Z6 (by simp) fun k7 Z7 b7=>?_);replace Z7:IsZip k7 z ti to (rawInt k5.objs.size):=Z7;refine wpAny_setField_rec Z7 (by simp) fun k8 Z8 b8=>?_;replace Z8:IsZip k8 z ti to (rawInt k5.objs.size):=Z8;have up:∀c o,c≠z->k5.get? c=some o->k8.get? c=some o:=fun c o c1 e=>b8.extBut _ _ c1 (b7.extBut _ _ c1 (Heap.get?_push_of_some _ e));have pT:IsPair k8 k5.objs.size x y:=b8.extBut _ _ (Nat.ne_of_gt ltz) (b7.extBut _ _ (Nat.ne_of_gt ltz) (Heap.get?_push_size _ rfl));have sz8:k8.objs.size=k5.objs.size+1:=by rw[b8.1,b7.1,Heap.size_push]
 rw[sz]at Z8 pT sz8;refine wpAny_pure ⟨_,rfl,?_⟩;show Q (.ref k5.objs.size) _;rw[sz];refine q k8 Z8 (up _ _ n2 pO5) (S1.fr _ _ _ j1e fun b hb o e=>up b o ?_ e) (S2.fr _ _ _ j2e fun b hb o e=>up b o ?_ e) pT sz8 fun c o c1 c2 c3 c4 e=>up c o c1 (kp5 c o c1 c2 c3 c4 e)
 . rcases hb with rfl|rfl
   . exact n3
   . exact m1.1
 . rcases hb with rfl|rfl
   . exact n4
   . exact m2.1
theorem E7{A:Around}{s:Shared}{E:Value->Shared->Prop}{J1 J2:Nat->Heap->Prop}{us vs:Array Value}{n:Nat}{a b:Value}{Q:Fin->Shared->Prop}(hh:A.handled=none)(D:zJ z ti to t1 t2 a1 a2)(S1:Src P w t1 a1 J1 us)(S2:Src P w t2 a2 J2 vs)
 (Z:IsZip s.heap z ti to .none) (pI:IsPair s.heap ti (.ref t1) (.ref t2)) (pO:IsPair s.heap to a b) (j1:J1 n s.heap) (j2:J2 n s.heap) (he:us[n]?=none\/vs[n]?=none)
 (q:∀k e,(∀c o,c≠z->c≠to->c≠t1->c≠t2->s.heap.get? c=some o->k.get? c=some o)->(∃o,k.get? e=some o/\o.cls= .type "StopIteration")->E (.ref e) {s with heap:=k}):
 wpAny (model P w) A (Builtin.«zip.__next__» ⟨[.ref z],[]⟩) Q E s:=by
 obtain⟨⟨n1,n2,n3,n4⟩,⟨n5,n6,n7⟩,⟨n8,n9⟩,n10⟩:=D.n;have m1:=D.a1;have m2:=D.a2;simp only[List.mem_cons,not_or,List.not_mem_nil,not_false_eq_true,and_true]at m1 m2;show wpAny _ _ (field (.ref z) 2 >>= _) _ _ _;refine wpAny_bind (wpAny_field Z rfl (x:= .bool false) rfl ?_);show wpAny _ _ (field (.ref z) 3 >>= _) _ _ _;refine wpAny_bind (wpAny_field Z rfl (x:= .ref ti) rfl ?_);refine wpAny_bind (wpAny_seqItems pI rfl ?_);show wpAny _ _ (Builtin.SmallTypes.ownedTupleIsFree (.ref z) >>= _) _ _ _;refine wpAny_bind ?_;unfold Builtin.SmallTypes.ownedTupleIsFree;refine wpAny_bind (wpAny_field Z rfl (x:= .none) rfl (wpAny_pure ?_));simp only[if_true];refine wpAny_bind (wpAny_rule ?_);refine wpAny_bind (wpAny_field Z rfl (x:= .ref to) rfl ?_);refine wpAny_bind (wpAny_setField_rec Z (by simp) fun k1 Z1 b1=>?_);replace Z1:IsZip k1 z ti to .ellipsis:=Z1;refine wpAny_bind ?_;simp only[List.zipIdx_cons,List.zipIdx_nil,List.forIn_cons,List.forIn_nil];refine wpAny_bind (wpAny_bind (wpAny_onRaise ?_));show wpAny _ _ (Builtin.SmallTypes.nextOf (.ref t1) >>= _) _ _ _;have j1a:J1 n k1:=S1.ext j1 b1.extBut (Ne.symm n3) (Ne.symm m1.1);cases ex:us[n]? with
 |none=>
  refine wpAny_bind (S1.en n _ _ _ _ hh j1a ex fun k2 e b2 hx=>?_);obtain⟨oe,he1,he2⟩:=hx;have Z2:IsZip k2 z ti to .ellipsis:=b2 _ _ (Ne.symm n3) Z1;have hez:e≠z:=fun c=>by subst c;rw[Z2]at he1;cases he1;simp at he2
  refine wpAny_setField_rec Z2 (by simp) fun k3 _ b3=>q k3 e (fun c o c1 _ c3 _ f=>b3.extBut _ _ c1 (b2 _ _ c3 (b1.extBut _ _ c1 f))) ⟨oe,b3.extBut _ _ hez he1,he2⟩
 |some x=>
  have ey:vs[n]?=none:=by
   rcases he with h|h
   . rw[ex]at h;cases h
   . exact h
  refine wpAny_bind (S1.nx n _ _ _ _ x j1a ex fun k2 j1b b2=>wpAny_pure ?_);have pO2:IsPair k2 to a b:=b2.extBut _ _ n8 (b1.extBut _ _ n2 pO);refine wpAny_bind (wpAny_seqItems pO2 rfl ?_);refine wpAny_bind (wpAny_updateSeq_pair pO2 fun k3 pO3 b3=>?_);refine wpAny_bind (wpAny_letGo (wpAny_pure ?_));refine wpAny_bind (wpAny_bind (wpAny_onRaise ?_));show wpAny _ _ (Builtin.SmallTypes.nextOf (.ref t2) >>= _) _ _ _;have j2c:J2 n k3:=S2.ext (S2.ext (S2.ext j2 b1.extBut (Ne.symm n4) (Ne.symm m2.1)) b2.extBut n10 (Ne.symm m2.2.2.2.1)) b3.extBut n9 (Ne.symm m2.2.2.1);refine wpAny_bind (S2.en n _ _ _ _ hh j2c ey fun k4 e b4 hx=>?_);obtain⟨oe,he1,he2⟩:=hx;have Z4:IsZip k4 z ti to .ellipsis:=b4 _ _ (Ne.symm n4) (b3.extBut _ _ (Ne.symm n2) (b2.extBut _ _ (Ne.symm n3) Z1));have hez:e≠z:=fun c=>by subst c;rw[Z4]at he1;cases he1;simp at he2
  refine wpAny_setField_rec Z4 (by simp) fun k5 _ b5=>q k5 e (fun c o c1 c2 c3 c4 f=>b5.extBut _ _ c1 (b4 _ _ c4 (b3.extBut _ _ c2 (b2.extBut _ _ c3 (b1.extBut _ _ c1 f))))) ⟨oe,b5.extBut _ _ hez he1,he2⟩
end
end
theorem F4{X:Cx}{pins:List (Addr×Obj)}{σ:L2.St}{H:Hp}{s:Shared}{g:Heap}{tk:Nat}{fp:List Addr}{T:Addr}{xs:List V}(I:Inv X pins σ H s)(hf:∀b∈fp,lz X pins H b)
 (k:∀b o,b∉fp->s.heap.get? b=some o->g.get? b=some o) (hT:s.heap.objs.size<=T) (new:gd X.prog X.w (upd H T (.tup xs)) g T (.tup xs)):Inv X pins σ (upd H T (.tup xs)) {s with heap:=g,toks:=tk}:=by
 have hn:H T=none:=I.aI.fresh hT;have nfp:∀b u,H b=some u->b∉fp:=fun b u e z=>by rw[(hf b z).1]at e;cases e
 have nT:∀b u,H b=some u->b≠T:=fun b u e=>dA e hn
 refine I.step (g':=s.gens) (d':=s.drawn) (ch:=fp) (fun b hb=>?_) (fun b o _ _ hc e _=>k b o hc e) (fun b o _ _ hc e _=>⟨o.slots,k b o hc e⟩) (fun b o _ e n=>?_) (fun b o hc e=>⟨o,k b o hc e⟩)
  (fun b ys e=>by rw[ax (nT b _ e)];exact e) (fun b o u e=>by rw[ax (nT b _ e)];exact e) (fun b ps e=>⟨#[],by rw[ax (nT b _ e),e];simp⟩) (fun m hm=>?_) (fun b u e=>?_) I.bare
 . obtain⟨f0,f1,f2,f3,f4,f5⟩:=hf b hb;exact⟨f3,f1,f4,f5⟩
 . rw[ax (Nat.ne_of_lt (Nat.lt_of_lt_of_le (Heap.lt_size e) hT))];exact n
 . obtain⟨o,es,ep,ho,r⟩:=hm;exact⟨o,es,ep,k _ o (fun z=>(hf _ z).2.1 rfl) ho,r⟩
 . by_cases hb:b=T
   . subst hb;rw[aV]at e;cases e;exact new
   . rw[ax hb]at e;refine(I.aI b u e).oG (fun c v hc q=>k c v ?_ q) (fun c q=>by rw[ax (nT c _ q)];exact q) fun c ys q=>by rw[ax (nT c _ q)];exact q
     rcases hc with z|z
     . rw[z];exact nfp b u e
     . exact nfp c _ z
theorem Fl{X:Cx}{pins:List (Addr×Obj)}{σ:L2.St}{H:Hp}{s:Shared}{g:Heap}{tk:Nat}{fp:List Addr}(I:Inv X pins σ H s)(hf:∀b∈fp,lz X pins H b)
 (k:∀b o,b∉fp->s.heap.get? b=some o->g.get? b=some o):Inv X pins σ H {s with heap:=g,toks:=tk}:=by
 have nfp:∀b u,H b=some u->b∉fp:=fun b u e z=>by rw[(hf b z).1]at e;cases e
 refine I.step (g':=s.gens) (d':=s.drawn) (ch:=fp) (fun b hb=>?_) (fun b o _ _ hc e _=>k b o hc e) (fun b o _ _ hc e _=>⟨o.slots,k b o hc e⟩) (fun b o _ e n=>n) (fun b o hc e=>⟨o,k b o hc e⟩)
  (fun b ys e=>e) (fun b o u e=>e) (fun b ps e=>⟨#[],by rw[e];simp⟩) (fun m hm=>?_) (fun b u e=>?_) I.bare
 . obtain⟨f0,f1,f2,f3,f4,f5⟩:=hf b hb;exact⟨f3,f1,f4,f5⟩
 . obtain⟨o,es,ep,ho,r⟩:=hm;exact⟨o,es,ep,k _ o (fun z=>(hf _ z).2.1 rfl) ho,r⟩
 . refine(I.aI b u e).oG (fun c v hc q=>k c v ?_ q) (fun c q=>q) fun c ys q=>q;rcases hc with z|z
   . rw[z];exact nfp b u e
   . exact nfp c _ z
inductive SK where
 |l|t
def oR(k:SK)(K:PySem.W.Frag)(H:Hp)(a:Addr)(xs:List V):Prop:=match k with
 | .l=>mB K H a xs
 | .t=>ik K H a xs
def ql(k:SK)(t a:Addr)(n:Nat)(g:Heap):Prop:=match k with
 | .l=>g.IsListIter t a n
 | .t=>g.IsTupleIter t a n
def lZ(k:SK)(g:Heap)(a:Addr)(us:Array Value):Prop:=match k with
 | .l=>g.IsList a us
 | .t=>g.IsTuple a us
def yF(k:SK)(a:Addr):Obj:=match k with
 | .l=>{cls:= .type "list_iterator",data:= .fields #[.ref a,.int 0 0]}
 | .t=>{cls:= .type "tuple_iterator",data:= .fields #[.ref a,.int 0 0]}
theorem mS{P:Program}{w:World}(k:SK)(t a:Addr)(hne:a≠t)(us:Array Value):Src P w t a (fun n g=>ql k t a n g/\lZ k g a us) us:=by
 cases k
 . exact src_list t a hne us
 . exact HI t a hne us
theorem kQ{X:Cx}{pins:List (Addr×Obj)}{σ:L2.St}{H:Hp}{s:Shared}{k:SK}{a:Addr}{xs:List V}(I:Inv X pins σ H s)(h:oR k X.K H a xs):∃its:List Value,Vals xs its/\lZ k s.heap a its.toArray:=by
 cases k
 . obtain⟨its,rv,p,_⟩:=I.list h;exact⟨its,rv,p.isList⟩
 . obtain⟨its,rv,p,_⟩:=I.tuple h;exact⟨its,rv,p⟩
theorem vO{X:Cx}{pins:List (Addr×Obj)}{σ:L2.St}{H:Hp}{s:Shared}{k:SK}{a:Addr}{xs ys:List V}(I:Inv X pins σ H s)(h:oR k X.K H a xs)(h':oR k X.K H a ys):xs=ys:=by
 cases k
 . exact I.yU h h'
 . exact I.qR h h'
theorem Cq{P:Program}{w:World}{A:Around}{s:Shared}{E:Value->Shared->Prop}{k:SK}{a:Addr}{us:Array Value}{Q:Value->Shared->Prop}(h:lZ k s.heap a us)(q:Q (.ref s.heap.objs.size) {s with heap:=s.heap.push (yF k a)}):wpAny (model P w) A (pyIter (.ref a)) Q E s:=by
 cases k
 . exact wpAny_pyIter_list h q
 . exact wpAny_pyIter_tuple h q
theorem lZ.push{k:SK}{g:Heap}{a:Addr}{us:Array Value}(h:lZ k g a us)(o:Obj):lZ k (g.push o) a us:=by
 cases k
 . obtain⟨o',e,r⟩:=h;exact⟨o',Heap.get?_push_of_some _ e,r⟩
 . obtain⟨o',e,r⟩:=h;exact⟨o',Heap.get?_push_of_some _ e,r⟩
theorem lZ.some{k:SK}{g:Heap}{a:Addr}{us:Array Value}(h:lZ k g a us):∃o,g.get? a=Option.some o:=by
 cases k
 . obtain⟨o',e,r⟩:=h;exact⟨o',e⟩
 . obtain⟨o',e,r⟩:=h;exact⟨o',e⟩
theorem z9{k:SK}{g h:Heap}{t a:Addr}(e:g.get? t=Option.some (yF k a)):ql k t a 0 g:=by
 cases k
 . exact⟨_,e,rfl,rfl⟩
 . exact⟨_,e,rfl,rfl⟩
theorem pz{k:SK}{t a:Addr}{n:Nat}{g g':Heap}(h:ql k t a n g)(kp:∀o,g.get? t=Option.some o->g'.get? t=Option.some o):ql k t a n g':=by
 cases k
 . obtain⟨o,e,r⟩:=h;exact⟨o,kp o e,r⟩
 . obtain⟨o,e,r⟩:=h;exact⟨o,kp o e,r⟩
theorem nv{k:SK}{t a:Addr}{n:Nat}{g:Heap}(h:ql k t a n g):∃o,g.get? t=Option.some o/\∀v,o.data≠ .cell v:=by
 cases k
 . obtain⟨o,e,c,d⟩:=h;exact⟨o,e,fun v z=>by rw[d]at z;cases z⟩
 . obtain⟨o,e,c,d⟩:=h;exact⟨o,e,fun v z=>by rw[d]at z;cases z⟩
def ME(K:PySem.W.Frag)(k1 k2:SK)(a1 a2:Addr):It:=
 ⟨fun i H=>∃xs ys x y,oR k1 K H a1 xs/\oR k2 K H a2 ys/\xs[i]?=some x/\ys[i]?=some y,
  fun i H v H'=>∃T x y,H T=none/\v= .ref T/\H'=upd H T (.tup [x,y])/\(∀xs,oR k1 K H a1 xs->xs[i]?=some x)/\∀ys,oR k2 K H a2 ys->ys[i]?=some y,
  fun i H=>∃xs ys,oR k1 K H a1 xs/\oR k2 K H a2 ys/\(xs.length<=i\/ys.length<=i)⟩
def Me(z ti to t1 t2 a1 a2:Addr)(k1 k2:SK)(i:Nat)(h:Heap):Prop:=IsZip h z ti to .none/\IsPair h ti (.ref t1) (.ref t2)/\(∃a b,IsPair h to a b)/\ql k1 t1 a1 i h/\ql k2 t2 a2 i h
theorem D1{P:Program}{w:World}{K:PySem.W.Frag}{elts:List Expr}{kx:Nat}{pos:Pos}{z ti to t1 t2 a1 a2:Addr}(k1 k2:SK)(D:zJ z ti to t1 t2 a1 a2):
 Turn P w K (.Tuple elts kx pos) (ME K k1 k2 a1 a2) [z,ti,to,t1,t2] z (Me z ti to t1 t2 a1 a2 k1 k2) where
 mem:=by simp
 obj:=fun i h st b hb=>by
  obtain⟨Z,pI,⟨a,b',pO⟩,i1,i2⟩:=st;simp only[List.mem_cons,List.not_mem_nil,or_false]at hb;rcases hb with rfl|rfl|rfl|rfl|rfl
  . exact⟨_,Z,fun v e=>by cases e⟩
  . exact⟨_,pI,fun v e=>by cases e⟩
  . exact⟨_,pO,fun v e=>by cases e⟩
  . exact nv i1
  . exact nv i2
 keep:=fun i h h' st k=>by
  obtain⟨Z,pI,⟨a,b',pO⟩,i1,i2⟩:=st;exact⟨k z (by simp) _ Z,k ti (by simp) _ pI,⟨a,b',k to (by simp) _ pO⟩,pz i1 (k t1 (by simp)),pz i2 (k t2 (by simp))⟩
 item:=by
  intro X hP hw hK hc i pins s σ H E I hf st hg;subst hP hw hK;obtain⟨Z,pI,⟨a,b',pO⟩,i1,i2⟩:=st;obtain⟨xs,ys,x,y,q1,q2,ex,ey⟩:=hg;obtain⟨us,r1,l1⟩:=kQ I q1;obtain⟨vs,r2,l2⟩:=kQ I q2;obtain⟨u,eu,ru⟩:=r1.get ex;obtain⟨v,ev,rv⟩:=r2.get ey;have m1:=D.a1;have m2:=D.a2;simp only[List.mem_cons,not_or,List.not_mem_nil,not_false_eq_true,and_true]at m1 m2;obtain⟨⟨n1,n2,n3,n4⟩,⟨n5,n6,n7⟩,⟨n8,n9⟩,n10⟩:=D.n;have tz:s.TypeIs (.ref z) "zip":=⟨_,Z,rfl⟩
  unfold pyNext;refine wpAny_bind (wpAny_attempt (wpAny_callSpecial?_slot (name:=Str.ofString "__next__") tz F.slot_zip_next (wpAny_call_entry F.slot_zip_next tz F.entry_zip_next (BS D (mS k1 t1 a1 m1.2.2.2.1 us.toArray) (mS k2 t2 a2 m2.2.2.2.2 vs.toArray) Z pI pO ⟨i1,l1⟩ ⟨i2,l2⟩ (x:=u) (y:=v) (by simpa using eu) (by simpa using ev) fun k Z2 pO2 j1 j2 pT szk kp=>wpAny_pure ⟨_,rfl,?_⟩) (F.args_zip_next_1 _))));refine wpAny_letOwnedTupleGo_zip (s:={s with heap:=k}) Z2 fun k' Z3 b3=>?_;have hT:s.heap.objs.size≠z:=Nat.ne_of_gt (Heap.lt_size Z)
  have kp3:∀b o,b∉[z,ti,to,t1,t2]->s.heap.get? b=some o->k'.get? b=some o:=fun b o hb e=>by
   simp only[List.mem_cons,not_or,List.not_mem_nil,not_false_eq_true,and_true]at hb;exact b3.extBut _ _ hb.1 (kp b o hb.1 hb.2.2.1 hb.2.2.2.1 hb.2.2.2.2 e)
  refine⟨.ref s.heap.objs.size,upd H s.heap.objs.size (.tup [x,y]),F4 (s:=s) (tk:=s.toks) I hf kp3 (Nat.le_refl _) ?_,rfl,⟨s.heap.objs.size,x,y,I.aI.fresh (Nat.le_refl _),rfl,rfl,?_,?_⟩,?_,?_⟩
  . refine⟨Nat.le_of_ble_eq_true rfl,[u,v],.cons ru (.cons rv .nil),?_⟩;exact⟨_,b3.extBut _ _ hT pT,rfl,_,rfl⟩
  . intro xs' q';rw[vO I q' q1];exact ex
  . intro ys' q';rw[vO I q' q2];exact ey
  . refine⟨Z3,b3.extBut _ _ n1 (kp _ _ n1 n5 n6 n7 pI),⟨_,_,b3.extBut _ _ n2 pO2⟩,pz j1.1 fun o e=>b3.extBut _ _ n3 e,pz j2.1 fun o e=>b3.extBut _ _ n4 e⟩
  . intro b hb
    have:b≠s.heap.objs.size:=by
     obtain⟨o,e,_⟩:∃o,s.heap.get? b=some o/\True:=by
      simp only[List.mem_cons,List.not_mem_nil,or_false]at hb;rcases hb with rfl|rfl|rfl|rfl|rfl
      . exact⟨_,Z,trivial⟩
      . exact⟨_,pI,trivial⟩
      . exact⟨_,pO,trivial⟩
      . obtain⟨o,e,_⟩:=nv i1;exact⟨o,e,trivial⟩
      . obtain⟨o,e,_⟩:=nv i2;exact⟨o,e,trivial⟩
     exact Nat.ne_of_lt (Heap.lt_size e)
    rw[ax this];exact(hf b hb).1
 done:=by
  intro X hP hw hK hc i pins s σ H E I hf st hg;subst hP hw hK;obtain⟨Z,pI,⟨a,b',pO⟩,i1,i2⟩:=st;obtain⟨xs,ys,q1,q2,he⟩:=hg;obtain⟨us,r1,l1⟩:=kQ I q1;obtain⟨vs,r2,l2⟩:=kQ I q2;have e1:=r1.length;have e2:=r2.length;have m1:=D.a1;have m2:=D.a2;simp only[List.mem_cons,not_or,List.not_mem_nil,not_false_eq_true,and_true]at m1 m2;have tz:s.TypeIs (.ref z) "zip":=⟨_,Z,rfl⟩
  unfold pyNext;refine wpAny_bind (wpAny_attempt (wpAny_callSpecial?_slot (name:=Str.ofString "__next__") tz F.slot_zip_next (wpAny_call_entry F.slot_zip_next tz F.entry_zip_next (E7 (I.ok.hd hc) D (mS k1 t1 a1 m1.2.2.2.1 us.toArray) (mS k2 t2 a2 m2.2.2.2.2 vs.toArray) Z pI pO ⟨i1,l1⟩ ⟨i2,l2⟩ ?_ fun k e kp hx=>?_) (F.args_zip_next_1 _))))
  . rcases he with h|h
    . left;simp;omega
    . right;simp;omega
  . obtain⟨o,ho,hc2⟩:=hx;refine wpAny_bind (wpAny_isInstance (T:="StopIteration") (b:=true) ⟨o,ho,hc2⟩ isSubtype_stop ?_);refine wpAny_pure ⟨rfl,Fl (s:=s) (tk:=s.toks) I hf fun b o hb e=>?_⟩;simp only[List.mem_cons,not_or,List.not_mem_nil,not_false_eq_true,and_true]at hb;exact kp b o hb.1 hb.2.2.1 hb.2.2.2.1 hb.2.2.2.2 e
 self:=fun _ _ _ _ _ st h=>wpAny_pyIter_zip st.1 h
abbrev F5(h:Heap)(k1:SK)(a1:Addr):Heap:=h.push (yF k1 a1)
abbrev Gf(h:Heap)(k1 k2:SK)(a1 a2:Addr):Heap:=(F5 h k1 a1).push (yF k2 a2)
abbrev Fb(h:Heap)(k1 k2:SK)(a1 a2:Addr):Heap:=(Gf h k1 k2 a1 a2).push {cls:= .type "tuple",data:= .seq #[.ref h.objs.size,.ref (F5 h k1 a1).objs.size]}
abbrev F8(h:Heap)(k1 k2:SK)(a1 a2:Addr):Heap:=(Fb h k1 k2 a1 a2).push {cls:= .type "tuple",data:= .seq #[.none,.none]}
abbrev zG(h:Heap)(k1 k2:SK)(a1 a2:Addr):Heap:=(F8 h k1 k2 a1 a2).push {cls:= .type "zip",data:= .fields #[.none,.bool false,.bool false,.ref (Gf h k1 k2 a1 a2).objs.size,.ref (Fb h k1 k2 a1 a2).objs.size]}
theorem DC(k1 k2:SK)(a1 a2:Addr)(us vs:Array Value):Meets (Builtin.«zip.__new__» ⟨[.type "zip",.ref a1,.ref a2],[]⟩) (fun _ R s=>lZ k1 s.heap a1 us/\lZ k2 s.heap a2 vs/\
 R (.ok (.ret (.ref (F8 s.heap k1 k2 a1 a2).objs.size))) {s with heap:=zG s.heap k1 k2 a1 a2}):=
 .of_wp fun P w A R s h=>by
  obtain⟨hp,g,d,tk,os⟩:=s;obtain⟨c1,c2,h⟩:=h;have hsub:=sub_zip;have L1:lZ k1 (Shared.heap ⟨hp,g,d,tk,os⟩) a1 us:=c1;have L2:lZ k2 (Shared.heap ⟨hp.push (yF k1 a1),g,d,tk,os⟩) a2 vs:=lZ.push c2 _
  wp_walk using Cq L1,Cq L2
  exact⟨_,rfl,h⟩
theorem El{P:Program}{w:World}{A:Around}{s:Shared}{E:Value->Shared->Prop}{k1 k2:SK}{a1 a2:Addr}{us vs:Array Value}{Q:Value->Shared->Prop}(c1:lZ k1 s.heap a1 us)(c2:lZ k2 s.heap a2 vs)
 (q:∀g n,n=s.heap.objs.size->IsZip g (n+4) (n+2) (n+3) .none->IsPair g (n+2) (.ref n) (.ref (n+1))->IsPair g (n+3) .none .none->ql k1 n a1 0 g->ql k2 (n+1) a2 0 g->(∀c o,s.heap.get? c=some o->g.get? c=some o)->Q (.ref (n+4)) {s with heap:=g}):
 wpAny (model P w) A (call (.type "zip") [.ref a1,.ref a2]) Q E s:=by
 refine callType_new F.called_zip (by decide) (F.typeCall_zip_2 _ _) (F.newCall_zip_2 _ _) (fun ob=>F.args_object_init_3 ob _ _) F.entry_zip_new (DC k1 k2 a1 a2 us vs) ⟨c1,c2,?_⟩;have y1:(F5 s.heap k1 a1).objs.size=s.heap.objs.size+1:=Heap.size_push ..;have y2:(Gf s.heap k1 k2 a1 a2).objs.size=s.heap.objs.size+2:=by rw[Heap.size_push,y1]
 have y3:(Fb s.heap k1 k2 a1 a2).objs.size=s.heap.objs.size+3:=by rw[Heap.size_push,y2]
 have y4:(F8 s.heap k1 k2 a1 a2).objs.size=s.heap.objs.size+4:=by rw[Heap.size_push,y3]
 have e5:(zG s.heap k1 k2 a1 a2).get? (F8 s.heap k1 k2 a1 a2).objs.size=some _:=Heap.get?_push_size _ rfl;have e4:(zG s.heap k1 k2 a1 a2).get? (Fb s.heap k1 k2 a1 a2).objs.size=some _:=Heap.get?_push_of_some _ (Heap.get?_push_size _ rfl);have e3:(zG s.heap k1 k2 a1 a2).get? (Gf s.heap k1 k2 a1 a2).objs.size=some _:=Heap.get?_push_of_some _ (Heap.get?_push_of_some _ (Heap.get?_push_size _ rfl));have e2:(zG s.heap k1 k2 a1 a2).get? (F5 s.heap k1 a1).objs.size=some (yF k2 a2):=Heap.get?_push_of_some _ (Heap.get?_push_of_some _ (Heap.get?_push_of_some _ (Heap.get?_push_size _ (by cases k2<;>rfl))));have e1:(zG s.heap k1 k2 a1 a2).get? s.heap.objs.size=some (yF k1 a1):=Heap.get?_push_of_some _ (Heap.get?_push_of_some _ (Heap.get?_push_of_some _ (Heap.get?_push_of_some _ (Heap.get?_push_size _ (by cases k1<;>rfl)))));show _/\_;rw[y2,y3,y4]at e5;rw[y1,y2]at e3;rw[y3]at e4;rw[y1]at e2;rw[y4];exact⟨⟨_,e5,rfl⟩,q _ _ rfl e5 e3 e4 (z9 (h:=s.heap) e1) (z9 (h:=s.heap) e2) fun c o x=>Heap.get?_push_of_some _ (Heap.get?_push_of_some _ (Heap.get?_push_of_some _ (Heap.get?_push_of_some _ (Heap.get?_push_of_some _ x))))⟩
def Fx:D->SK
 | .tup _=> .t
 |_=> .l
def BX(k:SK)(G:Hp)(a:Addr)(vs:List V):Prop:=match k with
 | .l=>Rd G a (.lst vs)
 | .t=>G a=some (.tup vs)
theorem j4{K:PySem.W.Frag}{k:SK}{G F H:Hp}(P:bW G F H){a:Addr}{vs:List V}(h:BX k G a vs):oR k K H a vs:=by
 cases k
 . exact .inl (i9 P h)
 . exact ik.of (P.get h)
theorem ny{α:List (Option Addr)}{H:Hp}{st:af}{d:D}{v:V}{xs:List D}(S:aO α st H)(r:Rep α H d v)(e:items? st d=some xs):∃p vs,v= .ref p/\aG α H xs vs/\BX (Fx d) H p vs:=by
 cases d<;>try(cases e;done)
 . unfold items? at e;simp only at e;split at e
   . rename_i ys q;cases e;obtain⟨a,ea,vs,h1,h2⟩:=S.jZ q;exact⟨a,vs,fH ea r,h2,Rd.of h1⟩
   . cases e
 . cases e;unfold Rep at r;obtain⟨a,vs,rfl,_,h1,h2⟩:=r;exact⟨a,vs,rfl,h2,h1⟩
 . cases e;unfold Rep at r;obtain⟨a,vs,rfl,_,h1,h2⟩:=r;exact⟨a,vs,rfl,h2,h1⟩
def iW(xs ys:List D):List D:=(xs.zip ys).map fun p=> .tup [p.1,p.2]
theorem pV{xs ys:List D}:(iW xs ys).length=min xs.length ys.length:=by unfold iW;simp
theorem uf{xs ys:List D}{n:Nat}{d:D}(e:(iW xs ys)[n]?=some d):∃x y,xs[n]?=some x/\ys[n]?=some y/\d= .tup [x,y]:=by
 unfold iW at e;rw[List.getElem?_map]at e;cases q:(xs.zip ys)[n]? with
 |none=>rw[q]at e;cases e
 |some p=>
  rw[q]at e;cases e;rw[List.getElem?_zip_eq_some]at q;exact⟨p.1,p.2,q.1,q.2,rfl⟩
theorem Jm{K:PySem.W.Frag}{k1 k2:SK}{a1 a2:Addr}{α:List (Option Addr)}{G:Hp}{ok:af->Prop}{xs ys:List D}
 (h:∀α' G' st',Step α G α' G'->aO α' st' G'->ok st'->∃vs ws,BX k1 G' a1 vs/\BX k2 G' a2 ws/\aG α' G' xs vs/\aG α' G' ys ws):tW (ME K k1 k2 a1 a2) α G ok (iW xs ys) where
 stop:=fun n α' G' F' H' st' s P S o hn=>by
  obtain⟨vs,ws,h1,h2,r1,r2⟩:=h α' G' st' s S o;rw[pV]at hn;refine⟨vs,ws,j4 P h1,j4 P h2,?_⟩;have:=r1.length;have:=r2.length;omega
 go:=fun n d α' G' F' H' st' s P S o hn=>by
  obtain⟨vs,ws,h1,h2,r1,r2⟩:=h α' G' st' s S o;obtain⟨x,y,ex,ey,rfl⟩:=uf hn;obtain⟨v,ev,_⟩:=r1.get ex;obtain⟨u,eu,_⟩:=r2.get ey;exact⟨vs,ws,v,u,j4 P h1,j4 P h2,ev,eu⟩
 oz:=fun n d α' G' F' H' st' x H'' s P S o hn y=>by
  obtain⟨vs,ws,h1,h2,r1,r2⟩:=h α' G' st' s S o;obtain⟨c,e,ec,ee,rfl⟩:=uf hn;obtain⟨T,v,u,hT,rfl,rfl,y1,y2⟩:=y;obtain⟨v',ev,rv⟩:=r1.get ec;obtain⟨u',eu,ru⟩:=r2.get ee;rw[y1 vs (j4 P h1)]at ev;rw[y2 ws (j4 P h2)]at eu;cases ev;cases eu;have hg:=(P.none hT).1;refine⟨upd G' T (.tup [v,u]),Step.laid hg,P.laid hT,S.laid hg,?_⟩;unfold Rep;refine⟨T,[v,u],rfl,S.kI hg,aV,?_⟩;unfold aG;refine⟨v,[u],rfl,rv.step (Step.laid hg),?_⟩;unfold aG;exact⟨u,[],rfl,ru.step (Step.laid hg),by unfold aG;rfl⟩
def E5(ds:List D)(st1:af)(K:List D->(af->Prop)->af->Prop):Prop:=match ds with
 | [x,y]=>(match items? st1 x,items? st1 y with
   |some xs,some ys=>K (iW xs ys) (fun st'=>items? st' x=some xs/\items? st' y=some ys) st1
   |_,_=>False)
 |_=>False
@[irreducible] def uJ:List D->af->(List D->(af->Prop)->af->Prop)->Prop:=E5
def vk(t:DA):DI:=fun σ st K=>t σ st fun ds st1=>uJ ds st1 K
theorem Ho{n a1 a2:Nat}(h1:a1<n)(h2:a2<n):zJ (n+4) (n+2) (n+3) n (n+1) a1 a2:=by
 have e0:([n+4,n+2,n+3,n,n+1]:List Nat).Nodup:=by
  simp only[List.nodup_cons,List.mem_cons,not_or,List.not_mem_nil,not_false_eq_true,and_true,List.nodup_nil];omega
 have e1:∀a:Nat,a<n->a∉([n+4,n+2,n+3,n,n+1]:List Nat):=fun a ha=>by
  simp only[List.mem_cons,not_or,List.not_mem_nil,not_false_eq_true,and_true];omega
 exact⟨e0,e1 a1 h1,e1 a2 h2⟩
theorem J0{X:Cx}{a b:Expr}{elts:List Expr}{kx:Nat}{tpos p pos:Pos}{t:DA}(hg:Gl X "zip")(hm:X.mg "zip"=none)(ha:PA X [a,b] (LA t))(hs:starEach [a,b] X.env=[(false,eval a X.env),(false,eval b X.env)])(hs2:starEach [b] X.env=[(false,eval b X.env)]):
 PI X (.Tuple elts kx tpos) (.Call (.Name "zip" p) [a,b] [] pos) (LI (vk t)):=by
 intro pins s σ H R I h;obtain⟨α,σd,st,K,G,F,P,RS,S,t,k⟩:=h;refine Call_ (jM I hg hm boot_zip (PyProof.Rows.callWith_type1 (bZ (ha pos pins s σ H (fun vs H1=>∃ds α1 G1 st1,Step α G α1 G1/\bW G1 F H1/\aO α1 st1 G1/\aG α1 G1 ds vs/\uJ ds st1 K) I ⟨α,σd,st,_,G,F,P,RS,S,t,fun ds st1 q α1 G1 H1 vs s1 P1 S1 r1=>⟨ds,α1,G1,st1,s1,P1,S1,r1,q⟩⟩) fun us s1 ⟨vs,H1,I1,rv,ds,α1,G1,st1,w1,P1,S1,r1,q⟩=>?_) (by rw[hs,hs2]) (by rw[hs2];rfl)));unfold uJ E5 at q;split at q
 . rename_i x y;split at q
   . rename_i xs ys ex ey;obtain⟨v1,v2,rfl,q1,q2⟩:=sv r1 rfl;obtain⟨p1,vs1,rfl,g1,c1⟩:=ny S1 q1 ex;obtain⟨p2,vs2,rfl,g2,c2⟩:=ny S1 q2 ey;obtain⟨u1,u2,rfl,ru1,ru2⟩:=vals2 rv;cases ru1;cases ru2;obtain⟨its1,_,l1⟩:=kQ I1 (j4 P1 c1);obtain⟨its2,_,l2⟩:=kQ I1 (j4 P1 c2);refine El l1 l2 fun g n hn Z pI pO i1 i2 kp=>?_;obtain⟨o1,eo1⟩:=l1.some;obtain⟨o2,eo2⟩:=l2.some;refine wpAny_pyIter_zip (s:={s1 with heap:=g}) Z ?_;refine⟨n+4,[n+4,n+2,n+3,n,n+1],_,_,H1,rfl,I1.kept (t':=s1.toks) kp,D1 (Fx x) (Fx y) (Ho (by rw[hn];exact Heap.lt_size eo1) (by rw[hn];exact Heap.lt_size eo2)),⟨Z,pI,⟨_,_,pO⟩,i1,i2⟩,fun b hb=>?_,?_⟩
     . have hb':s1.heap.objs.size<=b:=by
        simp only[List.mem_cons,List.not_mem_nil,or_false]at hb;rcases hb with rfl|rfl|rfl|rfl|rfl<;>(rw[<-hn];first|exact Nat.le_refl _|exact Nat.le_add_right _ _)
       exact I1.uh hb' (I1.aI.fresh hb')
     . refine k _ _ st1 q _ α1 G1 H1 w1 P1 S1 (Jm fun α' G' st' s' S' o=>?_);obtain⟨p1',ws1,e1,f1,d1⟩:=ny S' (q1.step s') o.1;obtain⟨p2',ws2,e2,f2,d2⟩:=ny S' (q2.step s') o.2;cases e1;cases e2;exact⟨ws1,ws2,d1,d2,f1,f2⟩
   . exact q.elim
 . exact q.elim
theorem uH{st:af}{x y:D}{xs ys:List D}{K:List D->(af->Prop)->af->Prop}(ex:items? st x=some xs)(ey:items? st y=some ys)(k:∀ok:af->Prop,(∀st',items? st' x=some xs->items? st' y=some ys->ok st')->K (iW xs ys) ok st):uJ [x,y] st K:=by
 unfold uJ E5;simp only[ex,ey];exact k _ fun st' h1 h2=>⟨h1,h2⟩
theorem xj{X:Cx}{a b:Expr}{elts:List Expr}{kx:Nat}{tpos p pos:Pos}{ar:DA}(hg:Gl X "zip")(hm:X.mg "zip"=none)(ha:JA X [a,b] ar)(hs:notStar a=true:=by rfl)(hs2:notStar b=true:=by rfl):JI X (.Tuple elts kx tpos) (.Call (.Name "zip" p) [a,b] [] pos) (vk ar):=by
 unfold JI;unfold JA at ha;exact J0 hg hm ha (by rw[cE hs,cE hs2];rfl) (cE hs2)
section
variable {X:Cx}
end
section
variable {X:Cx}{pos:Pos}
end
end L3
namespace L3
open PySem L2 PySem.SeqAt
open PySem.Spec hiding items?
open PyProof.Rows hiding St
section
variable {X:Cx}{pins:List (Addr×Obj)}{σ:L2.St}{H:Hp}{s:Shared}{α:List (Option Addr)}
theorem An{A:Around}{d e:D}{x y:V}{u v:Value}(hd:wC d=true)(he:wC e=true)(rd:Rep α H d x)(re:Rep α H e y)(rx:RelV x u)(ry:RelV y v):RcNeAt A s u v (!cU d e):=by
 cases d<;>cases e<;>try(first|(cases hd;done)|(cases he;done))
 all_goals(unfold Rep at rd re;subst rd re)
 all_goals(first|(obtain⟨t,rfl⟩:=rx;obtain⟨t',rfl⟩:=ry)|(obtain⟨t,rfl⟩:=rx;cases ry)|(cases rx;obtain⟨t,rfl⟩:=ry)|(cases rx;cases ry))
 all_goals unfold cU
 . exact RcNeAt.none_none
 . exact RcNeAt.none_bool _
 . exact RcNeAt.none_int _ _
 . exact RcNeAt.none_str _ _
 . exact RcNeAt.bool_none _
 . exact RcNeAt.bool_bool _ _
 . exact RcNeAt.bool_int _ _ _
 . exact RcNeAt.bool_str _ _ _
 . exact RcNeAt.int_none _ _
 . exact RcNeAt.int_bool _ _ _
 . exact RcNeAt.int_int _ _ _ _
 . exact RcNeAt.int_str _ _ _ _
 . exact RcNeAt.str_none _ _
 . exact RcNeAt.str_bool _ _ _
 . exact RcNeAt.str_int _ _ _ _
 . exact RcNeAt.str_str _ _ _ _
theorem vV(I:Inv X pins σ H s){A:Around}{xs:List D}{e:D}{x y:V}{u v:Value}(he:wC e=true)(rd:Rep α H (.lst xs) x)(re:Rep α H e y)(rx:RelV x u)(ry:RelV y v)(hu:A.units<cLine):
 RcNeAt A s u v (!cU (.lst xs) e)/\RcNeAt A s v u (!cU e (.lst xs)):=by
 obtain⟨a,vs,its,rfl,_,_,hl⟩:=lst_is I rd rx;cases e<;>try(cases he;done)
 all_goals(unfold Rep at re;subst re)
 all_goals(first|(obtain⟨t,rfl⟩:=ry)|(cases ry))
 all_goals unfold cU
 . exact⟨RcNeAt.list_none hl hu,RcNeAt.none_list hl hu⟩
 . exact⟨RcNeAt.list_bool _ hl hu,RcNeAt.bool_list _ hl hu⟩
 . exact⟨RcNeAt.list_int _ _ hl hu,RcNeAt.int_list _ _ hl hu⟩
 . exact⟨RcNeAt.list_str _ _ hl hu,RcNeAt.str_list _ _ hl hu⟩
theorem wz(I:Inv X pins σ H s){A:Around}{xs:List D}{e:D}{x y:V}{u v:Value}(he:wC e=true)(rd:Rep α H (.tup xs) x)(re:Rep α H e y)(rx:RelV x u)(ry:RelV y v)(hu:A.units<cLine):
 RcNeAt A s u v (!cU (.tup xs) e)/\RcNeAt A s v u (!cU e (.tup xs)):=by
 obtain⟨a,vs,its,rfl,_,_,hl⟩:=tup_is I rd rx;cases e<;>try(cases he;done)
 all_goals(unfold Rep at re;subst re)
 all_goals(first|(obtain⟨t,rfl⟩:=ry)|(cases ry))
 all_goals unfold cU
 . exact⟨RcNeAt.tuple_none hl hu,RcNeAt.none_tuple hl hu⟩
 . exact⟨RcNeAt.tuple_bool _ hl hu,RcNeAt.bool_tuple _ hl hu⟩
 . exact⟨RcNeAt.tuple_int _ _ hl hu,RcNeAt.int_tuple _ _ hl hu⟩
 . exact⟨RcNeAt.tuple_str _ _ hl hu,RcNeAt.str_tuple _ _ hl hu⟩
theorem KQ(I:Inv X pins σ H s)(n:Nat)(A:Around)(d e:D)(x y:V)(u v:Value)(hd:pl n d=true)(he:pl n e=true)(rd:Rep α H d x)(re:Rep α H e y)(rx:RelV x u)(ry:RelV y v)(hu:A.units+n<cLine):RcNeAt A s u v (!cU d e):=by
 cases n with
 |zero=>
  refine An ?_ ?_ rd re rx ry
  . cases d<;>first|rfl|(cases hd)
  . cases e<;>first|rfl|(cases he)
 |succ n=>
  have hu0:A.units<cLine:=by omega
  have hin:A.in1.units+n<cLine:=by rw[Around.in1_units];omega
  cases d<;>try(cases hd;done)
  case lst xs=>
   cases e<;>try(cases he;done)
   case lst ys=>
    obtain⟨a,vs,its,rfl,r1,v1,l1⟩:=lst_is I rd rx;obtain⟨b,ws,jts,rfl,r2,v2,l2⟩:=lst_is I re ry;have e1:=r1.length;have e2:=v1.length;have e3:=r2.length;have e4:=v2.length;unfold cU;by_cases hlen:xs.length=ys.length
    . rw[nV hlen];have hsz:its.toArray.size=jts.toArray.size:=by simp only[List.size_toArray];omega
      have hx:xs.length=its.toArray.size:=by simp only[List.size_toArray];omega
      rw[hx];refine RcNeAt.lists l1 l2 hsz hu0 fun j h1 h2=>?_;obtain⟨p,_,q1,q2⟩:=kn r1 v1 j (by simpa using h1);obtain⟨p',_,q1',q2'⟩:=kn r2 v2 j (by simpa using h2);exact(Bj I n A.in1 _ _ p p' _ _ (je (by unfold pl at hd;exact hd) j) (je (by unfold pl at he;exact he) j) q1 q1' (by simpa using q2) (by simpa using q2') hin).2
    . rw[nX hlen];exact RcNeAt.lists_lengths l1 l2 (by simp only[List.size_toArray,bne_iff_ne,ne_eq];omega) hu0
   case tup ys=>
    obtain⟨a,vs,its,rfl,r1,v1,l1⟩:=lst_is I rd rx;obtain⟨b,ws,jts,rfl,r2,v2,l2⟩:=tup_is I re ry;unfold cU;exact RcNeAt.list_tuple l1 l2 hu0
   all_goals exact(vV I rfl rd re rx ry hu0).1
  case tup xs=>
   cases e<;>try(cases he;done)
   case tup ys=>
    obtain⟨a,vs,its,rfl,r1,v1,l1⟩:=tup_is I rd rx;obtain⟨b,ws,jts,rfl,r2,v2,l2⟩:=tup_is I re ry;have e1:=r1.length;have e2:=v1.length;have e3:=r2.length;have e4:=v2.length;unfold cU
    have key:=RcNeAt.tuples (e:=fun j=>cU (xs.getD j .aM) (ys.getD j .aM)) l1 l2 hu0 fun j h1 h2=>by
     obtain⟨p,_,q1,q2⟩:=kn r1 v1 j (by simpa using h1);obtain⟨p',_,q1',q2'⟩:=kn r2 v2 j (by simpa using h2);exact(Bj I n A.in1 _ _ p p' _ _ (je (by unfold pl at hd;exact hd) j) (je (by unfold pl at he;exact he) j) q1 q1' (by simpa using q2) (by simpa using q2') hin).2
    by_cases hlen:xs.length=ys.length
    . rw[nV hlen];have hsz:its.toArray.size=jts.toArray.size:=by simp only[List.size_toArray];omega
      have hx:xs.length=its.toArray.size:=by simp only[List.size_toArray];omega
      rw[hsz,Nat.min_self,beq_self_eq_true,Bool.and_true,<-hsz,<-hx]at key;exact key
    . rw[nX hlen];have hne:(its.toArray.size==jts.toArray.size)=false:=by simp only[List.size_toArray,beq_eq_false_iff_ne,ne_eq];omega
      rw[hne,Bool.and_false]at key;exact key
   case lst ys=>
    obtain⟨a,vs,its,rfl,r1,v1,l1⟩:=tup_is I rd rx;obtain⟨b,ws,jts,rfl,r2,v2,l2⟩:=lst_is I re ry;unfold cU;exact RcNeAt.tuple_list l1 l2 hu0
   all_goals exact(wz I rfl rd re rx ry hu0).1
  all_goals
   cases e<;>try(cases he;done)
   case lst ys=>exact(vV I rfl re rd ry rx hu0).2
   case tup ys=>exact(wz I rfl re rd ry rx hu0).2
   all_goals exact An rfl rfl rd re rx ry
def Kq:eE:=fun x y st K=>pl 40 x=true/\pl 40 y=true/\K (.bl (!cU x y)) st
theorem KS{k:Nat}(hr:cR k X.A):cF X (compareOp .NotEq) (LR Kq):=fun pins s σ H x y v u Q I rx ry ⟨α,d,e,st,K,G,F',P,r1,r2,S,q,k⟩=>by
 have hu:=hr.units;exact KQ I 40 X.A d e x y v u q.1 q.2.1 (r1.mono P.same) (r2.mono P.same) rx ry (by omega) _ _ _ _ ⟨.bl (!cU d e),H,I,rfl,k.here P q.2.2 S (by unfold Rep;rfl)⟩
@[irreducible] def uc:eE:=Kq
theorem Fd{k:Nat}(hr:cR k X.A):cF X (compareOp .NotEq) (LR uc):=by unfold uc;exact KS hr
end
theorem Ie{st:af}{K:DK}{d e:D}(h1:pl 40 d=true)(h2:pl 40 e=true)(k:K (.bl (!cU d e)) st):uc d e st K:=by unfold uc;exact⟨h1,h2,k⟩
theorem yg{st:af}{K:DK}{d:D}(h:pl 40 d=true)(k:K (.bl false) st):uc d d st K:=Ie h h (by rw[p_ 40 d h];exact k)
theorem CT{st:af}{n:Nat}{xs:List D}(h:items? st (.ref n)=some xs):st[n]?=some (.lst xs):=by
 unfold items? at h;simp only at h;split at h
 . rename_i q;cases h;exact q
 . cases h
theorem p7{env:Env}:∀(l:List (Str×NameKind)) (x:Str),(l.lookup x=some .cell\/l.lookup x=some .free)->
 ((l.map fun(n,k)=>if(k== .free&&env.scope.kind== .function&&env.kindOf n==some .cell)then(n,.cell)else(n,k)).lookup x=some .cell\/(l.map fun(n,k)=>if(k== .free&&env.scope.kind== .function&&env.kindOf n==some .cell)then(n,.cell)else(n,k)).lookup x=some .free)
 | [],x,h=>by simp at h
 |(n,k)::l,x,h=>by
  rw[List.map_cons];dsimp only;by_cases hx:x=n
  . subst hx;rw[List.lookup_cons_self]at h;split
    . rw[List.lookup_cons_self];exact .inl rfl
    . rw[List.lookup_cons_self];exact h
  . have hb:(x==n)=false:=by simpa using hx
    have e1:List.lookup x ((n,k)::l)=List.lookup x l:=by rw[List.lookup_cons,hb]
    rw[e1]at h;have ih:=p7 (env:=env) l x h;split
    . rw[List.lookup_cons,hb];exact ih
    . rw[List.lookup_cons,hb];exact ih
theorem bq.FY{X0:Cx}{scope0 scope:Scope}{Nc0 Nc:List Str}{C:Addr}{s:Shared}{H:Hp}{ex:List Addr}{fr:List (Option Nat)}(h:uE scope0 Nc0 scope Nc fr=true):bq (fD X0 scope0 Nc0 C s H ex) scope Nc fr:=by
 unfold uE at h;simp only[Bool.and_eq_true]at h;obtain⟨⟨⟨⟨⟨h1,h2⟩,h3⟩,h4⟩,h5⟩,h6⟩:=h;refine⟨by simpa using h1,fun x hx hk=>?_,fun x hx hk=>?_,fun x hx hk=>?_,by simpa using h5,fun i j x e1 e2=>?_⟩
 . have:=List.all_eq_true.mp h2 x hx;rw[hk]at this;simpa using this
 . have:=List.all_eq_true.mp h3 x hx;rw[hk]at this;simpa using this
 . have:=List.all_eq_true.mp h4 x hx;rw[hk]at this;have z:scope0.names.lookup x.1=some .cell\/scope0.names.lookup x.1=some .free:=by simpa using this
   exact p7 _ _ z
 . have hi:i<fr.length:=(List.getElem?_eq_some_iff.mp e2).1;have:=List.all_eq_true.mp h6 i (List.mem_range.mpr hi);rw[e1,e2]at this;simp only[Bool.and_eq_true,Bool.or_eq_true,beq_iff_eq]at this;exact⟨this.1.1,this.1.2,p7 _ _ this.2⟩
end L3
namespace L3
open PySem L2
open PySem.Spec hiding items?
open PyProof.Rows hiding St
section
variable {X:Cx}
end
theorem Dy{n:Nat}{d:D}(h:d∈d_ 0 n):∃i:Nat,i<n/\d= .int (i:Int):=by
 unfold d_ at h;obtain⟨i,hi,rfl⟩:=List.mem_map.mp h;rw[List.mem_range]at hi;exact⟨i,hi,by rw[Int.zero_add]⟩
theorem Cm{f:Nat->D}(n:Nat):(d_ 0 n).map (fun d=>match d with| .int i=>f i.toNat|_=> .aM)=(List.range n).map f:=by
 unfold d_;rw[List.map_map];refine List.map_congr_left fun i _=>?_;show f ((0:Int)+(i:Int)).toNat=f i;have:((0:Int)+(i:Int)).toNat=i:=by omega
 rw[this]
theorem m8{tg:gh}{te:DE}{σc:bR}{st:af}{K:List D->af->Prop}(f:Nat->D)(n:Nat)(hx:∀i:Nat,i<n->∀K',K' (f i) st->∃σ2,tg (.int (i:Int)) σc=some σ2/\te σ2 st K')(k:K ((List.range n).map f) st):dc tg cB te (fun _=>True) σc (d_ 0 n) [] st K:=by
 refine comp_map (g:=fun d=>match d with| .int i=>f i.toNat|_=> .aM) trivial _ (fun d hd K' q=>?_) (by rw[Cm];exact k);obtain⟨i,hi,rfl⟩:=Dy hd;exact hx i hi K' q
theorem kj{tg:gh}{body:DS}{E:m7}(n:Nat)(I:Nat->bR->af->Prop)(hend:∀σ st,I n σ st->E.nx σ st)
 (hstep:∀(j:Nat) σ st (rest:List D),j<n->I j σ st->(∀σ' st',I (j+1) σ' st'->jq tg body (fun _=>True) E rest σ' st')->∃σ1,tg (.int (j:Int)) σ=some σ1/\body {E with nx:=jq tg body (fun _=>True) E rest,ct:=jq tg body (fun _=>True) E rest,bk:=E.nx} σ1 st)
 {σ:bR} {st:af} (h0:I 0 σ st):jq tg body (fun _=>True) E (d_ 0 n) σ st:=by
 refine nA (fun rest σ st=>∃j:Nat,j<=n/\rest=(List.range (n-j)).map (fun i=>D.int (((j+i:Nat):Int)))/\I j σ st) ?_ ?_ _ _ _ ⟨0,Nat.zero_le _,by unfold d_;simp,h0⟩
 . rintro σ st ⟨j,hj,hr,hI⟩
   have:n-j=0:=by
    cases q:n-j with
    |zero=>rfl
    |succ m=>rw[q,List.range_succ_eq_map]at hr;cases hr
   have hjn:j=n:=by omega
   subst hjn;exact⟨trivial,hend σ st hI⟩
 . rintro d rest σ st ⟨j,hj,hr,hI⟩ next
   cases q:n-j with
   |zero=>rw[q]at hr;cases hr
   |succ m=>
    rw[q,List.range_succ_eq_map,List.map_cons,List.map_map]at hr;simp only[List.cons.injEq]at hr;obtain⟨rfl,hrest⟩:=hr;refine⟨trivial,hstep j σ st rest (by omega) hI fun σ' st' h'=>next σ' st' ⟨j+1,by omega,?_,h'⟩⟩;have:n-(j+1)=m:=by omega
    rw[this,hrest];refine List.map_congr_left fun i _=>?_;show D.int (((j+(i+1):Nat):Int))=D.int (((j+1+i:Nat):Int));congr 2;omega
section
variable {X:Cx}
end
abbrev v8:=D->bR->af->(bR->af->Prop)->Prop
inductive Kk(t:v8)(v:V)(σ:L2.St)(H:Hp)(Q:L2.St->Hp->Prop):Prop
 |mk (α:List (Option Addr)) (σd:bR) (st:af) (d:D) (K:bR->af->Prop) (G F:Hp) (P:bW G F H) (R:dU α G σd σ) (S:aO α st G) (r:Rep α G d v) (h:t d σd st K) (k:LC α G F K Q):Kk t v σ H Q
def yO(t:v8):TG:=Kk t
def si(to ti:DE):v8:=fun d σ st K=>to σ st fun x st1=>ti σ st1 fun y st2=>t9 x y d st2 fun st3=>K σ st3
section
variable {X:Cx}{pos:Pos}
theorem Dt{tg:Expr}{to ti:DE}(h:PG X tg (vN (LE to) (LE ti) rT)):PG X tg (yO (si to ti)):=PG.imp h fun v σ H Q ⟨α,σd,st,d,K,G,F,P,R,S,r,q,k⟩=>by
 unfold si t9 at q;refine⟨α,σd,st,_,G,F,P,R,S,q,fun x st2 q2 α2 G2 H2 v2 s2 P2 S2 r2=>?_⟩;refine⟨α2,σd,st2,_,G2,F,P2,R.step s2,S2,q2,fun y st3 q3 α3 G3 H3 v3 s3 P3 S3 r3=>?_⟩;cases x<;>cases y<;>try exact q3.elim
 rename_i n kk;unfold xV at q3;simp only at q3;split at q3
 . rename_i xs e;split at q3
   . rename_i j ej;obtain⟨p,ep,vs,hv,rv⟩:=S3.jZ e;have r2':=fH ep (r2.step s3);subst r2';unfold Rep at r3;have hm:some p∈α3:=List.mem_of_getElem? ep;have rd:=(r.step s2).step s3;refine⟨p,vs,kk,j,rfl,r3,P3.get hv,by rw[<-rv.length];exact ej,?_⟩;refine((k.at s2).at s3) σd _ q3 α3 (upd G3 p (.lst (vs.set j v))) _ σ (Step.write hm) (P3.write hv) (((R.step s2).step s3).step (Step.write hm)) ?_;exact S3.write ep ⟨vs.set j v,aV,(bh.mpr (pW rd j (bh.mp rv))).step (Step.write hm)⟩
   . exact q3.elim
 . exact q3.elim
def uL(t u:v8):v8:=fun d σ st K=>match d with| .tup [x,y]=>t x σ st fun σ1 st1=>u y σ1 st1 K|_=>False
theorem Gw{a b:Expr}{kx:Nat}{t u:v8}(hc:X.calm=true)(ha:PG X a (yO t))(hb:PG X b (yO u))(hn:(assignEach [a,b] X.env).length=2)(hst:(assignEach [a,b] X.env).findIdx? (·.1)=none)(hs1:Dp X [a,b] (uZ (yO t) (uZ (yO u) D6))):
 PG X (.Tuple [a,b] kx pos) (yO (uL t u)):=PG.imp (CP hc hs1 hn hst) fun v σ H Q ⟨α,σd,st,d,K,G,F,P,R,S,r,q,k⟩=>by
 unfold uL at q;split at q
 . rename_i x y;unfold Rep at r;obtain⟨p,vs,rfl,na,h1,h2⟩:=r;obtain⟨v1,v2,rfl,r1,r2⟩:=sv h2 rfl;refine⟨p,_,rfl,.of (P.get h1),rfl,v1,_,rfl,α,σd,st,x,_,G,F,P,R,S,r1,q,fun σ1 st1 q1 α1 G1 H1 σ1' s1 P1 R1 S1=>?_⟩;refine⟨v2,_,rfl,α1,σ1,st1,y,_,G1,F,P1,R1,S1,r2.step s1,q1,fun σ2 st2 q2 α2 G2 H2 σ2' s2 P2 R2 S2=>?_⟩;exact⟨rfl,((k.at s1).at s2).here P2 q2 R2 S2⟩
 . exact q.elim
def Bw(t:v8)(te:DE):DS:=fun E σ st=>te σ st fun d st1=>t d σ st1 E.nx
theorem HP{s:Stmt}{te:DE}{t:v8}(h:PS X s (mJ (LE te) (yO t))):PS X s (LS (Bw t te)):=PS.imp h fun D σ H ⟨α,σd,st,DD,G,F,P,R,S,q,k⟩=>
 ⟨α,σd,st,_,G,F,P,R,S,q,fun d st1 q1 α1 G1 H1 v s1 P1 S1 r1=>⟨α1,σd,st1,d,DD.nx,G1,F,P1,R.step s1,S1,r1,q1,k.nx.at s1⟩⟩
theorem HM{o1 i1 o2 i2 e:Expr}{kx:Nat}{p1 p2 tp:Pos}{to1 ti1 to2 ti2 te:DE}(ho1:JE X o1 to1)(hi1:JE X i1 ti1)(ho2:JE X o2 to2)(hi2:JE X i2 ti2)(he:JE X e te)(hc:X.calm=true:=by rfl)
 (hs:swapsWithSole [.Tuple [.Subscript o1 i1 p1,.Subscript o2 i2 p2] kx tp] e pos.line X.env=pure false:=by rfl) (hw:swappedStores [.Tuple [.Subscript o1 i1 p1,.Subscript o2 i2 p2] kx tp] e X.env=pure none:=by rfl)
 (h1:(assignEach [.Tuple [.Subscript o1 i1 p1,.Subscript o2 i2 p2] kx tp] X.env).map (·.2)=[assign (.Tuple [.Subscript o1 i1 p1,.Subscript o2 i2 p2] kx tp) X.env]:=by rfl) (hn:(assignEach [.Subscript o1 i1 p1,.Subscript o2 i2 p2] X.env).length=2:=by rfl) (hst:(assignEach [.Subscript o1 i1 p1,.Subscript o2 i2 p2] X.env).findIdx? (·.1)=none:=by rfl)
 (ha1:∀v,assign (.Subscript o1 i1 p1) X.env v=(do
   let ov <-holding [v] (eval o1 X.env)
   let iv <-holding [v,ov] (eval i1 X.env)
   standAt p1
   holding [v,ov,iv] (setItem ov iv v)
   release [v,ov,iv] []):=by intro _;rfl) (ha2:∀v,assign (.Subscript o2 i2 p2) X.env v=(do
   let ov <-holding [v] (eval o2 X.env)
   let iv <-holding [v,ov] (eval i2 X.env)
   standAt p2
   holding [v,ov,iv] (setItem ov iv v)
   release [v,ov,iv] []):=by intro _;rfl):
 JS X (.Assign [.Tuple [.Subscript o1 i1 p1,.Subscript o2 i2 p2] kx tp] e pos) (Bw (uL (si to1 ti1) (si to2 ti2)) te):=by
 unfold JS;unfold JE at*;have g1:=Dt (uu ho1 hi1 set_list ha1);have g2:=Dt (uu ho2 hi2 set_list ha2);exact HP (xS he (Gw hc g1 g2 hn hst (pJ g1 (pJ g2 zQ))) hs hw h1)
end
section
variable {X:Cx}
end
section
variable {st:af}{K:DK}{d:D}{b:Bool}
end
section
variable {X:Cx}
theorem GW{o i elt:Expr}{gs:List Comprehension}{sc:Scope}{p:Pos}{to ti te:TE}{pos pos':Pos}(he:PE X (.ListComp elt gs sc p) te)(ho:PE X o to)(hi:PE X i ti)(h2:ka i=true:=by rfl):PS X (.Assign [.Subscript o i pos'] (.ListComp elt gs sc p) pos) (mJ te (vN to ti rT)):=
 xS he (uu ho hi set_list (by intro v;cases i<;>first|rfl|cases h2)) (by unfold swapsWithSole swapsWith;rfl) rfl rfl
theorem wd{o i elt:Expr}{gs:List Comprehension}{sc:Scope}{p pos pos':Pos}{te to ti:DE}(he:JE X (.ListComp elt gs sc p) te)(ho:JE X o to)(hi:JE X i ti)(h2:ka i=true:=by rfl):JS X (.Assign [.Subscript o i pos'] (.ListComp elt gs sc p) pos) (fw to ti te):=by
 unfold JS;unfold JE at*;exact yh (GW he ho hi h2)
end
end L3
namespace L3
open PySem L2
open PySem.Spec hiding items?
open PyProof.Rows hiding St
open AutoSeq1 (wpAny_loadPart')
theorem Gi{P:Program}{w:World}{A:Around}(hh:A.handled=none)(k:SK)(t a:Addr)(hne:a≠t)(us:Array Value):Draws P w A t [t,a] us.size (fun i v=>us[i]?=some v) (fun n g=>ql k t a n g/\lZ k g a us) where
 live:=fun i h z=>((mS (P:=P) (w:=w) k t a hne us).lv i h z).1
 frame:=fun i h h' z kp=>(mS (P:=P) (w:=w) k t a hne us).fr i h h' z fun b hb o e=>kp b (by rcases hb with rfl|rfl<;>simp) o e
 item:=fun i s Q E hi z q=>(mS (P:=P) (w:=w) k t a hne us).nx i A s Q E us[i] z (by simp[hi]) fun g j sb=>q _ g s.toks (by simp[hi]) j sb
 done:=fun s Q E z q=>(mS (P:=P) (w:=w) k t a hne us).en us.size A s Q E hh z (by simp) q
theorem qc(l:Addr)(items:Array Value)(n:Nat)(dct:Option Addr)(sl:Array (Option Value)):
 Meets (Builtin.«enumerate.__new__» ⟨[.type "enumerate",.ref l],[]⟩) (fun _ R s=>s.heap.get? l=some {cls:= .type "tuple",dict:=dct,data:= .seq items n,slots:=sl}/\
  R (.ok (.ret (.ref (s.heap.push {cls:= .type "tuple_iterator",data:= .fields #[.ref l,.int 0 0]}).objs.size)))
   {s with heap:=(s.heap.push {cls:= .type "tuple_iterator",data:= .fields #[.ref l,.int 0 0]}).push {cls:= .type "enumerate",data:= .fields #[.none,.bool false,.ref s.heap.objs.size,rawInt 0,.none,.none]}}):=
 .of_wp fun prog w A R s h=>by
  obtain⟨hp,g,d,tk,os⟩:=s;obtain⟨hl,h⟩:=h;have hsub:=sub_enumerate;have hL:Heap.IsTuple (Shared.heap ⟨hp,g,d,tk,os⟩) l items:=⟨_,hl,rfl,n,rfl⟩
  wp_walk using wpAny_loadPart' hl
  refine wpAny_stack_any fun st=>wpAny_pure ?_;split
  . rename_i c _ _ _ _ _;cases (c==Value.type "enumerate")
    . wp_walk using wpAny_loadPart' hl,wpAny_pyIter_tuple hL
      exact⟨_,rfl,h⟩
    . wp_walk using wpAny_loadPart' hl,wpAny_pyIter_tuple hL
      exact⟨_,rfl,h⟩
  . wp_walk using wpAny_loadPart' hl,wpAny_pyIter_tuple hL
    exact⟨_,rfl,h⟩
theorem BD{P:Program}{w:World}{A:Around}{s:Shared}{E:Value->Shared->Prop}{k:SK}{a:Addr}{us:Array Value}{Q:Value->Shared->Prop}(c:lZ k s.heap a us)
 (q:∀g,IsEnum g (s.heap.objs.size+1) s.heap.objs.size 0 .none->ql k s.heap.objs.size a 0 g->(∀b o,s.heap.get? b=some o->g.get? b=some o)->Q (.ref (s.heap.objs.size+1)) {s with heap:=g}):
 wpAny (model P w) A (call (.type "enumerate") [.ref a]) Q E s:=by
 cases k
 . exact call_enumerate_list c fun g h1 h2 _ h4=>q g h1 h2 h4
 . obtain⟨⟨c,dct,dt,sl⟩,hl,hc,n,hd⟩:=c;replace hc:c= .type "tuple":=hc;replace hd:dt= .seq us n:=hd;subst hc hd
   refine callType_new F.called_enumerate (by decide) (F.typeCall_enumerate_1 _) (F.newCall_enumerate_1 _) (fun obj=>F.args_object_init_2 obj _) F.entry_enumerate_new
    (qc a us n dct sl) ⟨hl,?_⟩
   have hz:(s.heap.push {cls:= .type "tuple_iterator",data:= .fields #[.ref a,.int 0 0]}).objs.size=s.heap.objs.size+1:=Heap.size_push ..;show _/\_;rw[hz]
   have he:IsEnum ((s.heap.push {cls:= .type "tuple_iterator",data:= .fields #[.ref a,.int 0 0]}).push
    {cls:= .type "enumerate",data:= .fields #[.none,.bool false,.ref s.heap.objs.size,rawInt 0,.none,.none]}) (s.heap.objs.size+1) s.heap.objs.size 0 .none:=by
    have:=Heap.get?_push_size (s.heap.push {cls:= .type "tuple_iterator",data:= .fields #[.ref a,.int 0 0]})
     (o:={cls:= .type "enumerate",data:= .fields #[.none,.bool false,.ref s.heap.objs.size,rawInt 0,.none,.none]}) rfl
    rw[hz]at this;exact this
   exact⟨⟨_,he,rfl⟩,q _ he ⟨_,Heap.get?_push_of_some _ (Heap.get?_push_size _ rfl),rfl,rfl⟩ fun b o x=>Heap.get?_push_of_some _ (Heap.get?_push_of_some _ x)⟩
def MQ(K:PySem.W.Frag)(k:SK)(a:Addr):It:=
 ⟨fun i H=>∃xs x,oR k K H a xs/\xs[i]?=some x,
  fun i H v H'=>∃T x,H T=none/\v= .ref T/\H'=upd H T (.tup [.int (i:Int),x])/\∀xs,oR k K H a xs->xs[i]?=some x,
  fun i H=>∃xs,oR k K H a xs/\xs.length<=i⟩
def M5(e t a:Addr)(k:SK)(i:Nat)(h:Heap):Prop:=(∃old,IsEnum h e t i old)/\ql k t a i h
theorem CQ{P:Program}{w:World}{K:PySem.W.Frag}{elts:List Expr}{kx:Nat}{pos:Pos}{e t a:Addr}(k:SK)(n1:e≠t)(n2:a≠e)(n3:a≠t):
 Turn P w K (.Tuple elts kx pos) (MQ K k a) [e,t] e (M5 e t a k) where
 mem:=by simp
 obj:=fun i h st b hb=>by
  obtain⟨⟨old,he⟩,i1⟩:=st;simp only[List.mem_cons,List.not_mem_nil,or_false]at hb;rcases hb with rfl|rfl
  . exact⟨_,he,fun v z=>by cases z⟩
  . exact nv i1
 keep:=fun i h h' st kp=>by
  obtain⟨⟨old,he⟩,i1⟩:=st;exact⟨⟨old,kp e (by simp) _ he⟩,pz i1 (kp t (by simp))⟩
 item:=by
  intro X hP hw hK hc i pins s σ H E I hf st hg;subst hP hw hK;obtain⟨⟨old,he⟩,i1⟩:=st;obtain⟨xs,x,q1,ex⟩:=hg;obtain⟨us,r1,l1⟩:=kQ I q1;obtain⟨u,eu,ru⟩:=r1.get ex
  have hlt:i<us.toArray.size:=by
   have:=(List.getElem?_eq_some_iff.mp eu).1;simpa using this
  refine wpAny_pyNext_enum_itemD (Gi (A:=X.A.in1) (show X.A.in1.handled=none from I.ok.hd hc) k t a n3 us.toArray) he ⟨i1,l1⟩ hlt n1 (by simp only[List.mem_cons,List.not_mem_nil,or_false,not_or];exact⟨n1,Ne.symm n2⟩) fun y h' tk py ho hs hT hsz kp=>⟨_,rfl,?_⟩
  have hy:y=u:=by
   have:us[i]?=some y:=by simpa using py
   rw[eu]at this;cases this;rfl
  subst hy;refine wpAny_letOwnedTupleGo_enum (s:={s with heap:=h',toks:=tk+1}) ho fun k' he' sb=>?_;have hTe:s.heap.objs.size≠e:=Nat.ne_of_gt (Heap.lt_size he)
  have kp3:∀b o,b∉[e,t]->s.heap.get? b=some o->k'.get? b=some o:=fun b o hb eb=>by
   simp only[List.mem_cons,not_or,List.not_mem_nil,not_false_eq_true,and_true]at hb;exact sb.extBut _ _ hb.1 (kp b o hb.1 hb.2 eb)
  refine⟨.ref s.heap.objs.size,upd H s.heap.objs.size (.tup [.int (i:Int),x]),F4 (s:=s) (tk:=tk+1) I hf kp3 (Nat.le_refl _) ?_,rfl,⟨s.heap.objs.size,x,I.aI.fresh (Nat.le_refl _),rfl,rfl,?_⟩,?_,?_⟩
  . refine⟨Nat.le_of_ble_eq_true rfl,[.int (i:Int) tk,y],.cons ⟨tk,rfl⟩ (.cons ru .nil),?_⟩;exact⟨_,sb.extBut _ _ hTe hT,rfl,_,rfl⟩
  . intro xs' q';rw[vO I q' q1];exact ex
  . refine⟨⟨_,by simpa using he'⟩,pz hs.1 fun o eo=>sb.extBut _ _ (Ne.symm n1) eo⟩
  . intro b hb
    have:b≠s.heap.objs.size:=by
     obtain⟨o,eb⟩:∃o,s.heap.get? b=some o:=by
      simp only[List.mem_cons,List.not_mem_nil,or_false]at hb;rcases hb with rfl|rfl
      . exact⟨_,he⟩
      . obtain⟨o,eo,_⟩:=nv i1;exact⟨o,eo⟩
     exact Nat.ne_of_lt (Heap.lt_size eb)
    rw[ax this];exact(hf b hb).1
 done:=by
  intro X hP hw hK hc i pins s σ H E I hf st hg;subst hP hw hK;obtain⟨⟨old,he⟩,i1⟩:=st;obtain⟨xs,q1,hle⟩:=hg;obtain⟨us,r1,l1⟩:=kQ I q1;have e1:=r1.length;have tz:s.TypeIs (.ref e) "enumerate":=⟨_,he,rfl⟩
  unfold pyNext;refine wpAny_bind (wpAny_attempt (wpAny_callSpecial?_slot (name:=Str.ofString "__next__") tz F.slot_enumerate_next (wpAny_call_entry F.slot_enumerate_next tz F.entry_enumerate_next ?_ (F.args_enumerate_next_1 _))));show wpAny _ _ (field (.ref e) 2 >>= _) _ _ _;refine wpAny_bind (wpAny_field he rfl (x:= .ref t) rfl ?_);refine wpAny_bind ((mS k t a n3 us.toArray).en i _ s _ _ (I.ok.hd hc) ⟨i1,l1⟩ (by simp;omega) fun g x sb hx=>?_);obtain⟨o,ho,hc2⟩:=hx;refine wpAny_bind (wpAny_isInstance (T:="StopIteration") (b:=true) ⟨o,ho,hc2⟩ isSubtype_stop ?_);refine wpAny_pure ⟨rfl,Fl (s:=s) (tk:=s.toks) I hf fun b o hb eb=>?_⟩;simp only[List.mem_cons,not_or,List.not_mem_nil,not_false_eq_true,and_true]at hb;exact sb b o hb.2 eb
 self:=fun _ _ _ _ _ st h=>wpAny_pyIter_enum st.1.choose_spec h
def fz:Nat->List D->List D
 |_,[]=>[]
 |i,x::xs=> .tup [.int (i:Int),x]::fz (i+1) xs
theorem qO:∀ {xs:List D} {i:Nat},(fz i xs).length=xs.length
 | [],_=>rfl
 |_::xs,i=>by unfold fz;rw[List.length_cons,List.length_cons,qO]
theorem rL:∀ {xs:List D} {i n:Nat} {d:D},(fz i xs)[n]?=some d->∃x,xs[n]?=some x/\d= .tup [.int ((i+n:Nat):Int),x]
 | [],_,_,_,e=>by unfold fz at e;cases e
 |x::xs,i,0,d,e=>by
  unfold fz at e;rw[List.getElem?_cons_zero]at e;cases e;exact⟨x,rfl,rfl⟩
 |x::xs,i,n+1,d,e=>by
  unfold fz at e;rw[List.getElem?_cons_succ]at e;obtain⟨y,h1,h2⟩:=rL e;refine⟨y,by rw[List.getElem?_cons_succ];exact h1,?_⟩;rw[h2,show i+1+n=i+(n+1) by omega]
theorem GC{K:PySem.W.Frag}{k:SK}{a:Addr}{α:List (Option Addr)}{G:Hp}{ok:af->Prop}{xs:List D}
 (h:∀α' G' st',Step α G α' G'->aO α' st' G'->ok st'->∃vs,BX k G' a vs/\aG α' G' xs vs):tW (MQ K k a) α G ok (fz 0 xs) where
 stop:=fun n α' G' F' H' st' s P S o hn=>by
  obtain⟨vs,h1,r1⟩:=h α' G' st' s S o;rw[qO]at hn;refine⟨vs,j4 P h1,?_⟩;have:=r1.length;omega
 go:=fun n d α' G' F' H' st' s P S o hn=>by
  obtain⟨vs,h1,r1⟩:=h α' G' st' s S o;obtain⟨x,ex,rfl⟩:=rL hn;obtain⟨v,ev,_⟩:=r1.get ex;exact⟨vs,v,j4 P h1,ev⟩
 oz:=fun n d α' G' F' H' st' x H'' s P S o hn y=>by
  obtain⟨vs,h1,r1⟩:=h α' G' st' s S o;obtain⟨c,ec,rfl⟩:=rL hn;obtain⟨T,v,hT,rfl,rfl,y1⟩:=y;obtain⟨v',ev,rv⟩:=r1.get ec;rw[y1 vs (j4 P h1)]at ev;cases ev;have hg:=(P.none hT).1;refine⟨upd G' T (.tup [.int (n:Int),v]),Step.laid hg,P.laid hT,S.laid hg,?_⟩;unfold Rep;refine⟨T,[.int (n:Int),v],rfl,S.kI hg,aV,?_⟩;unfold aG;refine⟨.int (n:Int),[v],rfl,?_,?_⟩
  . unfold Rep;rw[Nat.zero_add]
  unfold aG;exact⟨v,[],rfl,rv.step (Step.laid hg),by unfold aG;rfl⟩
def BC(ds:List D)(st1:af)(K:List D->(af->Prop)->af->Prop):Prop:=match ds with
 | [x]=>(match items? st1 x with
   |some xs=>K (fz 0 xs) (fun st'=>items? st' x=some xs) st1
   |_=>False)
 |_=>False
@[irreducible] def rB:List D->af->(List D->(af->Prop)->af->Prop)->Prop:=BC
def xg(t:DA):DI:=fun σ st K=>t σ st fun ds st1=>rB ds st1 K
theorem Ck:bootBuiltins "enumerate"=some (.type "enumerate"):=by decide+kernel
theorem GL{X:Cx}{a:Expr}{elts:List Expr}{kx:Nat}{tpos p pos:Pos}{t:DA}(hg:Gl X "enumerate")(hm:X.mg "enumerate"=none)(ha:PA X [a] (LA t))(hs:starEach [a] X.env=[(false,eval a X.env)]):
 PI X (.Tuple elts kx tpos) (.Call (.Name "enumerate" p) [a] [] pos) (LI (xg t)):=by
 intro pins s σ H R I h;obtain⟨α,σd,st,K,G,F,P,RS,S,t,k⟩:=h;refine Call_ (jM I hg hm Ck (PyProof.Rows.callWith_type1 (bZ (ha pos pins s σ H (fun vs H1=>∃ds α1 G1 st1,Step α G α1 G1/\bW G1 F H1/\aO α1 st1 G1/\aG α1 G1 ds vs/\rB ds st1 K) I ⟨α,σd,st,_,G,F,P,RS,S,t,fun ds st1 q α1 G1 H1 vs s1 P1 S1 r1=>⟨ds,α1,G1,st1,s1,P1,S1,r1,q⟩⟩) fun us s1 ⟨vs,H1,I1,rv,ds,α1,G1,st1,w1,P1,S1,r1,q⟩=>?_) (by rw[hs];rfl) (by rfl)));unfold rB BC at q;split at q
 . rename_i x;split at q
   . rename_i xs ex;obtain⟨v1,rfl,q1⟩:=iu r1 rfl;obtain⟨p1,vs1,rfl,g1,c1⟩:=ny S1 q1 ex;obtain⟨u1,rfl,ru1⟩:=vals1 rv;cases ru1;obtain⟨its1,_,l1⟩:=kQ I1 (j4 P1 c1);refine BD l1 fun g he i1 kp=>?_;obtain⟨o1,eo1⟩:=l1.some;have hp1:p1<s1.heap.objs.size:=Heap.lt_size eo1;refine wpAny_pyIter_enum (s:={s1 with heap:=g}) he ?_;refine⟨s1.heap.objs.size+1,[s1.heap.objs.size+1,s1.heap.objs.size],_,_,H1,rfl,I1.kept (t':=s1.toks) kp,CQ (Fx x) (Nat.ne_of_gt (Nat.lt_succ_self _)) (Nat.ne_of_lt (Nat.lt_succ_of_lt hp1)) (Nat.ne_of_lt hp1),⟨⟨_,he⟩,i1⟩,fun b hb=>?_,?_⟩
     . have hb':s1.heap.objs.size<=b:=by
        simp only[List.mem_cons,List.not_mem_nil,or_false]at hb;rcases hb with rfl|rfl
        . exact Nat.le_succ _
        . exact Nat.le_refl _
       exact I1.uh hb' (I1.aI.fresh hb')
     . refine k _ _ st1 q _ α1 G1 H1 w1 P1 S1 (GC fun α' G' st' s' S' o=>?_);obtain⟨p1',ws1,e1,f1,d1⟩:=ny S' (q1.step s') o;cases e1;exact⟨ws1,d1,f1⟩
   . exact q.elim
 . exact q.elim
theorem z_{st:af}{x:D}{xs:List D}{K:List D->(af->Prop)->af->Prop}(ex:items? st x=some xs)(k:∀ok:af->Prop,(∀st',items? st' x=some xs->ok st')->K (fz 0 xs) ok st):rB [x] st K:=by
 unfold rB BC;simp only[ex];exact k _ fun st' h1=>h1
theorem CO{X:Cx}{a:Expr}{elts:List Expr}{kx:Nat}{tpos p pos:Pos}{ar:DA}(hg:Gl X "enumerate")(hm:X.mg "enumerate"=none)(ha:JA X [a] ar)(hs:notStar a=true:=by rfl):JI X (.Tuple elts kx tpos) (.Call (.Name "enumerate" p) [a] [] pos) (xg ar):=by
 unfold JI;unfold JA at ha;exact GL hg hm ha (cE hs)
end L3
namespace L3
open PySem L2
open PySem.Spec hiding items?
open PyProof.Rows hiding St
section
variable {prog:Program}{w:World}{A:Around}{E:Value->Shared->Prop}{s:Shared}
end
theorem yH:bootBuiltins "reversed"=some (.type "reversed"):=by decide+kernel
section
variable {X:Cx}{tg:Expr}
end
section
variable {X:Cx}
end
end L3
namespace L3
open PySem L2
open PySem.Spec hiding items?
open PyProof.Rows hiding St
open PySem PySem.Spec L2 PySem.SeqAt
section
variable {X:Cx}
end
end L3
namespace L3
open PySem L2
open PySem.Spec hiding items?
open PyProof.Rows hiding St
section
variable {X:Cx}
end
section
variable {P:Program}{w:World}
section
variable {z ti to t1 t2 t3 a1 a2 a3:Addr}
end
end
section
variable {X:Cx}
end
end L3
namespace L3
open PySem L2
open PySem.Spec hiding items?
open PyProof.Rows hiding St
open Sem (wp)
section
variable {prog:Program}{w:World}{A:Around}{s:Shared}{E:Value->Shared->Prop}
end
section
variable {prog:Program}{w:World}{A:Around}{R:Result->Shared->Prop}{I:Addr}{fp wr:List Addr}{G:Array GenState->Array GenState->Prop}{n:Nat}{P:Nat->Value->Prop}{Sx:Nat->Shared->Prop}
end
section
variable {prog:Program}{w:World}{A:Around}{E:Value->Shared->Prop}{s:Shared}
end
section
variable {X:Cx}{pins:List (Addr×Obj)}{σ:L2.St}{H:Hp}{s:Shared}{α:List (Option Addr)}
end
end L3
namespace L3
open PySem L2
open PySem.Spec hiding items?
open PyProof.Rows hiding St
section
variable {X:Cx}
end
def putD(f:Str)(v:D):List (Str×D)->List (Str×D)
 | []=>[(f,v)]
 |(g,x)::r=>if g=f then(g,v)::r else(g,x)::putD f v r
theorem j9.look{α:List (Option Addr)}{H:Hp}{f:Str}{v:D}:∀ {fs:List (Str×D)} {vs:List (Str×V)},j9 α H fs vs->fs.lookup f=some v->∃u,vs.lookup f=some u/\Rep α H v u
 | [],_,_,e=>by cases e
 |(g,x)::fs,_,.cons (b:=q) h t,e=>by
  obtain⟨g',y⟩:=q;obtain⟨h1,h2⟩:=h;simp only at h1 h2;subst h1;rw[List.lookup_cons]at e⊢;cases hb:f==g with
  |true=>rw[hb]at e;cases e;exact⟨y,rfl,h2⟩
  |false=>rw[hb]at e;exact j9.look t e
theorem j9.none{α:List (Option Addr)}{H:Hp}{f:Str}:∀ {fs:List (Str×D)} {vs:List (Str×V)},j9 α H fs vs->fs.lookup f=Option.none->vs.lookup f=Option.none
 | [],_,.nil,_=>rfl
 |(g,x)::fs,_,.cons (b:=q) h t,e=>by
  obtain⟨g',y⟩:=q;obtain⟨h1,h2⟩:=h;simp only at h1 h2;subst h1;rw[List.lookup_cons]at e⊢;cases hb:f==g with
  |true=>rw[hb]at e;cases e
  |false=>rw[hb]at e;exact j9.none t e
theorem j9.put{α:List (Option Addr)}{H:Hp}{f:Str}{d:D}{v:V}(r:Rep α H d v):∀ {fs:List (Str×D)} {vs:List (Str×V)},j9 α H fs vs->j9 α H (putD f d fs) (g_ f v vs)
 | [],_,.nil=> .cons ⟨rfl,r⟩ .nil
 |(g,x)::fs,_,.cons (b:=q) h t=>by
  obtain⟨g',y⟩:=q;obtain⟨h1,h2⟩:=h;simp only at h1 h2;subst h1;unfold putD g_;by_cases hb:g=f
  . rw[if_pos hb,if_pos hb];exact .cons ⟨rfl,r⟩ t
  . rw[if_neg hb,if_neg hb];exact .cons ⟨rfl,h2⟩ (j9.put r t)
def D3(C:Addr)(f:Str)(d:D)(st:af)(K:DK):Prop:=match d with
 | .ref n=>(match st[n]? with|some (.ins C' fs)=>C'=C/\∃v,fs.lookup f=some v/\K v st|_=>False)
 |_=>False
@[irreducible] def Bc(C:Addr)(f:Str):D->af->DK->Prop:=D3 C f
def bM(C:Addr)(f:Str)(te:DE):DE:=fun σ st K=>te σ st fun d st1=>Bc C f d st1 K
theorem aY{C:Addr}{f:Str}{n:Nat}{st:af}{K:DK}{fs:List (Str×D)}{v:D}(e:st[n]?=some (.ins C fs))(h:fs.lookup f=some v)(k:K v st):Bc C f (.ref n) st K:=by
 unfold Bc D3;simp only[e];exact⟨trivial,v,h,k⟩
def A5(C:Addr)(f:Str)(x d:D)(st:af)(K:af->Prop):Prop:=match x with
 | .ref n=>(match st[n]? with|some (.ins C' fs)=>C'=C/\fs.length<1000/\K (st.set n (.ins C (putD f d fs)))|_=>False)
 |_=>False
@[irreducible] def u9(C:Addr)(f:Str):D->D->af->(af->Prop)->Prop:=A5 C f
def fh(C:Addr)(f:Str)(to te:DE):DS:=fun D σ st=>te σ st fun d st1=>to σ st1 fun x st2=>u9 C f x d st2 fun st3=>D.nx σ st3
theorem lq{C:Addr}{f:Str}{n:Nat}{d:D}{st:af}{K:af->Prop}{fs:List (Str×D)}(e:st[n]?=some (.ins C fs))(h:fs.length<1000)(k:K (st.set n (.ins C (putD f d fs)))):u9 C f (.ref n) d st K:=by
 unfold u9 A5;simp only[e];exact⟨trivial,h,k⟩
def xy(C:Addr)(m:Str)(x:D)(st:af)(k:Prop):Prop:=match x with
 | .ref n=>(match st[n]? with|some (.ins C' fs)=>C'=C/\fs.lookup m=none/\k|_=>False)
 |_=>False
@[irreducible] def u5(C:Addr)(m:Str):D->af->Prop->Prop:=xy C m
theorem dP{C:Addr}{m:Str}{n:Nat}{st:af}{k:Prop}{fs:List (Str×D)}(e:st[n]?=some (.ins C fs))(h:fs.lookup m=none)(q:k):u5 C m (.ref n) st k:=by
 unfold u5 xy;simp only[e];exact⟨trivial,h,q⟩
def dZ(C:Addr)(m:Str)(S:cV)(to:DE)(t:DA):DE:=fun σ st K=>to σ st fun x st1=>u5 C m x st1 (t σ st1 fun ds st2=>S (x::ds) st2 K)
def xG(C:Addr)(S:cV)(t:DA):DE:=fun σ st K=>t σ st fun ds st1=>S (.ref st1.length::ds) (st1++[.ins C []]) fun r st2=>r= .aM/\K (.ref st1.length) st2
section
variable {X:Cx}{C f g:Addr}{fd:FuncData}{k:Nat}{x m fl:Str}{e o value:Expr}{es:List Expr}{p pos pos' apos:Pos}{te to:DE}{t:DA}{S:cV}{ps:List Str}
theorem Mz(c:mN X.K C)(na:dW X.K C fl)(he:PE X e (LE te))(hb:attributeBase e fl X.env (eval e X.env)=eval e X.env):PE X (.Attribute e fl pos) (LE (bM C fl te)):=PE.imp (Ia he hb) fun σ H Q ⟨α,σd,st,K,G,F,P,R,S,t,k⟩=>by
 refine⟨α,σd,st,_,G,F,P,R,S,t,fun d st1 q α1 G1 H1 v s1 P1 S1 r1=>?_⟩;unfold Bc D3 at q;cases d<;>try exact q.elim
 simp only at q;split at q
 . rename_i C' fs e';obtain⟨rfl,w,hw,q⟩:=q;obtain⟨a,ea,dx,vs,h1,h2⟩:=S1.xr e';have r1':=fH ea r1;subst r1';obtain⟨u,hu,ru⟩:=h2.look hw;exact⟨a,_,dx,vs,u,rfl,P1.get h1,c,na,hu,(k.at s1).here P1 q S1 ru⟩
 . exact q.elim
theorem Jr(c:mN X.K C)(na:dW X.K C fl)(ho:PE X o (LE to))(hv:PE X value (LE te))(hs:swapsWith value (some (.Attribute o fl pos')) pos.line X.env=pure false):PS X (.Assign [.Attribute o fl pos'] value pos) (LS (fh C fl to te)):=PS.imp (Js ho hv hs) fun D σ H ⟨α,σd,st,DD,G,F,P,R,S,t,k⟩=>by
 refine⟨α,σd,st,_,G,F,P,R,S,t,fun d st1 q α1 G1 H1 v s1 P1 S1 r1=>?_⟩;refine⟨α1,σd,st1,_,G1,F,P1,R.step s1,S1,q,fun x st2 q2 α2 G2 H2 v2 s2 P2 S2 r2=>?_⟩;unfold u9 A5 at q2;cases x<;>try exact q2.elim
 simp only at q2;split at q2
 . rename_i C' fs e';obtain⟨rfl,hl,q2⟩:=q2;obtain⟨a,ea,dx,vs,h1,h2⟩:=S2.xr e';have r2':=fH ea r2;subst r2';have hm:some a∈α2:=List.mem_of_getElem? ea;have lv:vs.length<1000:=by rw[<-h2.length];exact hl
   refine⟨a,_,dx,vs,rfl,P2.get h1,c,na,lv,?_⟩;refine((k.nx.at s1).at s2) σd _ q2 α2 (upd G2 a (.ins _ dx (g_ fl v vs))) _ σ (Step.write hm) (P2.write h1) (((R.step s1).step s2).step (Step.write hm)) ?_;exact S2.write ea ⟨dx,g_ fl v vs,aV,(h2.put (r1.step s2)).step (Step.write hm)⟩
 . exact q2.elim
theorem LE.KP{σ:L2.St}{H:Hp}{Q:VK}(h:LE (dZ C m S to t) σ H Q):AS C m (c8 S) [] E0 (LE to) (LA t) σ H Q:=by
 obtain⟨α,σd,st,K,G,F,P,R,Sr,tt,k⟩:=h;refine⟨α,σd,st,_,G,F,P,R,Sr,tt,fun d st1 q α1 G1 H1 v s1 P1 S1 r1=>?_⟩;unfold u5 xy at q;cases d<;>try exact q.elim
 simp only at q;split at q
 . rename_i n C' fs e';obtain⟨rfl,hl,q⟩:=q;obtain⟨a,ea,dx,vs,h1,h2⟩:=S1.xr e';have r1':=fH ea r1;subst r1';refine⟨a,dx,vs,rfl,P1.get h1,h2.none hl,?_⟩;refine⟨α1,σd,st1,_,G1,F,P1,R.step s1,S1,q,fun ds st2 q2 α2 G2 H2 us s2 P2 S2 r2=>?_⟩;try dsimp only
   rw[List.append_nil];exact⟨α2,_,st2,K,G2,F,P2,by unfold aG;exact⟨_,_,rfl,r1.step s2,r2⟩,S2,q2,(k.at s1).at s2⟩
 . exact q.elim
theorem LE.make{σ:L2.St}{H:Hp}{Q:VK}(h:LE (xG C S t) σ H Q):Fv C (c8 S) [] E0 (LA t) σ H Q:=by
 obtain⟨α,σd,st,K,G,F,P,R,Sr,tt,k⟩:=h;refine⟨α,σd,st,_,G,F,P,R,Sr,tt,fun ds st1 q α1 G1 H1 us s1 P1 S1 r1=>?_⟩;intro x dx hx hdx hne;have hgd:=(P1.none hdx).1;have P2:=P1.laid (o:= .own x) hdx;have S2:=S1.laid (o:= .own x) hgd;have hx2:upd H1 dx (.own x) x=none:=by rw[ax (Ne.symm hne)];exact hx
 have hg2:=(P2.none hx2).1;have P3:=P2.laid (o:= .ins C dx []) hx2;have S3:=S2.cell (o:= .ins C dx []) (c:= .ins C []) hg2 ⟨dx,[],aV,.nil⟩;have s2:Step α1 G1 α1 (upd G1 dx (.own x)):=Step.laid hgd;have s3:Step α1 (upd G1 dx (.own x)) (α1++[some x]) (upd (upd G1 dx (.own x)) x (.ins C dx [])):=Step.cell hg2
 have rx:Rep (α1++[some x]) (upd (upd G1 dx (.own x)) x (.ins C dx [])) (.ref st1.length) (.ref x):=by
  unfold Rep;refine .inr ⟨x,?_,rfl⟩;rw[List.getElem?_append_right (by rw[S1.len];exact Nat.le_refl _),S1.len,Nat.sub_self];rfl
 rw[List.append_nil];refine⟨α1++[some x],.ref st1.length::ds,st1++[.ins C []],_,_,F,P3,by unfold aG;exact⟨_,_,rfl,rx,(r1.step s2).step s3⟩,S3,q,fun d st2 q2 α' G' H' v s' P' S' r'=>?_⟩;obtain⟨rfl,q2⟩:=q2;unfold Rep at r';exact⟨r',(((k.at s1).at s2).at s3) _ st2 q2 α' G' H' _ s' P' S' (rx.step s')⟩
end
section
variable {X:Cx}{tg:Expr}
end
section
variable {X:Cx}
end
section
variable {X:Cx}{e o i value:Expr}{es:List Expr}{te to ti:DE}{t:DA}{pos pos' tpos apos p:Pos}{C f:Addr}{fl m x:Str}{S:cV}{k:Nat}{fd:FuncData}{ps:List Str}
theorem Ca{value o:Expr}{fl:Str}{pos':Pos}{n:Nat}{env:Env}:swapsWith value (some (.Attribute o fl pos')) n env=pure false:=by cases value<;>rfl
theorem bw(c:mN X.K C)(na:dW X.K C fl)(he:JE X e te)(hb:attributeBase e fl X.env (eval e X.env)=eval e X.env:=by rfl):JE X (.Attribute e fl pos) (bM C fl te):=by unfold JE at*;exact Mz c na he hb
theorem dy(c:mN X.K C)(na:dW X.K C fl)(ho:JE X o to)(hv:JE X value te):JS X (.Assign [.Attribute o fl pos'] value pos) (fh C fl to te):=by unfold JS;unfold JE at*;exact Jr c na ho hv Ca
theorem iK{pl:Sem Bool}(he:JE X o to)(c:mN X.K C)(hm:Meth X.K C m f)(F:bH X.prog X.w X.K X.mg X.base cW k f fd ps (c8 S))(hr:cR k X.A)(hb:Binds X.K fd ps [])(ha:JA X (e::es) t)
 (hs:notStar e=true:=by rfl) (hs2:hW es=true:=by rfl)
 (ht:eval (.Call (.Attribute o m apos) (e::es) [] pos) X.env=(do
   let ov <-eval o X.env
   standAt apos.atName
   let(f,first) <-holding [ov] (getMethod ov m pl)
   callWith pos f first (backTo pos (starEach (e::es) X.env)) (backToKw pos (keywordEach [] X.env))):=by rfl):
 JE X (.Call (.Attribute o m apos) (e::es) [] pos) (dZ C m S to t):=by
 unfold JE at*;unfold JA at ha;exact PE.imp (Hx he c hm F hr hb .nil xv ha (cE hs) (lh hs2) ht) fun _ _ _ h=>LE.KP h
theorem nB{pl:Sem Bool}(he:JE X o to)(c:mN X.K C)(hm:Meth X.K C m f)(F:bH X.prog X.w X.K X.mg X.base cW k f fd ps (c8 S))(hr:cR k X.A)(hb:Binds X.K fd ps [])
 (ht:eval (.Call (.Attribute o m apos) [] [] pos) X.env=(do
   let ov <-eval o X.env
   standAt apos.atName
   let(f,first) <-holding [ov] (getMethod ov m pl)
   callWith pos f first (backTo pos (starEach [] X.env)) (backToKw pos (keywordEach [] X.env))):=by rfl):
 JE X (.Call (.Attribute o m apos) [] [] pos) (dZ C m S to ak):=by
 unfold JE at*;refine PE.imp (Ei he c hm F hr hb .nil xv ht) fun σ H Q h=>?_;obtain⟨α,σd,st,K,G,F,P,R,Sr,tt,k⟩:=h;refine⟨α,σd,st,_,G,F,P,R,Sr,tt,fun d st1 q α1 G1 H1 v s1 P1 S1 r1=>?_⟩;unfold u5 xy at q;cases d<;>try exact q.elim
 simp only at q;split at q
 . rename_i n C' fs e';obtain⟨rfl,hl,q⟩:=q;obtain⟨a,ea,dx,vs,h1,h2⟩:=S1.xr e';have r1':=fH ea r1;subst r1';exact⟨a,dx,vs,rfl,P1.get h1,h2.none hl,α1,_,st1,K,G1,F,P1,by unfold aG;exact⟨_,_,rfl,r1,by unfold aG;rfl⟩,S1,q,k.at s1⟩
 . exact q.elim
theorem Dq(M:Mk X.K C f)(F:bH X.prog X.w X.K X.mg X.base cW k f fd ps (c8 S))(hr:cR (k+1) X.A)(hg:Gl X x)(hmg:X.mg x=some (.ref C))(hb:Binds X.K fd ps [])(ha:JA X (e::es) t)(hdb:(x==("__debug__":Str))=false)
 (hs:notStar e=true:=by rfl) (hs2:hW es=true:=by rfl):JE X (.Call (.Name x p) (e::es) [] pos) (xG C S t):=by
 unfold JE;unfold JA at ha;exact PE.imp (GI M F hr hg hmg hb .nil xv ha hdb (cE hs) (lh hs2)) fun _ _ _ h=>LE.make h
end
end L3
namespace L3
open PySem PySem.Spec L2
open PyProof.Rows hiding St
def Jn(xs:Array Keyed)(i:Nat):Int:=match xs[i]? with
 |some p=>numOf p.2
 |none=>0
theorem nP{xs ys:Array Keyed}{i j:Nat}(h:xs[i]?=ys[j]?):Jn xs i=Jn ys j:=by unfold Jn;rw[h]
theorem mf{xs:Array Keyed}{i j:Nat}(hj:j<=xs.size)(k:Nat):
 K (mirror xs i j ((j-i)/2)) k=K xs (if i<=k/\k<j then i+j-1-k else k)/\Jn (mirror xs i j ((j-i)/2)) k=Jn xs (if i<=k/\k<j then i+j-1-k else k):=by
 have e:=getElem?_mirror_all (i:=i) hj k;split at e<;>rename_i h
 . rw[if_pos h];exact⟨K_congr e,nP e⟩
 . rw[if_neg h];exact⟨K_congr e,nP e⟩
theorem DF{xs:Array Keyed}{src d:Nat}(hs:src<xs.size)(hd:d<=src)(k:Nat):
 K (bubble xs src d) k=K xs (if k=src-d then src else if src-d<k/\k<=src then k-1 else k)/\Jn (bubble xs src d) k=Jn xs (if k=src-d then src else if src-d<k/\k<=src then k-1 else k):=by
 have e:=getElem?_bubble hs d hd k;split at e<;>rename_i h
 . rw[if_pos h];exact⟨K_congr e,nP e⟩
 . rw[if_neg h];split at e<;>rename_i h2
   . rw[if_pos h2];exact⟨K_congr e,nP e⟩
   . rw[if_neg h2];exact⟨K_congr e,nP e⟩
def my(xs:Array Keyed)(i j:Nat):Prop:=K xs i<K xs j\/(K xs i=K xs j/\Jn xs i<Jn xs j)
def jN(xs:Array Keyed)(k:Nat):Prop:=∀i j,i<j->j<k->my xs i j
def jm(n:Nat)(xs:Array Keyed)(k:Nat):Prop:=∀i j,i<j->k<=j->j<n->Jn xs i<Jn xs j
theorem jN.to{xs:Array Keyed}{k:Nat}(h:jN xs k):SortedTo xs k:=fun i j hij hj=>by
 rcases Nat.lt_or_eq_of_le hij with e|e
 . rcases h i j e hj with q|q<;>omega
 . subst e;exact Int.le_refl _
theorem jN.more{xs:Array Keyed}{n k m:Nat}(h:jN xs k)(t:jm n xs k)(s:SortedTo xs m)(hm:m<=n):jN xs m:=fun i j hij hj=>by
 by_cases hk:j<k
 . exact h i j hij hk
 . have a:=s i j (Nat.le_of_lt hij) hj;have b:=t i j hij (Nat.le_of_not_lt hk) (Nat.lt_of_lt_of_le hj hm);unfold my;omega
theorem jm.up{xs:Array Keyed}{n k m:Nat}(t:jm n xs k)(h:k<=m):jm n xs m:=fun i j a b c=>t i j a (Nat.le_trans h b) c
theorem jm.mix{xs ys:Array Keyed}{n k:Nat}(t:jm n xs k)(f:Nat->Nat)(hf:∀i,Jn ys i=Jn xs (f i))(h1:∀i,i<k->f i<k)(h2:∀i,k<=i->f i=i):jm n ys k:=fun i j a b c=>by
 rw[hf,hf,h2 j b];refine t _ _ ?_ b c;by_cases hi:i<k
 . exact Nat.lt_of_lt_of_le (h1 i hi) b
 . rw[h2 i (Nat.le_of_not_lt hi)];exact a
section
variable {prog:Program}{w:World}{A:Around}{E:Value->Shared->Prop}{s:Shared}{a₀:Array Keyed}
theorem DL{st:SortSt}{ok:Nat}{Q:Bool->SortSt->Prop}(h0:IntKeys a₀)(h1:1<=ok)(aI:ok<=a₀.size)(hB:SBase a₀ st)(hs:jN (arrOf st) ok)(ht:jm a₀.size (arrOf st) ok)
 (h:∀st',SBase a₀ st'->jN (arrOf st') a₀.size->Q true st'):wpS (model prog w) A E s (binarySort' 0 a₀.size ok) Q st:=by
 rw[binarySort'_eq];simp only[Nat.zero_add]
 refine wpS_bind (wpS_mono (wpS_forRange (I:=fun k c q=>c=(none,())/\SBase a₀ q/\k<=a₀.size/\jN (arrOf q) k/\jm a₀.size (arrOf q) k)
  (Q:=fun c q=>c=(none,())/\SBase a₀ q/\jN (arrOf q) a₀.size) ?st ?en ?be) ?po)
 case po=>rintro c q ⟨rfl,b1,b2⟩;exact wpS_pure (h q b1 b2)
 case be=>rw[show max ok 1=ok by omega];exact⟨rfl,hB,aI,hs,ht⟩
 case en=>
  rintro c q ⟨rfl,b1,b2,b3,_⟩;rw[show max (max ok 1) a₀.size=a₀.size by omega]at b3;exact⟨rfl,b1,b3⟩
 case st=>
  rintro k c q hk1 hk2 ⟨rfl,qB,_,qS,qT⟩
  refine wpS_bind (wpS_mono (wpS_forRange (I:=fun x c q'=>q'=q/\∃l r,c=(none,l,r)/\l<=r/\r<=k/\r-l<=k-x/\(∀i,i<l->K (arrOf q) i<=K (arrOf q) k)/\(∀i,r<=i->i<k->K (arrOf q) k<K (arrOf q) i))
   (Q:=fun c q'=>q'=q/\∃l,c=(none,l,l)/\l<=k/\(∀i,i<l->K (arrOf q) i<=K (arrOf q) k)/\(∀i,l<=i->i<k->K (arrOf q) k<K (arrOf q) i)) ?a ?b ?c) ?d)
  case c=>exact⟨rfl,0,k,rfl,by omega,by omega,by omega,fun i hi=>by omega,fun i x y=>by omega⟩
  case b=>
   rintro c q' ⟨rfl,l,r,rfl,e1,e2,e3,e4,e5⟩;have:r=l:=by omega
   subst this;exact⟨rfl,r,rfl,e2,e4,e5⟩
  case a=>
   rintro x c q' _ hx ⟨rfl,l,r,rfl,e1,e2,e3,e4,e5⟩;dsimp only;by_cases hlr:l>=r
   . rw[if_pos hlr];have:r=l:=by omega
     subst this;exact wpS_pure ⟨rfl,r,rfl,e2,e4,e5⟩
   . rw[if_neg hlr];refine wpS_bind (wpS_ltK qB h0 hk2 (by omega) ?_);have so:=qS.to;by_cases hl:K (arrOf q') k<K (arrOf q') ((l+r)/2)
     . simp only[hl,decide_true,if_true];exact wpS_pure ⟨rfl,l,(l+r)/2,rfl,by omega,by omega,by omega,e4,fun i x y=>Int.lt_of_lt_of_le hl (so _ _ x y)⟩
     . simp only[hl,decide_false,Bool.false_eq_true,if_false];refine wpS_pure ⟨rfl,(l+r)/2+1,r,rfl,by omega,by omega,by omega,fun i x=>?_,e5⟩;have:=so i ((l+r)/2) (by omega) (by omega);omega
  case d=>
   rintro c q' ⟨rfl,l,rfl,hlk,e4,e5⟩;show wpS _ _ _ _ (do moveDown' k l;pure (ForInStep.yield (none,()))) _ _;rw[moveDown'_eq];have hks:k<(arrOf q').size:=by rw[qB.size];exact hk2
   have bb:=DF (xs:=arrOf q') hks (show k-l<=k by omega);rw[show k-(k-l)=l by omega]at bb;refine wpS_bind (wpS_modify (wpS_pure ⟨rfl,qB.setArr (bubble_perm _ _ _),by omega,fun i j hij hj=>?_,jm.mix (qT.up (Nat.le_succ k)) _ (fun i=>(bb i).2) (fun i hi=>?_) (fun i hi=>?_)⟩))
   . show my (bubble (arrOf q') k (k-l)) i j;unfold my;rw[(bb i).1,(bb i).2,(bb j).1,(bb j).2];by_cases hil:i<l
     . rw[if_neg (show¬i=l by omega),if_neg (show¬(l<i/\i<=k) by omega)];by_cases hjl:j=l
       . rw[if_pos hjl];have x:=e4 i hil;have y:=qT i k (by omega) (Nat.le_refl _) hk2;omega
       . rw[if_neg hjl];by_cases hj2:l<j/\j<=k
         . rw[if_pos hj2];exact qS i (j-1) (by omega) (by omega)
         . rw[if_neg hj2];exact qS i j hij (by omega)
     . by_cases hie:i=l
       . rw[if_pos hie,if_neg (show¬j=l by omega),if_pos (show l<j/\j<=k by omega)];exact .inl (e5 _ (by omega) (by omega))
       . rw[if_neg hie,if_pos (show l<i/\i<=k by omega),if_neg (show¬j=l by omega),if_pos (show l<j/\j<=k by omega)];exact qS _ _ (by omega) (by omega)
   . show(if i=l then k else if l<i/\i<=k then i-1 else i)<k+1;split
     . omega
     . split<;>omega
   . show(if i=l then k else if l<i/\i<=k then i-1 else i)=i;rw[if_neg (by omega),if_neg (by omega)]
def wt(xs:Array Keyed)(m q:Nat):Prop:=q+1<=m/\∀i j,i<j->j<m->(m<=i+(q+1)->K xs i=K xs j/\Jn xs i<Jn xs j)/\(i+(q+1)<m->(m<=j+(q+1)->K xs j<K xs i)/\my xs j i)
theorem wt.all{xs:Array Keyed}{m q:Nat}(h:wt xs m q)(hm:m<=xs.size):(q=0\/0<q)/\∀i j,i<j->j<m->my (mirror xs (m-(q+1)) m ((m-(m-(q+1)))/2)) j i:=by
 refine⟨by omega,fun i j hij hj=>?_⟩;have b:=mf (i:=m-(q+1)) (j:=m) hm;unfold my;rw[(b i).1,(b i).2,(b j).1,(b j).2];by_cases hi:m-(q+1)<=i/\i<m
 . rw[if_pos hi,if_pos (show m-(q+1)<=j/\j<m by omega)];have:=(h.2 (m-(q+1)+m-1-j) (m-(q+1)+m-1-i) (by omega) (by omega)).1 (by omega);omega
 . rw[if_neg hi];by_cases hj2:m-(q+1)<=j/\j<m
   . rw[if_pos hj2];have:=((h.2 i (m-(q+1)+m-1-j) (by omega) (by omega)).2 (by omega)).1 (by omega);omega
   . rw[if_neg hj2];exact((h.2 i j hij hj).2 (by omega)).2
theorem wt.zero{xs:Array Keyed}{m:Nat}(h:wt xs m 0):∀i j,i<j->j<m->my xs j i:=fun i j hij hj=>((h.2 i j hij hj).2 (by omega)).2
theorem m9{n:Nat}{xs:Array Keyed}{i j k:Nat}(t:jm n xs k)(hj:j<=xs.size)(hk:j<=k):jm n (mirror xs i j ((j-i)/2)) k:=
 t.mix _ (fun a=>(mf hj a).2) (fun a ha=>by split<;>omega) fun a ha=>by rw[if_neg (by omega)]
theorem BW{st:SortSt}{n:Nat}{Q:DescSt->SortSt->Prop}(h0:IntKeys a₀)(hn:n<=a₀.size)(hB:SBase a₀ st)(hs:wt (arrOf st) n 0)(ht:jm a₀.size (arrOf st) n)
 (h:∀m q st',SBase a₀ st'->n<=m->m<=a₀.size->wt (arrOf st') m q->jm a₀.size (arrOf st') m->Q (none,m,q) st'):
 wpS (model prog w) A E s (descLoop n a₀.size) Q st:=by
 unfold descLoop;refine wpS_forRange (I:=fun x c st'=>∃q,c=(none,x,q)/\SBase a₀ st'/\wt (arrOf st') x q/\jm a₀.size (arrOf st') x) ?st ?en ⟨0,rfl,hB,hs,ht⟩
 case en=>
  rintro c st' ⟨q,rfl,b1,b2,b3⟩;rw[show max n a₀.size=a₀.size by omega]at b2 b3⊢;exact h _ q st' b1 hn (Nat.le_refl _) b2 b3
 case st=>
  rintro x c st' hx1 hx2 ⟨q,rfl,b1,b2,b3⟩;dsimp only;have hq:=b2.1;have hsz:x<=(arrOf st').size:=by rw[b1.size];omega
  refine wpS_bind (wpS_ltK b1 h0 hx2 (by omega) ?_);by_cases hl:K (arrOf st') x<K (arrOf st') (x-1)
  . simp only[hl,decide_true,if_true];by_cases hq0:q>0
    . rw[if_pos hq0];have al:=(b2.all hsz).2;have km:=mf (i:=x-(q+1)) (j:=x) hsz;refine wpS_bind (wpS_reverse (wpS_pure ⟨0,rfl,b1.setArr (mirror_perm _ _ _ _),⟨by omega,fun i j hij hj=>⟨fun hh=>by omega,fun hh=>⟨fun hj2=>?_,?_⟩⟩⟩,(m9 b3 hsz (Nat.le_refl _)).up (Nat.le_succ x)⟩))
      . have hjx:j=x:=by omega
        subst hjx;show K (mirror (arrOf st') _ _ _) j<K (mirror (arrOf st') _ _ _) i;rw[(km i).1,(km j).1,if_neg (show¬(j-(q+1)<=j/\j<j) by omega)]
        have key:∀t,t<j->K (arrOf st') (j-1)<=K (arrOf st') t:=fun t ht=>by
         by_cases e:t=j-1
         . rw[e];exact Int.le_refl _
         . have z:=b2.2 t (j-1) (by omega) (by omega);by_cases g:j<=t+(q+1)
           . have:=(z.1 g).1;omega
           . have:=(z.2 (by omega)).2;unfold my at this;omega
        split
        . have:=key (j-(q+1)+j-1-i) (by omega);omega
        . have:=key i hij;omega
      . show my (mirror (arrOf st') _ _ _) j i;by_cases hjx:j<x
        . exact al i j hij hjx
        . have hjx:j=x:=by omega
          subst hjx;refine .inl ?_;rw[(km i).1,(km j).1,if_neg (show¬(j-(q+1)<=j/\j<j) by omega)]
          have key:∀t,t<j->K (arrOf st') (j-1)<=K (arrOf st') t:=fun t ht=>by
           by_cases e:t=j-1
           . rw[e];exact Int.le_refl _
           . have z:=b2.2 t (j-1) (by omega) (by omega);by_cases g:j<=t+(q+1)
             . have:=(z.1 g).1;omega
             . have:=(z.2 (by omega)).2;unfold my at this;omega
          split
          . have:=key (j-(q+1)+j-1-i) (by omega);omega
          . have:=key i hij;omega
    . rw[if_neg hq0];have hq0:q=0:=by omega
      subst hq0;have z0:=b2.zero
      have lx:∀i,i<x->K (arrOf st') x<K (arrOf st') i:=fun i hi=>by
       by_cases e:i=x-1
       . rw[e];exact hl
       . have:=z0 i (x-1) (by omega) (by omega);unfold my at this;omega
      refine wpS_pure ⟨0,rfl,b1,⟨by omega,fun i j hij hj=>⟨fun hh=>by omega,fun hh=>⟨fun hj2=>?_,?_⟩⟩⟩,b3.up (Nat.le_succ x)⟩
      . have hjx:j=x:=by omega
        subst hjx;exact lx i hij
      . by_cases hjx:j<x
        . exact z0 i j hij hjx
        . have hjx:j=x:=by omega
          subst hjx;exact .inl (lx i hij)
  . simp only[hl,decide_false,Bool.false_eq_true,if_false];refine wpS_bind (wpS_ltK b1 h0 (by omega) hx2 ?_);by_cases hg:K (arrOf st') (x-1)<K (arrOf st') x
    . simp only[hg,decide_true,if_true];exact wpS_pure (h x q st' b1 hx1 (by omega) b2 b3)
    . simp only[hg,decide_false,Bool.false_eq_true,if_false];have he:K (arrOf st') x=K (arrOf st') (x-1):=by omega
      refine wpS_pure ⟨q+1,rfl,b1,⟨by omega,fun i j hij hj=>⟨fun hh=>?_,fun hh=>⟨fun hj2=>?_,?_⟩⟩⟩,b3.up (Nat.le_succ x)⟩
      . by_cases hjx:j<x
        . exact(b2.2 i j hij hjx).1 (by omega)
        . have hjx:j=x:=by omega
          subst hjx;refine⟨?_,b3 i j hij (Nat.le_refl _) hx2⟩;rw[he];by_cases e:i=j-1
          . rw[e]
          . exact((b2.2 i (j-1) (by omega) (by omega)).1 (by omega)).1
      . by_cases hjx:j<x
        . exact((b2.2 i j hij hjx).2 (by omega)).1 (by omega)
        . have hjx:j=x:=by omega
          subst hjx;rw[he];exact((b2.2 i (j-1) (by omega) (by omega)).2 (by omega)).1 (by omega)
      . by_cases hjx:j<x
        . exact((b2.2 i j hij hjx).2 (by omega)).2
        . have hjx:j=x:=by omega
          subst hjx;refine .inl ?_;rw[he];exact((b2.2 i (j-1) (by omega) (by omega)).2 (by omega)).1 (by omega)
theorem v9{st:SortSt}{n:Nat}{Q:Option Nat->SortSt->Prop}(h0:IntKeys a₀)(h1:1<=n)(hn:n<=a₀.size)(hB:SBase a₀ st)(hs:∀i j,i<j->j<n->my (arrOf st) j i)(ht:jm a₀.size (arrOf st) n)
 (h:∀m st',SBase a₀ st'->1<=m->m<=a₀.size->jN (arrOf st') m->jm a₀.size (arrOf st') m->Q (some m) st'):wpS (model prog w) A E s (tail3 n a₀.size) Q st:=by
 unfold tail3;have hsz:n<=(arrOf st).size:=by rw[hB.size];exact hn
 refine wpS_bind (wpS_reverse ?_);have km:=mf (xs:=arrOf st) (i:=0) (j:=n) hsz
 have s1:jN (mirror (arrOf st) 0 n ((n-0)/2)) n:=fun i j hij hj=>by
  unfold my;rw[(km i).1,(km i).2,(km j).1,(km j).2,if_pos (by omega),if_pos (by omega)];exact hs _ _ (by omega) (by omega)
 have t1:=m9 (i:=0) ht hsz (Nat.le_refl _);have hB':SBase a₀ (setArr st (mirror (arrOf st) 0 n ((n-0)/2))):=hB.setArr (mirror_perm _ _ _ _);refine wpS_bind (wpS_ascLoop h0 (Nat.le_refl _) h1 hn hB' s1.to fun m m1 m2 sm _=>wpS_pure (h m _ hB' (by omega) m2 (s1.more t1 sm m2) (t1.up m1)))
theorem we{st:SortSt}{n:Nat}{Q:Option Nat->SortSt->Prop}(h0:IntKeys a₀)(hn:n+1<=a₀.size)(hB:SBase a₀ st)(hs:wt (arrOf st) (n+1) 0)(ht:jm a₀.size (arrOf st) (n+1))
 (h:∀m st',SBase a₀ st'->1<=m->m<=a₀.size->jN (arrOf st') m->jm a₀.size (arrOf st') m->Q (some m) st'):wpS (model prog w) A E s (descPart n a₀.size) Q st:=by
 unfold descPart;refine wpS_bind (wpS_lift (wpAny_rule ⟨rfl,?_⟩));refine wpS_bind (BW h0 hn hB hs ht fun m q st' b1 b2 b3 b4 b5=>?_);dsimp only;have hsz:m<=(arrOf st').size:=by rw[b1.size];exact b3
 by_cases hq:q>0
 . rw[if_pos hq];exact wpS_bind (wpS_reverse (v9 h0 (by omega) b3 (b1.setArr (mirror_perm _ _ _ _)) (b4.all hsz).2 (m9 b5 hsz (Nat.le_refl _)) h))
 . rw[if_neg hq];have:q=0:=by omega
   subst this;exact v9 h0 (by omega) b3 b1 b4.zero b5 h
theorem BR{st:SortSt}{Q:Option Nat->SortSt->Prop}(h0:IntKeys a₀)(h1:1<=a₀.size)(hB:SBase a₀ st)(ht:jm a₀.size (arrOf st) 1)
 (h:∀m st',SBase a₀ st'->1<=m->m<=a₀.size->jN (arrOf st') m->jm a₀.size (arrOf st') m->Q (some m) st'):wpS (model prog w) A E s (countRun' 0 a₀.size) Q st:=by
 rw[countRun0_eq];have s1:jN (arrOf st) 1:=fun i j hij hj=>by omega
 refine wpS_bind (wpS_ascLoop h0 (Nat.le_refl _) (Nat.le_refl 1) h1 hB s1.to fun n n1 n2 sn hor=>?_);dsimp only;have s2:=s1.more ht sn n2;by_cases hn:n=a₀.size
 . rw[if_pos (by simpa using hn)];exact wpS_pure (h n st hB n1 n2 s2 (ht.up n1))
 . rw[if_neg (by simpa using hn)];have hl:=hor.resolve_left hn;by_cases hg:n>1
   . rw[if_pos hg];refine wpS_bind (wpS_ltK hB h0 (by omega) (by omega) ?_);by_cases hr:K (arrOf st) 0<K (arrOf st) (n-1)
     . simp only[hr,decide_true,if_true];exact wpS_pure (h n st hB n1 n2 s2 (ht.up n1))
     . simp only[hr,decide_false,Bool.false_eq_true,if_false];have hsz:n<=(arrOf st).size:=by rw[hB.size];exact n2
       have eqs:∀k,k<n->K (arrOf st) k=K (arrOf st) (n-1):=fun k hk=>by
        have x:=sn 0 k (by omega) hk;have y:=sn k (n-1) (by omega) (by omega);omega
       have km:=mf (xs:=arrOf st) (i:=0) (j:=n) hsz;refine wpS_bind (wpS_reverse (we h0 (by omega) (hB.setArr (mirror_perm _ _ _ _)) ⟨by omega,fun i j hij hj=>⟨fun hh=>by omega,fun hh=>⟨fun hj2=>?_,?_⟩⟩⟩ (m9 (ht.up (by omega)) hsz (by omega)) h))
       . have hjn:j=n:=by omega
         subst hjn;show K (mirror (arrOf st) _ _ _) j<K (mirror (arrOf st) _ _ _) i;rw[(km i).1,(km j).1,if_neg (show¬(0<=j/\j<j) by omega),if_pos (by omega),eqs (0+j-1-i) (by omega)];exact hl
       . show my (mirror (arrOf st) _ _ _) j i;unfold my;rw[(km i).1,(km i).2,(km j).1,(km j).2,if_pos (show 0<=i/\i<n by omega)];by_cases hjn:j<n
         . rw[if_pos (by omega)];refine .inr ⟨(eqs _ (by omega)).trans (eqs _ (by omega)).symm,ht _ _ (by omega) (by omega) (by omega)⟩
         . have hjn:j=n:=by omega
           subst hjn;rw[if_neg (by omega),eqs (0+j-1-i) (by omega)];exact .inl hl
   . rw[if_neg hg];have hn1:n=1:=by omega
     subst hn1;refine we h0 (by omega) hB ⟨by omega,fun i j hij hj=>⟨fun hh=>by omega,fun hh=>?_⟩⟩ (ht.up (by omega)) h;have hi0:i=0:=by omega
     have hj1:j=1:=by omega
     subst hi0;subst hj1;exact⟨fun _=>hl,.inl hl⟩
theorem BN{st:SortSt}{Q:Unit->SortSt->Prop}(h0:IntKeys a₀)(hB:SBase a₀ st)(ht:jm a₀.size (arrOf st) 1)(h2:2<=a₀.size)(h64:a₀.size<64)
 (h:∀st',(arrOf st').Perm a₀->failedOf st'=none->jN (arrOf st') a₀.size->Q () st'):wpS (model prog w) A E s sortRuns' Q st:=by
 rw[sortRuns'_eq];refine wpS_bind (wpS_get ?_);dsimp only
 have hmr:minRun' a₀.size a₀.size 0=a₀.size:=by
  cases e:a₀.size with
  |zero=>rw[e]at h2;omega
  |succ f=>rw[minRun'_succ,if_pos (by omega)]
 simp only[hB.size,hmr]
 have dn:∀ {q:SortSt},SBase a₀ q->jN (arrOf q) a₀.size->∃p,p=setPending q ((pendingOf q).push (0,a₀.size,0))/\(arrOf p).Perm a₀/\failedOf p=none/\pendingOf p= #[(0,a₀.size,0)]/\jN (arrOf p) a₀.size:=fun{q} b s=>
  ⟨_,rfl,b.perm,b.failed,by show(pendingOf q).push _=_;rw[b.pend];rfl,s⟩
 refine wpS_bind (wpS_mono (wpS_forRange
  (I:=fun x c q=>(x=0/\c=(none,0)/\q=st)\/(1<=x/\c=(none,a₀.size)/\(arrOf q).Perm a₀/\failedOf q=none/\pendingOf q= #[(0,a₀.size,0)]/\jN (arrOf q) a₀.size))
  (Q:=fun c q=>c=(none,a₀.size)/\(arrOf q).Perm a₀/\failedOf q=none/\pendingOf q= #[(0,a₀.size,0)]/\jN (arrOf q) a₀.size) ?st ?en (.inl ⟨rfl,rfl,rfl⟩)) ?po)
 case en=>
  rintro c q (⟨hx,_,_⟩|⟨_,hc,hD⟩)
  . omega
  . exact⟨hc,hD⟩
 case st=>
  rintro x c q _ hx (⟨rfl,rfl,rfl⟩|⟨_,rfl,hD⟩)
  . dsimp only;rw[if_neg (by omega)];simp only[Nat.sub_zero,Nat.min_self,Nat.zero_add];refine wpS_bind (BR h0 (by omega) hB ht fun m q2 b1 b2 b3 b4 b5=>?_);dsimp only;by_cases hm:m<a₀.size
    . rw[if_pos hm];refine wpS_bind (wpS_lift (wpAny_rule ⟨rfl,?_⟩));refine wpS_bind (DL h0 b2 b3 b1 b4 b5 fun q3 d1 d2=>?_);simp only[Bool.not_true,Bool.false_eq_true,if_false];refine wpS_bind (wpS_get ?_);have hb:(pendingOf q3).back?=none:=by rw[d1.pend];rfl
      rw[hb];dsimp only;obtain⟨p,rfl,z⟩:=dn d1 d2;exact wpS_bind (wpS_modify (wpS_pure (.inr ⟨by omega,rfl,z⟩)))
    . rw[if_neg hm];have hm:m=a₀.size:=by omega
      subst hm;refine wpS_bind (wpS_get ?_);have hb:(pendingOf q2).back?=none:=by rw[b1.pend];rfl
      rw[hb];dsimp only;obtain⟨p,rfl,z⟩:=dn b1 b4;exact wpS_bind (wpS_modify (wpS_pure (.inr ⟨by omega,rfl,z⟩)))
  . dsimp only;rw[if_pos (Nat.le_refl _)];exact wpS_pure ⟨rfl,hD⟩
 case po=>
  rintro c q ⟨rfl,d1,d2,d3,d4⟩;dsimp only;refine wpS_bind (wpS_mono (wpS_forRange (I:=fun _ c q'=>q'=q/\c=(none,())) (Q:=fun c q'=>q'=q/\c=(none,())) ?_ (fun _ _ z=>z) ⟨rfl,rfl⟩) ?_)
  . rintro x c q' _ _ ⟨rfl,rfl⟩;refine wpS_bind (wpS_get ?_);rw[if_pos (by rw[d3];exact Nat.le_refl 1)];exact wpS_pure ⟨rfl,rfl⟩
  . rintro c q' ⟨rfl,rfl⟩;exact wpS_pure (h _ d1 d2 d4)
end
end L3
namespace L2
open PySem PySem.Spec PyProof.Rows
structure Entry(K:PySem.W.Frag)(ts:List (Addr×Addr))(a:Addr)(ns:List Int)(H:Hp):Prop where
 lst:mB K H a (ns.map V.int)
 tab:∀q∈ts,H q.2=some (.ky #[])/\q.2≠a
theorem wy:∀ {vs:List Value} {ns:List Int},IntsAre vs ns->Vals (ns.map V.int) vs
 |_,_,.nil=> .nil
 |_,_,.cons n t h=> .cons ⟨t,rfl⟩ (wy h)
structure IK(K:PySem.W.Frag)(ts:List (Addr×Addr))(h:Heap):Prop where
 hd:∀q∈ts,PySem.W.codeHdIn K q.1 q.2=true
 no:∀q∈ts,K.lookup q.2=none
 at':∀q∈ts,h.get? q.2=some (PySem.W.tabObj #[])
theorem De{P:Program}{w:World}{K:PySem.W.Frag}{mg mb:Str->Option Value}{k:Nat}{fa a:Addr}{fd:FuncData}{x:Str}{sp:Sp}{s₁:Shared}{vs:List Value}{ns:List Int}{ts:List (Addr×Addr)}
 (KX:K.In s₁.heap) (hns:s₁.heap.Ns mainGlobals mg) (hb:s₁.heap.Ns builtinsNs mb) (hbb:∀x:Str,x≠"__name__"->mb x=bootBuiltins x) (hlim:s₁.heap.NoLimit) (hse:s₁.heap.NoSeer) (hgt:P.given.tree=none)
 (hbm:∃bm ob,mg "__builtins__"=some (.ref bm)/\bm≠builtinsNs/\s₁.heap.get? bm=some ob/\ob.cls= .type "module"/\ob.dict=some builtinsNs/\ob.data= .plain) (hT:IK K ts s₁.heap) (hg:s₁.gens= #[])
 (ha:s₁.heap.get? a=some {cls:= .type "list",data:= .seq vs.toArray}) (hi:IntsAre vs ns) (hl:ns.length<=sizeLine) (hr:cR k callerA)
 (F:∀base:Heap,K.In base->base.Ns mainGlobals mg->bH P w K mg base (fun _ _ _ _ _ _=>False) k fa fd [x] sp) (hbind:∀(s:Shared) (u:Value),BindsTo s fd ⟨[u],[]⟩ [(x,u)])
 (hsp:∀H:Hp,Entry K ts a ns H->sp [.ref a] H (fun v _=>v= .bl true) fun _ _ _=>False):
 codeAny (model P w) callerA (.call (.ref fa) ⟨[.ref a],[]⟩) (fun r s'=>r= .ok (.ret (.bool true))/\OldK s₁.heap s'.heap/\s'.os=s₁.os/\AllBare s'.gens) s₁:=by
 have rv:=wy hi;have lenV:=hi.length
 have nta:∀q∈ts,q.2≠a:=fun q hq z=>by
  have:=hT.at' q hq;rw[z,ha]at this;cases this
 let sc:Option HO:=match K.lookup a with
  |some _=>none
  |none=>some (.ig {cls:= .type "list",data:= .seq vs.toArray} (.lst (ns.map V.int)))
 let H:Hp:=fun b=>if b=a then sc else if b∈ts.map (·.2)then some (.ky #[])else none
 have Ha:H a=sc:=if_pos rfl
 have Ht:∀q∈ts,H q.2=some (.ky #[]):=fun q hq=>by
  show(if q.2=a then sc else if q.2∈ts.map (·.2)then some (HO.ky #[])else none)=_;rw[if_neg (nta q hq),if_pos (List.mem_map_of_mem hq)]
 have Hs:∀b u,H b=some u->(b=a/\K.lookup a=none/\u= .ig {cls:= .type "list",data:= .seq vs.toArray} (.lst (ns.map V.int)))\/(∃q∈ts,q.2=b/\u= .ky #[]):=fun b u e=>by
  have e':(if b=a then sc else if b∈ts.map (·.2)then some (HO.ky #[])else none)=some u:=e;by_cases hba:b=a
  . rw[if_pos hba]at e'
    have e2:(match K.lookup a with
     |some _=>none
     |none=>some (HO.ig {cls:= .type "list",data:= .seq vs.toArray} (.lst (ns.map V.int))))=some u:=e'
    cases q:K.lookup a with
    |some o=>rw[q]at e2;cases e2
    |none=>rw[q]at e2;cases e2;exact .inl ⟨hba,rfl,rfl⟩
  . rw[if_neg hba]at e';by_cases hbt:b∈ts.map (·.2)
    . rw[if_pos hbt]at e';cases e';obtain⟨q,hq,e⟩:=List.mem_map.mp hbt;exact .inr ⟨q,hq,e,rfl⟩
    . rw[if_neg hbt]at e';cases e'
 have aI:iJ P w H s₁.heap:=fun b u e=>by
  rcases Hs b u e with⟨rfl,_,rfl⟩|⟨q,hq,rfl,rfl⟩
  . exact⟨ha,by rw[List.length_map];exact hl,vs,_,rv,ha⟩
  . exact hT.at' q hq
 have hE:Entry K ts a ns H:=by
  refine⟨?_,fun q hq=>⟨Ht q hq,nta q hq⟩⟩;cases q:K.lookup a with
  |some o=>
   have e:=KX a o q;rw[ha]at e;cases e;exact .inr ⟨_,vs.toArray,_,q,rfl,rfl,rfl,by rw[List.size_toArray,lenV];exact hl,by simpa using rv⟩
  |none=>
   refine .inl (.inr ⟨{cls:= .type "list",data:= .seq vs.toArray},?_⟩);rw[Ha]
   show(match K.lookup a with
    |some _=>none
    |none=>some (HO.ig {cls:= .type "list",data:= .seq vs.toArray} (.lst (ns.map V.int))))=_
   rw[q]
 have dictNo:∀ {b:Addr} {o:Obj},s₁.heap.get? b=some o->(∀es ep,o.data≠ .seq es ep)->o.cls≠ .none->H b=none:=fun{b o} e d1 d2=>by
  cases q:H b with
  |none=>rfl
  |some u=>
   rcases Hs b u q with⟨rfl,_,_⟩|⟨t,ht,rfl,_⟩
   . rw[ha]at e;cases e;exact absurd rfl (d1 _ _)
   . rw[hT.at' t ht]at e;cases e;exact absurd rfl d2
 have nsK:∀ {b:Addr} {m:Str->Option Value},s₁.heap.Ns b m->(oK s₁.heap H).Ns b m:=fun{b m} ⟨o,es,ep,e,d,r⟩=>by
  refine⟨o,es,ep,pM e ?_,d,r⟩;cases q:H b with
  |none=>rfl
  |some u=>
   rcases Hs b u q with⟨rfl,_,_⟩|⟨t,ht,rfl,_⟩
   . rw[ha]at e;cases e;cases d
   . rw[hT.at' t ht]at e;cases e;cases d
 have hKb:K.In (oK s₁.heap H):=fun b o e=>pM (KX b o e) (by
  cases q:H b with
  |none=>rfl
  |some u=>
   rcases Hs b u q with⟨rfl,z,_⟩|⟨t,ht,rfl,_⟩
   . rw[z]at e;cases e
   . rw[hT.no t ht]at e;cases e)
 obtain⟨bm,ob,b1,b2,b3,b4,b5,b6⟩:=hbm;have hbmK:(oK s₁.heap H).get? bm=some ob:=pM b3 (dictNo b3 (fun es ep z=>by rw[b6]at z;cases z) (fun z=>by rw[b4]at z;cases z))
 have seK:(oK s₁.heap H).NoSeer:=by
  obtain⟨⟨m1,a1,a2⟩,⟨m2,c1,c2⟩,⟨m3,d1,d2⟩,⟨mg',bm',ob',e1,e2,e3,e4,e5⟩⟩:=hse;refine⟨⟨m1,nsK a1,a2⟩,⟨m2,nsK c1,c2⟩,⟨m3,nsK d1,d2⟩,⟨mg',bm',ob',nsK e1,e2,pM e3 ?_,e4,e5⟩⟩;cases q:H bm' with
  |none=>rfl
  |some u=>
   rcases Hs bm' u q with⟨rfl,_,_⟩|⟨t,ht,rfl,_⟩
   . rw[ha]at e3;cases e3;exact absurd (show Value.type "list"=Value.type "module" from e4) (by intro z;injection z with z;exact absurd z (by decide))
   . rw[hT.at' t ht]at e3;cases e3;cases e4
 have hM:Mod K mg (oK s₁.heap H):=⟨hKb,nsK hns,⟨mb,nsK hb,hbb⟩,let⟨mc,h1,h2⟩:=hlim;⟨mc,nsK h1,h2⟩,seK,⟨bm,ob,b1,b2,hbmK,b4,b5,b6⟩⟩
 have e0:tS P w K mg (oK s₁.heap H) callerA [] s₁ H:=⟨rfl,hM,fun b o e=>HB e,Nat.le_of_eq (Cs _ _),trivial,fun b hb=>absurd (show b∈([]:List Addr)from hb) (by simp),aI,.of_eq hg,hgt⟩
 refine codeAny_mono ((F _ hKb (nsK hns)).run callerA [] s₁ H ⟨[.ref a],[]⟩ [.ref a] [.ref a] _ _ hr e0 (hbind s₁ (.ref a)) (.cons rfl .nil) (hsp H hE)) fun r s' h=>?_;cases r with
 |error e=>exact False.elim h
 |ok fl=>
  cases fl with
  |next=>exact False.elim h
  |brk=>exact False.elim h
  |cont=>exact False.elim h
  |ret u=>
   obtain⟨v,H',os,bare,un,hok',r',q⟩:=h;have q':v= .bl true:=q;subst q';obtain rfl:u=Value.bool true:=r';have noF:∀b:Addr,b∉oQ ([]:List Env):=fun b z=>absurd (show b∈([]:List Addr)from z) (by simp);refine⟨rfl,⟨fun b o e=>?_,fun b o e=>un.there b o e (by simp)⟩,os,bare⟩;cases q:H b with
   |none=>exact .inl (un.keep b o e q (noF b) (by simp))
   |some u=>
    rcases Hs b u q with⟨rfl,_,rfl⟩|⟨t,ht,rfl,rfl⟩
    . obtain⟨e2,_⟩:=hok' b _ (un.nG b _ _ q);rw[ha]at e;cases e;exact .inl e2
    . obtain⟨more,e1⟩:=un.nC _ _ q;have e2:s'.heap.get? t.2=some {cls:= .none,data:= .fields (#[]++more)}:=hok' _ _ e1;have e3:=hT.at' t ht;rw[e3]at e;cases e;have C:PySem.W.CodeHd s₁.heap t.1 t.2:=PySem.W.codeHd_of_K KX (hT.hd t ht);exact .inr (.inl ⟨(C.tab e3).isCodeTable,rfl,#[],more,rfl,e2⟩)
theorem Lh{l:PySem.W.OpenLaw}{n k:Nat}{q:Program}{loose:List Str}{XP:(Str->Option Value)->Heap->Prop}{YP:World->Heap->Prop}{d:DefRec}{K:Params->PySem.W.Frag}{sp:World->Sp}{x:Str}{ts:List (Addr×Addr)}
 (hn:l.most=some n) (hn2:n<=sizeLine) (hdf:d.params.defaults=[]) (hr:cR k callerA) (hq:importsNone q=true) (hgt:l.prog.given.tree=none)
 (hY:∀(w:World) (h:Heap),YP w h->(K w.params).In h/\IK (K w.params) ts h)
 (F:∀(w:World) (mg:Str->Option Value) (fa:Addr) (h:Heap),(K w.params).In h->h.Ns mainGlobals mg->mg d.name=some (.ref fa)->
   ∃fd:FuncData,(∀(s:Shared) (u:Value),BindsTo s fd ⟨[u],[]⟩ [(x,u)])/\
    ∀base:Heap,(K w.params).In base->base.Ns mainGlobals mg->bH l.prog w (K w.params) mg base (fun _ _ _ _ _ _=>False) k fa fd [x] (sp w))
 (hsp:∀(w:World) (H:Hp) (a:Addr) (ns:List Int),ns.length<=n->Entry (K w.params) ts a ns H->sp w [.ref a] H (fun v _=>v= .bl true) fun _ _ _=>False):
 PySem.W.WalkO q loose XP YP l.row.toRowW d [] (fun f vs=>PySem.call f vs):=by
 refine Att.zl hn hdf fun w s₀ s₁ mg mb fa o pm cd doc a vs ns G Y ho hd hcd hmg hobj hints hlen hg=>?_;obtain⟨KX,hT⟩:=hY w _ Y;obtain⟨fd,hb,hF⟩:=F w mg fa _ KX G.T.g hmg;exact De KX G.T.g G.T.b G.T.builtins G.T.nolimit (G.T.seer hq) hgt G.T.bmain hT hg hobj hints (Nat.le_trans hlen hn2) hr hF hb fun H hE=>hsp w H a ns hlen hE
end L2
namespace L3
open PySem PySem.Spec L2
open PyProof.Rows hiding St
section
variable {X:Cx}{pins:List (Addr×Obj)}{σ:L2.St}{H:Hp}{s:Shared}{p:Addr}{o o':Obj}{h':Heap}
theorem ll{t':Nat}(I:Inv X pins σ H s)(hd:∀v,o.data≠ .cell v)(hfr:o.isFreed=false:=by rfl):Inv X (pins++[(s.heap.objs.size,o)]) σ H {s with heap:=s.heap.push o,toks:=t'}:=by
 have I':=I.kept (h':=s.heap.push o) (t':=t') (fun b u e=>Heap.get?_push_of_some _ e);refine I'.sJ fun q hq=>?_;rcases List.mem_append.mp hq with hq|hq
 . exact I'.pin q (List.mem_append_right _ hq)
 . have e:q=(s.heap.objs.size,o):=by simpa using hq
   subst e;exact⟨Heap.get?_push_size _ hfr,I.aI.fresh (Nat.le_refl _),Nat.ne_of_gt I.lt,I.Jg (Nat.le_refl _),hd⟩
theorem fZ(I:Inv X (pins++[(p,o)]) σ H s):s.heap.get? p=some o/\H p=none/\p≠X.env.locals/\p∉X.fs/\∀v,o.data≠ .cell v:=
 I.pin (p,o) (List.mem_append_right _ (List.mem_append_right _ (List.mem_singleton.mpr rfl)))
theorem yW(I:Inv X (pins++[(p,o)]) σ H s):∀x c,X.env.cells.lookup x=some c->c≠p:=fun x c e z=>by
 obtain⟨v,u,hu,hd⟩:=I.cell x c e;obtain⟨h1,_,_,_,h5⟩:=fZ I;rw[z,h1]at hu;cases hu;exact h5 v hd
theorem nI{t':Nat}(I:Inv X (pins++[(p,o)]) σ H s)(hs:Heap.SameBut p s.heap h')(hn:h'.get? p=some o')(hd:∀v,o'.data≠ .cell v)(h0:X.s₀.heap.objs.size<=p)(hp:∀q∈X.pn++pins,q.1≠p):
 Inv X (pins++[(p,o')]) σ H {s with heap:=h',toks:=t'}:=by
 obtain⟨_,n,neL,nfs,_⟩:=fZ I;have I0:Inv X pins σ H s:=I.iE;have I1:=I0.turned (t':=t') (h':=h') (it:=p) (fun b u hb e=>(hs.2 b hb).trans e) n neL (.inr h0) (yW I) hp;refine I1.sJ fun q hq=>?_;rcases List.mem_append.mp hq with hq|hq
 . exact I1.pin q (List.mem_append_right _ hq)
 . have e:q=(p,o'):=by simpa using hq
   subst e;exact⟨hn,n,neL,nfs,hd⟩
theorem B_{u:HO}(I:Inv X (pins++[(p,o)]) σ H s)(h0:X.s₀.heap.objs.size<=p)(hp:∀q∈X.pn++pins,q.1≠p)(new:gd X.prog X.w (upd H p u) s.heap p u):Inv X pins σ (upd H p u) s:=by
 obtain⟨e0,n,neL,nfs,_⟩:=fZ I;have ne:∀ {b:Addr} {w:HO},H b=some w->b≠p:=fun e=>dA e n;have ne0:∀ {b:Addr} {w:Obj},X.s₀.heap.get? b=some w->b≠p:=fun e=>Nat.ne_of_lt (Nat.lt_of_lt_of_le (Heap.lt_size e) h0);refine⟨I.ok,I.os,I.bare,⟨I.base.keep,I.base.slot,fun b w e q hx=>?_,I.base.there,fun b xs e=>?_,fun b w y e=>?_,fun b ps e=>?_⟩,I.loc,I.cell,?_,fun x c e=>?_,fun q hq=>?_,fun b w e=>?_,I.len⟩
 . rw[ax (ne0 e)];exact I.base.free b w e q hx
 . have:=I.base.oN b xs e;rw[ax (ne this)];exact this
 . have:=I.base.nG b w y e;rw[ax (ne this)];exact this
 . obtain⟨m,q⟩:=I.base.nC b ps e;exact⟨m,by rw[ax (ne q)];exact q⟩
 . rw[ax (Ne.symm neL)];exact I.free
 . rw[ax (yW I x c e)];exact I.i_ x c e
 . have hq':q∈X.pn++(pins++[(p,o)]):=by
    rcases List.mem_append.mp hq with z|z
    . exact List.mem_append_left _ z
    . exact List.mem_append_right _ (List.mem_append_left _ z)
   obtain⟨a1,a2,a3⟩:=I.pin q hq';exact⟨a1,by rw[ax (hp q hq)];exact a2,a3⟩
 . by_cases hb:b=p
   . subst hb;rw[aV]at e;cases e;exact new
   . rw[ax hb]at e;exact(I.aI b w e).oG (fun _ _ _ q=>q) (fun c q=>by rw[ax (ne q)];exact q) fun c xs q=>by rw[ax (ne q)];exact q
end
def mQ(X:Cx)(pins:List (Addr×Obj))(σ:L2.St)(R:Hp->Prop)(own:List (Addr×Obj))(s:Shared):Prop:=∃H,Inv X (pins++own) σ H s/\R H
section
variable {X:Cx}{pins:List (Addr×Obj)}{σ:L2.St}{R:Hp->Prop}{s:Shared}{A:Around}{E:Value->Shared->Prop}{a kS:Addr}{e1 e:Nat}{keys:Array Value}{P:PySem.Fin->Shared->Prop}
structure Own(X:Cx)(pins:List (Addr×Obj))(p:Addr):Prop where
 ge:X.s₀.heap.objs.size<=p
 ne:∀q∈X.pn++pins,q.1≠p
theorem sF{H:Hp}(I:Inv X pins σ H s):Own X pins s.heap.objs.size:=⟨I.sz,fun q hq=>Nat.ne_of_lt (Heap.lt_size (I.pin q hq).1)⟩
theorem yq{p:Addr}{q:Addr×Obj}(h:Own X pins p)(hq:q.1≠p):Own X (pins++[q]) p:=⟨h.ge,fun r hr=>by
 rcases List.mem_append.mp hr with z|z
 . exact h.ne r (List.mem_append_left _ z)
 . rcases List.mem_append.mp z with z|z
   . exact h.ne r (List.mem_append_right _ z)
   . have e:r=q:=by simpa using z
     rw[e];exact hq⟩
theorem xO{x y:Addr×Obj}(J:mQ X pins σ R [x,y] s):∃H,Inv X ((pins++[x])++[y]) σ H s/\R H:=by
 obtain⟨H,I,r⟩:=J;exact⟨H,by rw[List.append_assoc];exact I,r⟩
theorem Cn{x y:Addr×Obj}{H:Hp}(I:Inv X ((pins++[x])++[y]) σ H s)(r:R H):mQ X pins σ R [x,y] s:=⟨H,by rw[List.append_assoc]at I;exact I,r⟩
theorem yr{st:SortSt}(J:mQ X pins σ R [(a,seqObj "list" #[] e1),(kS,seqObj "list" keys e)] s)(ha:Own X pins a)(hk:Own X pins kS)(hka:kS≠a)(hz1:keys.size<=sizeLine)(hz2:(arrOf st).size<=sizeLine)(hf:failedOf st=none)
 (h:∀s' c,mQ X pins σ R [(a,seqObj "list" ((arrOf st).map (·.2)) c)] s'->P (.done (.ret .none)) s'):
 wpAny (model X.prog X.w) A (PyProof.Rows.ksk_tail a false e1 (.ref kS) st) P E s:=by
 obtain⟨H,I,r⟩:=xO J;have k1:=(fZ I).1;have s1:=Heap.SameBut.update s.heap kS (Obj.mapSeq fun _=>(#[]:Array Value));have I1:=nI (t':=s.toks) I s1 (get?_update_seq k1 fun _=> #[]) (fun v z=>by cases z) hk.ge (yq hk hka.symm).ne;have I2:Inv X (pins++[(a,seqObj "list" #[] e1)]) σ H {s with heap:=s.heap.update kS (Obj.mapSeq fun _=>(#[]:Array Value)),toks:=s.toks}:=I1.iE;have a1:=(fZ I2).1;have s2:=Heap.SameBut.update (s.heap.update kS (Obj.mapSeq fun _=>(#[]:Array Value))) a (Obj.mapSeq fun _=>(arrOf st).map (·.2));have I3:=nI (t':=s.toks) I2 s2 (get?_update_seq a1 fun _=>(arrOf st).map (·.2)) (fun v z=>by cases z) ha.ge ha.ne;unfold ksk_tail;simp only[Bool.false_eq_true,if_false];refine wpAny_bind (listUpdate_at k1 rfl ?_ hz1 (Nat.zero_le _));refine wpAny_bind (wpAny_letGo ?_);refine wpAny_bind (seqEpoch_at a1 rfl ?_);refine wpAny_bind (listUpdate_at a1 rfl ?_ (Nat.zero_le _) (Nat.le_succ_of_le (by rw[Array.size_map];exact hz2)));rw[hf];simp only[bne_self_eq_false,Bool.false_eq_true,if_false];exact wpAny_pure (h _ _ ⟨H,I3,r⟩)
def Bh(kz:List Int)(vs out:List Value):Prop:=
 ∃ps:List (Int×Value),ps.Perm (kz.zip vs)/\out=ps.map Prod.snd/\ps.Pairwise fun p q=>p.1<q.1\/(p.1=q.1/\numOf p.2<numOf q.2)
theorem Ab{kz:List Int}{vs:List Value}(hk:IntsAre keys.toList kz){xs:Array Keyed}(hp:xs.Perm (keys.zip vs.toArray))(hs:jN xs xs.size):Bh kz vs (xs.map (·.2)).toList:=by
 have hl:xs.toList.Perm (keys.toList.zip vs):=by rw[<-ksk_zip];exact Array.perm_iff_toList_perm.mp hp
 refine⟨xs.toList.map fun p=>(numOf p.1,p.2),?_,?_,?_⟩
 . have e2:(keys.toList.zip vs).map (fun p:Keyed=>(numOf p.1,p.2))=kz.zip vs:=by
    rw[<-hk.nums,List.zip_map_left];exact List.map_congr_left fun⟨x,y⟩ _=>rfl
   rw[<-e2];exact hl.map _
 . rw[Array.toList_map,List.map_map];rfl
 . rw[List.pairwise_iff_getElem];intro i j hi hj hij;have hi':i<xs.size:=by simpa using hi
   have hj':j<xs.size:=by simpa using hj
   have q:=hs i j hij hj';unfold my Jn at q;rw[K_eq hi',K_eq hj',getElem?_pos xs i hi',getElem?_pos xs j hj']at q;simpa using q
theorem Hq{kz:List Int}{vs:List Value}(J:mQ X pins σ R [(a,seqObj "list" #[] e1),(kS,seqObj "list" keys e)] s)(ha:Own X pins a)(hk:Own X pins kS)(hka:kS≠a)(hi:IntsAre keys.toList kz)(hl:kz.length=vs.length)(h64:vs.length<64)
 (hup:vs.Pairwise fun x y=>numOf x<numOf y)
 (h:∀s' out c,mQ X pins σ R [(a,seqObj "list" out c)] s'->Bh kz vs out.toList->P (.done (.ret .none)) s'):
 wpAny (model X.prog X.w) A (ksk_end a false vs.toArray e1 (.ref kS) keys) P E s:=by
 have hsz:keys.size=vs.length:=by have:=hi.length;rw[Array.length_toList]at this;omega
 have hzs:(keys.zip vs.toArray).size=vs.length:=by rw[Array.size_zip,hsz,List.size_toArray,Nat.min_self]
 have hbig:vs.length<=sizeLine:=Nat.le_trans (Nat.le_of_lt h64) (by decide)
 have hta:jm (keys.zip vs.toArray).size (keys.zip vs.toArray) 1:=fun i j hij _ hj=>by
  rw[hzs]at hj
  have e1:(keys.zip vs.toArray)[i]?=some (keys.toList[i]'(by rw[Array.length_toList];omega),vs[i]'(by omega)):=by
   rw[<-Array.getElem?_toList,ksk_zip,List.getElem?_eq_getElem (by rw[List.length_zip,Array.length_toList];omega),List.getElem_zip]
  have e2:(keys.zip vs.toArray)[j]?=some (keys.toList[j]'(by rw[Array.length_toList];omega),vs[j]'(by omega)):=by
   rw[<-Array.getElem?_toList,ksk_zip,List.getElem?_eq_getElem (by rw[List.length_zip,Array.length_toList];omega),List.getElem_zip]
  unfold Jn;rw[e1,e2];exact List.pairwise_iff_getElem.mp hup i j (by omega) (by omega) hij
 unfold ksk_end;simp only[Bool.false_eq_true,if_false];by_cases h2:vs.toArray.size<2
 . rw[if_pos h2,if_pos h2];refine wpAny_bind (wpAny_pure ?_);rw[StateT.run_pure];refine wpAny_bind (wpAny_pure ?_);refine yr (st:=SortSt.mk' general' (keys.zip vs.toArray) #[] 7 none) J ha hk hka (by omega) (by show(keys.zip vs.toArray).size<=_;omega) rfl fun s' c J'=>h s' _ c J' ?_;refine Ab hi (Array.Perm.refl _) fun i j hij hj=>?_;have hj':j<(keys.zip vs.toArray).size:=hj;rw[List.size_toArray]at h2;omega
 . rw[if_neg h2,if_neg h2];rw[List.size_toArray]at h2;rw[ksk_kind hi (by omega)];refine wpAny_bind (wpAny_pure ?_)
   refine wpAny_bind (wpAny_mono (BN (a₀:=keys.zip vs.toArray) (st:=SortSt.mk' oneType' (keys.zip vs.toArray) #[] 7 none)
    (Q:=fun _ st'=>(arrOf st').Perm (keys.zip vs.toArray)/\failedOf st'=none/\jN (arrOf st') (keys.zip vs.toArray).size)
    (ksk_intKeys hi) ⟨Array.Perm.refl _,rfl,rfl,rfl⟩ hta (by omega) (by omega) fun st' b1 b2 b3=>⟨b1,b2,b3⟩) ?_ fun _ _ z=>z)
   rintro⟨⟨⟩,st'⟩ s' ⟨rfl,hp,hf,hs⟩;have hz2:=hp.size_eq;refine yr (st:=st') J ha hk hka (by omega) (by rw[hz2];omega) hf fun s' c J'=>h s' _ c J' (Ab hi hp (by rw[hz2];exact hs))
theorem Er{f:Value}{kz:List Int}{vs:List Value}(J:mQ X pins σ R [(a,seqObj "list" #[] e1),(kS,seqObj "list" #[] 0)] s)(ha:Own X pins a)(hk:Own X pins kS)(hka:kS≠a)(hl:kz.length=vs.length)(h64:vs.length<64)
 (hup:vs.Pairwise fun x y=>numOf x<numOf y)
 (turn:∀(i:Nat) (v:Value) (k:Int),vs[i]?=some v->kz[i]?=some k->∀(own:List (Addr×Obj)) (s:Shared),mQ X pins σ R own s->wpAny (model X.prog X.w) A (call f [v]) (fun u s'=>(∃t,u= .int k t)/\mQ X pins σ R own s') (fun _ _=>False) s)
 (h:∀s' out c,mQ X pins σ R [(a,seqObj "list" out c)] s'->Bh kz vs out.toList->P (.done (.ret .none)) s'):
 wpAny (model X.prog X.w) A (ksk_rest a f false vs.toArray e1 (.ref kS)) P E s:=by
 have hbig:vs.length<=sizeLine:=Nat.le_trans (Nat.le_of_lt h64) (by decide);unfold ksk_rest;refine wpAny_bind (wpAny_rule ?_)
 first
  |rw[List.forIn_toArray]
  |(rw[<-Array.forIn_toList];simp only[List.toList_toArray])
  |rw[<-Array.forIn_toList]
 refine wpAny_bind (ksk_fold (fun i s'=>∃kA e,mQ X pins σ R [(a,seqObj "list" #[] e1),(kS,seqObj "list" kA e)] s'/\IntsAre kA.toList (kz.take i)) vs 0 s ⟨#[],0,J,by simpa using IntsAre.nil⟩ ?st ?en)
 case st=>
  rintro j x s' hx ⟨kA,e,J',hk'⟩;simp only[Nat.zero_add]at hk'⊢;have hj:j<vs.length:=(List.getElem?_eq_some_iff.mp hx).1;have hkj:kz[j]?=some (kz[j]'(by omega)):=List.getElem?_eq_getElem _
  have hz:kA.size<=vs.length:=by
   have:=hk'.length;rw[Array.length_toList,List.length_take]at this;omega
  refine wpAny_bind (wpAny_attempt (wpAny_mono (turn j x _ hx hkj _ s' J') (fun v s2 he=>?_) fun _ _ z=>z.elim));obtain⟨⟨t,rfl⟩,J2⟩:=he;obtain⟨H,I,r⟩:=xO J2;have k1:=(fZ I).1;have s1:=Heap.SameBut.update s2.heap kS (Obj.mapSeq (·.push (.int (kz[j]'(by omega)) t)));have I1:=nI (t':=s2.toks) I s1 (get?_update_seq k1 (·.push (.int (kz[j]'(by omega)) t))) (fun v z=>by cases z) hk.ge (yq hk hka.symm).ne;refine wpAny_bind (listUpdate_at k1 rfl ?_ (by omega) (Nat.le_trans (Nat.le_of_eq (Array.size_push ..)) (by omega)));refine wpAny_pure ⟨rfl,_,_,Cn I1 r,?_⟩;have ek:kz.take (j+1)=kz.take j++[kz[j]'(by omega)]:=by rw[List.take_add_one,hkj];simp
  rw[ek,Array.toList_push];exact ksk_snoc hk'
 case en=>
  rintro s' ⟨kA,e,J',hk'⟩;rw[show kz.take (0+vs.length)=kz from List.take_of_length_le (by omega)]at hk';obtain⟨H,I,r⟩:=xO J';refine wpAny_bind (listItems_at (fZ I).1 rfl ?_);exact Hq J' ha hk hka hk' hl h64 hup h
theorem AH{f:Addr}{l:Addr}{kz:List Int}{vs:List Value}{H:Hp}{Q:Value->Shared->Prop}(I:Inv X pins σ H s)(r:R H)(hli:s.heap.IsList l vs.toArray)(hl:kz.length=vs.length)(h64:vs.length<64)
 (hup:vs.Pairwise fun x y=>numOf x<numOf y)
 (turn:∀(i:Nat) (v:Value) (k:Int),vs[i]?=some v->kz[i]?=some k->∀(own:List (Addr×Obj)) (s:Shared),mQ X pins σ R own s->wpAny (model X.prog X.w) A.in1.in1 (call (.ref f) [v]) (fun u s'=>(∃t,u= .int k t)/\mQ X pins σ R own s') (fun _ _=>False) s)
 (h:∀D s' out c,Own X pins D->mQ X pins σ R [(D,seqObj "list" out c)] s'->Bh kz vs out.toList->Q (.ref D) s'):
 wpAny (model X.prog X.w) A (call (.builtin "sorted") [.ref l] [(Str.ofString "key",.ref f)]) Q E s:=by
 have hbig:vs.length<=sizeLine:=Nat.le_trans (Nat.le_of_lt h64) (by decide);refine call_function_entry_kw kind_sorted plain_sorted entry_sorted (ksk_s1 _ _) ?_;unfold Builtin.«sorted»;refine wpAny_bind (m:=checkCount "sorted" 1 1 _) (wpAny_pure ?_);refine wpAny_bind (collect_list hli ?_ hbig);have I1:=ll (o:=seqObj "list" #[] 0) (t':=s.toks) I (fun v z=>by cases z);have s1:=Heap.SameBut.update (s.heap.push (seqObj "list" #[] 0)) s.heap.objs.size (Obj.mapSeq (· ++vs.toArray));have I2:=nI (t':=s.toks) I1 s1 (get?_update_seq (fZ I1).1 (· ++vs.toArray)) (fun v z=>by cases z) (sF I).ge (sF I).ne;have I3:Inv X pins σ H {s with heap:=(s.heap.push (seqObj "list" #[] 0)).update s.heap.objs.size (Obj.mapSeq (· ++vs.toArray)),toks:=s.toks}:=I2.iE;refine wpAny_bind (wpAny_newList ?_ hbig);generalize hs3:({s with heap:=(s.heap.push (seqObj "list" #[] 0)).update s.heap.objs.size (Obj.mapSeq (· ++vs.toArray))}:Shared)=s3;have I3':Inv X pins σ H s3:=by rw[<-hs3];exact I3
 have oD:=sF I3';have I4:=ll (o:=seqObj "list" vs.toArray 0) (t':=s3.toks) I3' (fun v z=>by cases z);have hD:=(fZ I4).1;refine wpAny_bind (wpAny_holding (wpAny_call_entry_kw slot_list_sort ⟨_,hD,rfl⟩ entry_list_sort ?body (ksk_l1 _ _)))
 case body=>
  show wpAny (model X.prog X.w) A.in1.in1 (Builtin.«list.sort» ⟨[.ref s3.heap.objs.size],[(Str.ofString "key",.ref f)]⟩) _ _ _;rw[ksk_t1];unfold ksk_tree;refine wpAny_bind (listItems_at hD rfl ?_);have s5:=Heap.SameBut.update (s3.heap.push (seqObj "list" vs.toArray 0)) s3.heap.objs.size (Obj.mapSeq fun _=>(#[]:Array Value));have I5:=nI (t':=s3.toks) I4 s5 (get?_update_seq hD fun _=> #[]) (fun v z=>by cases z) oD.ge oD.ne;have hD5:=(fZ I5).1;refine wpAny_bind (listUpdate_at hD rfl ?_ (by rw[List.size_toArray];exact hbig) (Nat.zero_le _));refine wpAny_bind (seqEpoch_at hD5 rfl ?_);refine wpAny_bind (wpAny_newTuple ?_ (by show vs.length<=_;exact hbig));have I6:=(ll (o:=seqObj "tuple" vs.toArray 0) (t':=s3.toks) I5 (fun v z=>by cases z)).iE;refine wpAny_bind (wpAny_newList ?_ (Nat.zero_le _));have ok:=sF I6;have I7:=ll (o:=seqObj "list" #[] 0) (t':=s3.toks) I6 (fun v z=>by cases z);refine wpAny_holding ?_
  have okp:Own X pins _:=⟨ok.ge,fun q hq=>ok.ne q (by
   rcases List.mem_append.mp hq with z|z
   . exact List.mem_append_left _ z
   . exact List.mem_append_right _ (List.mem_append_left _ z))⟩
  refine Er (Cn I7 r) oD okp (fun z=>ok.ne (s3.heap.objs.size,_) (List.mem_append_right _ (List.mem_append_right _ (List.mem_singleton.mpr rfl))) z.symm) hl h64 hup turn fun s' out c J' so=>⟨_,rfl,?_⟩
  exact wpAny_pure ⟨_,rfl,h _ s' out c oD J' so⟩
end
structure nh(X:Cx)(scope:Scope)(Nc:List Str)(fr:List (Option Nat))(p:Str):Prop where
 sc:bq X scope Nc fr
 C6:∀x∈scope.names,x.2≠ .cell
 co:scope.isCoroutine=false
 gen:scope.isGenerator=false
 p0:Nc[0]?=some p
 f0:fr[0]?=some none
 loc:scope.names.lookup p=some .local
abbrev AY(X:Cx)(scope:Scope)(qual:Str)(f c:Addr)(s:Shared):Env:=PySem.W.envX qual scope s.heap.objs.size f (.ref c) (dm X.env.cells scope.names [])
def Cg(X:Cx)(scope:Scope)(Nc:List Str)(qual:Str)(f c:Addr)(s:Shared)(H:Hp):Cx:=
 {X with A:=X.A.in1.in1.deeper (AY X scope qual f c s),N:=Nc,s₀:=s,H₀:=H,env:=AY X scope qual f c s,outer:=X.stack,stack:=AY X scope qual f c s::X.stack,ex:=[],fn:=fun _=>false,calm:=true,pn:=[],xe:=fun _ _=>False}
section
variable {X:Cx}{scope:Scope}{Nc:List Str}{fr:List (Option Nat)}{p qual:Str}{f c:Addr}{pins:List (Addr×Obj)}{σ:L2.St}{H:Hp}{s:Shared}
theorem H0(S:nh X scope Nc fr p)(I:Inv X pins σ H s)(hc:X.calm=true):(Cg X scope Nc qual f c s H).Ok where
 mod:=I.ok.mod
 kind:=S.sc.kind
 glob:=rfl
 blt:=rfl
 above:=Nat.le_refl _
 inj:=fun x y a h1 h2=>I.ok.inj x y a (cZ _ [] (fun _ _ e=>by cases e) x a h1) (cZ _ [] (fun _ _ e=>by cases e) y a h2)
 has:=fun x hx=>by
  have hx':scope.names.lookup x=some .cell\/scope.names.lookup x=some .free:=hx;rcases hx' with hx|hx
  . exact absurd rfl (S.C6 _ (PySem.mem_of_lookup hx))
  . exact jn scope.names [] (I.ok.has x (S.sc.free _ (PySem.mem_of_lookup hx) rfl)) (.inl (PySem.mem_of_lookup hx))
 yv:=fun x a hf _=>by cases hf
 hd:=fun _=>I.ok.hd hc
 frames:=Around.frames_deeper (by show X.A.frames=_;exact I.ok.frames)
 Al:= .inr ⟨rfl,rfl⟩
 Dc:=fun b hb=>by cases hb
 bs:=I.bs
 rp:=Nat.le_trans I.ok.rp I.sz
 tK:=fun b o e hb=>by cases hb
 ud:=fun b hb=>by cases hb
 kX:=I.stack
 uD:=I.vG
 gt:=I.ok.gt
theorem G9{h':Heap}{t':Nat}{v:V}{u:Value}(S:nh X scope Nc fr p)(I:Inv X pins σ H s)(hc:X.calm=true)(r:RelV v u)(hn:h'.Ns s.heap.objs.size (fun x=>[(p,u)].reverse.lookup x))
 (k:∀b o,s.heap.get? b=some o->h'.get? b=some o):Inv (Cg X scope Nc qual f c s H) [] ((σC fr σ).set 0 (some v)) H {s with heap:=h',toks:=t'} where
 ok:=H0 S I hc
 os:=rfl
 bare:=I.bare
 base:=Un.kept k
 loc:=⟨_,hn,fun i x w h1 h2 h3=>by
  by_cases hi:i=0
  . subst hi;have hp:=S.p0;have e:p=x:=Option.some.inj (hp.symm.trans h1);subst e
    have hl:0<(σC fr σ).length:=by
     have:=(List.getElem?_eq_some_iff.mp h2).1;rw[List.length_set]at this;exact this
    rw[List.getElem?_set_self hl]at h2;cases h2;exact⟨u,r,.inl ⟨S.loc,by simp⟩⟩
  . rw[List.getElem?_set_ne (Ne.symm hi)]at h2;obtain⟨j,q1,q2⟩:=zM h2;obtain⟨n1,n2,n3⟩:=S.sc.map i j x h1 q1;obtain⟨m,hm,hl⟩:=I.loc;obtain⟨u',r',lk⟩:=hl j x w n1 q2 (n3.elim (fun z=> .inr (.inl z)) fun z=> .inr (.inr z));refine⟨u',r',?_⟩;rcases lk with⟨z,_⟩|⟨_,a,e,ic⟩
    . rcases n3 with y|y<;>(rw[y]at z;cases z)
    . obtain⟨a',e'⟩:=jn scope.names [] ⟨a,e⟩ (.inl (PySem.mem_of_lookup n2));have e2:=cZ _ [] (fun _ _ e=>by cases e) x a' e';rw[e]at e2;cases e2;exact .inr ⟨.inr n2,a,e',ic.keeps k⟩⟩
 cell:=fun x a h=>by
  obtain⟨v,q⟩:=I.cell x a (cZ _ [] (fun _ _ e=>by cases e) x a h);exact⟨v,q.keeps k⟩
 free:=I.aI.fresh (Nat.le_refl _)
 i_:=fun x a h=>I.i_ x a (cZ _ [] (fun _ _ e=>by cases e) x a h)
 pin:=fun q hq=>by cases hq
 aI:=I.aI.kept k
 len:=by rw[List.length_set];unfold σC;rw[List.length_map];exact S.sc.len
theorem DX{R:Hp->Prop}{params:Arguments}{body:Expr}{tb:TE}{own:List (Addr×Obj)}{k:Int}{v:V}{u pm ctv:Value}(S:nh X scope Nc fr p)(hc:X.calm=true)(hr:X.A.depth<recursionLimit)
 (hb:∀(s:Shared) (H:Hp),PE (Cg X scope Nc qual f c s H) body tb)
 (hbind:∀(cl:List (Str×Addr)) (pm cd ct v:Value),bindArgs (PySem.W.kla_fn "<lambda>" qual params body scope cl pm cd ct) ⟨[v],[]⟩=pure [(p,v)])
 (r:RelV v u) (hf:(f,PySem.W.kla_obj "<lambda>" qual params body scope (dm X.env.cells scope.names []) pm c ctv)∈pins)
 (hcr:∀(H:Hp) (s:Shared),Inv X (pins++own) σ H s->R H->s.heap.CodeRec (.ref c) qual)
 (hq:∀H,R H->tb ((σC fr σ).set 0 (some v)) H fun x H'=>x= .int k/\R H') (J:mQ X pins σ R own s):
 wpAny (model X.prog X.w) X.A.in1.in1 (call (.ref f) [u]) (fun u' s'=>(∃t,u'= .int k t)/\mQ X pins σ R own s') (fun _ _=>False) s:=by
 obtain⟨H,I,rH⟩:=J;have ho:=(I.pin _ (List.mem_append_right _ (List.mem_append_left _ hf))).1;refine wpAny_call (PySem.W.kla_callFunE (fd:=PySem.W.kla_fn "<lambda>" qual params body scope (dm X.env.cells scope.names []) pm (.ref c) ctv) (by show X.A.depth<_;exact hr) ho rfl S.co S.gen rfl (hcr H s I rH) ?_);rw[hbind]
 refine wpAny_pure (wpAny_newFunctionEnv S.C6 (fun y hy=>by
  have e:y=(p,u):=by simpa using hy
  rw[e];exact S.loc) (fun h₁ hns hsb=>?_) S.sc.kind)
 have hk:∀b o,s.heap.get? b=some o->h₁.get? b=some o:=fun b o e=>hsb.extBut b o (Nat.ne_of_lt (Heap.lt_size e)) (Heap.get?_push_of_some _ e);refine⟨I.nolimit.keeps hk,?_⟩;show codeAny _ X.A.in1.in1 (.expr body (AY X scope qual f c s)) _ _;refine PySem.W.kla_codeExpr (wpAny_mono (hb s H [] _ _ H _ (G9 S I hc r hns hk) (hq H rH)) (fun w s' he=>?_) fun e s' z=>False.elim z);obtain⟨x,H',I',rx,rfl,rH'⟩:=he;exact⟨rx,H',I.AG (s':=s') (ch:=[]) I'.os I'.base I'.aI I'.bare (fun b z=>absurd z (by simp)),rH'⟩
theorem set_same{α:Type}:∀ {l:List α} {n:Nat} {x:α},l[n]?=some x->l.set n x=l
 | [],n,x,h=>by simp at h
 |a::l,0,x,h=>by simp at h;subst h;rfl
 |a::l,n+1,x,h=>by
  rw[List.set_cons_succ,set_same (n:=n) (by simpa using h)]
theorem Ex{params:Arguments}{body:Expr}{lpos:Pos}{c0 T:Addr}{α:List (Option Addr)}{G F:Hp}{st:af}{n0:Nat}{b:Bool}{E:Value->Shared->Prop}{Q:Value->Shared->Prop}(S:nh X scope Nc fr p)(hcode:X.env.code= .ref c0)(hC:PySem.W.codeHdIn X.K c0 T=true)
 (hdef:defaultsOf params X.env=([],[])) (hql:X.env.qual++"<lambda>"=qual) (I:Inv X pins σ H s) (Sp:bW G F H) (SR:aO α st G) (hn0:st[n0]?=some (.tab T lpos qual b))
 (h:∀(f c:Addr) (ctv pm:Value) (G2 H2:Hp) (s2:Shared),Inv X (pins++[(f,PySem.W.kla_obj "<lambda>" qual params body scope (dm X.env.cells scope.names []) pm c ctv)]) σ H2 s2->Step α G α G2->bW G2 F H2->aO α (st.set n0 (.tab T lpos qual true)) G2->
   (some c∉α/\∃o vs t,G2 c=some (.ig o (.own c))/\o.data= .fields vs/\vs[1]?=some (.str qual t))->Q (.ref f) s2):
 wpAny (model X.prog X.w) X.A (eval (.Lambda params body scope lpos) X.env) Q E s:=by
 refine PySem.W.kla_eval hdef ?_;rw[hql];rcases SR.at' n0 _ hn0 with⟨z,_⟩|⟨a,ha,rfl,ps,gP,tr,cs⟩
 . cases z
 have hP:=I.aI a _ (Sp.get gP);have hP:s.heap.get? a=some (PySem.W.tabObj ps):=hP;have hg:s.heap.Ns mainGlobals X.mg:=I.mod.glob.keeps I.bk;obtain⟨bm,ob,b1,b2,b3,b4,b5,b6⟩:=I.mod.bmain;have b3':=I.bk _ _ b3
 have hgP:mainGlobals≠a:=fun q=>by
  obtain⟨o,es,ep,e,hd,_⟩:=hg;rw[q,hP]at e;cases e;cases hd
 have n1:bm≠mainGlobals:=fun q=>by
  obtain⟨o,es,ep,e,hd,_⟩:=hg;rw[q,e]at b3';cases b3';rw[hd]at b6;cases b6
 have n2:bm≠a:=fun q=>by rw[q,hP]at b3';cases b3';cases b4
 have hB:s.heap.BuiltinsAt X.mg a:=⟨bm,ob,b1,b2,n1,n2,b3',b4,b5,b6⟩
 have hcl:closureFor scope X.env=pure (dm X.env.cells scope.names []):=mM fun x hx hk=>I.ok.has x.1 (S.sc.free x hx hk);have C:PySem.W.CodeHd s.heap c0 a:=PySem.W.codeHd_of_K I.nJ hC;rcases cs with⟨rfl,hnf⟩|⟨rfl,c,o,vs,t,q1,q2,q3,q4,q5⟩
 . refine PySem.W.kla_makeFunction hcl I.ok.glob hg hcode C hP tr hnf hgP hB fun c' ctv h' tk hx hge hlt hrec htb=>?_;obtain⟨c2,oc,vs,t,e2,hoc,hd,hv⟩:=hrec;cases e2;have hHc:H c'=none:=I.aI.fresh hge;have hGc:G c'=none:=(Sp.none hHc).1;have hHa:H a=some (.ky ps):=Sp.get gP;have hac:a≠c':=dA hHa hHc
   let ps':=ps++ #[rawInt lpos.line,rawInt lpos.col,.ref c']
   have nb:∀ {b:Addr},H b=none->b≠a:=fun e z=>by rw[z,hHa]at e;cases e
   have I1:Inv X pins σ (upd (upd H c' (.ig oc (.own c'))) a (.ky ps')) {s with heap:=h',gens:=s.gens,drawn:=s.drawn,toks:=tk}:=by
    have old:∀ {b:Addr} {u:HO},H b=some u->b≠a->upd (upd H c' (.ig oc (.own c'))) a (.ky ps') b=some u:=fun e n=>by rw[ax n,ax (dA e hHc)];exact e
    refine I.step (ch:=[]) (fun _ z=>nomatch z) (fun b o _ _ _ e n=>hx b o (nb n) e) (fun b o _ _ _ e n=>⟨o.slots,hx b o (nb n) e⟩) (fun b o _ e n=>?_) (fun b o _ e=>?_) (fun b xs e=>?_) (fun b o u e=>?_) (fun b qs e=>?_) (fun m hm=>?_) (fun b u e=>?_) I.bare
    . rw[ax (nb n),ax (Nat.ne_of_lt (Nat.lt_of_lt_of_le (Heap.lt_size e) hge))];exact n
    . by_cases hb:b=a
      . exact⟨_,by rw[hb];exact htb⟩
      . exact⟨o,hx b o hb e⟩
    . exact old e fun z=>by rw[z,hHa]at e;cases e
    . exact old e fun z=>by rw[z,hHa]at e;cases e
    . by_cases hb:b=a
      . subst hb;rw[hHa]at e;cases e;exact⟨_,aV⟩
      . exact⟨#[],by rw[old e hb];simp⟩
    . obtain⟨o,es,ep,ho,r⟩:=hm;exact⟨o,es,ep,hx _ o (nb I.free) ho,r⟩
    . by_cases hb:b=a
      . subst hb;rw[aV]at e;cases e;exact htb
      . rw[ax hb]at e;by_cases hbc:b=c'
        . subst hbc;rw[aV]at e;cases e;exact⟨hoc,_,hoc⟩
        . rw[ax hbc]at e;refine(I.aI b u e).oG (fun d w hd q=>hx d w ?_ q) (fun d q=>old q fun z=>by rw[z,hHa]at q;cases q) fun d xs q=>old q fun z=>by rw[z,hHa]at q;cases q
          rcases hd with rfl|hd
          . exact hb
          . intro z;rw[z,hHa]at hd;cases hd
   have I2:=ll (o:=PySem.W.kla_obj "<lambda>" qual params body scope (dm X.env.cells scope.names []) ((X.mg "__name__").getD .none) c' ctv) (t':=tk) I1 (fun v z=>by cases z);have gP':upd G c' (.ig oc (.own c')) a=some (.ky ps):=by rw[ax hac];exact gP
   refine h _ c' ctv _ (upd (upd G c' (.ig oc (.own c'))) a (.ky ps')) _ _ I2 ((Step.laid hGc).trans (Step.write (List.mem_of_getElem? ha))) ((Sp.laid hHc).write gP') ((SR.laid hGc).write ha ⟨rfl,ps',aV,?_,.inr ⟨rfl,c',oc,vs,t,?_,SR.kI hGc,?_,hd,hv⟩⟩) ⟨SR.kI hGc,oc,vs,t,?_,hd,hv⟩
   . show TriplesOk (ps++ #[rawInt lpos.line,rawInt lpos.col,.ref c']).toList;rw[Array.toList_append];exact TriplesOk_snoc _ _ _ _ tr
   . show codeAmong lpos (ps++ #[rawInt lpos.line,rawInt lpos.col,.ref c']).toList=_;rw[Array.toList_append];exact codeAmong_snoc _ tr hnf
   . rw[ax hac.symm,aV]
   . rw[ax hac.symm,aV]
 . refine PySem.W.kla_makeFunctionHit hcl I.ok.glob hg hcode C hP tr q1 hB fun ctv h' tk hk hsz=>?_;have I1:=I.kept (t':=tk) hk;have I2:=ll (o:=PySem.W.kla_obj "<lambda>" qual params body scope (dm X.env.cells scope.names []) ((X.mg "__name__").getD .none) c ctv) (t':=tk) I1 (fun v z=>by cases z);refine h _ c ctv _ G H _ I2 Step.refl Sp (by rw[set_same hn0];exact SR) ⟨q2,o,vs,t,q3,q4,q5⟩
end
def slt(p q:Int×Int):Prop:=p.1<q.1\/(p.1=q.1/\p.2<q.2)
def xR(n0:Nat)(T:Addr)(lpos:Pos)(qual:Str)(fr:List (Option Nat))(tb te:DE):DE:=fun σ st K=>te σ st fun d st1=>∃(ns ks:List Int) (b:Bool),d= .lst (ns.map .int)/\ns.length<64/\ns.Pairwise (· < ·)/\ks.length=ns.length/\
 st1[n0]?=some (.tab T lpos qual b)/\(∀(i:Nat) (n k:Int),ns[i]?=some n->ks[i]?=some k->tb ((g9 fr σ).set 0 (some (.int n))) (st1.set n0 (.tab T lpos qual true)) fun v st2=>v= .int k/\st2=st1.set n0 (.tab T lpos qual true))/\
 ∀os:List (Int×Int),os.Perm (ks.zip ns)->os.Pairwise slt->K (.lst (os.map fun p=> .int p.2)) (st1.set n0 (.tab T lpos qual true))
theorem yJ{α:List (Option Addr)}{H:Hp}:∀ {ns:List Int} {vs:List V},aG α H (ns.map D.int) vs->vs=ns.map V.int
 | [],vs,h=>by unfold aG at h;exact h
 |n::ns,vs,h=>by
  unfold aG at h;obtain⟨v,r,rfl,h1,h2⟩:=h;unfold Rep at h1;rw[h1,yJ h2];rfl
theorem ze{α:List (Option Addr)}{H:Hp}:∀(ns:List Int),aG α H (ns.map D.int) (ns.map V.int)
 | []=>by unfold aG;rfl
 |n::ns=>by unfold aG;exact⟨_,_,rfl,by unfold Rep;rfl,ze ns⟩
theorem yz:∀ {ns:List Int} {us:List Value},Vals (ns.map V.int) us->IntsAre us ns
 | [],_,.nil=> .nil
 |n::ns,_,.cons ⟨t,rfl⟩ h=> .cons n t (yz h)
section
variable {X:Cx}{scope:Scope}{Nc:List Str}{fr:List (Option Nat)}{p x qual:Str}{params:Arguments}{e body:Expr}{te tb:DE}{lpos kpos pos ppos:Pos}{c0 T:Addr}{n0:Nat}
theorem Hy(S:nh X scope Nc fr p)(hc:X.calm=true)(hr:cR 2 X.A)(hcode:X.env.code= .ref c0)(hC:PySem.W.codeHdIn X.K c0 T=true)(hdef:defaultsOf params X.env=([],[]))(hql:X.env.qual++"<lambda>"=qual)
 (hbind:∀(cl:List (Str×Addr)) (pm cd ct v:Value),bindArgs (PySem.W.kla_fn "<lambda>" qual params body scope cl pm cd ct) ⟨[v],[]⟩=pure [(p,v)])
 (hb:∀(f c:Addr) (s:Shared) (H:Hp),PE (Cg X scope Nc qual f c s H) body (LE tb)) (ha:PA X [e] (LA (ae te ak)))
 (hg:Gl X "sorted") (hm:X.mg "sorted"=none) (hv:bootBuiltins "sorted"=some (.builtin "sorted"))
 (he:backTo pos (starEach [e] X.env)=(false,eval e X.env)::backTo pos (starEach [] X.env):=by rfl) (hpl:(backTo pos (starEach [e] X.env)).any (·.1)=false:=by rfl):
 PE X (.Call (.Name "sorted" ppos) [e] [⟨some "key",.Lambda params body scope lpos,kpos⟩] pos) (LE (xR n0 T lpos qual fr tb te)):=by
 intro pins s σ H Q I h;obtain⟨α,σd,st,K,G,F,Sp,RS,SR,t,k⟩:=h;refine wpAny_Call_Name_kw (jM I hg hm hv ?_);refine callWith_kw ?_ he hpl
 let K1:DK:=fun d st1=>∃(ns ks:List Int) (b:Bool),d= .lst (ns.map .int)/\ns.length<64/\ns.Pairwise (· < ·)/\ks.length=ns.length/\
  st1[n0]?=some (.tab T lpos qual b)/\(∀(i:Nat) (n k:Int),ns[i]?=some n->ks[i]?=some k->tb ((g9 fr σd).set 0 (some (.int n))) (st1.set n0 (.tab T lpos qual true)) fun v st2=>v= .int k/\st2=st1.set n0 (.tab T lpos qual true))/\
  ∀os:List (Int×Int),os.Perm (ks.zip ns)->os.Pairwise slt->K (.lst (os.map fun p=> .int p.2)) (st1.set n0 (.tab T lpos qual true))
 refine bZ (ha pos pins s σ H (fun vs H1=>∃d v st1 α1 G1,vs=[v]/\K1 d st1/\Step α G α1 G1/\bW G1 F H1/\aO α1 st1 G1/\Rep α1 G1 d v) I
  ⟨α,σd,st,fun ds st1=>match ds with| [d]=>K1 d st1|_=>False,G,F,Sp,RS,SR,t,fun ds st1 q α1 G1 H1 vs s1 P1 S1 r1=>?_⟩) fun us s1 ⟨vs,H1,I1,rv,d,v,st1,α1,G1,hvs,kd,s1',P1,S1,r1⟩=>?_
 . match ds,q,r1 with
   | [d],q,r1=>
     unfold aG at r1;obtain⟨v,r,rfl,h1,h2⟩:=r1;unfold aG at h2;subst h2;exact⟨d,v,st1,α1,G1,rfl,q,s1,P1,S1,h1⟩
 subst hvs;obtain⟨ns,ks,b,rfl,h64,hup,hlen,hn0,hkey,hK⟩:=kd;show wpAny _ _ (evalAll ((do let v <-eval (.Lambda params body scope lpos) X.env;standAt pos;pure v)::[])) _ _ s1;refine wpAny_evalAll_cons (wpAny_bind (Ex S hcode hC hdef hql I1 P1 S1 hn0 fun f c ctv pm G2 H2 s2 I2 st2 P2 S2 ⟨hc1,o,vs,tq,hc2,hc3,hc4⟩=>wpAny_bind (wpAny_standAt (wpAny_pure (wpAny_evalAll_nil ?_)))));have r2:=r1.step st2;unfold Rep at r2;obtain⟨l,xs,rfl,hl1,hl2,hl3⟩:=r2;have exs:=yJ hl3;subst exs;cases rv with
 |cons ru rn=>
  cases rn;cases ru
  have hrd:Rd H2 l (.lst (ns.map V.int)):=by
   rcases hl2 with z|⟨w,z⟩
   . exact .inl (P2.get z)
   . exact .inr ⟨w,P2.get z⟩
  obtain⟨_,its,nn,vv,hobj⟩:=hrd.ok I2.aI;have hints:=yz vv;have hlen2:=hints.length;have key:∀(H':Hp),(∃α' G',Step α1 G2 α' G'/\bW G' F H'/\aO α' (st1.set n0 (.tab T lpos qual true)) G')->H' c=some (.ig o (.own c)):=fun H' ⟨α',G',q1,q2,q3⟩=>q2.get (q1.ext c _ hc1 hc2);show wpAny _ _ (call (.builtin "sorted") [.ref l] [(Str.ofString "key",.ref f)]) _ _ _
  refine AH (X:=X) (pins:=pins++[(f,PySem.W.kla_obj "<lambda>" qual params body scope (dm X.env.cells scope.names []) pm c ctv)]) (R:=fun H'=>∃α' G',Step α1 G2 α' G'/\bW G' F H'/\aO α' (st1.set n0 (.tab T lpos qual true)) G') (kz:=ks) (vs:=its)
   I2 ⟨α1,G2,Step.refl,P2,S2⟩ ⟨_,hobj,rfl,nn,rfl⟩ (by omega) (by omega) ?_ (fun i u kk hu hk own s' J=>?_) fun D s' out cc oD J so=>?_
  . rw[<-List.pairwise_map,hints.nums];exact hup
  . have hi:i<ns.length:=by
     have:=(List.getElem?_eq_some_iff.mp hu).1;omega
    obtain⟨tt,ht⟩:=hints.get i ns[i] (List.getElem?_eq_getElem hi);have ht:some u=some (Value.int ns[i] tt):=by rw[<-hu];exact ht
    cases ht;refine DX (v:= .int ns[i]) (u:= .int ns[i] tt) S hc (by have:=hr.dp;omega) (hb f c) hbind ⟨tt,rfl⟩ (List.mem_append_right _ (List.mem_singleton.mpr rfl)) (fun H' s'' J' r'=>?_) (fun H' r'=>?_) J
    . have q:=J'.aI c _ (key H' r');exact⟨c,o,vs,tq,rfl,q.1,hc3,hc4⟩
    . obtain⟨α',G',q1,q2,q3⟩:=r';refine⟨α',(g9 fr σd).set 0 (some (.int ns[i])),_,_,G',F,q2,?_,q3,hkey i ns[i] kk (List.getElem?_eq_getElem hi) hk,fun d' st' hd α'' G'' H'' v' s'' P'' S'' r''=>?_⟩
      . exact((RS.step ((s1'.trans st2).trans q1)).comp).set 0 (by unfold Rep;rfl)
      . obtain⟨rfl,rfl⟩:=hd;unfold Rep at r'';exact⟨r'',α'',G'',q1.trans s'',P'',S''⟩
  . obtain⟨H',I',α',G',q1,q2,q3⟩:=J;obtain⟨ps,hp,ho,hs⟩:=so
    have hps:∀q∈ps,∃t,q.2= .int (numOf q.2) t:=fun q hq=>by
     have h1:=hp.mem_iff.mp hq;have h2:q.2∈its:=(List.of_mem_zip (show(q.1,q.2)∈ks.zip its from h1)).2;obtain⟨n,t,e⟩:=hints.all _ h2;exact⟨t,by rw[e];rfl⟩
    have hos:(ps.map fun q=>(q.1,numOf q.2)).Perm (ks.zip ns):=by
     have h1:=hp.map fun q:Int×Value=>(q.1,numOf q.2)
     have e:(ks.zip its).map (fun q:Int×Value=>(q.1,numOf q.2))=ks.zip ns:=by
      rw[<-hints.nums,List.zip_map_right];exact List.map_congr_left fun⟨a,b⟩ _=>rfl
     rw[e]at h1;exact h1
    have hpw:(ps.map fun q=>(q.1,numOf q.2)).Pairwise slt:=by rw[List.pairwise_map];exact hs
    have kk:=hK _ hos hpw;rw[List.map_map]at kk;have hD0:=fZ I'
    have vout:Vals ((ps.map fun q=>numOf q.2).map V.int) out.toList:=by
     rw[ho];clear hos hpw kk hs hp ho;induction ps with
     |nil=>exact .nil
     |cons q r ih=>
      obtain⟨t,e⟩:=hps q (List.mem_cons_self ..);exact .cons ⟨t,e⟩ (ih fun z hz=>hps z (List.mem_cons_of_mem _ hz))
    have hlo:(ps.map fun q=>numOf q.2).length<=sizeLine:=by
     rw[List.length_map,hp.length_eq,List.length_zip];exact Nat.le_trans (Nat.min_le_left _ _) (Nat.le_trans (show ks.length<=64 by omega) (by decide))
    have I3:=B_ (u:= .lst ((ps.map fun q=>numOf q.2).map V.int)) I' oD.ge oD.ne ⟨by rw[List.length_map];exact hlo,out.toList,cc,vout,hD0.1⟩;have hG:=(q2.none hD0.2.1).1;refine⟨.ref D,_,I3.iE,rfl,k _ _ kk α' _ _ _ ((s1'.trans st2).trans (q1.trans (Step.laid hG))) (q2.laid hD0.2.1) (q3.laid hG) ?_⟩;unfold Rep;refine⟨D,_,rfl,q3.kI hG,.inl aV,?_⟩;have e:List.map ((fun p:Int×Int=>L3.D.int p.snd)∘fun q:Int×Value=>(q.fst,numOf q.snd)) ps=(ps.map fun q=>numOf q.2).map L3.D.int:=by rw[List.map_map];rfl
    rw[e];exact ze _
end
end L3
namespace L3
open PySem L2
open PySem.Spec hiding items?
open PyProof.Rows hiding St
def Ec(sc:Scope)(N gl:List Str):Bool:=
 N.all (fun x=>(sc.names.lookup x==some .local||sc.names.lookup x==some .cell)&&x != "__debug__"&&x != "__classdict__")&&gl.all (fun x=>sc.names.lookup x==some .globalImplicit&&x != "__debug__")
structure VS(sc:Scope)(N gl:List Str):Prop where
 ok:Ec sc N gl=true
theorem VS.at_{sc:Scope}{N gl:List Str}(V:VS sc N gl){i:Nat}{x:Str}(h:N[i]?=some x):Loc sc x/\(x==("__debug__":Str))=false/\(x==("__classdict__":Str))=false:=by
 have o:=V.ok;unfold Ec at o;have:=List.all_eq_true.mp (Bool.and_eq_true_iff.mp o).1 x (List.mem_of_getElem? h);simp only[Bool.and_eq_true,Bool.or_eq_true,beq_iff_eq,bne_iff_ne,ne_eq]at this;exact⟨this.1.1,beq_false_of_ne this.1.2,beq_false_of_ne this.2⟩
theorem VS.MG{sc:Scope}{N gl:List Str}(V:VS sc N gl){i:Nat}{x:Str}(h:gl[i]?=some x):sc.names.lookup x=some .globalImplicit/\(x==("__debug__":Str))=false:=by
 have o:=V.ok;unfold Ec at o;have:=List.all_eq_true.mp (Bool.and_eq_true_iff.mp o).2 x (List.mem_of_getElem? h);simp only[Bool.and_eq_true,beq_iff_eq,bne_iff_ne,ne_eq]at this;exact⟨this.1,beq_false_of_ne this.2⟩
section
variable {X:Cx}{sc:Scope}{N gl:List Str}{x:Str}{pos:Pos}
theorem VS.nm(V:VS X.env.scope X.N gl)(i:Nat)(h:X.N[i]?=some x:=by rfl):JE X (.Name x pos) (ab i):=
 let q:=V.at_ h
 CL q.2.1 q.2.2 (q.1.elim .inl fun z=> .inr (.inl z)) h
theorem VS.l(V:VS sc N gl)(i:Nat)(h:N[i]?=some x:=by rfl):Loc sc x:=(V.at_ h).1
theorem VS.g(V:VS sc N gl)(i:Nat)(h:gl[i]?=some x:=by rfl):sc.names.lookup x=some .globalImplicit:=(V.MG h).1
theorem VS.d(V:VS sc N gl)(i:Nat)(h:gl[i]?=some x:=by rfl):(x==("__debug__":Str))=false:=(V.MG h).2
theorem cL{n:Nat}(hN:X.N[n]?=some x:=by rfl)(hd:((x==("__debug__":Str))||(x==("__classdict__":Str)))=false:=by decide+kernel)
 (hv:yQ X.env.scope x:=by first|exact Or.inl rfl|exact Or.inr (Or.inl rfl)|exact Or.inr (Or.inr rfl)):JE X (.Name x pos) (ab n):=
 CL (Bool.or_eq_false_iff.mp hd).1 (Bool.or_eq_false_iff.mp hd).2 hv hN
@[irreducible] def oV:eE:=uA (fun _ j=>j≠0) fun i j=> .int (i.fdiv j)
theorem Ad{k:Nat}(hr:cR k X.A)(hs:X.stack=X.env::X.outer)(hgen:X.env.scope.isGenerator=false)(hco:X.env.scope.isCoroutine=false):cF X (binaryOp .FloorDiv) (LR oV):=by
 unfold oV;refine mw (g':=fun i j=> .int (i.fdiv j)) (fun _ _ _ _=>by unfold Rep;rfl) ?_;intro pins s σ H x y v u Q I rx ry h;obtain⟨i,j,rfl,rfl,hc,q⟩:=h;obtain⟨t,rfl⟩:=rx;obtain⟨t',rfl⟩:=ry;refine floordiv_int hc ⟨.int (i.fdiv j),H,I.tok _,⟨_,rfl⟩,q⟩ (.inr (PySem.PylongRoom.of I.nolimit ?_ ?_))
 . have:=hr.dp;show X.A.depth+100<_;omega
 . exact PySem.SeerAt.of (env:=X.env) (l:=X.outer) (I.mod.seer.keeps I.bk) I.ok.gt (by rw[I.ok.frames,hs]) hgen hco I.ok.blt I.ok.glob
theorem yp{st:af}{K:DK}{i j:Int}(h0:j≠0)(k:K (.int (i.fdiv j)) st):oV (.int i) (.int j) st K:=by unfold oV;exact⟨h0,k⟩
theorem nh.look{scope:Scope}{Nc:List Str}{fr:List (Option Nat)}{p:Str}(S:bq X scope Nc fr)(h:(scope.names.all (fun x=>x.2 != .cell)&&(!scope.isCoroutine&& !scope.isGenerator)&&(scope.names.lookup p==some .local))=true:=by decide+kernel)
 (p0:Nc[0]?=some p:=by rfl) (f0:fr[0]?=some none:=by rfl):nh X scope Nc fr p:=by
 simp only[Bool.and_eq_true,Bool.not_eq_true',beq_iff_eq]at h;exact⟨S,fun x hx=>by simpa using List.all_eq_true.mp h.1.1 x hx,h.1.2.1,h.1.2.2,p0,f0,h.2⟩
theorem Hf{scope:Scope}{Nc:List Str}{fr:List (Option Nat)}{p qual:Str}{params:Arguments}{e body:Expr}{te tb:DE}{lpos kpos pos ppos:Pos}{c0 T:Addr}{n0 k:Nat}(S:nh X scope Nc fr p)(hc:X.calm=true)(hr:cR k X.A)(hcode:X.env.code= .ref c0)(hC:PySem.W.codeHdIn X.K c0 T=true)
 (hb:∀(f c:Addr) (s:Shared) (H:Hp),JE (Cg X scope Nc qual f c s H) body tb) (he:JE X e te) (hg:X.env.kindOf "sorted"=some .globalImplicit) (hm:X.mg "sorted"=none)
 (hdef:defaultsOf params X.env=([],[]):=by rfl) (hql:X.env.qual++"<lambda>"=qual:=by rfl)
 (hbind:∀(cl:List (Str×Addr)) (pm cd ct v:Value),bindArgs (PySem.W.kla_fn "<lambda>" qual params body scope cl pm cd ct) ⟨[v],[]⟩=pure [(p,v)]:=by(intros;rfl)) (hk:2<=k:=by decide)
 (he1:starEach [e] X.env=(false,eval e X.env)::starEach [] X.env:=by rfl):
 JE X (.Call (.Name "sorted" ppos) [e] [⟨some "key",.Lambda params body scope lpos,kpos⟩] pos) (xR n0 T lpos qual fr tb te):=by
 unfold JE at he hb⊢;refine Hy S hc (hr.mono hk) hcode hC hdef hql hbind hb (vg he yP he1) hg hm rfl ?_ ?_
 . rw[he1];rfl
 . rw[he1];rfl
end
structure JV(K:PySem.W.Frag)(x qual:Str)(st:Stmt)(f:Addr)(fd:FuncData)(c:Addr):Prop where
 ex:∃(oc:Value) (od:Option Addr) (kV doc pm:Value) (an:Option Addr) (ct:Value) (osl:Array (Option Value)),
  fd=PySem.W.fnOf x qual (kv st) (g8 st) (ai st) .none kV doc pm an (.ref c) ct/\K.lookup f=some ⟨oc,od,.func fd,osl⟩/\PySem.W.codeIn K (.ref c) qual=true
theorem Ib{P:Program}{w:World}{K:PySem.W.Frag}{mg:Str->Option Value}{base:Heap}{x qual:Str}{st:Stmt}{f c:Addr}{fd:FuncData}{N ps:List Str}{k:Nat}{sp:cV}{t:DS}(F:JV K x qual st f fd c)(S:ba N ps (ai st))
 (hbody:∀(A:Around) (outer:List Env) (s:Shared) (H:Hp) (E:XK),cR k (A.deeper (envOfC qual (ai st) s.heap.objs.size f (.ref c)))->JB (pE cW P w K mg base N qual (ai st) f (.ref c) A outer s H E).uR (g8 st) t)
 (hsp:∀ds st K,sp ds st K->ds.length=ps.length/\t {nx:=fun _ st'=>K .aM st',rt:=K} (bj N ds) st):bH P w K mg base cW (k+1) f fd ps (c8 sp):=by
 obtain⟨oc,od,kV,doc,pm,an,ct,osl,rfl,lk,hcd⟩:=F.ex;unfold JB at hbody;refine F0 lk hcd S (fun vs H Q E h=>?_) fun A outer s H vs Q E hr h=>?_
 . obtain⟨α,ds,st,K,G,F,P,R,S,q,k⟩:=h;rw[<-R.length];exact(hsp ds st K q).1
 . obtain⟨α,ds,st,K,G,F',P,R,SR,q,k⟩:=h;refine⟨_,(hbody A outer s H E hr).uR,α,bj N ds,st,_,G,F',P,dU.start R,SR,(hsp ds st K q).2,?_,k,?_,?_⟩
   . intro σd' st' kk α' G' H' σ' s' P' R' S';exact k .aM st' kk α' G' H' .aM s' P' S' (by unfold Rep;rfl)
   . intro σd' st' kk;exact kk.elim
   . intro σd' st' kk;exact kk.elim
def DB(tl:List (Addr×Pos×Str)):cV:=fun ds st K=>∃ns:List Int,ds=[.lst (ns.map .int)]/\ns.length<=63/\st=tl.map (fun q=> .tab q.1 q.2.1 q.2.2 false)/\∀st',K (.bl true) st'
def Ce(K:PySem.W.Frag)(ts:List (Addr×Addr)):Sp:=fun vs H Q _=>∃(a:Addr) (ns:List Int),vs=[.ref a]/\Entry K ts a ns H/\ns.length<=63/\∀H',Q (.bl true) H'
theorem CK{K:PySem.W.Frag}{ts:List (Addr×Addr)}{tl:List (Addr×Pos×Str)}(nl:Co K=true)(hts:ts.map (·.2)=tl.map (·.1))(nd:(tl.map (·.1)).Nodup){vs:List V}{H:Hp}{Q:VK}{E:XK}(h:Ce K ts vs H Q E):c8 (DB tl) vs H Q E:=by
 obtain⟨a,ns,rfl,hE,hl,q⟩:=h
 have tabs:∀q∈tl,H q.1=some (.ky #[])/\q.1≠a:=fun q hq=>by
  have h1:q.1∈ts.map (·.2):=by rw[hts];exact List.mem_map_of_mem hq
  obtain⟨t,ht,e⟩:=List.mem_map.mp h1;rw[<-e];exact hE.tab t ht
 have at_:∀(i:Nat) (x:Addr),(tl.map fun q=>some q.1)[i]?=some (some x)->∃q,tl[i]?=some q/\q.1=x:=fun i x e=>by
  rw[List.getElem?_map]at e;cases z:tl[i]? with
  |none=>rw[z]at e;cases e
  |some w=>rw[z]at e;simp at e;exact⟨w,rfl,e⟩
 have nota:some a∉tl.map fun q=>some q.1:=fun z=>by
  obtain⟨w,hw,e⟩:=List.mem_map.mp z;exact(tabs w hw).2 (Option.some.inj e)
 rcases hE.lst with hS|⟨o,its,n,e,hc,_⟩
 . refine⟨tl.map fun q=>some q.1,[.lst (ns.map .int)],tl.map (fun q=> .tab q.1 q.2.1 q.2.2 false),fun d _=>d= .bl true,H,fun _=>none,⟨fun b=>by cases H b<;>rfl,fun _ _ _=>rfl⟩,?_,⟨by simp,fun i j x e1 e2=>?_,fun n c e=>?_⟩,⟨ns,rfl,hl,rfl,fun _=>rfl⟩,?_⟩
   . unfold aG;refine⟨.ref a,[],rfl,?_,by unfold aG;rfl⟩;unfold Rep;exact⟨a,ns.map V.int,rfl,nota,hS,wG ns⟩
   . obtain⟨p,hp,e3⟩:=at_ i x e1;obtain⟨r,hr,e4⟩:=at_ j x e2;have k1:(tl.map (·.1))[i]?=some x:=by rw[List.getElem?_map,hp,<-e3];rfl
     have k2:(tl.map (·.1))[j]?=some x:=by rw[List.getElem?_map,hr,<-e4];rfl
     have hi:=(List.getElem?_eq_some_iff.mp k1).1;exact(List.getElem?_inj hi nd).mp (k1.trans k2.symm)
   . rw[List.getElem?_map]at e;cases z:tl[n]? with
     |none=>rw[z]at e;cases e
     |some w=>
      rw[z]at e;have e':Cell.tab w.1 w.2.1 w.2.2 false=c:=Option.some.inj e;subst e';refine .inr ⟨w.1,by rw[List.getElem?_map,z];rfl,rfl,#[],(tabs w (List.mem_of_getElem? z)).1,trivial,.inl ⟨rfl,rfl⟩⟩
   . rintro d st' rfl α' G' H' v _ _ _ r;unfold Rep at r;subst r;exact q H'
 . exact absurd hc (wN nl e)
section
variable {K:PySem.W.Frag}{x qual p1 p2 p3 p4 p5:Str}{st:Stmt}{f:Addr}{fd:FuncData}
abbrev qh(x qual:Str)(st:Stmt)(kV doc pm:Value)(an:Option Addr)(cdv ct:Value):FuncData:=PySem.W.fnOf x qual (kv st) (g8 st) (ai st) .none kV doc pm an cdv ct
theorem gW{α:Type}{n:Nat}{us:List α}(h:us.length=n+1):∃a r,us=a::r/\r.length=n:=by
 cases us with
 |nil=>cases h
 |cons a r=>exact⟨a,r,rfl,Nat.succ.inj h⟩
theorem sh{α:Type}{us:List α}(h:us.length=0):us=[]:=List.length_eq_zero_iff.mp h
theorem MO(F:nM K x qual st f fd)(h:∀kV doc pm an cdv ct a,bindArgs (qh x qual st kV doc pm an cdv ct) ⟨[a],[]⟩=pure [(p1,a)]):Binds K fd [p1] []:=
 F.binds fun kV doc pm an cdv ct us hl=>by
  obtain⟨a,r1,rfl,h1⟩:=gW hl;cases sh h1;exact h kV doc pm an cdv ct a
theorem MN(F:nM K x qual st f fd)(h:∀kV doc pm an cdv ct a b,bindArgs (qh x qual st kV doc pm an cdv ct) ⟨[a,b],[]⟩=pure [(p1,a),(p2,b)]):Binds K fd [p1,p2] []:=
 F.binds fun kV doc pm an cdv ct us hl=>by
  obtain⟨a,r1,rfl,h1⟩:=gW hl;obtain⟨b,r2,rfl,h2⟩:=gW h1;cases sh h2;exact h kV doc pm an cdv ct a b
theorem MU(F:nM K x qual st f fd)(h:∀kV doc pm an cdv ct a b c,bindArgs (qh x qual st kV doc pm an cdv ct) ⟨[a,b,c],[]⟩=pure [(p1,a),(p2,b),(p3,c)]):Binds K fd [p1,p2,p3] []:=
 F.binds fun kV doc pm an cdv ct us hl=>by
  obtain⟨a,r1,rfl,h1⟩:=gW hl;obtain⟨b,r2,rfl,h2⟩:=gW h1;obtain⟨c,r3,rfl,h3⟩:=gW h2;cases sh h3;exact h kV doc pm an cdv ct a b c
theorem MX(F:nM K x qual st f fd)(h:∀kV doc pm an cdv ct a b c d,bindArgs (qh x qual st kV doc pm an cdv ct) ⟨[a,b,c,d],[]⟩=pure [(p1,a),(p2,b),(p3,c),(p4,d)]):Binds K fd [p1,p2,p3,p4] []:=
 F.binds fun kV doc pm an cdv ct us hl=>by
  obtain⟨a,r1,rfl,h1⟩:=gW hl;obtain⟨b,r2,rfl,h2⟩:=gW h1;obtain⟨c,r3,rfl,h3⟩:=gW h2;obtain⟨d,r4,rfl,h4⟩:=gW h3;cases sh h4;exact h kV doc pm an cdv ct a b c d
end
section
variable {X:Cx}
end
theorem uQ{A B:Type}{F:A->B->Prop}:∀ {xs zs:List A} {ys us:List B},Paired F xs ys->Paired F zs us->Paired F (xs++zs) (ys++us)
 |_,_,_,_,.nil,h=>h
 |_,_,_,_,.cons r t,h=> .cons r (uQ t h)
section
variable {X:Cx}
def uR(X:Cx):Cx:={X with xe:=fun _ _=>False}
end
variable {st:af}{K:D->af->Prop}{i j:Int}
section
variable {X:Cx}{pos:Pos}
end
end L3
namespace L3
open PySem L2
structure ClsAt(K:PySem.W.Frag)(mg:Str->Option Value)(x:Str)(C:Addr):Prop where
 cl:mN K C
 mg:mg x=some (.ref C)
 MP:PySem.W.makesIn K C=true
 kp:PySem.W.keepIn K (.ref C)=true
structure MethAt(K:PySem.W.Frag)(C:Addr)(m qual:Str)(st:Stmt)(ps:List Str)(f:Addr)(fd:FuncData):Prop where
 fn:nM K m qual st f fd
 me:Meth K C m f
 bd:Binds K fd ps []
end L3
namespace Hd
open PySem PySem.W L2 L3
open PySem.Spec hiding items?
open PyProof.Rows hiding St
section
variable {K:Frag}{mg:Str->Option Value}{h:Heap}{x q:Str}{st:Stmt}{f c C:Addr}{pm:Value}{p1 p2 p3 p4 p5 p6:Str}
abbrev Ed(K:Frag)(x:Str)(st:Stmt)(f:Addr)(pm:Value)(c:Addr):Prop:=(nsIn K mainGlobals x,K.lookup f,codeIn K (.ref c) x,keepIn K (.ref f))=(some (some (.ref f)),some (fq st x x pm c),true,true)
abbrev Em(K:Frag)(C:Addr)(x q:Str)(st:Stmt)(f:Addr)(pm:Value)(c:Addr):Prop:=(findIn K (.ref C) x,isFn K (.ref f),K.lookup f,codeIn K (.ref c) q,keepIn K (.ref f))=(some (some (.ref f)),true,some (fq st x q pm c),true,true)
theorem Ed.fn(e:Ed K x st f pm c):nM K x x st f (fd st x x pm c)/\nsIn K mainGlobals x=some (some (.ref f)):=by
 obtain⟨e1,e2,e3,e4⟩:_/\_/\_/\_:=by simpa only[Prod.mk.injEq]using e
 exact⟨Cp (st:=st) e2 e3 e4,e1⟩
theorem Em.fn(e:Em K C x q st f pm c):nM K x q st f (fd st x q pm c)/\Meth K C x f:=by
 obtain⟨e1,e2,e3,e4,e5⟩:_/\_/\_/\_/\_:=by simpa only[Prod.mk.injEq]using e
 exact⟨Cp (st:=st) e3 e4 e5,e1,e2,e5⟩
theorem tf(X:K.In h)(G:h.Ns mainGlobals mg)(e:Ed K x st f pm c)(b:∀kV doc pm an cdv ct a,bindArgs (qh x x st kV doc pm an cdv ct) ⟨[a],[]⟩=pure [(p1,a)]):c_ K mg x x st [p1] f (fd st x x pm c):=⟨e.fn.1,mg_of X G e.fn.2,MO e.fn.1 b⟩
theorem uv(X:K.In h)(G:h.Ns mainGlobals mg)(e:Ed K x st f pm c)(b:∀kV doc pm an cdv ct a1 a2,bindArgs (qh x x st kV doc pm an cdv ct) ⟨[a1,a2],[]⟩=pure [(p1,a1),(p2,a2)]):c_ K mg x x st [p1,p2] f (fd st x x pm c):=⟨e.fn.1,mg_of X G e.fn.2,MN e.fn.1 b⟩
theorem Jq(X:K.In h)(G:h.Ns mainGlobals mg)(e:Ed K x st f pm c)(b:∀kV doc pm an cdv ct a1 a2 a3,bindArgs (qh x x st kV doc pm an cdv ct) ⟨[a1,a2,a3],[]⟩=pure [(p1,a1),(p2,a2),(p3,a3)]):c_ K mg x x st [p1,p2,p3] f (fd st x x pm c):=⟨e.fn.1,mg_of X G e.fn.2,MU e.fn.1 b⟩
theorem N5(X:K.In h)(G:h.Ns mainGlobals mg)(e:Ed K x st f pm c)(b:∀kV doc pm an cdv ct a1 a2 a3 a4,bindArgs (qh x x st kV doc pm an cdv ct) ⟨[a1,a2,a3,a4],[]⟩=pure [(p1,a1),(p2,a2),(p3,a3),(p4,a4)]):c_ K mg x x st [p1,p2,p3,p4] f (fd st x x pm c):=⟨e.fn.1,mg_of X G e.fn.2,MX e.fn.1 b⟩
theorem Ik(e:Em K C x q st f pm c)(b:∀kV doc pm an cdv ct a,bindArgs (qh x q st kV doc pm an cdv ct) ⟨[a],[]⟩=pure [(p1,a)]):MethAt K C x q st [p1] f (fd st x q pm c):=⟨e.fn.1,e.fn.2,MO e.fn.1 b⟩
theorem Jh(e:Em K C x q st f pm c)(b:∀kV doc pm an cdv ct a1 a2,bindArgs (qh x q st kV doc pm an cdv ct) ⟨[a1,a2],[]⟩=pure [(p1,a1),(p2,a2)]):MethAt K C x q st [p1,p2] f (fd st x q pm c):=⟨e.fn.1,e.fn.2,MN e.fn.1 b⟩
theorem yA(e:Em K C x q st f pm c)(b:∀kV doc pm an cdv ct a1 a2 a3,bindArgs (qh x q st kV doc pm an cdv ct) ⟨[a1,a2,a3],[]⟩=pure [(p1,a1),(p2,a2),(p3,a3)]):MethAt K C x q st [p1,p2,p3] f (fd st x q pm c):=⟨e.fn.1,e.fn.2,MU e.fn.1 b⟩
theorem Oc(e:Em K C x q st f pm c)(b:∀kV doc pm an cdv ct a1 a2 a3 a4,bindArgs (qh x q st kV doc pm an cdv ct) ⟨[a1,a2,a3,a4],[]⟩=pure [(p1,a1),(p2,a2),(p3,a3),(p4,a4)]):MethAt K C x q st [p1,p2,p3,p4] f (fd st x q pm c):=⟨e.fn.1,e.fn.2,MX e.fn.1 b⟩
theorem fc(e:(K.lookup f,codeIn K (.ref c) q)=(some (fq st x q pm c),true)):JV K x q st f (fd st x q pm c) c:=by
 obtain⟨e1,e2⟩:_/\_:=by simpa only[Prod.mk.injEq]using e
 exact⟨_,_,_,_,_,_,_,_,rfl,e1,e2⟩
theorem na{a:Str}(e:findIn K (.ref C) a=some none):dW K C a:=e
end
end Hd
namespace L3
open PySem L2
open PySem.Spec hiding items?
open PyProof.Rows hiding St
section
variable {X:Cx}{pos:Pos}
end
end L3
namespace L3
open PySem L2
open PySem.Spec hiding items?
end L3
namespace L3
open PySem PySem.Spec L2
open PyProof.Rows hiding St
section
variable {X:Cx}{pos:Pos}
end
end L3
namespace L3
open PySem L2
open PySem.Spec hiding items?
open PyProof.Rows hiding St
section
variable {X:Cx}
end
section
variable {X:Cx}{pos:Pos}
end
section
variable {X:Cx}
end
namespace RF
theorem rl:Manifest.owners.lookup (String.ofList ['d','e','s','r','e','v','e','r'].reverse)=some Manifest.sig_reversed:=by kernel_rfl
theorem iH:Slot "reversed" "__next__" "reversed.__next__":=
 .of (owner:="reversed") (n:="__next__") (by rw[typeLookup_type,builtinLookup_eq_fast];kernel_rfl) (by decide+kernel) (by decide+kernel) (by decide+kernel)
  (by first|exact .inl (by decide+kernel)|exact .inr (by decide+kernel)) (by rw[isSubtype_type];kernel_rfl)
theorem oS:entryFor table "reversed.__next__"=some Builtin.«reversed.__next__» :=entryFor_of_tree (by kernel_rfl)
theorem oh(a:Value):argsOk "reversed.__next__" ⟨[a],[]⟩:=by
 unfold argsOk;rw[signature?_of (id:="reversed.__next__") (n:=['_','_','t','x','e','n','_','_']) (o:=['d','e','s','r','e','v','e','r']) (by kernel_rfl) rl];kernel_rfl
theorem qi:Slot "reversed" "__iter__" "reversed.__iter__":=
 .of (owner:="reversed") (n:="__iter__") (by rw[typeLookup_type,builtinLookup_eq_fast];kernel_rfl) (by decide+kernel) (by decide+kernel) (by decide+kernel)
  (by first|exact .inl (by decide+kernel)|exact .inr (by decide+kernel)) (by rw[isSubtype_type];kernel_rfl)
theorem uo(a:Value):argsOk "reversed.__iter__" ⟨[a],[]⟩:=by
 unfold argsOk;rw[signature?_of (id:="reversed.__iter__") (n:=['_','_','r','e','t','i','_','_']) (o:=['d','e','s','r','e','v','e','r']) (by kernel_rfl) rl];kernel_rfl
theorem vd:entryFor table "reversed.__iter__"=some Builtin.«dict_keyiterator.__iter__» :=
 entryFor_alias (id':="dict_keyiterator.__iter__") (by kernel_rfl) (by first|rfl|decide+kernel|(unfold String.splitOn;simp+decide [String.splitOnAux])) (by decide+kernel) (by kernel_rfl)
theorem wK:Slot "reversed" "__init__" "object.__init__":=
 .of (owner:="object") (n:="__init__") (by rw[typeLookup_type,builtinLookup_eq_fast];kernel_rfl) (by decide+kernel) (by decide+kernel) (by decide+kernel)
  (by first|exact .inl (by decide+kernel)|exact .inr (by decide+kernel)) (by rw[isSubtype_type];kernel_rfl)
theorem vb:TypeCalled "reversed" "reversed.__new__" "object.__init__":=
 ⟨by decide+kernel,by decide+kernel,⟨_,_,F.mro_reversed⟩,F.made_reversed,by decide+kernel,F.sub_reversed_self,wK⟩
theorem mH:Slot "reversed" "__length_hint__" "reversed.__length_hint__":=
 .of (owner:="reversed") (n:="__length_hint__") (by rw[typeLookup_type,builtinLookup_eq_fast];kernel_rfl) (by decide+kernel) (by decide+kernel) (by decide+kernel)
  (by first|exact .inl (by decide+kernel)|exact .inr (by decide+kernel)) (by rw[isSubtype_type];kernel_rfl)
theorem ve:entryFor table "reversed.__length_hint__"=some Builtin.«reversed.__length_hint__» :=entryFor_of_tree (by kernel_rfl)
theorem uG(a:Value):argsOk "reversed.__length_hint__" ⟨[a],[]⟩:=by
 unfold argsOk;rw[signature?_of (id:="reversed.__length_hint__") (n:="__length_hint__".toList.reverse) (o:=['d','e','s','r','e','v','e','r']) (by kernel_rfl) rl];kernel_rfl
theorem BM:typeLookup (.type "reversed") "__len__"=pure none:=by rw[typeLookup_type,builtinLookup_eq_fast];kernel_rfl
theorem zx:typeLookup (.type "tuple") "__reversed__"=pure none:=by rw[typeLookup_type,builtinLookup_eq_fast];kernel_rfl
theorem sub_tuple_dict:isSubtype (.type "tuple") (.type "dict")=pure false:=by rw[isSubtype_type];kernel_rfl
end RF
def rS(t:Addr)(i:Int):Obj:={cls:= .type "reversed",data:= .fields #[.ref t,rawInt i]}
theorem zj(t:Addr)(items:Array Value):Meets (Builtin.«reversed.__new__» ⟨[.type "reversed",.ref t],[]⟩) (fun _ R s=>IsTup s.heap t items/\(items.size:Int)<2^63/\
 R (.ok (.ret (.ref s.heap.objs.size))) {s with heap:=s.heap.push (rS t ((items.size:Int)-1)),toks:=s.toks+1+1}):=
 .of_wp fun prog w A R s h=>by
  obtain⟨ht,hf,h⟩:=h;unfold Builtin.«reversed.__new__»;refine wpAny_bind (wpAny_of_eq (newClass_reversed _) ?_);try dsimp only
  refine wpAny_bind (wpAny_of_eq (a:=()) (by first|rfl|kernel_rfl) ?_);refine wpAny_bind (wpAny_of_eq (a:=()) (by first|rfl|kernel_rfl) ?_);try dsimp only
  refine wpAny_bind (wpAny_specialOf ht.typeIs RF.zx ?_);try dsimp only
  refine wpAny_bind ?_;show wpAny _ _ (isInstance (.ref t) (.type "dict") >>= _) _ _ s;refine wpAny_bind (wpAny_isInstance (T:="tuple") (b:=false) ht.typeIs RF.sub_tuple_dict ?_);show wpAny _ _ (specialOf (.ref t) "__getitem__" >>= _) _ _ s;refine wpAny_bind (wpAny_specialOf ht.typeIs F.slot_tuple_getitem.lookup ?_);try dsimp only
  refine wpAny_pure ?_;try dsimp only
  refine wpAny_bind (len_tuple ht hf ?_);refine wpAny_bind (wpAny_of_eq (a:=some (items.size:Int)) (by first|rfl|kernel_rfl) ?_);try dsimp only
  refine wpAny_bind ?_;show wpAny _ _ (newObj (.type "reversed") (.fields #[.ref t,rawInt ((items.size:Int)-1)])) _ _ _;exact wpAny_newObj_type (wpAny_pure ⟨_,rfl,h⟩)
section
variable {prog:Program}{w:World}{A:Around}{E:Value->Shared->Prop}{s:Shared}
theorem mO{t:Addr}{items:Array Value}{Q:Value->Shared->Prop}(ht:IsTup s.heap t items)(hf:(items.size:Int)<2^63)
 (h:Q (.ref s.heap.objs.size) {s with heap:=s.heap.push (rS t ((items.size:Int)-1)),toks:=s.toks+1+1}):wpAny (model prog w) A (call (.type "reversed") [.ref t]) Q E s:=
 callType_new RF.vb (by decide) (F.typeCall_reversed_1 _) (F.newCall_reversed_1 _) (fun obj=>F.args_object_init_2 obj _) F.entry_reversed_new (zj t items) ⟨ht,hf,⟨_,Heap.get?_push_size _ rfl,rfl⟩,h⟩
def eH(h:Heap)(a t:Addr)(i:Int):Prop:=∃o,h.get? a=some o/\o.cls= .type "reversed"/\o.data= .fields #[.ref t,rawInt i]
theorem eH.typeIs{a t:Addr}{i:Int}(x:eH s.heap a t i):s.TypeIs (.ref a) "reversed":=let⟨o,ho,hc,_⟩:=x;⟨o,ho,hc⟩
theorem eH.at{h h':Heap}{a t:Addr}{i:Int}(x:eH h a t i)(e:∀o,h.get? a=some o->h'.get? a=some o):eH h' a t i:=let⟨o,ho,r⟩:=x;⟨o,e _ ho,r⟩
theorem pe{it t:Addr}{i:Nat}{items:Array Value}{x:Value}{Q:Option Value->Shared->Prop}(hit:eH s.heap it t (i:Int))(ht:IsTup s.heap t items)(hx:items[i]?=some x)(hi:(i:Int)<2^63)
 (hQ:∀h',eH h' it t ((i:Int)-1)->Heap.SameBut it s.heap h'->Q (some x) {s with heap:=h',toks:=s.toks+1}):wpAny (model prog w) A (pyNext (.ref it)) Q E s:=by
 obtain⟨o,ho,hc,hd⟩:=id hit;have hsz:i<items.size:=(Array.getElem?_eq_some_iff.mp hx).1;unfold pyNext
 refine wpAny_bind (wpAny_attempt (wpAny_callSpecial?_slot (name:=Str.ofString "__next__") hit.typeIs RF.iH
  (wpAny_call_entry RF.iH hit.typeIs RF.oS ?_ (RF.oh _))))
 unfold Builtin.«reversed.__next__»;refine wpAny_bind (wpAny_of_eq (a:=(Value.ref it,[])) rfl ?_);try dsimp only
 refine wpAny_bind (wpAny_field ho hd (x:= .ref t) rfl ?_);refine wpAny_bind (wpAny_field ho hd (x:=rawInt (i:Int)) rfl ?_);show wpAny _ _ (if(i:Int)<0 then _ else _) _ _ s;rw[if_neg (by omega)];show wpAny _ _ (specialOf (.ref t) "__getitem__" >>= _) _ _ s;refine wpAny_bind (wpAny_specialOf ht.typeIs F.slot_tuple_getitem.lookup ?_);rw[if_neg (by simp)];refine wpAny_bind (wpAny_mkInt ?_);refine wpAny_bind (wpAny_attempt (getItem_tuple (j:=i) ht (by omega) hi ?_ hx ?_))
 . have:=PySem.StrLaws.seqIndex_nonneg (i:=(i:Int)) (n:=items.size) (by omega) (by omega);rw[Int.toNat_natCast]at this;exact this
 . try dsimp only
   refine wpAny_bind (wpAny_field ho hd (x:=rawInt (i:Int)) rfl ?_);refine wpAny_bind (wpAny_setField ho hd (by simp) ?_);first
   |refine wpAny_pure ⟨x,rfl,wpAny_pure (hQ _ ?_ (Heap.SameBut.update ..))⟩
   |refine wpAny_bind (wpAny_pure (wpAny_pure ⟨x,rfl,wpAny_pure (hQ _ ?_ (Heap.SameBut.update ..))⟩))
   exact⟨_,Heap.get?_update_self _ ho (Obj.isFreed_of_fields (Obj.data_mapFields hd _)),(Obj.cls_mapFields ..).trans hc,by
    rw[Obj.data_mapFields hd];simp⟩
theorem qm{it t:Addr}{Q:Option Value->Shared->Prop}(hh:A.handled=none)(hit:eH s.heap it t (-1))
 (hQ:∀h',Heap.ExtBut it s.heap h'->Q none {s with heap:=h'}):wpAny (model prog w) A (pyNext (.ref it)) Q E s:=by
 obtain⟨o,ho,hc,hd⟩:=id hit;unfold pyNext
 refine wpAny_bind (wpAny_attempt (wpAny_callSpecial?_slot (name:=Str.ofString "__next__") hit.typeIs RF.iH
  (wpAny_call_entry RF.iH hit.typeIs RF.oS ?_ (RF.oh _))))
 unfold Builtin.«reversed.__next__»;refine wpAny_bind (wpAny_of_eq (a:=(Value.ref it,[])) rfl ?_);try dsimp only
 refine wpAny_bind (wpAny_field ho hd (x:= .ref t) rfl ?_);refine wpAny_bind (wpAny_field ho hd (x:=rawInt (-1)) rfl ?_);show wpAny _ _ (if(-1:Int)<0 then _ else _) _ _ s;rw[if_pos (by decide)];refine wpAny_bind (wpAny_rule ?_);refine wpAny_bind ?_;show wpAny _ _ (setField (.ref it) 1 (rawInt (-1)) >>= _) _ _ s;refine wpAny_bind (wpAny_setField ho hd (by simp) ?_);have ho2:=Heap.get?_update_self (Obj.mapFields (·.setIfInBounds 1 (rawInt (-1)))) ho (Obj.isFreed_of_fields (Obj.data_mapFields hd _));have sb:=Heap.SameBut.update s.heap it (Obj.mapFields (·.setIfInBounds 1 (rawInt (-1))));have hd2:=Obj.data_mapFields hd (·.setIfInBounds 1 (rawInt (-1)));generalize s.heap.update it (Obj.mapFields (·.setIfInBounds 1 (rawInt (-1))))=h2 at ho2 sb⊢;refine wpAny_setField (s:={s with heap:=h2}) ho2 hd2 (by simp) ?_;have sb2:=Heap.SameBut.update h2 it (Obj.mapFields (·.setIfInBounds 0 .none));have eb:Heap.ExtBut it s.heap (h2.update it (Obj.mapFields (·.setIfInBounds 0 .none))):=fun b o hb e=>(sb2.2 b hb).trans ((sb.2 b hb).trans e);show wpAny _ _ _ _ _ {s with heap:=h2.update it (Obj.mapFields (·.setIfInBounds 0 .none))};generalize h2.update it (Obj.mapFields (·.setIfInBounds 0 .none))=h3 at eb⊢;first
 |show wpAny _ _ (newExc (.type "StopIteration") [] >>= _) _ _ _
 |(refine wpAny_bind ?_;show wpAny _ _ (newExc (.type "StopIteration") [] >>= _) _ _ _)
 refine wpAny_bind ?_;simp only[newExc,newTuple];refine wpAny_bind (wpAny_newObj_type ?_ (by size_fits));refine wpAny_bind (m:=firstArgMember _ _) (wpAny_of_eq (a:=Value.none) (by first|rfl|(simp only[firstArgMember];rfl)) ?_);refine wpAny_newObj_type ?_ (by size_fits);simp only[raiseNew];refine wpAny_bind (wpAny_handled ?_);first|rw[show A.in1.handled=none from hh]|rw[hh]
 refine wpAny_bind (wpAny_pure (wpAny_throw ?_));refine wpAny_bind (wpAny_isInstance (T:="StopIteration") (b:=true) ⟨_,Heap.get?_push_size _ rfl,rfl⟩ isSubtype_stop ?_);exact wpAny_pure (hQ _ ((eb.push _).push _))
theorem qE{it t:Addr}{i:Int}{Q:Value->Shared->Prop}(hit:eH s.heap it t i)(h:Q (.ref it) s):wpAny (model prog w) A (pyIter (.ref it)) Q E s:=by
 refine wpAny_pyIter_slot hit.typeIs RF.qi (wpAny_call_entry RF.qi hit.typeIs RF.vd ?_ (RF.uo _));show wpAny _ _ (ret (.ref it)) _ _ s;exact wpAny_pure ⟨_,rfl,"reversed",_,hit.typeIs,RF.iH.lookup,h⟩
end
theorem Cc{h h':Heap}{a:Addr}{items:Array Value}(x:IsTup h a items)(e:∀o,h.get? a=some o->h'.get? a=some o):IsTup h' a items:=let⟨o,ho,r⟩:=x;⟨o,e _ ho,r⟩
theorem Walks.Jk{prog:Program}{w:World}{A:Around}(hh:A.handled=none)(I l:Addr)(hne:l≠I)(items:Array Value)(hz:items.size<=sizeLine):
 Walks prog w A I [I,l] [I] items.size (fun i v=>items[items.size-1-i]?=some v) (fun i h=>i<=items.size/\eH h I l ((items.size:Int)-1-(i:Int))/\IsTup h l items) where
 sub:=fun b hb=>by simp at hb;simp[hb]
 frame:=fun _ _ _ x hk=>⟨x.1,x.2.1.at fun o e=>hk I (by simp) o e,Cc x.2.2 fun o e=>hk l (by simp) o e⟩
 item:=fun i s Q E hi x hQ=>by
  have e:(items.size:Int)-1-(i:Int)=((items.size-1-i:Nat):Int):=by omega
  have hit:=x.2.1;rw[e]at hit;rw[sizeLine_eq]at hz;have hx:items[items.size-1-i]?=some (items[items.size-1-i]'(by omega)):=Array.getElem?_eq_getElem (by omega);refine pe hit x.2.2 hx (by omega) fun h' hit' hs'=>?_;have e2:((items.size-1-i:Nat):Int)-1=(items.size:Int)-1-((i+1:Nat):Int):=by omega
  rw[e2]at hit';exact hQ _ h' (s.toks+1) hx ⟨hi,hit',Cc x.2.2 fun o eo=>(hs'.2 l hne).trans eo⟩ (fun b o hb eo=>hs'.extBut b o (fun h=>hb (by simp[h])) eo)
 done:=fun s Q E x hQ=>by
  have e:(items.size:Int)-1-(items.size:Int)= -1:=by omega
  have hit:=x.2.1;rw[e]at hit;exact qm hh hit fun h' he'=>hQ h' s.toks fun b o hb eo=>he' b o (fun h=>hb (by simp[h])) eo
 self:=fun _ _ _ _ x hQ=>qE x.2.1 hQ
section
variable {prog:Program}{w:World}{A:Around}{E:Value->Shared->Prop}{s:Shared}
theorem wR{it t:Addr}{items:Array Value}{Q:Value->Shared->Prop}(hit:eH s.heap it t ((items.size:Int)-1))(ht:IsTup s.heap t items)(hf:(items.size:Int)<2^63)
 (h:∀u tk,s.toks<=tk->Q (.int (items.size:Int) u) {s with toks:=tk}):wpAny (model prog w) A (call (.builtin "reversed.__length_hint__") [.ref it]) Q E s:=by
 obtain⟨o,ho,hc,hd⟩:=id hit;refine wpAny_call_entry RF.mH hit.typeIs RF.ve ?_ (RF.uG _);unfold Builtin.«reversed.__length_hint__»;refine wpAny_bind (wpAny_of_eq (a:=Value.ref it) rfl ?_);refine wpAny_bind (wpAny_field ho hd (x:= .ref t) rfl ?_);rw[if_neg (show¬((Value.ref t==Value.none)=true)from Bool.false_ne_true)];refine wpAny_bind (len_tuple ht hf ?_);refine wpAny_bind (wpAny_of_eq (a:=some (items.size:Int)) (by first|rfl|kernel_rfl) ?_);try dsimp only
 refine wpAny_bind (wpAny_field (s:={s with toks:=s.toks+1+1}) ho hd (x:=rawInt ((items.size:Int)-1)) rfl ?_);show wpAny _ _ (if(items.size:Int)<(items.size:Int)-1+1 then _ else _) _ _ _;rw[if_neg (by omega)];refine wpAny_bind (wpAny_mkInt (wpAny_pure ⟨_,rfl,?_⟩));have e:(items.size:Int)-1+1=(items.size:Int):=by omega
 rw[e];exact h _ _ (by show s.toks<=s.toks+1+1+1;omega)
theorem BH{l:Addr}{Q:Unit->Shared->Prop}(hS:s.heap.get? l=some {cls:= .type "list",data:= .seq ([]:List Value).toArray})
 (hQ:∀h' c,h'.get? l=some {cls:= .type "list",dict:=none,data:= .seq #[] c,slots:= #[]}->(∀b o,b≠l->s.heap.get? b=some o->h'.get? b=some o)->Q () {s with heap:=h'}):
 wpAny (model prog w) A (updateSeq l (·.push .none) >>= fun _=>updateSeq l (·.pop)) Q E s:=by
 refine wpAny_bind (wpAny_updateSeq hS rfl ?_);have hS₂:=Heap.get?_update_self (Obj.mapSeq (·.push Value.none)) hS rfl;refine wpAny_updateSeq hS₂ rfl ?_;have hS₃:=Heap.get?_update_self (Obj.mapSeq (·.pop)) hS₂ rfl;exact hQ _ _ hS₃ fun b o hb e=>(Heap.get?_update_other _ _ (Ne.symm hb)).trans ((Heap.get?_update_other _ _ (Ne.symm hb)).trans e)
theorem Hc{k:Int}(u:Tok):asInt? (Value.int k u)=pure (some k):=rfl
theorem zz{it t:Addr}{items:Array Value}{Q:List Value->Shared->Prop}(hh:A.handled=none)(hne:t≠it)(hit:eH s.heap it t ((items.size:Int)-1))(ht:IsTup s.heap t items)(h1:1<=items.size)(hz:items.size<=sizeLine)
 (hQ:∀s' acc,Moved [it] (fun a b=>b=a) s s'->s.heap.objs.size<=s'.heap.objs.size->ItemsOf (fun i v=>items[items.size-1-i]?=some v) acc items.size->Q acc.toList s'):wpAny (model prog w) A (collect (.ref it)) Q E s:=by
 have W:=(Walks.Jk (prog:=prog) (w:=w) (A:=A.in1) hh it t hne items hz).toS;have hI:it<s.heap.objs.size:=let⟨o,ho,_⟩:=hit;Heap.lt_size ho
 have hfp:∀b∈[it,t],b<s.heap.objs.size:=fun b hb=>by
  simp at hb;rcases hb with rfl|rfl
  . exact hI
  . exact ht.lt
 have hSf:s.heap.objs.size∉[it,t]:=fun hm=>Nat.lt_irrefl _ (hfp _ hm);have hSI:s.heap.objs.size≠it:=fun e=>hSf (e▸by simp);have hst:(0<=items.size/\eH s.heap it t ((items.size:Int)-1-((0:Nat):Int))/\IsTup s.heap t items):=⟨Nat.zero_le _,by rw[show(items.size:Int)-1-((0:Nat):Int)=(items.size:Int)-1 by omega];exact hit,ht⟩
 have hf:(items.size:Int)<2^63:=by rw[sizeLine_eq]at hz;omega
 unfold collect;refine wpAny_bind (wpAny_runValue (codeAny_builtin F.entry_proto_collect ?_));rw[Around.under_plainId F.plain_proto_collect _];show wpAny _ A.in1 (newList [] >>= fun l=>again (.builtin "list.__iadd__" ⟨[l,.ref it],[]⟩)) _ _ s;refine wpAny_bind (wpAny_newObj_type ?_);refine wpAny_pure ⟨plainId_quiet F.plain_list_iadd _,codeAny_builtin F.entry_list_iadd ?_⟩;rw[Around.under_plainId F.plain_list_iadd _];have hst₁:=W.frame 0 s (s.heap.push {cls:= .type "list",data:= .seq ([]:List Value).toArray}) s.toks hst (Nat.le_refl _) fun b _ o e=>Heap.get?_push_of_some _ e;have hit₁:eH (s.heap.push {cls:= .type "list",data:= .seq ([]:List Value).toArray}) it t ((items.size:Int)-1):=hit.at fun o e=>Heap.get?_push_of_some _ e;have ht₁:IsTup (s.heap.push {cls:= .type "list",data:= .seq ([]:List Value).toArray}) t items:=ht.push _;have hT₁:({s with heap:=s.heap.push {cls:= .type "list",data:= .seq ([]:List Value).toArray}}:Shared).TypeIs (.ref it) "reversed":=hit₁.typeIs (s:={s with heap:=s.heap.push {cls:= .type "list",data:= .seq ([]:List Value).toArray}});show wpAny _ A.in1 (Builtin.List.listExtendWith (.ref s.heap.objs.size) (.ref it) (.ref s.heap.objs.size)) _ _ _;unfold Builtin.List.listExtendWith;refine wpAny_bind (wpAny_typeOf hT₁ ?_);have h1':Builtin.List.listSameRef (.ref s.heap.objs.size) (.ref it)=false:=by simp[Builtin.List.listSameRef,hSI]
 rw[if_neg (by rw[h1'];decide)];refine wpAny_bind (W.self 0 _ _ _ hst₁ ?_);refine wpAny_bind (wpAny_holding ?_);unfold Builtin.List.listLengthHint;refine wpAny_bind (wpAny_specialOf hT₁ RF.BM ?_);show wpAny _ A.in1 (specialOf (Value.ref it) (Str.ofString "__length_hint__") >>= _) _ _ _;refine wpAny_bind (wpAny_specialOf hT₁ RF.mH.lookup ?_)
 (generalize C3:("reversed.__length_hint__":String)=id0;(fail_if_success (clear C3 id0));wp_delta;rw[show splitId id0=some ("reversed","__length_hint__")from by subst C3;decide+kernel];subst C3)
 refine wpAny_bind (wpAny_isInstance (b:=true) hT₁ (by rw[isSubtype_type];kernel_rfl) ?_);show wpAny _ A.in1 (rule "list.length-hint.hint" >>= _) _ _ _;refine wpAny_bind (wpAny_rule ?_);refine wpAny_bind (wpAny_of_eq (RF.mH.bind _) ?_);try dsimp only
 refine wpAny_bind (wpAny_attempt (wR (s:={s with heap:=s.heap.push {cls:= .type "list",data:= .seq ([]:List Value).toArray}}) hit₁ ht₁ hf fun u tk htk=>?_));show wpAny _ A.in1 (asInt? (.int (items.size:Int) u) >>= _) _ _ _;rw[Hc,pure_bind];dsimp only
 have hfi:Builtin.List.listFitsIndex (items.size:Int)=true:=by
  unfold Builtin.List.listFitsIndex;rw[decide_eq_true (show-(2^63:Int)<=(items.size:Int) by omega),decide_eq_true hf];rfl
 rw[hfi];rw[if_neg (by decide)];rw[if_neg (by omega)];have htl:Builtin.List.listTooLong (items.size:Int).toNat=false:=by rw[Int.toNat_natCast];exact decide_eq_false (Nat.not_lt.mpr hz)
 rw[htl];rw[if_neg Bool.false_ne_true];have hne0:((items.size:Int) != 0)=true:=bne_iff_ne.mpr (by omega);rw[hne0];refine wpAny_pure ?_
 show wpAny _ A.in1 (rule "list.extend.makes-room" >>= fun _=>Builtin.List.listTouch (.ref s.heap.objs.size) >>= fun _=>
  again (.builtin "list.extend.loop" ⟨[.ref s.heap.objs.size,.ref it,.ref s.heap.objs.size],[]⟩)) _ _ _
 refine wpAny_bind (wpAny_rule ?_);have hS₁:(s.heap.push {cls:= .type "list",data:= .seq ([]:List Value).toArray}).get? s.heap.objs.size=some {cls:= .type "list",data:= .seq ([]:List Value).toArray}:=Heap.get?_push_size _ rfl;refine wpAny_bind ?_;show wpAny _ A.in1 (updateSeq s.heap.objs.size (·.push .none) >>= fun _=>updateSeq s.heap.objs.size (·.pop)) _ _ _;refine BH (s:={s with heap:=s.heap.push {cls:= .type "list",data:= .seq ([]:List Value).toArray},toks:=tk}) hS₁ fun h' c hS₃ oth=>?_
 refine wpAny_pure ⟨plainId_quiet F.plain_extend_loop _,codeAny_extend_loopS W hz _ hSf _ items.size 0 _ _ _ rfl (Nat.zero_le _)
  (W.frame 0 ({s with heap:=s.heap.push {cls:= .type "list",data:= .seq ([]:List Value).toArray}}:Shared) _ tk hst₁ htk fun b hb o e=>oth b o (fun h=>hSf (h▸hb)) e) hS₃ (ItemsOf.nil _) fun s' acc' c' hm hS' hacc=>?_⟩
 show wpAny _ A (load s.heap.objs.size >>= _) _ _ s';refine wpAny_bind (wpAny_load hS' ?_);refine wpAny_pure (hQ s' acc' (Moved.drop_new (o:={cls:= .type "list",data:= .seq ([]:List Value).toArray}) (tk:=s.toks) (Moved.trans W.gtrans ((Moved.refl (G:=fun a b=>b=a) (fun _=>rfl)).then_heap (by first|exact htk|exact Nat.le_refl _|exact Nat.le_succ _|omega) fun b o hb e=>?_) hm) (Nat.le_refl _)) (Nat.le_of_lt (Heap.lt_size hS')) hacc);exact oth b o (fun h=>hb (h▸List.mem_cons_self)) e
theorem qX{it t:Addr}{items:Array Value}{Q₁:Value->Shared->Prop}(hh:A.handled=none)(hne:t≠it)(hit:eH s.heap it t ((items.size:Int)-1))(ht:IsTup s.heap t items)(h1:1<=items.size)(hz:items.size<=sizeLine)
 (h:∀s' acc,Moved [it] (fun a b=>b=a) s s'->s.heap.objs.size<=s'.heap.objs.size->ItemsOf (fun i v=>items[items.size-1-i]?=some v) acc items.size->Q₁ (.ref s'.heap.objs.size) {s' with heap:=s'.heap.push {cls:= .type "tuple",data:= .seq acc}}):
 codeAny (model prog w) A (.call (.builtin "tuple.__new__") ⟨[.type "tuple",.ref it],[]⟩) (wants Q₁ E) s:=by
 refine codeAny_of_tree ?_;show wpAny _ A.in1 (do checkBuiltinCall "tuple.__new__" ⟨[.type "tuple",.ref it],[]⟩;again (.builtin "tuple.__new__" ⟨[.type "tuple",.ref it],[]⟩)) _ _ s;refine wpAny_bind (wpAny_of_eq (F.newCall_tuple_1 _) (wpAny_pure ⟨plainId_quiet F.plain_tuple_new _,codeAny_builtin F.entry_tuple_new ?_⟩));rw[Around.under_plainId F.plain_tuple_new _];have hsub:=sub_tuple_self;have hinit:=init_tuple_lookup;have hmh:=madeHere_tuple;have hTI:=hit.typeIs
 wp_walk using wpAny_typeOf hTI,zz (A:=A.in1) hh hne hit ht h1 hz
 intro s' acc hm hsz hacc;show wpAny _ _ (Builtin.Tuple.tupleExact acc.toList.toArray >>= fun v=>ret v) _ _ _;unfold Builtin.Tuple.tupleExact;refine wpAny_bind (wpAny_newObj_type ?_ (by show acc.toList.toArray.size<=sizeLine;simp only[Array.toArray_toList];rw[hacc.1];exact hz));refine wpAny_pure ?_;have e:acc.toList.toArray=acc:=by simp
 rw[e];exact h s' acc hm hsz hacc
theorem vo{it t:Addr}{items:Array Value}{Q:Value->Shared->Prop}(hh:A.handled=none)(hne:t≠it)(hit:eH s.heap it t ((items.size:Int)-1))(ht:IsTup s.heap t items)(h1:1<=items.size)(hz:items.size<=sizeLine)
 (hQ:∀s' acc,Moved [it] (fun a b=>b=a) s s'->s.heap.objs.size<=s'.heap.objs.size->ItemsOf (fun i v=>items[items.size-1-i]?=some v) acc items.size->Q (.ref s'.heap.objs.size) {s' with heap:=s'.heap.push {cls:= .type "tuple",data:= .seq acc}}):
 wpAny (model prog w) A (call (.type "tuple") [.ref it]) Q E s:=by
 refine callType_codes (Q₁:=fun obj s₁=>s₁.TypeIs obj "tuple"/\Q obj s₁) F.called_tuple (F.typeCall_tuple_1 _) F.entry_object_init
  (qX (A:=A.in1) hh hne hit ht h1 hz fun s' acc hm hsz hacc=>⟨⟨_,Heap.get?_push_size _ rfl,rfl⟩,hQ s' acc hm hsz hacc⟩) fun obj s₁ h₁=>?_
 exact⟨h₁.1,F.args_object_init_2 obj _,object_init_meets F.called_tuple.init.lookup F.called_tuple.made (by decide) prog w A.in1 _ s₁ ⟨h₁.1,rfl,h₁.2⟩⟩
end
def J5(K:PySem.W.Frag)(a:Addr)(n:Nat):It:=
 ⟨fun i H=>i<n/\∃xs x,ik K H a xs/\xs[n-1-i]?=some x,fun i H x H'=>H'=H/\∀xs,ik K H a xs->xs[n-1-i]?=some x,fun i _=>n<=i⟩
theorem CY{P:Program}{w:World}{K:PySem.W.Frag}{tg:Expr}(a it:Addr)(n:Nat):Turn P w K tg (J5 K a n) [it] it (fun i h=>i<=n/\eH h it a ((n:Int)-1-(i:Int))) where
 mem:=by simp
 obj:=fun i h st b hb=>by
  have e:b=it:=by simpa using hb
  subst e;obtain⟨_,o,e,c,d⟩:=st;exact⟨o,e,fun v z=>by rw[d]at z;cases z⟩
 keep:=fun i h h' st k=>⟨st.1,st.2.at fun o e=>k it (by simp) o e⟩
 item:=by
  intro X hP hw hK hc i pins s σ H E I hf st hg;subst hP hw hK;obtain⟨hin,xs,x,hq,hx⟩:=hg;obtain⟨its,rv,p,hz⟩:=I.tuple hq;obtain⟨u,hu,ru⟩:=rv.get hx;obtain⟨f0,f1,f2,f3,f4,f5⟩:=hf it (by simp);have e:(n:Int)-1-(i:Int)=((n-1-i:Nat):Int):=by omega
  have st2:=st.2;rw[e]at st2;have hlt:n-1-i<xs.length:=(List.getElem?_eq_some_iff.mp hx).1;have hz2:n-1-i<2^63:=by rw[sizeLine_eq]at hz;omega
  refine pe st2 p (x:=u) (by simpa using hu) (by omega) fun h' st' sb=>?_;have e2:((n-1-i:Nat):Int)-1=(n:Int)-1-((i+1:Nat):Int):=by omega
  rw[e2]at st';have I1:Inv X pins σ H {s with heap:=h',toks:=s.toks+1}:=I.turned (t':=s.toks+1) (fun b o hb e=>(sb.2 b hb).trans e) f0 f1 f3 f4 f5;obtain⟨o,e,c,d⟩:=id st';exact⟨u,rfl,xn (s:={s with heap:=h',toks:=s.toks+1}) e c d (by decide) ⟨x,H,I1,ru,⟨rfl,fun ys hy=>by rw[I.qR hy hq];exact hx⟩,⟨hin,st'⟩,fun b hb=>(hf b hb).1⟩⟩
 done:=by
  intro X hP hw hK hc i pins s σ H E I hf st hg;subst hP hw hK;obtain⟨f0,f1,f2,f3,f4,f5⟩:=hf it (by simp);have hg:n<=i:=hg;have e:(n:Int)-1-(i:Int)= -1:=by have:=st.1;omega
  have st2:=st.2;rw[e]at st2;exact qm (I.ok.hd hc) st2 fun h' eb=>⟨rfl,I.turned (t':=s.toks) (fun b o hb e=>eb b o hb e) f0 f1 f3 f4 f5⟩
 self:=fun _ _ _ _ _ st h=>qE st.2 h
def F9(K:PySem.W.Frag)(ta:TA):TI:=fun σ H R=>ta σ H fun vs H1=>∃a xs,vs=[.ref a]/\ik K H1 a xs/\R (J5 K a xs.length) H1
section
variable {X:Cx}{tg:Expr}
theorem HE{a:Expr}{ta:TA}{p pos:Pos}(hg:Gl X "reversed")(hm:X.mg "reversed"=none)(ha:PA X [a] ta)(hs:starEach [a] X.env=[(false,eval a X.env)]:=by rfl):PI X tg (.Call (.Name "reversed" p) [a] [] pos) (F9 X.K ta):=by
 intro pins s σ H R I h;refine Call_ (jM I hg hm yH (PyProof.Rows.callWith_type1 (bZ (ha pos pins s σ H _ I h) fun us s1 ⟨vs,H1,I1,r1,q1⟩=>?_) hs rfl));obtain⟨a,xs,e,hq,q⟩:=q1;subst e;cases r1 with
 |cons r rr=>
  cases rr;cases r;obtain⟨its,rv,p,hz⟩:=I1.tuple hq;have hl:=rv.length;have hz2:its.length<2^63:=by rw[sizeLine_eq]at hz;omega
  refine mO (items:=its.toArray) p (by simp;omega) ?_;have st0:eH (s1.heap.push (rS a ((its.toArray.size:Int)-1))) s1.heap.objs.size a ((xs.length:Int)-1-((0:Nat):Int)):=⟨_,Heap.get?_push_size _ rfl,rfl,by rw[hl];simp[rS]⟩
  refine qE (s:={s1 with heap:=s1.heap.push (rS a ((its.toArray.size:Int)-1)),toks:=s1.toks+1+1}) st0 ?_;refine⟨s1.heap.objs.size,[s1.heap.objs.size],_,_,H1,rfl,I1.kept (t':=s1.toks+1+1) fun b o e=>Heap.get?_push_of_some _ e,CY a _ xs.length,⟨Nat.zero_le _,st0⟩,fun b hb=>?_,q⟩;have e:b=s1.heap.objs.size:=by simpa using hb
  subst e;exact I1.uh (Nat.le_refl _) (I1.aI.fresh (Nat.le_refl _))
end
theorem G8{K:PySem.W.Frag}{a:Addr}{α:List (Option Addr)}{G:Hp}{ok:af->Prop}{xs:List D}
 (h:∀α' G' st',Step α G α' G'->aO α' st' G'->ok st'->∃vs,G' a=some (.tup vs)/\aG α' G' xs vs):tW (J5 K a xs.length) α G ok xs.reverse where
 stop:=fun n α' G' F' H' st' s P S o hn=>by rw[List.length_reverse]at hn;exact hn
 go:=fun n d α' G' F' H' st' s P S o hn=>by
  have hlt:n<xs.length:=by have:=(List.getElem?_eq_some_iff.mp hn).1;rwa [List.length_reverse]at this
  rw[List.getElem?_reverse hlt]at hn;obtain⟨vs,h1,h2⟩:=h α' G' st' s S o;obtain⟨v,e,_⟩:=h2.get hn;exact⟨hlt,vs,v,.of (P.get h1),e⟩
 oz:=fun n d α' G' F' H' st' x H'' s P S o hn y=>by
  have hlt:n<xs.length:=by have:=(List.getElem?_eq_some_iff.mp hn).1;rwa [List.length_reverse]at this
  rw[List.getElem?_reverse hlt]at hn;obtain⟨vs,h1,h2⟩:=h α' G' st' s S o;obtain⟨v,e,r⟩:=h2.get hn;obtain⟨rfl,y⟩:=y;have:=y vs (.of (P.get h1));rw[e]at this;cases this;exact⟨G',Step.refl,P,S,r⟩
def Ml(ds:List D)(st1:af)(K:List D->(af->Prop)->af->Prop):Prop:=match ds with
 | [.tup xs]=>K xs.reverse (fun _=>True) st1
 |_=>False
@[irreducible] def uz:List D->af->(List D->(af->Prop)->af->Prop)->Prop:=Ml
def Ap(t:DA):DI:=fun σ st K=>t σ st fun ds st1=>uz ds st1 K
theorem Hm{X:Cx}{tg iter:Expr}{t:DA}(h:PI X tg iter (F9 X.K (LA t))):PI X tg iter (LI (Ap t)):=PI.imp h fun σ H R ⟨α,σd,st,K,G,F,P,RS,S,t,k⟩=>by
 refine⟨α,σd,st,_,G,F,P,RS,S,t,fun ds st1 q α1 G1 H1 vs s1 P1 S1 r1=>?_⟩;unfold uz at q;match ds,q,r1 with
 | [.tup xs],q,r1=>
   obtain⟨v,rfl,r2⟩:=iu r1 rfl;unfold Rep at r2;obtain⟨a,vs,rfl,na,ha,ra⟩:=r2;have hl:=ra.length;refine⟨a,vs,rfl,.of (P1.get ha),?_⟩;rw[<-hl];exact k _ _ st1 q _ α1 G1 H1 s1 P1 S1 (G8 fun α' G' st' s S o=>⟨vs,s.ext _ _ na ha,ra.step s⟩)
theorem Hb{st:af}{xs:List D}{K:List D->(af->Prop)->af->Prop}(k:K xs.reverse (fun _=>True) st):uz [.tup xs] st K:=by unfold uz;exact k
theorem JQ{X:Cx}{tg a:Expr}{p pos:Pos}{ar:DA}(hg:Gl X "reversed")(hm:X.mg "reversed"=none)(ha:JA X [a] ar)(hs:notStar a=true:=by rfl):JI X tg (.Call (.Name "reversed" p) [a] [] pos) (Ap ar):=by
 unfold JI;unfold JA at ha;exact Hm (HE hg hm ha (cE hs))
def MJ(K:PySem.W.Frag)(ta:TA):TE:=fun σ H Q=>ta σ H fun vs H1=>∃a xs,vs=[.ref a]/\ik K H1 a xs/\1<=xs.length/\∀l,H1 l=none->Q (.ref l) (upd H1 l (.tup xs.reverse))
theorem EC:bootBuiltins "tuple"=some (.type "tuple"):=by decide+kernel
theorem pG{A B:Type}{F:A->B->Prop}:∀ {xs:List A} {ys:List B},Paired F xs ys->Paired F xs.reverse ys.reverse
 |_,_,.nil=> .nil
 |_,_,.cons r t=>by rw[List.reverse_cons,List.reverse_cons];exact uQ (pG t) (.cons r .nil)
theorem CM{its:List Value}{acc:Array Value}(h:ItemsOf (fun i v=>its.toArray[its.toArray.size-1-i]?=some v) acc its.toArray.size):acc=its.reverse.toArray:=by
 have h1:acc.size=its.length:=by have:=h.1;simpa using this
 apply Array.ext
 . simp[h1]
 . intro i hi hi2;have:its.toArray[its.toArray.size-1-i]?=some acc[i]:=h.2 i acc[i] (by simp[hi]);have e:its.toArray[its.toArray.size-1-i]?=its[its.length-1-i]?:=by simp
   rw[e]at this;have h3:its[its.length-1-i]?=its.reverse[i]?:=(List.getElem?_reverse (by omega)).symm;rw[h3]at this;have h4:=(List.getElem?_eq_some_iff.mp this).2;simpa using h4.symm
section
variable {X:Cx}
theorem LW{a:Expr}{ta:TA}{p pos p2 pos2:Pos}(hg:Gl X "tuple")(hm:X.mg "tuple"=none)(hg2:Gl X "reversed")(hm2:X.mg "reversed"=none)(ha:PA X [a] ta)(hc:X.calm=true)(hs:starEach [a] X.env=[(false,eval a X.env)]:=by rfl)
 (hs2:starEach [.Call (.Name "reversed" p2) [a] [] pos2] X.env=[(false,eval (.Call (.Name "reversed" p2) [a] [] pos2) X.env)]:=by rfl):PE X (.Call (.Name "tuple" p) [.Call (.Name "reversed" p2) [a] [] pos2] [] pos) (MJ X.K ta):=by
 intro pins s σ H Q I h;refine Call_ (jM I hg hm EC (PyProof.Rows.callWith_type1 ?_ hs2 rfl));rw[hs2];show wpAny _ _ (spliced [(false,eval (.Call (.Name "reversed" p2) [a] [] pos2) X.env)]) _ _ s;refine Calls.spliced_cons ?_;refine Call_ (jM I hg2 hm2 yH (PyProof.Rows.callWith_type1 (bZ (ha pos2 pins s σ H _ I h) fun us s1 ⟨vs,H1,I1,r1,q1⟩=>?_) hs rfl));obtain⟨a,xs,e,hq,hn,q⟩:=q1;subst e;cases r1 with
 |cons r rr=>
  cases rr;cases r;obtain⟨its,rv,p,hz⟩:=I1.tuple hq;have hl:=rv.length;have hz1:its.toArray.size<=sizeLine:=by simp only[List.size_toArray];rw[<-hl];exact hz
  have hz2:its.length<2^63:=by rw[sizeLine_eq]at hz;omega
  have p1:=p.lt;refine mO (items:=its.toArray) p (by simp;omega) (Calls.spliced_nil ?_);have hit:eH (s1.heap.push (rS a ((its.toArray.size:Int)-1))) s1.heap.objs.size a ((its.toArray.size:Int)-1):=⟨_,Heap.get?_push_size _ rfl,rfl,rfl⟩
  refine vo (s:={s1 with heap:=s1.heap.push (rS a ((its.toArray.size:Int)-1)),toks:=s1.toks+1+1}) (I1.ok.hd hc) (Nat.ne_of_lt p1) hit (p.push _) (by simp;omega) hz1 fun s' acc hm' hsz hacc=>?_;obtain⟨hp',g',d',t',os'⟩:=s';have e1:g'=s1.gens:=hm'.gens;have e2:d'=s1.drawn:=hm'.drawn;have e3:os'=s1.os:=hm'.os;subst e1 e2 e3;have ea:=CM hacc;subst ea
  have hsz1:s1.heap.objs.size<=hp'.objs.size:=by
   have:(s1.heap.push (rS a ((its.toArray.size:Int)-1))).objs.size<=hp'.objs.size:=hsz;obtain⟨o,ho,_⟩:=hit;exact Nat.le_trans (Nat.le_of_lt (Heap.lt_size ho)) this
  refine⟨.ref _,_,I1.laid (t':=t') (h':=hp'.push {cls:= .type "tuple",data:= .seq its.reverse.toArray}) (a:=hp'.objs.size) (fun b o e=>?_) hsz1 (show gd X.prog X.w _ _ _ (.tup xs.reverse)from⟨by rw[List.length_reverse];exact hz,its.reverse,pG rv,IsTup.new _ _⟩),rfl,q _ (I1.aI.fresh hsz1)⟩;have hb:=Heap.lt_size e
  exact Heap.get?_push_of_some _ (hm'.heap b o (fun hb'=>by
   have e5:b=s1.heap.objs.size:=by simpa using hb'
   rw[e5]at hb;exact Nat.lt_irrefl _ hb) (Heap.get?_push_of_some _ e))
end
def Oo(ds:List D)(st:af)(K:DK):Prop:=match ds with
 | [.tup xs]=>1<=xs.length/\K (.tup xs.reverse) st
 |_=>False
@[irreducible] def Ag:gM:=Oo
theorem D2{α:List (Option Addr)}{G:Hp}{ds:List D}{vs:List V}(h:aG α G ds vs):aG α G ds.reverse vs.reverse:=bh.mpr (pG (bh.mp h))
theorem NQ{X:Cx}{a:Expr}{t:DA}{p pos p2 pos2:Pos}(h:PE X (.Call (.Name "tuple" p) [.Call (.Name "reversed" p2) [a] [] pos2] [] pos) (MJ X.K (LA t))):PE X (.Call (.Name "tuple" p) [.Call (.Name "reversed" p2) [a] [] pos2] [] pos) (LE (cy Ag t)):=PE.imp h fun σ H Q ⟨α,σd,st,K,G,F,P,RS,S,t,k⟩=>by
 refine⟨α,σd,st,_,G,F,P,RS,S,t,fun ds st1 q α1 G1 H1 vs s1 P1 S1 r1=>?_⟩;unfold Ag at q;match ds,q,r1 with
 | [.tup xs],q,r1=>
   obtain⟨v,rfl,r2⟩:=iu r1 rfl;unfold Rep at r2;obtain⟨a,vs,rfl,na,ha,ra⟩:=r2;have hl:=ra.length;exact⟨a,vs,rfl,.of (P1.get ha),by rw[<-hl];exact q.1,fun l hl=>(k.at s1).tup P1 q.2 S1 (D2 ra) hl⟩
theorem Ly{st:af}{xs:List D}{K:DK}(h:1<=xs.length)(k:K (.tup xs.reverse) st):Ag [.tup xs] st K:=by unfold Ag;exact⟨h,k⟩
theorem Nn{X:Cx}{a:Expr}{p pos p2 pos2:Pos}{ar:DA}(hg:Gl X "tuple")(hm:X.mg "tuple"=none)(hg2:Gl X "reversed")(hm2:X.mg "reversed"=none)(ha:JA X [a] ar)(hc:X.calm=true:=by rfl)(hs:notStar a=true:=by rfl):JE X (.Call (.Name "tuple" p) [.Call (.Name "reversed" p2) [a] [] pos2] [] pos) (cy Ag ar):=by
 unfold JE;unfold JA at ha;exact NQ (LW hg hm hg2 hm2 ha hc (cE hs) (cE rfl))
end L3
namespace Mx
def S:Nat->(Nat->Int)->Int
 |0,_=>0
 |n+1,f=>S n f+f n
theorem aD{n:Nat}{f g:Nat->Int}(h:∀i,i<n->f i=g i):S n f=S n g:=by
 induction n with
 |zero=>rfl
 |succ n ih=>unfold S;rw[ih fun i hi=>h i (by omega),h n (by omega)]
theorem hV{n:Nat}{f:Nat->Int}(h:∀i,i<n->f i=0):S n f=0:=by
 induction n with
 |zero=>rfl
 |succ n ih=>unfold S;rw[ih fun i hi=>h i (by omega),h n (by omega)];rfl
theorem gJ(n:Nat)(f g:Nat->Int):S n (fun i=>f i+g i)=S n f+S n g:=by
 induction n with
 |zero=>rfl
 |succ n ih=>unfold S;rw[ih];dsimp only;omega
theorem eh(n:Nat)(c:Int)(f:Nat->Int):S n (fun i=>c*f i)=c*S n f:=by
 induction n with
 |zero=>unfold S;rw[Int.mul_zero]
 |succ n ih=>unfold S;rw[ih,Int.mul_add]
theorem qL(n:Nat)(c:Int)(f:Nat->Int):S n (fun i=>f i*c)=S n f*c:=by
 induction n with
 |zero=>unfold S;rw[Int.zero_mul]
 |succ n ih=>unfold S;rw[ih,Int.add_mul]
theorem uU(n:Nat)(f:Nat->Int):S n (fun i=> -f i)= -S n f:=by
 induction n with
 |zero=>rfl
 |succ n ih=>unfold S;rw[ih];dsimp only;omega
theorem o_(m n:Nat)(f:Nat->Nat->Int):S m (fun i=>S n fun j=>f i j)=S n fun j=>S m fun i=>f i j:=by
 induction m with
 |zero=>exact(hV (n:=n) (fun i _=>rfl)).symm
 |succ m ih=>
  have:S n (fun j=>S (m+1) fun i=>f i j)=S n fun j=>(S m fun i=>f i j)+f m j:=aD fun j _=>rfl;rw[this,gJ,<-ih];rfl
theorem jG{n:Nat}{k:Nat}(hk:k<n){f:Nat->Int}(h:∀i,i<n->i≠k->f i=0):S n f=f k:=by
 induction n with
 |zero=>omega
 |succ n ih=>
  unfold S;by_cases e:k=n
  . subst e;rw[hV fun i hi=>h i (by omega) (by omega),Int.zero_add]
  . rw[ih (by omega) fun i hi hn=>h i (by omega) hn,h n (by omega) (by omega),Int.add_zero]
theorem CC(n:Nat)(f:Nat->Int):S (n+1) f=f 0+S n fun i=>f (i+1):=by
 induction n with
 |zero=>unfold S S;omega
 |succ n ih=>
  have:S (n+1+1) f=S (n+1) f+f (n+1):=rfl;rw[this,ih];have:S (n+1) (fun i=>f (i+1))=S n (fun i=>f (i+1))+f (n+1):=rfl;rw[this];omega
def dl(i j:Nat):Int:=if i=j then 1 else 0
theorem bF(i:Nat):dl i i=1:=if_pos rfl
theorem bE{i j:Nat}(h:i≠j):dl i j=0:=if_neg h
theorem lV{n k:Nat}(hk:k<n)(f:Nat->Int):S n (fun i=>dl k i*f i)=f k:=by
 rw[jG hk (fun i _ h=>by rw[bE (Ne.symm h),Int.zero_mul]),bF,Int.one_mul]
theorem jS{n k:Nat}(hk:k<n)(f:Nat->Int):S n (fun i=>f i*dl i k)=f k:=by
 rw[jG hk (fun i _ h=>by rw[bE h,Int.mul_zero]),bF,Int.mul_one]
abbrev Row:=List Int
abbrev Rows:=List (List Int)
def g(A:Rows)(i j:Nat):Int:=(A.getD i []).getD j 0
structure aJ(m n:Nat)(A:Rows):Prop where
 len:A.length=m
 fN:∀r∈A,r.length=n
theorem a7{α:Type}{l:List α}{i:Nat}{d:α}(h:i<l.length):l.getD i d=l[i]:=by
 rw[List.getD_eq_getElem?_getD,List.getElem?_eq_getElem h];rfl
theorem lE{α:Type}{l:List α}{i:Nat}{d:α}(h:l.length<=i):l.getD i d=d:=by
 rw[List.getD_eq_getElem?_getD,List.getElem?_eq_none h];rfl
theorem GU{a b:Row}{n:Nat}(ha:a.length=n)(hb:b.length=n)(h:∀j,j<n->a.getD j 0=b.getD j 0):a=b:=by
 refine List.ext_getElem (by omega) fun i h1 h2=>?_;have:=h i (by omega);rwa [a7 h1,a7 h2]at this
theorem aJ.row{m n:Nat}{A:Rows}(h:aJ m n A){i:Nat}(hi:i<m):(A.getD i []).length=n:=by
 have hl:=h.len;rw[a7 (by omega)];exact h.fN _ (List.getElem_mem _)
theorem aJ.ext{m n:Nat}{A B:Rows}(ha:aJ m n A)(hb:aJ m n B)(h:∀i j,i<m->j<n->g A i j=g B i j):A=B:=by
 have h1:=ha.len;have h2:=hb.len;refine List.ext_getElem (by omega) fun i hi hj=>?_;have e1:=ha.row (i:=i) (by omega);have e2:=hb.row (i:=i) (by omega);have:=GU e1 e2 fun j hj=>h i j (by omega) hj;rwa [a7 hi,a7 hj]at this
def f9(r:Row)(t:Int)(s:Row):Row:=List.zipWith (fun a b=>a+t*b) r s
theorem nD{r s:Row}{t:Int}(h:r.length=s.length):(f9 r t s).length=r.length:=by unfold f9;simp[h]
theorem vE{r s:Row}{t:Int}(h:r.length=s.length)(j:Nat):(f9 r t s).getD j 0=r.getD j 0+t*s.getD j 0:=by
 unfold f9;by_cases hj:j<r.length
 . rw[a7 (by simp;omega),a7 hj,a7 (by omega)];simp
 . rw[lE (by simp;omega),lE (by omega),lE (by omega)];simp
def gI:Row->Rows->Row->Row
 |w::ws,r::rs,acc=>gI ws rs (f9 acc w r)
 |_,_,acc=>acc
theorem wh{n:Nat}:∀ {ws:Row} {rs:Rows} {acc:Row},acc.length=n->(∀r∈rs,r.length=n)->(gI ws rs acc).length=n
 | [],_,acc,h,_=>by unfold gI;exact h
 |_::_,[],acc,h,_=>by unfold gI;exact h
 |w::ws,r::rs,acc,h,hr=>by
  unfold gI;refine wh ?_ fun r hr'=>hr r (List.mem_cons_of_mem _ hr');rw[nD (by rw[h,hr r List.mem_cons_self]),h]
theorem yu{n:Nat}:∀ {ws:Row} {rs:Rows} {acc:Row} (j:Nat),acc.length=n->(∀r∈rs,r.length=n)->ws.length=rs.length->(gI ws rs acc).getD j 0=acc.getD j 0+S rs.length fun k=>ws.getD k 0*g rs k j
 | [],[],acc,j,h,_,_=>by unfold gI;show _=_+(0:Int);rw[Int.add_zero]
 | [],_::_,acc,j,h,_,hl=>by cases hl
 |_::_,[],acc,j,h,_,hl=>by cases hl
 |w::ws,r::rs,acc,j,h,hr,hl=>by
  have e1:acc.length=r.length:=by rw[h,hr r List.mem_cons_self]
  unfold gI;rw[yu j (by rw[nD e1,h]) (fun r hr'=>hr r (List.mem_cons_of_mem _ hr')) (by simpa using hl),vE e1,List.length_cons,CC]
  have:(fun k=>(w::ws).getD (k+1) 0*g (r::rs) (k+1) j)=fun k=>ws.getD k 0*g rs k j:=by
   funext k;unfold g;simp
  rw[this];unfold g;simp;omega
def mulM(A B:Rows)(n:Nat):Rows:=A.map fun w=>gI w B (List.replicate n 0)
theorem fH(n j:Nat):(List.replicate n (0:Int)).getD j 0=0:=by
 by_cases h:j<n
 . rw[a7 (by simpa using h)];simp
 . rw[lE (by simp;omega)]
theorem bQ{m p n:Nat}{A B:Rows}(ha:aJ m p A)(hb:aJ p n B):aJ m n (mulM A B n):=by
 refine⟨by unfold mulM;rw[List.length_map];exact ha.len,fun r hr=>?_⟩;unfold mulM at hr;obtain⟨w,_,rfl⟩:=List.mem_map.mp hr;exact wh (by simp) hb.fN
theorem map_getD{α:Type}{f:Row->List α}{A:Rows}{i:Nat}(h:i<A.length):(A.map f).getD i []=f (A.getD i []):=by
 rw[a7 (by simpa using h),a7 h];simp
theorem eO{m p n:Nat}{A B:Rows}(ha:aJ m p A)(hb:aJ p n B){i:Nat}(hi:i<m)(j:Nat):g (mulM A B n) i j=S p fun k=>g A i k*g B k j:=by
 have hl:=ha.len;show((mulM A B n).getD i []).getD j 0=_;unfold mulM;rw[map_getD (by omega),yu (n:=n) j (by simp) hb.fN (by rw[ha.row hi,hb.len]),fH,Int.zero_add,hb.len];rfl
theorem dD{m p q n:Nat}{A B C:Rows}(ha:aJ m p A)(hb:aJ p q B)(hc:aJ q n C):mulM (mulM A B q) C n=mulM A (mulM B C n) n:=by
 refine(bQ (bQ ha hb) hc).ext (bQ ha (bQ hb hc)) fun i j hi hj=>?_;rw[eO (bQ ha hb) hc hi,eO ha (bQ hb hc) hi];have e1:S q (fun k=>g (mulM A B q) i k*g C k j)=S q fun k=>S p fun l=>g A i l*g B l k*g C k j:=aD fun k _=>by rw[eO ha hb hi,qL]
 have e2:S p (fun l=>g A i l*g (mulM B C n) l j)=S p fun l=>S q fun k=>g A i l*g B l k*g C k j:=aD fun l hl=>by
  rw[eO hb hc hl,<-eh];exact aD fun k _=>by rw[Int.mul_assoc]
 rw[e1,e2,o_]
def jF(n i:Nat):Row:=(List.range n).map fun k=>dl k i
def units(n:Nat):Rows:=(List.range n).map fun i=>jF n i
theorem range_getD{α:Type}{f:Nat->α}{n i:Nat}{d:α}(h:i<n):((List.range n).map f).getD i d=f i:=by
 rw[a7 (by simpa using h)];simp
theorem bP(n:Nat):aJ n n (units n):=⟨by simp[units],fun r hr=>by unfold units at hr;obtain⟨i,_,rfl⟩:=List.mem_map.mp hr;simp[jF]⟩
theorem cT{n i j:Nat}(hi:i<n)(hj:j<n):g (units n) i j=dl i j:=by
 unfold g units jF;rw[range_getD hi,range_getD hj];unfold dl;by_cases h:i=j
 . subst h;rfl
 . rw[if_neg (Ne.symm h),if_neg h]
theorem dS{m n:Nat}{A:Rows}(ha:aJ m n A):mulM (units m) A n=A:=
 (bQ (bP m) ha).ext ha fun i j hi hj=>by
   rw[eO (bP m) ha hi];have:S m (fun k=>g (units m) i k*g A k j)=S m fun k=>dl i k*g A k j:=aD fun k hk=>by rw[cT hi hk]
   rw[this,lV hi]
theorem zq{m n:Nat}{A:Rows}(ha:aJ m n A):mulM A (units n) n=A:=
 (bQ ha (bP n)).ext ha fun i j hi hj=>by
   rw[eO ha (bP n) hi];have:S n (fun k=>g A i k*g (units n) k j)=S n fun k=>g A i k*dl k j:=aD fun k hk=>by rw[cT hk hj]
   rw[this,jS hj]
def mE(A:Rows)(j:Nat):Row:=A.map fun r=>r.getD j 0
def aX(A:Rows)(n:Nat):Rows:=(List.range n).map fun j=>mE A j
theorem b_{m n:Nat}{A:Rows}(ha:aJ m n A):aJ n m (aX A n):=⟨by simp[aX],fun r hr=>by
 unfold aX at hr;obtain⟨j,_,rfl⟩:=List.mem_map.mp hr;unfold mE;rw[List.length_map,ha.len]⟩
theorem Gp{A:Rows}{i:Nat}(j:Nat)(h:i<A.length):(mE A j).getD i 0=g A i j:=by
 unfold mE g;rw[a7 (by simpa using h),a7 h];simp
theorem bL{m n:Nat}{A:Rows}(ha:aJ m n A){i j:Nat}(hi:i<m)(hj:j<n):g (aX A n) j i=g A i j:=by
 show((aX A n).getD j []).getD i 0=_;unfold aX;rw[range_getD hj,Gp j (by rw[ha.len];exact hi)]
theorem vH{m p n:Nat}{A B:Rows}(ha:aJ m p A)(hb:aJ p n B):aX (mulM A B n) n=mulM (aX B n) (aX A p) m:=
 (b_ (bQ ha hb)).ext (bQ (b_ hb) (b_ ha)) fun i j hi hj=>by
   rw[bL (bQ ha hb) hj hi,eO ha hb hj,eO (b_ hb) (b_ ha) hi];exact aD fun k hk=>by rw[bL hb hk hi,bL ha hj hk,Int.mul_comm]
def Iy:Row->Row->Int
 |a::as,b::bs=>a*b+Iy as bs
 |_,_=>0
theorem nq(i j:Nat):dl i j=dl j i:=by
 unfold dl;by_cases h:i=j
 . rw[if_pos h,if_pos h.symm]
 . rw[if_neg h,if_neg (Ne.symm h)]
def sw(i j k:Nat):Nat:=if k=i then j else if k=j then i else k
theorem Na{n i j:Nat}(hi:i<n)(hj:j<n)(hij:i≠j)(f:Nat->Int):S n (fun k=>f (sw i j k))=S n f:=by
 have:S n (fun k=>f (sw i j k))=S n fun k=>f k+(f j-f i)*dl k i+(f i-f j)*dl k j:=aD fun k _=>by
  unfold sw;by_cases h1:k=i
  . subst h1;rw[if_pos rfl,bF,bE hij];omega
  . rw[if_neg h1,bE h1];by_cases h2:k=j
    . subst h2;rw[if_pos rfl,bF];omega
    . rw[if_neg h2,bE h2];omega
 rw[this,gJ,gJ,jS (f:=fun _=>f j-f i) hi,jS (f:=fun _=>f i-f j) hj];omega
theorem oW{A:Rows}{i:Nat}{r:Row}(hi:i<A.length)(a k:Nat):g (A.set i r) a k=if a=i then r.getD k 0 else g A a k:=by
 have e:(A.set i r).getD a []=if a=i then r else A.getD a []:=by
  rw[List.getD_eq_getElem?_getD,List.getD_eq_getElem?_getD];by_cases h:a=i
  . subst h;rw[if_pos rfl,List.getElem?_set_self hi];rfl
  . rw[if_neg h,List.getElem?_set_ne (Ne.symm h)]
 unfold g;rw[e];by_cases h:a=i
 . rw[if_pos h,if_pos h]
 . rw[if_neg h,if_neg h]
theorem y9{m n i:Nat}{A:Rows}{r:Row}(h:aJ m n A)(hr:r.length=n):aJ m n (A.set i r):=⟨by rw[List.length_set];exact h.len,fun q hq=>by
 rcases List.mem_or_eq_of_mem_set hq with z|rfl
 . exact h.fN q z
 . exact hr⟩
abbrev Fn:=Nat->Nat->Int
def sk(j c:Nat):Nat:=if c<j then c else c+1
def sg(j:Nat):Int:=if j%2=0 then 1 else-1
theorem vB(j:Nat):sg (j+1)= -sg j:=by unfold sg;split<;>split<;>omega
theorem zK:sg 0=1:=rfl
theorem j7{j c n:Nat}(h:c<n):sk j c<n+1:=by unfold sk;split<;>omega
theorem Mt{j k c:Nat}(h:k<j):sk j (sk k c)=sk k (sk (j-1) c):=by unfold sk;grind
def D:Nat->Fn->Int
 |0,_=>1
 |n+1,M=>S (n+1) fun j=>sg j*M 0 j*D n fun r c=>M (r+1) (sk j c)
theorem Jv(M:Fn):D 0 M=1:=rfl
theorem dw(n:Nat)(M:Fn):D (n+1) M=S (n+1) fun j=>sg j*M 0 j*D n fun r c=>M (r+1) (sk j c):=rfl
theorem cD:∀ {n:Nat} {M M':Fn},(∀r c,r<n->c<n->M r c=M' r c)->D n M=D n M'
 |0,_,_,_=>rfl
 |n+1,M,M',h=>by
  rw[dw,dw];refine aD fun j hj=>?_;have e:D n (fun r c=>M (r+1) (sk j c))=D n (fun r c=>M' (r+1) (sk j c)):=cD fun r c hr hc=>h (r+1) (sk j c) (by omega) (j7 hc);rw[h 0 j (by omega) hj,e]
theorem F1:∀ {n:Nat} {M P Q:Fn} {a b:Int} {i:Nat},i<n->(∀c,c<n->M i c=a*P i c+b*Q i c)->(∀r c,r<n->c<n->r≠i->M r c=P r c/\M r c=Q r c)->D n M=a*D n P+b*D n Q
 |0,_,_,_,_,_,_,h,_,_=>by omega
 |n+1,M,P,Q,a,b,0,_,h0,h=>by
  rw[dw,dw,dw,<-eh,<-eh,<-gJ];refine aD fun j hj=>?_;have e1:D n (fun r c=>M (r+1) (sk j c))=D n (fun r c=>P (r+1) (sk j c)):=cD fun r c hr hc=>(h (r+1) (sk j c) (by omega) (j7 hc) (by omega)).1;have e2:D n (fun r c=>M (r+1) (sk j c))=D n (fun r c=>Q (r+1) (sk j c)):=cD fun r c hr hc=>(h (r+1) (sk j c) (by omega) (j7 hc) (by omega)).2;rw[h0 j hj,<-e1,<-e2];grind
 |n+1,M,P,Q,a,b,i+1,hi,h0,h=>by
  rw[dw,dw,dw,<-eh,<-eh,<-gJ];refine aD fun j hj=>?_;have e:=F1 (n:=n) (M:=fun r c=>M (r+1) (sk j c)) (P:=fun r c=>P (r+1) (sk j c)) (Q:=fun r c=>Q (r+1) (sk j c)) (a:=a) (b:=b) (i:=i) (by omega) (fun c hc=>h0 (sk j c) (j7 hc)) fun r c hr hc hne=>h (r+1) (sk j c) (by omega) (j7 hc) (by omega);have p:=h 0 j (by omega) hj (by omega);rw[e,<-p.1,<-p.2];grind
theorem Nj{n:Nat}{M:Fn}(h:∀c,c<n+2->M 0 c=M 1 c):D (n+2) M=0:=by
 let T:Nat->Nat->Int:=fun j k=>sg j*M 0 j*(sg k*M 1 (sk j k)*D n fun r c=>M (r+2) (sk j (sk k c)))
 have e1:∀j,j<n+2->sg j*M 0 j*D (n+1) (fun r c=>M (r+1) (sk j c))=S (n+1) fun k=>T j k:=fun j hj=>by
  rw[dw,<-eh]
 rw[dw,aD e1]
 have e2:∀j,j<n+2->S (n+1) (fun k=>T j k)=S (n+1) (fun k=>if k<j then T j k else 0)+S (n+1) (fun k=>if k<j then 0 else T j k):=fun j _=>by
  rw[<-gJ];refine aD fun k _=>?_;split<;>omega
 rw[aD e2,gJ]
 have e3:∀j k,j<n+2->k<n+1->¬k<j->T j k= -T (k+1) j:=fun j k hj hk hjk=>by
  have s1:sk (k+1) j=j:=by unfold sk;rw[if_pos (by omega)]
  have s2:sk j k=k+1:=by unfold sk;rw[if_neg hjk]
  have s3:(fun r c=>M (r+2) (sk (k+1) (sk j c)))=fun r c=>M (r+2) (sk j (sk k c)):=by
   funext r c;rw[Mt (show j<k+1 by omega)];rfl
  show sg j*M 0 j*(sg k*M 1 (sk j k)*D n fun r c=>M (r+2) (sk j (sk k c)))= -(sg (k+1)*M 0 (k+1)*(sg j*M 1 (sk (k+1) j)*D n fun r c=>M (r+2) (sk (k+1) (sk j c))));rw[s1,s2,s3,vB,<-h j hj,<-h (k+1) (by omega)];grind
 have e4:S (n+2) (fun j=>S (n+1) fun k=>if k<j then 0 else T j k)= -S (n+2) (fun j=>S (n+1) fun k=>if k<j then T j k else 0):=by
  rw[o_,CC (n+1) (fun j=>S (n+1) fun k=>if k<j then T j k else 0)];have z:S (n+1) (fun k=>if k<0 then T 0 k else 0)=0:=hV fun k _=>if_neg (by omega);rw[z,Int.zero_add,<-uU];refine aD fun k hk=>?_;have:S (n+2) (fun j=>if k<j then 0 else T j k)=S (n+1) (fun j=>if k<j then 0 else T j k)+(if k<n+1 then 0 else T (n+1) k):=rfl;rw[this,if_pos hk,Int.add_zero,<-uU];refine aD fun j hj=>?_;by_cases hkj:k<j
  . rw[if_pos hkj,if_neg (by omega)];rfl
  . rw[if_neg hkj,if_pos (by omega)];exact e3 j k (by omega) hk hkj
 rw[e4];omega
theorem FU:∀ {n:Nat} {M:Fn} {i:Nat},i+1<n->(∀c,c<n->M i c=M (i+1) c)->D n M=0
 |0,_,_,h,_=>by omega
 |1,_,_,h,_=>by omega
 |n+2,M,0,_,h=>Nj h
 |n+2,M,i+1,hi,h=>by
  rw[dw];refine hV fun j hj=>?_;rw[FU (n:=n+1) (M:=fun r c=>M (r+1) (sk j c)) (i:=i) (by omega) fun c hc=>h (sk j c) (j7 hc),Int.mul_zero]
structure Alt(n:Nat)(φ:Fn->Int):Prop where
 cg:∀M M':Fn,(∀r c,r<n->c<n->M r c=M' r c)->φ M=φ M'
 kZ:∀(i:Nat) (M P Q:Fn) (a b:Int),i<n->(∀c,c<n->M i c=a*P i c+b*Q i c)->(∀r c,r<n->c<n->r≠i->M r c=P r c/\M r c=Q r c)->φ M=a*φ P+b*φ Q
 alt:∀(i j:Nat) (M:Fn),i<n->j<n->i≠j->(∀c,c<n->M i c=M j c)->φ M=0
def upd(M:Fn)(i:Nat)(x:Nat->Int):Fn:=fun r c=>if r=i then x c else M r c
theorem cw(M:Fn)(i:Nat)(x:Nat->Int)(c:Nat):upd M i x i c=x c:=if_pos rfl
theorem ax{M:Fn}{i r:Nat}{x:Nat->Int}(h:r≠i)(c:Nat):upd M i x r c=M r c:=if_neg h
theorem ML{n i j:Nat}{φ:Fn->Int}(cg:∀M M':Fn,(∀r c,r<n->c<n->M r c=M' r c)->φ M=φ M')
 (kZ:∀(i:Nat) (M P Q:Fn) (a b:Int),i<n->(∀c,c<n->M i c=a*P i c+b*Q i c)->(∀r c,r<n->c<n->r≠i->M r c=P r c/\M r c=Q r c)->φ M=a*φ P+b*φ Q)
 (hi:i<n) (hj:j<n) (hij:i≠j) (alt:∀N:Fn,(∀c,c<n->N i c=N j c)->φ N=0) (M:Fn):φ (fun r=>M (sw i j r))= -φ M:=by
 have l1:φ (upd (upd M i fun c=>M i c+M j c) j fun c=>M i c+M j c)=1*φ (upd (upd M i (M i)) j fun c=>M i c+M j c)+1*φ (upd (upd M i (M j)) j fun c=>M i c+M j c):=
  kZ i _ _ _ 1 1 hi (fun c _=>by rw[ax hij,ax hij,ax hij,cw,cw,cw];omega) fun r c _ _ hr=>by
   unfold upd;grind
 have l2:∀x:Nat->Int,φ (upd (upd M i x) j fun c=>M i c+M j c)=1*φ (upd (upd M i x) j (M i))+1*φ (upd (upd M i x) j (M j)):=fun x=>
  kZ j _ _ _ 1 1 hj (fun c _=>by rw[cw,cw,cw];omega) fun r c _ _ hr=>by
   rw[ax hr,ax hr,ax hr];exact⟨rfl,rfl⟩
 have z0:φ (upd (upd M i fun c=>M i c+M j c) j fun c=>M i c+M j c)=0:=alt _ fun c _=>by rw[ax hij,cw,cw]
 have z1:φ (upd (upd M i (M i)) j (M i))=0:=alt _ fun c _=>by rw[ax hij,cw,cw]
 have z2:φ (upd (upd M i (M j)) j (M j))=0:=alt _ fun c _=>by rw[ax hij,cw,cw]
 have s1:φ (upd (upd M i (M i)) j (M j))=φ M:=cg _ _ fun r c _ _=>by
  unfold upd;split
  . rename_i e;rw[e]
  . split
    . rename_i e;rw[e]
    . rfl
 have s2:φ (upd (upd M i (M j)) j (M i))=φ (fun r=>M (sw i j r)):=cg _ _ fun r c _ _=>by
  unfold upd sw;by_cases h1:r=j
  . rw[if_pos h1];by_cases h2:r=i
    . omega
    . rw[if_neg h2,if_pos h1]
  . rw[if_neg h1];by_cases h2:r=i
    . rw[if_pos h2,if_pos h2]
    . rw[if_neg h2,if_neg h2,if_neg h1]
 have a1:=l2 (M i);have a2:=l2 (M j);rw[z1,s1]at a1;rw[z2,s2]at a2;rw[z0,a1,a2]at l1;omega
theorem Alt.swap{n i j:Nat}{φ:Fn->Int}(A:Alt n φ)(hi:i<n)(hj:j<n)(hij:i≠j)(M:Fn):φ (fun r=>M (sw i j r))= -φ M:=
 ML A.cg A.kZ hi hj hij (fun N h=>A.alt i j N hi hj hij h) M
theorem uy{n:Nat}{φ:Fn->Int}(cg:∀M M':Fn,(∀r c,r<n->c<n->M r c=M' r c)->φ M=φ M')
 (kZ:∀(i:Nat) (M P Q:Fn) (a b:Int),i<n->(∀c,c<n->M i c=a*P i c+b*Q i c)->(∀r c,r<n->c<n->r≠i->M r c=P r c/\M r c=Q r c)->φ M=a*φ P+b*φ Q)
 (adj:∀(i:Nat) (M:Fn),i+1<n->(∀c,c<n->M i c=M (i+1) c)->φ M=0):Alt n φ:=by
 have far:∀(d i:Nat) (M:Fn),i+d+1<n->(∀c,c<n->M i c=M (i+d+1) c)->φ M=0:=by
  intro d;induction d with
  |zero=>exact fun i M h1 h2=>adj i M h1 h2
  |succ d ih=>
   intro i M h1 h2;have hs:=ML cg kZ (i:=i+d+1) (j:=i+d+1+1) (by omega) (by omega) (by omega) (fun N h=>adj (i+d+1) N (by omega) h) M
   have:φ (fun r=>M (sw (i+d+1) (i+d+1+1) r))=0:=ih i _ (by omega) fun c hc=>by
    have e1:sw (i+d+1) (i+d+1+1) i=i:=by unfold sw;rw[if_neg (by omega),if_neg (by omega)]
    have e2:sw (i+d+1) (i+d+1+1) (i+d+1)=i+d+1+1:=by unfold sw;rw[if_pos rfl]
    rw[e1,e2];exact h2 c hc
   omega
 refine⟨cg,kZ,fun i j M hi hj hij h=>?_⟩;by_cases hlt:i<j
 . obtain⟨d,rfl⟩:∃d,j=i+d+1:=⟨j-i-1,by omega⟩
   exact far d i M hj h
 . obtain⟨d,rfl⟩:∃d,i=j+d+1:=⟨i-j-1,by omega⟩
   exact far d j M hi fun c hc=>(h c hc).symm
theorem om(n:Nat):Alt n (D n):=uy (fun _ _ h=>cD h) (fun _ _ _ _ _ _ hi h0 h=>F1 hi h0 h) fun _ _ h1 h2=>FU h1 h2
theorem Alt.Nu{n i:Nat}{φ:Fn->Int}(A:Alt n φ)(hi:i<n){M:Fn}(h:∀c,c<n->M i c=0):φ M=0:=by
 have:=A.kZ i M M M 0 0 hi (fun c hc=>by rw[h c hc];rfl) fun _ _ _ _ _=>⟨rfl,rfl⟩
 omega
theorem Alt.Cb{n i:Nat}{φ:Fn->Int}(A:Alt n φ)(hi:i<n)(M:Fn)(t:Int)(x:Nat->Int):φ (upd M i fun c=>t*x c)=t*φ (upd M i x):=by
 have:=A.kZ i (upd M i fun c=>t*x c) (upd M i x) (upd M i x) t 0 hi (fun c hc=>by rw[cw,cw];omega) fun r c _ _ hr=>by rw[ax hr,ax hr];exact⟨rfl,rfl⟩
 omega
theorem Alt.Cu{n i:Nat}{φ:Fn->Int}(A:Alt n φ)(hi:i<n)(M:Fn)(x y:Nat->Int):φ (upd M i fun c=>x c+y c)=φ (upd M i x)+φ (upd M i y):=by
 have:=A.kZ i (upd M i fun c=>x c+y c) (upd M i x) (upd M i y) 1 1 hi (fun c hc=>by rw[cw,cw,cw];omega) fun r c _ _ hr=>by rw[ax hr,ax hr,ax hr];exact⟨rfl,rfl⟩
 omega
theorem Alt.rP{n i:Nat}{φ:Fn->Int}(A:Alt n φ)(hi:i<n)(M:Fn)(a:Nat->Int)(x:Nat->Nat->Int):∀m,φ (upd M i fun c=>S m fun j=>a j*x j c)=S m fun j=>a j*φ (upd M i (x j))
 |0=>A.Nu hi fun c _=>by rw[cw];rfl
 |m+1=>by
  have:(fun c=>S (m+1) fun j=>a j*x j c)=fun c=>(S m fun j=>a j*x j c)+a m*x m c:=rfl;rw[this,A.Cu hi,A.rP hi M a x m,A.Cb hi];rfl
def un(j c:Nat):Nat:=if c<j then c else c-1
def grow(j:Nat)(B:Fn):Fn:=fun r c=>if r=0 then dl j c else if c=j then 0 else B (r-1) (un j c)
theorem uw{n j c:Nat}(hj:j<n+1)(hc:c<n+1)(h:c≠j):un j c<n:=by unfold un;split<;>omega
theorem AF{j c:Nat}(h:c≠j):sk j (un j c)=c:=by unfold sk un;grind
theorem Alt.grow{n j:Nat}{φ:Fn->Int}(A:Alt (n+1) φ)(hj:j<n+1):Alt n fun B=>φ (Mx.grow j B) where
 cg:=fun M M' h=>A.cg _ _ fun r c hr hc=>by
  have:=h (r-1) (un j c);have:=uw (c:=c) hj hc;unfold Mx.grow;grind
 kZ:=fun i M P Q a b hi h0 h=>A.kZ (i+1) _ _ _ a b (by omega) (fun c hc=>by
  have:=h0 (un j c);have:=uw (c:=c) hj hc;have e:i+1-1=i:=by omega
  unfold Mx.grow;rw[e];grind) fun r c hr hc hne=>by
  have:=h (r-1) (un j c);have:=uw (c:=c) hj hc;unfold Mx.grow;grind
 alt:=fun i k M hi hk hik h=>A.alt (i+1) (k+1) _ (by omega) (by omega) (by omega) fun c hc=>by
  have:=h (un j c);have:=uw (c:=c) hj hc;have e:i+1-1=i:=by omega
  have e2:k+1-1=k:=by omega
  unfold Mx.grow;rw[e,e2];grind
theorem Alt.units{n:Nat}{φ:Fn->Int}(A:Alt (n+1) φ):∀j,j<n+1->φ (Mx.grow j dl)=sg j*φ dl
 |0,_=>by
  rw[zK,Int.one_mul];refine A.cg _ _ fun r c hr hc=>?_;unfold Mx.grow un dl;grind
 |j+1,hj=>by
  have ih:=A.units j (by omega);have s:=A.swap (i:=0) (j:=j+1) (by omega) hj (by omega) (Mx.grow j dl);rw[vB,Int.neg_mul,<-ih,<-s];refine A.cg _ _ fun r c hr hc=>?_;unfold Mx.grow un dl sw;grind
theorem Alt.Nr{n i k:Nat}{φ:Fn->Int}(A:Alt n φ)(hi:i<n)(hk:k<n)(hik:i≠k)(M:Fn)(x:Nat->Int)(t:Int):φ (upd M i fun c=>x c+t*M k c)=φ (upd M i x):=by
 rw[A.Cu hi,A.Cb hi M t (M k),A.alt i k (upd M i (M k)) hi hk hik fun c _=>by rw[cw,ax (Ne.symm hik)],Int.mul_zero,Int.add_zero]
def zr(j m:Nat)(M:Fn):Fn:=fun r c=>if r=0 then dl j c else if r<=m/\c=j then 0 else M r c
theorem Alt.zr{n j:Nat}{φ:Fn->Int}(A:Alt (n+1) φ)(M:Fn):∀m,m<=n->φ (Mx.zr j m M)=φ (upd M 0 (dl j))
 |0,_=>A.cg _ _ fun r c hr hc=>by unfold Mx.zr upd;grind
 |m+1,hm=>by
  rw[<-A.zr M m (by omega)];have e:=A.Nr (i:=m+1) (k:=0) (by omega) (by omega) (by omega) (Mx.zr j m M) (M (m+1)) (-M (m+1) j)
  have e1:φ (Mx.zr j (m+1) M)=φ (upd (Mx.zr j m M) (m+1) fun c=>M (m+1) c+ -M (m+1) j*Mx.zr j m M 0 c):=A.cg _ _ fun r c hr hc=>by
   unfold upd Mx.zr dl;by_cases h0:r=m+1
   . subst h0;by_cases h1:c=j
     . subst h1;simp;omega
     . have:¬j=c:=fun z=>h1 z.symm;simp[h1,this]
   . rw[if_neg h0];grind
  have e2:φ (upd (Mx.zr j m M) (m+1) (M (m+1)))=φ (Mx.zr j m M):=A.cg _ _ fun r c hr hc=>by
   unfold upd Mx.zr;grind
  rw[e1,e,e2]
theorem AE:∀ {n:Nat} {φ:Fn->Int},Alt n φ->∀M,φ M=φ dl*D n M
 |0,φ,A,M=>by rw[Jv,Int.mul_one];exact A.cg _ _ fun r c hr=>by omega
 |n+1,φ,A,M=>by
  have h1:φ M=S (n+1) fun j=>M 0 j*φ (upd M 0 (dl j)):=by
   rw[<-A.rP (by omega) M (M 0) dl (n+1)];refine A.cg _ _ fun r c hr hc=>?_;by_cases h0:r=0
   . subst h0;rw[cw,jS hc]
   . rw[ax h0]
  have h2:∀j,j<n+1->φ (upd M 0 (dl j))=φ (Mx.grow j fun r c=>M (r+1) (sk j c)):=fun j hj=>by
   rw[<-A.zr M n (Nat.le_refl _)];refine A.cg _ _ fun r c hr hc=>?_;unfold Mx.grow Mx.zr;by_cases h0:r=0
   . rw[if_pos h0,if_pos h0]
   . rw[if_neg h0,if_neg h0];by_cases h3:c=j
     . rw[if_pos ⟨by omega,h3⟩,if_pos h3]
     . rw[if_neg (by omega),if_neg h3];dsimp only;rw[AF h3,show r-1+1=r by omega]
  rw[h1,dw,<-eh];refine aD fun j hj=>?_;have h3:=AE (A.grow hj) fun r c=>M (r+1) (sk j c);have h4:=A.units j hj;have h5:φ (Mx.grow j fun r c=>M (r+1) (sk j c))=φ (Mx.grow j dl)*D n fun r c=>M (r+1) (sk j c):=h3;rw[h2 j hj,h5,h4];grind
theorem vi:∀n,D n dl=1
 |0=>rfl
 |n+1=>by
  rw[dw,jG (k:=0) (by omega) fun j hj h0=>by rw[bE (Ne.symm h0),Int.mul_zero,Int.zero_mul]]
  have:D n (fun r c=>dl (r+1) (sk 0 c))=D n dl:=cD fun r c _ _=>by
   unfold dl sk;grind
  rw[this,vi n,bF];rfl
theorem A_(n:Nat)(A B:Fn):D n (fun r c=>S n fun k=>A r k*B k c)=D n A*D n B:=by
 have al:Alt n fun A=>D n (fun r c=>S n fun k=>A r k*B k c):=by
  refine⟨fun M M' h=>cD fun r c hr hc=>aD fun k hk=>by rw[h r k hr hk],fun i M P Q a b hi h0 h=>(om n).kZ i _ _ _ a b hi (fun c hc=>?_) fun r c hr hc hne=>⟨aD fun k hk=>by rw[(h r k hr hk hne).1],aD fun k hk=>by rw[(h r k hr hk hne).2]⟩,fun i j M hi hj hij h=>(om n).alt i j _ hi hj hij fun c hc=>aD fun k hk=>by rw[h k hk]⟩;show(S n fun k=>M i k*B k c)=a*(S n fun k=>P i k*B k c)+b*S n fun k=>Q i k*B k c;rw[<-eh,<-eh,<-gJ];refine aD fun k hk=>?_;rw[h0 k hk];grind
 have h:=AE al A;have e:D n (fun r c=>S n fun k=>dl r k*B k c)=D n B:=cD fun r c hr hc=>lV hr fun k=>B k c;rw[h,e,Int.mul_comm]
theorem Ci:∀ {n:Nat} {M P Q:Fn} {a b:Int} {i:Nat},i<n->(∀r,r<n->M r i=a*P r i+b*Q r i)->(∀r c,r<n->c<n->c≠i->M r c=P r c/\M r c=Q r c)->D n M=a*D n P+b*D n Q
 |0,_,_,_,_,_,_,h,_,_=>by omega
 |n+1,M,P,Q,a,b,i,hi,h0,h=>by
  rw[dw,dw,dw,<-eh,<-eh,<-gJ];refine aD fun j hj=>?_;by_cases hij:j=i
  . subst hij;have hs:∀c,sk j c≠j:=fun c=>by unfold sk;split<;>omega
    have e1:D n (fun r c=>M (r+1) (sk j c))=D n (fun r c=>P (r+1) (sk j c)):=cD fun r c hr hc=>(h (r+1) (sk j c) (by omega) (j7 hc) (hs c)).1;have e2:D n (fun r c=>M (r+1) (sk j c))=D n (fun r c=>Q (r+1) (sk j c)):=cD fun r c hr hc=>(h (r+1) (sk j c) (by omega) (j7 hc) (hs c)).2;rw[h0 0 (by omega),<-e1,<-e2];grind
  . have p:=h 0 j (by omega) hj hij;have hu:sk j (un j i)=i:=AF (Ne.symm hij);have hs:∀c,c≠un j i->sk j c≠i:=fun c hc=>by unfold sk;unfold un at hc;grind
    have hlt:un j i<n:=uw hj hi (Ne.symm hij)
    have e:=Ci (n:=n) (M:=fun r c=>M (r+1) (sk j c)) (P:=fun r c=>P (r+1) (sk j c)) (Q:=fun r c=>Q (r+1) (sk j c)) (a:=a) (b:=b) (i:=un j i) hlt (fun r hr=>by
     rw[hu];exact h0 (r+1) (by omega)) fun r c hr hc hne=>h (r+1) (sk j c) (by omega) (j7 hc) (hs c hne)
    rw[e,<-p.1,<-p.2];grind
theorem BY:∀ {n:Nat} {M:Fn} {i:Nat},i+1<n->(∀r,r<n->M r i=M r (i+1))->D n M=0
 |0,_,_,h,_=>by omega
 |n+1,M,i,hi,h=>by
  rw[dw]
  have key:∀j,j<n+1->j≠i->j≠i+1->D n (fun r c=>M (r+1) (sk j c))=0:=fun j hj h1 h2=>by
   refine BY (i:=un j i) (by unfold un;split<;>omega) fun r hr=>?_;have e1:sk j (un j i)=i:=AF (Ne.symm h1);have e2:sk j (un j i+1)=i+1:=by unfold sk un;grind
   rw[e1,e2];exact h (r+1) (by omega)
  have e:D n (fun r c=>M (r+1) (sk i c))=D n (fun r c=>M (r+1) (sk (i+1) c)):=cD fun r c hr hc=>by
   by_cases hc2:c=i
   . subst hc2;have a1:sk c c=c+1:=by unfold sk;rw[if_neg (by omega)]
     have a2:sk (c+1) c=c:=by unfold sk;rw[if_pos (by omega)]
     rw[a1,a2];exact(h (r+1) (by omega)).symm
   . have a1:sk i c=sk (i+1) c:=by unfold sk;grind
     rw[a1]
  have two:∀(m:Nat) (f:Nat->Int),i+1<m->(∀j,j<m->j≠i->j≠i+1->f j=0)->S m f=f i+f (i+1):=fun m=>by
   induction m with
   |zero=>intro f h;omega
   |succ m ih=>
    intro f hm hf;show S m f+f m=_;by_cases hmi:m=i+1
    . subst hmi;rw[jG (k:=i) (by omega) fun j hj hne=>hf j (by omega) hne (by omega)]
    . rw[ih f (by omega) fun j hj h1 h2=>hf j (by omega) h1 h2,hf m (by omega) (by omega) hmi,Int.add_zero]
  rw[two (n+1) _ hi fun j hj h1 h2=>by rw[key j hj h1 h2,Int.mul_zero],e,vB,h 0 (by omega)];grind
def tr(M:Fn):Fn:=fun r c=>M c r
theorem D9(n:Nat)(M:Fn):D n (tr M)=D n M:=by
 have al:Alt n fun A=>D n (tr A):=uy (fun M M' h=>cD fun r c hr hc=>h c r hc hr)
  (fun i M P Q a b hi h0 h=>Ci hi (fun r hr=>h0 r hr) fun r c hr hc hne=>h c r hc hr hne)
  fun i M hi h=>BY hi fun r hr=>h r hr
 have h:=AE al M;have e:D n (tr dl)=D n dl:=cD fun r c _ _=>nq c r;have h2:D n (tr M)=D n (tr dl)*D n M:=h;rw[h2,e,vi,Int.one_mul]
def Pr:Nat->(Nat->Int)->Int
 |0,_=>1
 |n+1,f=>Pr n f*f n
theorem Ak:∀(n:Nat) (f:Nat->Int),Pr (n+1) f=f 0*Pr n fun i=>f (i+1)
 |0,f=>by show 1*f 0=f 0*1;omega
 |n+1,f=>by
  have:Pr (n+1+1) f=Pr (n+1) f*f (n+1):=rfl;rw[this,Ak n f];have:Pr (n+1) (fun i=>f (i+1))=Pr n (fun i=>f (i+1))*f (n+1):=rfl;rw[this,Int.mul_assoc]
theorem xm:∀ {n:Nat} {M:Fn},(∀r c,r<n->c<n->r<c->M r c=0)->D n M=Pr n fun i=>M i i
 |0,_,_=>rfl
 |n+1,M,h=>by
  rw[dw,jG (k:=0) (by omega) fun j hj h0=>by rw[h 0 j (by omega) hj (by omega),Int.mul_zero,Int.zero_mul],Ak,zK,Int.one_mul];have s:∀c,sk 0 c=c+1:=fun c=>by unfold sk;rw[if_neg (by omega)]
  have e:D n (fun r c=>M (r+1) (sk 0 c))=Pr n fun i=>M (i+1) (i+1):=by
   rw[xm fun r c hr hc hrc=>by rw[s];exact h (r+1) (c+1) (by omega) (by omega) (by omega)];simp only[s]
  rw[e]
theorem D_{n:Nat}{M:Fn}(h:∀r c,r<n->c<n->c<r->M r c=0):D n M=Pr n fun i=>M i i:=by
 rw[<-D9 n M,xm (M:=tr M) fun r c hr hc hrc=>h c r hc hr hrc];rfl
def gx(R:Fn)(p:Nat)(x:Nat->Int)(j:Nat):Int:=D (p+1) fun r c=>if r<p then R r (if c<p then c else j)else x (if c<p then c else j)
def bt(R:Fn)(p:Nat)(x:Nat->Int)(k:Nat):Int:=D (p+1) (upd (fun c r=>if r<p then R r c else x c) p (dl k))
def cl(p j1 j2 c:Nat):Nat:=if c<p then c else if c=p then j1 else j2
theorem xF{n:Nat}{f:Nat->Int}{m:Nat}(h:∀i,i<n->(f i).natAbs<=m):(S n f).natAbs<=n*m:=by
 induction n with
 |zero=>simp[S]
 |succ n ih=>
  have h1:=ih fun i hi=>h i (by omega);have h2:=h n (by omega);show(S n f+f n).natAbs<=_;rw[Nat.succ_mul];omega
theorem Fe{m:Nat}:∀ {n:Nat} {M:Fn},n<=8->(∀r c,r<n->c<n->(M r c).natAbs<=m)->(D n M).natAbs<=(8*m)^n
 |0,_,_,_=>by simp[D]
 |n+1,M,hn,h=>by
  rw[dw]
  have key:∀j,j<n+1->(sg j*M 0 j*D n fun r c=>M (r+1) (sk j c)).natAbs<=m*(8*m)^n:=fun j hj=>by
   have a:=Fe (n:=n) (M:=fun r c=>M (r+1) (sk j c)) (by omega) fun r c hr hc=>h (r+1) (sk j c) (by omega) (j7 hc);have b:=h 0 j (by omega) hj;have s:(sg j).natAbs=1:=by unfold sg;split<;>rfl
   rw[Int.natAbs_mul,Int.natAbs_mul,s,Nat.one_mul];exact Nat.mul_le_mul b a
  have e:=xF key;refine Nat.le_trans e ?_;rw[Nat.pow_succ,Nat.mul_comm ((8*m)^n),Nat.mul_assoc];have:(n+1)*(m*(8*m)^n)<=8*(m*(8*m)^n):=Nat.mul_le_mul_right _ hn;exact this
def mv(k a r:Nat):Nat:=if r<k then r else if r=k then k+a else if r<=k+a then r-1 else r
def lam(G:Fn)(i j:Nat):Int:=gx G j (G i) j
def NH(A:Rows):Fn:=fun i j=>Iy (A.getD i []) (A.getD j [])
def KG(G:Fn)(i:Nat):Row:=(List.range (i+1)).map fun j=>lam G i j
def JZ(G:Fn)(n:Nat):Rows:=(List.range n).map (KG G)
def RA(A:Rows)(N:Nat):Fn:=fun i j=>if j<N then NH A i j else(A.getD i []).getD (j-N) 0
def ev(A:Rows)(N i k c:Nat):Int:=gx (RA A N) k (RA A N i) (N+c)
theorem AO(n:Nat)(a b:Int)(f g:Nat->Int):S n (fun c=>a*f c-b*g c)=a*S n f-b*S n g:=by
 induction n with
 |zero=>show(0:Int)=a*0-b*0;omega
 |succ n ih=>
  show S n (fun c=>a*f c-b*g c)+(a*f n-b*g n)=a*(S n f+f n)-b*(S n g+g n);rw[ih,Int.mul_add,Int.mul_add];omega
section
variable {A:Rows}{N w:Nat}
end
def N8(M:Fn)(k j:Nat)(q:Int):Fn:=fun a b=>if a=k then M a b-q*M j b else M a b
def N4(M:Fn)(k j:Nat)(q:Int):Fn:=fun a b=>if b=k then M a b-q*M a j else M a b
def tk(G:Fn)(k j:Nat)(q:Int):Fn:=N4 (N8 G k j q) k j q
section
variable {G:Fn}{t:Nat}(sym:∀i j,G i j=G j i)
include sym
end
section
variable {A:Rows}{N w:Nat}
theorem cY(hA:aJ N w A){i:Nat}(hi:i<N):(A.getD i []).length=w:=hA.fN _ (by have:=hA.len;rw[a7 (by omega)];exact List.getElem_mem _)
end
def aS(A:Rows)(k:Nat)(q:Int)(j:Nat):Rows:=A.set k (f9 (A.getD k []) (-q) (A.getD j []))
def bz(A:Rows)(k o:Nat):Rows:=(A.set k (A.getD o [])).set o (A.getD k [])
theorem lb{A:Rows}{k i:Nat}{r:Row}(hk:k<A.length):(A.set k r).getD i []=if i=k then r else A.getD i []:=by
 rw[List.getD_eq_getElem?_getD,List.getElem?_set];by_cases h:k=i
 . rw[if_pos h,if_pos (by omega),if_pos h.symm];rfl
 . rw[if_neg h,if_neg (Ne.symm h),List.getD_eq_getElem?_getD]
theorem CU{A:Rows}{k j:Nat}{q:Int}:(aS A k q j).length=A.length:=by unfold aS;rw[List.length_set]
theorem ly{A:Rows}{N w k j:Nat}{q:Int}(hA:aJ N w A)(hk:k<N)(hj:j<N):aJ N w (aS A k q j):=by
 refine⟨CU.trans hA.len,fun r hr=>?_⟩;unfold aS at hr;rcases List.mem_or_eq_of_mem_set hr with h|rfl
 . exact hA.fN r h
 . rw[nD (by rw[cY hA hk,cY hA hj]),cY hA hk]
structure Tn(A0 A U C:Rows)(N w:Nat):Prop where
 isA:aJ N w A
 fK:aJ N N U
 gg:aJ N N C
 ua:∀i c,i<N->c<w->g A i c=S N fun k=>g U i k*g A0 k c
 ub:∀i j,i<N->j<N->S N (fun k=>g U i k*g C j k)=dl i j
 bu:∀i j,i<N->j<N->S N (fun k=>g C k i*g U k j)=dl i j
theorem du{A:Rows}{N w k j:Nat}{q:Int}(hA:aJ N w A)(hk:k<N)(hj:j<N)(i c:Nat):g (aS A k q j) i c=if i=k then g A k c-q*g A j c else g A i c:=by
 unfold g aS;have hl:=hA.len;rw[lb (by omega)];by_cases h:i=k
 . rw[if_pos h,if_pos h,vE (by rw[cY hA hk,cY hA hj]),Int.neg_mul];omega
 . rw[if_neg h,if_neg h]
theorem uT(n:Nat)(a b:Int)(f h:Nat->Int):S n (fun c=>a*f c+b*h c)=a*S n f+b*S n h:=by
 rw[gJ,eh,eh]
theorem Tn.take{A0 A U C:Rows}{N w k j:Nat}{q:Int}(T:Tn A0 A U C N w)(hk:k<N)(hj:j<N)(hkj:j≠k):Tn A0 (aS A k q j) (aS U k q j) (aS C j (-q) k) N w where
 isA:=ly T.isA hk hj
 fK:=ly T.fK hk hj
 gg:=ly T.gg hj hk
 ua:=fun i c hi hc=>by
  rw[du T.isA hk hj];have e:S N (fun m=>g (aS U k q j) i m*g A0 m c)=S N fun m=>(if i=k then g U k m-q*g U j m else g U i m)*g A0 m c:=aD fun m _=>by rw[du T.fK hk hj]
  rw[e];by_cases h:i=k
  . simp only[if_pos h];rw[T.ua k c hk hc,T.ua j c hj hc];have e2:S N (fun m=>(g U k m-q*g U j m)*g A0 m c)=S N fun m=>1*(g U k m*g A0 m c)-q*(g U j m*g A0 m c):=aD fun m _=>by grind
    rw[e2,AO];omega
  . simp only[if_neg h];exact T.ua i c hi hc
 ub:=fun i l hi hl=>by
  have e:S N (fun m=>g (aS U k q j) i m*g (aS C j (-q) k) l m)=S N fun m=>(if i=k then g U k m-q*g U j m else g U i m)*(if l=j then g C j m- -q*g C k m else g C l m):=aD fun m _=>by rw[du T.fK hk hj,du T.gg hj hk]
  rw[e];have djk:dl j k=0:=bE hkj;by_cases h:i=k
  . by_cases h2:l=j
    . simp only[if_pos h,if_pos h2];have e2:S N (fun m=>(g U k m-q*g U j m)*(g C j m- -q*g C k m))=S N fun m=>1*(1*(g U k m*g C j m)+q*(g U k m*g C k m))-q*(1*(g U j m*g C j m)+q*(g U j m*g C k m)):=aD fun m _=>by grind
      rw[e2,AO,uT,uT,T.ub k j hk hj,T.ub k k hk hk,T.ub j j hj hj,T.ub j k hj hk,h,h2,bF,bF,djk,nq k j,djk];omega
    . simp only[if_pos h,if_neg h2];have e2:S N (fun m=>(g U k m-q*g U j m)*g C l m)=S N fun m=>1*(g U k m*g C l m)-q*(g U j m*g C l m):=aD fun m _=>by grind
      rw[e2,AO,T.ub k l hk hl,T.ub j l hj hl,h,bE (Ne.symm h2)];omega
  . by_cases h2:l=j
    . simp only[if_neg h,if_pos h2];have e2:S N (fun m=>g U i m*(g C j m- -q*g C k m))=S N fun m=>1*(g U i m*g C j m)+q*(g U i m*g C k m):=aD fun m _=>by grind
      rw[e2,uT,T.ub i j hi hj,T.ub i k hi hk,h2,bE h];omega
    . simp only[if_neg h,if_neg h2];exact T.ub i l hi hl
 bu:=fun i l hi hl=>by
  have e:S N (fun m=>g (aS C j (-q) k) m i*g (aS U k q j) m l)=S N fun m=>g C m i*g U m l+((q*(g C k i*g U j l))*dl m j+(-(q*(g C k i*g U j l)))*dl m k):=aD fun m _=>by
   rw[du T.fK hk hj,du T.gg hj hk];by_cases h1:m=j
   . have h2:m≠k:=by omega
     rw[if_pos h1,if_neg h2,h1,bF,bE hkj];grind
   . rw[if_neg h1,bE h1];by_cases h2:m=k
     . rw[if_pos h2,h2,bF];grind
     . rw[if_neg h2,bE h2];grind
  rw[e,gJ,uT,T.bu i l hi hl]
  have e1:S N (fun c=>dl c j)=1:=by
   rw[jG hj fun i _ h=>bE h,bF]
  have e2:S N (fun c=>dl c k)=1:=by
   rw[jG hk fun i _ h=>bE h,bF]
  rw[e1,e2];omega
theorem zh{A:Rows}{k o i:Nat}(hk:k<A.length)(ho:o<A.length):(bz A k o).getD i []=A.getD (sw k o i) []:=by
 unfold bz;rw[lb (by rw[List.length_set];exact ho),lb hk];unfold sw;by_cases h1:i=k
 . rw[if_pos h1,if_pos h1];by_cases h2:i=o
   . rw[if_pos h2,<-h1,<-h2]
   . rw[if_neg h2]
 . rw[if_neg h1,if_neg h1];by_cases h2:i=o
   . rw[if_pos h2,if_pos h2]
   . rw[if_neg h2,if_neg h2]
theorem lg{A:Rows}{N w k o:Nat}(hA:aJ N w A)(hk:k<N)(ho:o<N):aJ N w (bz A k o):=by
 refine⟨by unfold bz;rw[List.length_set,List.length_set];exact hA.len,fun r hr=>?_⟩;unfold bz at hr;rcases List.mem_or_eq_of_mem_set hr with h|rfl
 . rcases List.mem_or_eq_of_mem_set h with h|rfl
   . exact hA.fN r h
   . exact cY hA ho
 . exact cY hA hk
theorem iP{A:Rows}{N w k o:Nat}(hA:aJ N w A)(hk:k<N)(ho:o<N)(i c:Nat):g (bz A k o) i c=g A (sw k o i) c:=by
 unfold g;rw[zh (by have:=hA.len;omega) (by have:=hA.len;omega)]
theorem mr{k o N i:Nat}(hk:k<N)(ho:o<N)(hi:i<N):sw k o i<N:=by unfold sw;split<;>(try split)<;>assumption
theorem Dm(k o x:Nat):sw k o (sw k o x)=x:=by
 unfold sw;by_cases h1:x=k
 . subst h1;rw[if_pos rfl];by_cases h2:o=x
   . rw[if_pos h2];exact h2
   . rw[if_neg h2,if_pos rfl]
 . rw[if_neg h1];by_cases h2:x=o
   . subst h2;rw[if_pos rfl,if_pos rfl]
   . rw[if_neg h2,if_neg h1,if_neg h2]
theorem LL{k o a b:Nat}:dl (sw k o a) (sw k o b)=dl a b:=by
 by_cases h:a=b
 . rw[h,bF,bF]
 . rw[bE h,bE fun z=>h (by rw[<-Dm k o a,<-Dm k o b,z])]
theorem HL(k x:Nat):sw k k x=x:=by
 unfold sw;by_cases h:x=k
 . rw[if_pos h,h]
 . rw[if_neg h,if_neg h]
theorem L5{n i j:Nat}(hi:i<n)(hj:j<n)(f:Nat->Int):S n (fun k=>f (sw i j k))=S n f:=by
 by_cases h:i=j
 . subst h;exact aD fun k _=>by rw[HL]
 . exact Na hi hj h f
theorem Tn.Gd{A0 A U C:Rows}{N w k o:Nat}(T:Tn A0 A U C N w)(hk:k<N)(ho:o<N):Tn A0 (bz A k o) (bz U k o) (bz C k o) N w where
 isA:=lg T.isA hk ho
 fK:=lg T.fK hk ho
 gg:=lg T.gg hk ho
 ua:=fun i c hi hc=>by
  rw[iP T.isA hk ho,T.ua _ c (mr hk ho hi) hc];exact aD fun m _=>by rw[iP T.fK hk ho]
 ub:=fun i j hi hj=>by
  rw[<-LL (k:=k) (o:=o),<-T.ub _ _ (mr hk ho hi) (mr hk ho hj)];exact aD fun m _=>by rw[iP T.fK hk ho,iP T.gg hk ho]
 bu:=fun i j hi hj=>by
  rw[<-T.bu i j hi hj,<-L5 hk ho fun m=>g C m i*g U m j];exact aD fun m _=>by rw[iP T.fK hk ho,iP T.gg hk ho]
def fO(A:Rows)(k:Nat):Rows:=A.set k ((A.getD k []).map fun x=> -x)
theorem o4{A:Rows}{N w k:Nat}(hA:aJ N w A)(hk:k<N):aJ N w (fO A k):=by
 refine⟨by unfold fO;rw[List.length_set];exact hA.len,fun r hr=>?_⟩;unfold fO at hr;rcases List.mem_or_eq_of_mem_set hr with h|rfl
 . exact hA.fN r h
 . rw[List.length_map];exact cY hA hk
theorem EZ(r:Row)(c:Nat):(r.map fun x=> -x).getD c 0= -r.getD c 0:=by
 rw[List.getD_eq_getElem?_getD,List.getD_eq_getElem?_getD,List.getElem?_map];cases r[c]?<;>rfl
theorem jw{A:Rows}{N w k:Nat}(hA:aJ N w A)(hk:k<N)(i c:Nat):g (fO A k) i c=if i=k then-g A k c else g A i c:=by
 unfold g fO;rw[lb (by have:=hA.len;omega)];by_cases h:i=k
 . rw[if_pos h,if_pos h,EZ]
 . rw[if_neg h,if_neg h]
theorem Tn.neg{A0 A U C:Rows}{N w k:Nat}(T:Tn A0 A U C N w)(hk:k<N):Tn A0 (fO A k) (fO U k) (fO C k) N w where
 isA:=o4 T.isA hk
 fK:=o4 T.fK hk
 gg:=o4 T.gg hk
 ua:=fun i c hi hc=>by
  rw[jw T.isA hk];by_cases h:i=k
  . rw[if_pos h,T.ua k c hk hc,<-uU];exact aD fun m _=>by rw[jw T.fK hk,if_pos h,Int.neg_mul]
  . rw[if_neg h,T.ua i c hi hc];exact aD fun m _=>by rw[jw T.fK hk,if_neg h]
 ub:=fun i j hi hj=>by
  have e:S N (fun m=>g (fO U k) i m*g (fO C k) j m)=S N fun m=>(if i=k then-1 else 1)*(if j=k then-1 else 1)*(g U i m*g C j m):=aD fun m _=>by
   rw[jw T.fK hk,jw T.gg hk];by_cases h1:i=k<;>by_cases h2:j=k<;>simp only[h1,h2,if_true,if_false]<;>grind
  rw[e,eh,T.ub i j hi hj];by_cases h1:i=k
  . by_cases h2:j=k
    . simp[h1,h2]
    . rw[bE (by omega)];simp
  . by_cases h2:j=k
    . rw[bE (by omega)];simp
    . simp[h1,h2]
 bu:=fun i j hi hj=>by
  rw[<-T.bu i j hi hj]
  exact aD fun m _=>by
   rw[jw T.fK hk,jw T.gg hk];by_cases h:m=k
   . subst h;rw[if_pos rfl,if_pos rfl];grind
   . rw[if_neg h,if_neg h]
structure jJ(A:Rows)(N top p:Nat)(L:List Nat):Prop where
 mem:∀k,k∈L↔top<=k/\k<N/\g A k p≠0
 ord:L.Pairwise fun i j=>(g A i p).natAbs<(g A j p).natAbs\/((g A i p).natAbs=(g A j p).natAbs/\i<j)
structure B3 where
 A:Rows
 U:Rows
 C:Rows
def qn(x y:Int):Int:=(2*x+y).fdiv (2*y)
def pL(b:B3)(p k j:Nat):B3:=⟨aS b.A k (qn (g b.A k p) (g b.A j p)) j,aS b.U k (qn (g b.A k p) (g b.A j p)) j,aS b.C j (-(qn (g b.A k p) (g b.A j p))) k⟩
def Ff(N top p:Nat)(b c:B3):Prop:=∃(L:List Nat) (k j:Nat),jJ b.A N top p (L++[j,k])/\c=pL b p k j
inductive fu(N top p:Nat):B3->B3->Prop
 |refl (b:B3):fu N top p b b
 |head {b c d:B3} (h:Ff N top p b c) (t:fu N top p c d):fu N top p b d
theorem fu.tail{N top p:Nat}{b c d:B3}(h:fu N top p b c)(t:Ff N top p c d):fu N top p b d:=by
 induction h with
 |refl b=>exact .head t (.refl _)
 |head x _ ih=>exact .head x (ih t)
def gD(X:Rows)(N top m:Nat):Prop:=∀i c,top<=i->i<N->(g X i c).natAbs<=m
theorem pA{x y:Int}(hy:y≠0):2*(x-qn x y*y).natAbs<=y.natAbs:=by
 unfold qn;have h1:=Int.mul_fdiv_add_fmod (2*x+y) (2*y);have h2:(2*x+y).fmod (2*y)=2*x+y-2*y*(2*x+y).fdiv (2*y):=by omega
 generalize(2*x+y).fdiv (2*y)=q at*;have e:2*(x-q*y)=(2*x+y).fmod (2*y)-y:=by rw[h2];grind
 rcases Int.lt_or_gt_of_ne hy with h|h
 . have a0:=Int.neg_fmod_neg (2*x+y) (2*y);have a1:=Int.fmod_nonneg_of_pos (-(2*x+y)) (show 0< -(2*y) by omega);have a2:=Int.fmod_lt_of_pos (-(2*x+y)) (show 0< -(2*y) by omega);omega
 . have a1:=Int.fmod_nonneg_of_pos (2*x+y) (show 0<2*y by omega);have a2:=Int.fmod_lt_of_pos (2*x+y) (show 0<2*y by omega);omega
theorem kl{X:Rows}{k j i:Nat}{q:Int}(hk:k<X.length)(h:i≠k):(aS X k q j).getD i []=X.getD i []:=by
 unfold aS;rw[lb hk,if_neg h]
structure qg(A0:Rows)(N w:Nat)(b:B3)(top p:Nat)(ld:Nat->Nat)(e u:Nat):Prop where
 tn:Tn A0 b.A b.U b.C N w
 le:top<=N
 lo:gD b.A N top (2^e)/\gD b.U N top (2^e)/\gD b.C N top (2^e)
 hi:∀i c,i<top->(g b.A i c).natAbs<=2^u/\(g b.U i c).natAbs<=2^u/\(g b.C i c).natAbs<=2^u
 zs:∀i c,top<=i->i<N->c<p->g b.A i c=0
 lead:∀i,i<top->ld i<p/\0<g b.A i (ld i)/\∀c,c<ld i->g b.A i c=0
 mono:∀i j,i<j->j<top->ld i<ld j
 red:∀i j,i<j->j<top->0<=g b.A i (ld j)/\g b.A i (ld j)<g b.A j (ld j)
def setB(b:B3)(p top r:Nat):B3:=
 if g (bz b.A top r) top p<0 then⟨fO (bz b.A top r) top,fO (bz b.U top r) top,fO (bz b.C top r) top⟩else⟨bz b.A top r,bz b.U top r,bz b.C top r⟩
theorem ui{X:Rows}{N w top r m:Nat}(hX:aJ N w X)(ht:top<N)(hr:r<N)(hrt:top<=r)(h:gD X N top m):gD (bz X top r) N top m:=fun i c hi hN=>by
 rw[iP hX ht hr];refine h _ c ?_ (mr ht hr hN);unfold sw;split
 . exact hrt
 . split
   . exact Nat.le_refl _
   . exact hi
theorem xZ{X:Rows}{N w top m:Nat}(hX:aJ N w X)(ht:top<N)(h:gD X N top m):gD (fO X top) N top m:=fun i c hi hN=>by
 rw[jw hX ht];split
 . rw[Int.natAbs_neg];exact h top c (Nat.le_refl _) ht
 . exact h i c hi hN
theorem tX{X:Rows}{N w top r i:Nat}(hX:aJ N w X)(ht:top<N)(hr:r<N)(hrt:top<=r)(hi:i<top):(bz X top r).getD i []=X.getD i []:=by
 rw[zh (by have:=hX.len;omega) (by have:=hX.len;omega)];unfold sw;rw[if_neg (by omega),if_neg (by omega)]
theorem x3{X:Rows}{N w top i:Nat}(hX:aJ N w X)(ht:top<N)(hi:i<top):(fO X top).getD i []=X.getD i []:=by
 unfold fO;rw[lb (by have:=hX.len;omega),if_neg (by omega)]
structure tP(A0:Rows)(N w top p m:Nat)(b0 b:B3):Prop where
 tn:Tn A0 b.A b.U b.C N w
 up:∀i,i<top->b.A.getD i []=b0.A.getD i []/\b.U.getD i []=b0.U.getD i []/\b.C.getD i []=b0.C.getD i []
 lo:gD b.A N top m/\gD b.U N top m/\gD b.C N top m
 zs:∀i c,top<=i->i<N->c<p->g b.A i c=0
 tp:0<g b.A top p
 z1:∀i,top<i->i<N->g b.A i p=0
def i4(p top:Nat):Nat->B3->B3
 |0,b=>b
 |k+1,b=>
  let c:=i4 p top k b
  ⟨aS c.A k ((g c.A k p).fdiv (g c.A top p)) top,aS c.U k ((g c.A k p).fdiv (g c.A top p)) top,aS c.C top (-((g c.A k p).fdiv (g c.A top p))) k⟩
theorem xH(a:Int){b:Int}(hb:0<b):(a.fdiv b).natAbs<=a.natAbs:=by
 have h1:=Int.mul_fdiv_add_fmod a b;have h2:=Int.fmod_nonneg_of_pos a hb;have h3:=Int.fmod_lt_of_pos a hb;generalize a.fdiv b=q at*;rcases Int.lt_trichotomy q 0 with h|h|h
 . have h4:0<=(b-1)*(-q-1):=Int.mul_nonneg (by omega) (by omega);have e:(b-1)*(-q-1)= -(b*q)-b+q+1:=by grind
   omega
 . subst h;simp
 . have:q<=b*q:=by
    have:0<=(b-1)*q:=Int.mul_nonneg (by omega) (by omega);grind
   omega
theorem zk{a b c:Nat}(h1:a<=2^c)(h2:b<=2^c):a+b<=2^(c+1):=by rw[Nat.pow_succ];omega
theorem Tn.start{A:Rows}{N w:Nat}(hA:aJ N w A):Tn A A (units N) (units N) N w where
 isA:=hA
 fK:=bP N
 gg:=bP N
 ua:=fun i c hi hc=>by
  rw[<-lV hi fun k=>g A k c];exact aD fun m hm=>by rw[cT hi hm]
 ub:=fun i j hi hj=>by
  rw[nq i j,<-lV hi fun k=>dl j k]
  . exact aD fun m hm=>by rw[cT hi hm,cT hj hm]
 bu:=fun i j hi hj=>by
  rw[<-jS hi fun k=>dl k j];exact aD fun m hm=>by rw[cT hm hi,cT hm hj,Int.mul_comm]
theorem qg.start{A:Rows}{N w e:Nat}(hA:aJ N w A)(h:gD A N 0 (2^e)):qg A N w ⟨A,units N,units N⟩ 0 0 (fun _=>0) e 0:=by
 have hu:gD (units N) N 0 (2^e):=fun i c _ hi=>by
  by_cases hc:c<N
  . rw[cT hi hc];unfold dl;split
    . exact Nat.one_le_two_pow
    . exact Nat.zero_le _
  . unfold g;rw[lE (l:=(units N).getD i []) (by rw[cY (bP N) hi];omega)];exact Nat.zero_le _
 exact⟨Tn.start hA,Nat.zero_le _,⟨h,hu,hu⟩,fun _ _ h=>absurd h (Nat.not_lt_zero _),fun _ _ _ _ h=>absurd h (Nat.not_lt_zero _),fun _ h=>absurd h (Nat.not_lt_zero _),fun _ _ _ h=>absurd h (Nat.not_lt_zero _),fun _ _ _ h=>absurd h (Nat.not_lt_zero _)⟩
def SU(f:Nat->Nat):Nat->Nat
 |0=>0
 |n+1=>SU f n+f n
theorem xt{f f':Nat->Nat}:∀ {n:Nat},(∀i,i<n->f' i<=f i)->SU f' n<=SU f n
 |0,_=>Nat.le_refl _
 |n+1,h=>Nat.add_le_add (xt fun i hi=>h i (Nat.lt_succ_of_lt hi)) (h n (Nat.lt_succ_self n))
theorem FP{f f':Nat->Nat}{k:Nat}(hlt:f' k<f k):∀ {n:Nat},k<n->(∀i,i<n->f' i<=f i)->SU f' n<SU f n
 |0,hk,_=>absurd hk (Nat.not_lt_zero _)
 |n+1,hk,h=>by
  by_cases e:k=n
  . subst e;exact Nat.add_lt_add_of_le_of_lt (xt fun i hi=>h i (Nat.lt_succ_of_lt hi)) hlt
  . exact Nat.add_lt_add_of_lt_of_le (FP hlt (by omega) fun i hi=>h i (Nat.lt_succ_of_lt hi)) (h n (Nat.lt_succ_self n))
def mu(A:Rows)(N p:Nat):Nat:=SU (fun i=>(g A i p).natAbs) N
inductive J_(N p:Nat):Nat->B3->Nat->B3->Prop
 |none {top:Nat} {b:B3} (h:jJ b.A N top p []):J_ N p top b top b
 |one {top r:Nat} {b c:B3} (h:fu N top p b c) (l:jJ c.A N top p [r]):J_ N p top b (top+1) (i4 p top top (setB c p top r))
inductive eA(A:Rows)(N:Nat):Nat->Nat->B3->Prop
 |start:eA A N 0 0 ⟨A,units N,units N⟩
 |next {p t t':Nat} {b b':B3} (h:eA A N p t b) (c:J_ N p t b t' b'):eA A N (p+1) t' b'
def aR(X:Rows)(n w:Nat)(v:Nat->Int):Prop:=∃z:Nat->Int,∀c,c<w->v c=S n fun k=>z k*g X k c
theorem aR.row{X:Rows}{n w k:Nat}(hk:k<n):aR X n w (g X k):=⟨fun i=>dl k i,fun c _=>(lV hk fun i=>g X i c).symm⟩
theorem aR.sub{X:Rows}{n w:Nat}{u v:Nat->Int}(hu:aR X n w u)(hv:aR X n w v):aR X n w fun c=>u c-v c:=by
 obtain⟨y,hy⟩:=hu;obtain⟨z,hz⟩:=hv;refine⟨fun k=>y k-z k,fun c hc=>?_⟩;show u c-v c=S n fun k=>(y k-z k)*g X k c;rw[hy c hc,hz c hc,Int.sub_eq_add_neg,<-uU,<-gJ];exact aD fun k _=>by rw[Int.sub_mul,Int.sub_eq_add_neg]
theorem aR.trans{X Y:Rows}{m n w:Nat}{v:Nat->Int}(h:∀k,k<m->aR Y n w (g X k))(hv:aR X m w v):aR Y n w v:=by
 obtain⟨z,hz⟩:=hv
 have h':∀k,∃y:Nat->Int,k<m->∀c,c<w->g X k c=S n fun i=>y i*g Y i c:=fun k=>by
  by_cases hk:k<m
  . obtain⟨y,hy⟩:=h k hk;exact⟨y,fun _=>hy⟩
  . exact⟨fun _=>0,fun h=>absurd h hk⟩
 refine⟨fun i=>S m fun k=>z k*Classical.choose (h' k) i,fun c hc=>?_⟩;rw[hz c hc]
 have e1:S m (fun k=>z k*g X k c)=S m fun k=>S n fun i=>z k*Classical.choose (h' k) i*g Y i c:=aD fun k hk=>by
  rw[Classical.choose_spec (h' k) hk c hc,<-eh];exact aD fun i _=>(Int.mul_assoc _ _ _).symm
 rw[e1,o_];exact aD fun i _=>qL _ _ _
structure fj(X:Rows)(n w:Nat)(ld:Nat->Nat):Prop where
 lead:∀i,i<n->ld i<w/\0<g X i (ld i)/\∀c,c<ld i->g X i c=0
 mono:∀i j,i<j->j<n->ld i<ld j
theorem fj.inj{X:Rows}{n w:Nat}{ld:Nat->Nat}(s:fj X n w ld){i j:Nat}(hi:i<n)(hj:j<n)(h:ld i=ld j):i=j:=by
 rcases Nat.lt_trichotomy i j with q|q|q
 . exact absurd h (Nat.ne_of_lt (s.mono i j q hj))
 . exact q
 . exact absurd h.symm (Nat.ne_of_lt (s.mono j i q hi))
theorem fj.gone{X:Rows}{n w q:Nat}{ld:Nat->Nat}{v z:Nat->Int}(s:fj X n w ld)(hz:∀c,c<w->v c=S n fun k=>z k*g X k c)(h0:∀c,c<q->v c=0)(k:Nat):k<n->ld k<q->z k=0:=by
 induction k using Nat.strongRecOn with
 |ind k ih=>
  intro hk hq;obtain⟨h1,h2,h3⟩:=s.lead k hk;have e:=hz (ld k) h1;rw[h0 _ hq,jG hk fun i hi ne=>?_]at e
  . exact(Int.mul_eq_zero.mp e.symm).resolve_right (Int.ne_of_gt h2)
  . rcases Nat.lt_or_gt_of_ne ne with l|l
    . rw[ih i l hi (Nat.lt_trans (s.mono i k l hk) hq),Int.zero_mul]
    . rw[(s.lead i hi).2.2 _ (s.mono k i l hi),Int.mul_zero]
theorem fj.at{X:Rows}{n w q:Nat}{ld:Nat->Nat}{v:Nat->Int}(s:fj X n w ld)(hv:aR X n w v)(hq:q<w)(h0:∀c,c<q->v c=0):(∃i,i<n/\ld i=q/\g X i q∣v q)\/v q=0:=by
 obtain⟨z,hz⟩:=hv
 have go:∀k,k<n->ld k≠q->z k*g X k q=0:=fun k hk ne=>by
  rcases Nat.lt_or_gt_of_ne ne with l|l
  . rw[s.gone hz h0 k hk l,Int.zero_mul]
  . rw[(s.lead k hk).2.2 _ l,Int.mul_zero]
 by_cases h:∃i,i<n/\ld i=q
 . obtain⟨i,hi,e⟩:=h;refine .inl ⟨i,hi,e,z i,?_⟩;rw[hz q hq,jG hi fun k hk ne=>go k hk fun z=>ne (s.inj hk hi (z.trans e.symm)),Int.mul_comm]
 . refine .inr ?_;rw[hz q hq];exact hV fun k hk=>go k hk fun e=>h ⟨k,hk,e⟩
def Eo(X:Rows)(n:Nat)(ld:Nat->Nat):Prop:=∀i j,i<j->j<n->0<=g X i (ld j)/\g X i (ld j)<g X j (ld j)
theorem tP.Fu{A0:Rows}{N w top p m:Nat}{b0 b:B3}(s:tP A0 N w top p m b0 b){i:Nat}(hi:i<top)(q:Nat):g b.A i q=g b0.A i q/\g b.U i q=g b0.U i q/\g b.C i q=g b0.C i q:=by
 obtain⟨a1,a2,a3⟩:=s.up i hi;unfold g;rw[a1,a2,a3];exact⟨rfl,rfl,rfl⟩
def Sm(b:B3)(N m:Nat):Prop:=∀i c,i<N->(g b.A i c).natAbs<=m/\(g b.U i c).natAbs<=m/\(g b.C i c).natAbs<=m
structure Ao(N p t z:Nat)(b:B3):Prop where
 ga:∀c,fu N t p b c->Sm c N (2^z)
 lo:∀c r k,fu N t p b c->jJ c.A N t p [r]->k<=t->Sm (i4 p t k (setB c p t r)) N (2^z)
theorem Lx{x y:Int}(hy:y≠0):(qn x y).natAbs<=x.natAbs+y.natAbs:=by
 have h:=pA (x:=x) hy;have h2:(qn x y*y).natAbs=(qn x y).natAbs*y.natAbs:=Int.natAbs_mul _ _;have h3:(qn x y).natAbs<=(qn x y).natAbs*y.natAbs:=Nat.le_mul_of_pos_right _ (Int.natAbs_pos.mpr hy);generalize qn x y*y=t at h h2;omega
def nl(A:Rows)(N t p:Nat):Nat:=SU (fun i=>if t<=i/\g A i p≠0 then 1 else 0) N
theorem AI{n:Nat}{f:Nat->Int}:∀ {N:Nat},n<=N->(∀i,n<=i->i<N->f i=0)->S N f=S n f
 |0,h,_=>by rw[Nat.le_zero.mp h]
 |N+1,h,z=>by
  by_cases e:n=N+1
  . rw[e]
  . have hn:n<=N:=by omega
    show S N f+f N=_;rw[z N hn (Nat.lt_succ_self N),Int.add_zero];exact AI hn fun i h1 h2=>z i h1 (Nat.lt_succ_of_lt h2)
theorem qg.in{A:Rows}{N w top e u:Nat}{c:B3}{ld:Nat->Nat}(s:qg A N w c top w ld e u)(k:Nat)(hk:k<top):aR A N w (g c.A k):=
 ⟨g c.U k,fun q hq=>s.tn.ua k q (Nat.lt_of_lt_of_le hk s.le) hq⟩
theorem qg.out{A:Rows}{N w top e u:Nat}{c:B3}{ld:Nat->Nat}(s:qg A N w c top w ld e u)(k:Nat)(hk:k<N):aR c.A top w (g A k):=by
 refine⟨fun i=>g c.C i k,fun q hq=>?_⟩
 have e1:S N (fun i=>g c.C i k*g c.A i q)=g A k q:=by
  have:S N (fun i=>g c.C i k*g c.A i q)=S N fun i=>S N fun j=>g c.C i k*g c.U i j*g A j q:=aD fun i hi=>by
   rw[s.tn.ua i q hi hq,<-eh];exact aD fun j _=>(Int.mul_assoc _ _ _).symm
  rw[this,o_]
  have e2:S N (fun j=>S N fun i=>g c.C i k*g c.U i j*g A j q)=S N fun j=>dl k j*g A j q:=aD fun j hj=>by
   rw[qL,s.tn.bu k j hk hj]
  rw[e2,lV hk fun j=>g A j q]
 rw[<-e1];exact AI s.le fun i h1 h2=>by rw[s.zs i q h1 h2 hq,Int.mul_zero]
theorem aR.ya{X:Rows}{n w:Nat}{u v:Nat->Int}(x:Int)(hu:aR X n w u)(hv:aR X n w v):aR X n w fun c=>u c+x*v c:=by
 obtain⟨y,hy⟩:=hu;obtain⟨z,hz⟩:=hv;refine⟨fun k=>y k+x*z k,fun c hc=>?_⟩;show u c+x*v c=S n fun k=>(y k+x*z k)*g X k c;rw[hy c hc,hz c hc,<-eh,<-gJ];exact aD fun k _=>by rw[Int.add_mul,Int.mul_assoc]
theorem aR.eq{X:Rows}{n w:Nat}{u v:Nat->Int}(hu:aR X n w u)(h:∀c,c<w->v c=u c):aR X n w v:=by
 obtain⟨y,hy⟩:=hu;exact⟨y,fun c hc=>(h c hc).trans (hy c hc)⟩
structure dE(X:Rows)(n:Nat)(Y:Rows)(m w:Nat):Prop where
 to:∀k,k<n->aR Y m w (g X k)
 of:∀k,k<m->aR X n w (g Y k)
theorem dE.refl(X:Rows)(n w:Nat):dE X n X n w:=⟨fun _ h=>aR.row h,fun _ h=>aR.row h⟩
theorem dE.trans{X Y Z:Rows}{n m l w:Nat}(h:dE X n Y m w)(h':dE Y m Z l w):dE X n Z l w:=
 ⟨fun k hk=>aR.trans h'.to (h.to k hk),fun k hk=>aR.trans h.of (h'.of k hk)⟩
theorem dE.add{X Y:Rows}{n w k o:Nat}{x:Int}(hk:k<n)(ho:o<n)(hko:k≠o)(e:∀q,q<w->g Y k q=g X k q+x*g X o q)(h:∀i q,i<n->i≠k->q<w->g Y i q=g X i q):dE X n Y n w:=by
 refine⟨fun i hi=>?_,fun i hi=>?_⟩
 . by_cases hik:i=k
   . subst hik;refine((aR.row hk).ya (-x) (aR.row ho)).eq fun q hq=>?_;rw[e q hq,h o q ho (Ne.symm hko) hq,Int.neg_mul];omega
   . exact(aR.row hi).eq fun q hq=>(h i q hi hik hq).symm
 . by_cases hik:i=k
   . subst hik;exact((aR.row hk).ya x (aR.row ho)).eq e
   . exact(aR.row hi).eq fun q hq=>h i q hi hik hq
theorem dE.perm{X Y:Rows}{n w:Nat}{f:Nat->Nat}(hf:∀i,i<n->f i<n)(hff:∀i,f (f i)=i)(e:∀i q,i<n->q<w->g Y i q=g X (f i) q):dE X n Y n w:=
 ⟨fun i hi=>(aR.row (hf i hi)).eq fun q hq=>by rw[e (f i) q (hf i hi) hq,hff],fun i hi=>(aR.row (hf i hi)).eq fun q hq=>e i q hi hq⟩
theorem dE.neg{X Y:Rows}{n w k:Nat}(hk:k<n)(e:∀q,q<w->g Y k q= -g X k q)(h:∀i q,i<n->i≠k->q<w->g Y i q=g X i q):dE X n Y n w:=by
 have ng:∀ {Z:Rows} {u:Nat->Int},aR Z n w u->aR Z n w fun q=> -u q:=fun{Z u} hu=>(hu.ya (-2) hu).eq fun q _=>by omega
 refine⟨fun i hi=>?_,fun i hi=>?_⟩
 . by_cases hik:i=k
   . subst hik;exact(ng (aR.row hk)).eq fun q hq=>by rw[e q hq,Int.neg_neg]
   . exact(aR.row hi).eq fun q hq=>(h i q hi hik hq).symm
 . by_cases hik:i=k
   . subst hik;exact(ng (aR.row hk)).eq e
   . exact(aR.row hi).eq fun q hq=>h i q hi hik hq
theorem aR.zero{X:Rows}{n w:Nat}{v:Nat->Int}(h:∀c,c<w->v c=0):aR X n w v:=
 ⟨fun _=>0,fun c hc=>by rw[h c hc,hV fun k _=>Int.zero_mul _]⟩
theorem qg.Ax{A:Rows}{N w top e u:Nat}{c:B3}{ld:Nat->Nat}(s:qg A N w c top w ld e u):dE A N c.A top w:=⟨s.out,s.in⟩
structure ku(A:Rows)(N w M:Nat)(X:Rows)(m:Nat):Prop where
 is:aJ m w X
 lo:1<=m
 hi:m<=8
 bd:∀r∈X,∀x∈r,x.natAbs<=M
 same:dE A N X m w
theorem ku.more{A X:Rows}{N w M M' m:Nat}(h:ku A N w M X m)(l:M<=M'):ku A N w M' X m:=⟨h.is,h.lo,h.hi,fun r hr x hx=>Nat.le_trans (h.bd r hr x hx) l,h.same⟩
theorem ku.mem{A X:Rows}{N w M m k:Nat}(h:ku A N w M X m)(hk:k<m):X.getD k []∈X:=by
 rw[a7 (by rw[h.is.len];exact hk)];exact List.getElem_mem _
theorem En{M:Nat}{r s:Row}{c:Int}(hr:∀x∈r,x.natAbs<=M)(hs:∀x∈s,x.natAbs<=M)(hc:c.natAbs<=7):∀x∈f9 r c s,x.natAbs<=M*8:=fun x hx=>by
 unfold f9 at hx;obtain⟨k,hk,e⟩:=List.mem_iff_getElem.mp hx;rw[List.getElem_zipWith]at e;rw[List.length_zipWith]at hk;have h1:=hr _ (List.getElem_mem (Nat.lt_of_lt_of_le hk (Nat.min_le_left _ _)));have h2:=hs _ (List.getElem_mem (Nat.lt_of_lt_of_le hk (Nat.min_le_right _ _)));rw[<-e];refine Nat.le_trans (Int.natAbs_add_le _ _) ?_;rw[Int.natAbs_mul];have:=Nat.mul_le_mul hc h2;omega
theorem ku.put{A X:Rows}{N w M M' m k:Nat}{r:Row}(h:ku A N w M X m)(l:M<=M')(hr:r.length=w)(hb:∀x∈r,x.natAbs<=M')(s:dE X m (X.set k r) m w):ku A N w M' (X.set k r) m:=
 ⟨y9 h.is hr,h.lo,h.hi,fun q hq x hx=>(List.mem_or_eq_of_mem_set hq).elim (fun z=>Nat.le_trans (h.bd q z x hx) l) (fun z=>hb x (z▸hx)),h.same.trans s⟩
theorem ku.add{A X:Rows}{N w M m k o:Nat}{c:Int}(h:ku A N w M X m)(hk:k<m)(ho:o<m)(hko:k≠o)(hc:c.natAbs<=7):ku A N w (M*8) (X.set k (f9 (X.getD k []) c (X.getD o []))) m:=by
 have lX:k<X.length:=by rw[h.is.len];exact hk
 have e:(X.getD k []).length=(X.getD o []).length:=(h.is.row hk).trans (h.is.row ho).symm;refine h.put (Nat.le_mul_of_pos_right _ (by decide)) (by rw[nD e];exact h.is.row hk) (En (h.bd _ (h.mem hk)) (h.bd _ (h.mem ho)) hc) (dE.add (x:=c) hk ho hko (fun q _=>?_) fun i q _ hi _=>?_)
 . rw[oW lX,if_pos rfl,vE e];rfl
 . rw[oW lX,if_neg hi]
theorem ku.neg{A X:Rows}{N w M m k:Nat}(h:ku A N w M X m)(hk:k<m):ku A N w M (X.set k ((X.getD k []).map fun x=> -x)) m:=by
 have lX:k<X.length:=by rw[h.is.len];exact hk
 refine h.put (Nat.le_refl _) (by rw[List.length_map];exact h.is.row hk) (fun x hx=>?_) (dE.neg hk (fun q _=>?_) fun i q _ hi _=>?_)
 . obtain⟨y,hy,rfl⟩:=List.mem_map.mp hx;rw[Int.natAbs_neg];exact h.bd _ (h.mem hk) y hy
 . rw[oW lX,if_pos rfl];unfold g;generalize X.getD k []=r;rw[List.getD_eq_getElem?_getD,List.getElem?_map,List.getD_eq_getElem?_getD];cases r[q]?<;>rfl
 . rw[oW lX,if_neg hi]
theorem ku.swap{A X:Rows}{N w M m k o:Nat}(h:ku A N w M X m)(hk:k<m)(ho:o<m):ku A N w M ((X.set k (X.getD o [])).set o (X.getD k [])) m:=by
 have lX:k<X.length:=by rw[h.is.len];exact hk
 have lo:o<(X.set k (X.getD o [])).length:=by rw[List.length_set,h.is.len];exact ho
 refine⟨y9 (y9 h.is (h.is.row ho)) (h.is.row hk),h.lo,h.hi,fun q hq x hx=>?_,h.same.trans (dE.perm (f:=fun i=>if i=o then k else if i=k then o else i) (fun i hi=>?_) (fun i=>?_) fun i q _ _=>?_)⟩
 . rcases List.mem_or_eq_of_mem_set hq with z|z
   . rcases List.mem_or_eq_of_mem_set z with z|z
     . exact h.bd q z x hx
     . exact h.bd _ (h.mem ho) x (z▸hx)
   . exact h.bd _ (h.mem hk) x (z▸hx)
 . show(if i=o then k else if i=k then o else i)<m;split
   . exact hk
   . split
     . exact ho
     . exact hi
 . show(if(if i=o then k else if i=k then o else i)=o then k else if(if i=o then k else if i=k then o else i)=k then o else(if i=o then k else if i=k then o else i))=i;by_cases h1:i=o
   . rw[if_pos h1,if_pos rfl];split
     . rename_i z;rw[z,h1]
     . exact h1.symm
   . rw[if_neg h1];by_cases h2:i=k
     . rw[if_pos h2,if_pos rfl];exact h2.symm
     . rw[if_neg h2,if_neg h1,if_neg h2]
 . show _=g X (if i=o then k else if i=k then o else i) q;rw[oW lo,oW lX];split
   . rfl
   . split<;>rfl
theorem sx{X:Rows}{r:Row}{k:Nat}(hk:k<=X.length)(i:Nat):(X.take k++r::X.drop k).getD i []=if i<k then X.getD i []else if i=k then r else X.getD (i-1) []:=by
 have lt:(X.take k).length=k:=by rw[List.length_take];omega
 rw[List.getD_eq_getElem?_getD,List.getD_eq_getElem?_getD,List.getD_eq_getElem?_getD];by_cases h:i<k
 . rw[if_pos h,List.getElem?_append_left (by rw[lt];exact h),List.getElem?_take_of_lt h]
 . rw[if_neg h,List.getElem?_append_right (by rw[lt];omega),lt];by_cases h2:i=k
   . rw[if_pos h2,h2,Nat.sub_self];rfl
   . rw[if_neg h2];have:i-k=(i-1-k)+1:=by omega
     rw[this,List.getElem?_cons_succ,List.getElem?_drop];congr 2;omega
theorem CG{K m:Nat}:∀ {n:Nat} {M:Fn},n<=K->(∀r c,r<n->c<n->(M r c).natAbs<=m)->(D n M).natAbs<=(K*m)^n
 |0,_,_,_=>by simp[D]
 |n+1,M,hn,h=>by
  rw[dw]
  have key:∀j,j<n+1->(sg j*M 0 j*D n fun r c=>M (r+1) (sk j c)).natAbs<=m*(K*m)^n:=fun j hj=>by
   have a:=CG (K:=K) (m:=m) (n:=n) (M:=fun r c=>M (r+1) (sk j c)) (by omega) fun r c hr hc=>h (r+1) (sk j c) (by omega) (j7 hc);have b:=h 0 j (by omega) hj;have s:(sg j).natAbs=1:=by unfold sg;split<;>rfl
   rw[Int.natAbs_mul,Int.natAbs_mul,s,Nat.one_mul];exact Nat.mul_le_mul b a
  refine Nat.le_trans (xF key) ?_;rw[Nat.pow_succ,Nat.mul_comm ((K*m)^n),Nat.mul_assoc];exact Nat.mul_le_mul_right _ hn
theorem pick{t N:Nat}{U B:Fn}(h:∀k l,k<t->l<t->S N (fun i=>U k i*B i l)=dl k l):∃I:Nat->Nat,(∀k,k<t->I k<N)/\D t (fun k l=>B (I k) l)≠0:=by
 apply Classical.byContradiction;intro no
 have go:∀s,s<=t->∀I:Nat->Nat,(∀k,k<t->s<=k->I k<N)->D t (fun k l=>if k<s then dl k l else B (I k) l)=0:=by
  intro s;induction s with
  |zero=>
   intro _ I hI;exact Classical.byContradiction fun z=>no ⟨I,fun k hk=>hI k hk (Nat.zero_le _),z⟩
  |succ s ih=>
   intro hs I hI
   have e:D t (fun k l=>if k<s+1 then dl k l else B (I k) l)=D t (upd (fun k l=>if k<s then dl k l else B (I k) l) s fun l=>S N fun j=>U s j*B j l):=cD fun k l hk hl=>by
    unfold upd;by_cases h1:k=s
    . subst h1;rw[if_pos rfl,if_pos (Nat.lt_succ_self _)];exact(h k l hk hl).symm
    . rw[if_neg h1];show _=if k<s then dl k l else B (I k) l
      by_cases h2:k<s
      . rw[if_pos (by omega),if_pos h2]
      . rw[if_neg (by omega),if_neg h2]
   rw[e,(om t).rP (by omega)];refine hV fun j hj=>?_
   have e2:=ih (by omega) (fun k=>if k=s then j else I k) fun k hk hsk=>by
    by_cases h1:k=s
    . rw[if_pos h1];exact hj
    . rw[if_neg h1];exact hI k hk (by omega)
   have e3:D t (upd (fun k l=>if k<s then dl k l else B (I k) l) s (B j))=D t (fun k l=>if k<s then dl k l else B (if k=s then j else I k) l):=cD fun k l hk hl=>by
    unfold upd;by_cases h1:k=s
    . subst h1;rw[if_pos rfl,if_neg (Nat.lt_irrefl _),if_pos rfl]
    . rw[if_neg h1,if_neg h1]
   rw[e3,e2,Int.mul_zero]
 have z:=go t (Nat.le_refl _) (fun _=>0) fun k h1 h2=>absurd h1 (Nat.not_lt.mpr h2);rw[cD (M':=dl) fun r c hr hc=>if_pos hr,vi]at z;exact absurd z (by decide)
theorem l8:∀ {n:Nat} {f:Nat->Int},(∀i,i<n->0<f i)->0<Pr n f
 |0,_,_=>show(0:Int)<1 by decide
 |n+1,f,h=>Int.mul_pos (l8 fun i hi=>h i (Nat.lt_succ_of_lt hi)) (h n (Nat.lt_succ_self n))
theorem xk:∀ {n:Nat} {f:Nat->Int},(∀i,i<n->0<f i)->∀k,k<n->f k<=Pr n f
 |n+1,f,h,k,hk=>by
  have p:=l8 fun i hi=>h i (Nat.lt_succ_of_lt hi);have q:=h n (Nat.lt_succ_self n);show f k<=Pr n f*f n;by_cases e:k=n
  . subst e;have:=Int.mul_le_mul_of_nonneg_right (show(1:Int)<=Pr k f from p) (Int.le_of_lt q);omega
  . have a:=xk (fun i hi=>h i (Nat.lt_succ_of_lt hi)) k (by omega);have:=Int.mul_le_mul_of_nonneg_left (show(1:Int)<=f n from q) (Int.le_of_lt p);omega
theorem Av{w x:Int}{m:Nat}(hw:w≠0)(h:(w*x).natAbs<=m):x.natAbs<=m:=by
 rw[Int.natAbs_mul]at h;exact Nat.le_trans (Nat.le_mul_of_pos_left _ (by omega)) h
theorem qg.back{A0:Rows}{N w top e u:Nat}{c:B3}{ld:Nat->Nat}(H:qg A0 N w c top w ld e u){i q:Nat}(hi:i<N)(hq:q<w):g A0 i q=S top fun k=>g c.C k i*g c.A k q:=by
 have T:=H.tn
 have e1:S N (fun k=>g c.C k i*g c.A k q)=g A0 i q:=by
  have:S N (fun k=>g c.C k i*g c.A k q)=S N fun k=>S N fun m=>g c.C k i*g c.U k m*g A0 m q:=aD fun k hk=>by
   rw[T.ua k q hk hq,<-eh];exact aD fun m _=>(Int.mul_assoc _ _ _).symm
  rw[this,o_];have:(S N fun m=>S N fun k=>g c.C k i*g c.U k m*g A0 m q)=S N fun m=>dl i m*g A0 m q:=aD fun m hm=>by rw[qL,T.bu i m hi hm]
  rw[this,lV hi]
 have cut:∀n,top<=n->n<=N->S n (fun k=>g c.C k i*g c.A k q)=S top fun k=>g c.C k i*g c.A k q:=fun n=>by
  induction n with
  |zero=>intro h _;rw[Nat.le_zero.mp h]
  |succ n ih=>
   intro h h2;by_cases e:top=n+1
   . rw[e]
   . show S n _+g c.C n i*g c.A n q=_;rw[ih (by omega) (by omega),H.zs n q (by omega) (by omega) hq,Int.mul_zero,Int.add_zero]
 rw[<-e1,cut N H.le (Nat.le_refl _)]
structure eD(A0:Rows)(N w:Nat)(b:B3)(top p:Nat)(ld:Nat->Nat)(e u v:Nat):Prop where
 tn:Tn A0 b.A b.U b.C N w
 le:top<=N
 lo:gD b.A N top (2^e)/\gD b.U N top (2^e)/\gD b.C N top (2^e)
 hi:∀i c,i<top->(g b.A i c).natAbs<=2^u/\(g b.U i c).natAbs<=2^u/\(g b.C i c).natAbs<=2^v
 zs:∀i c,top<=i->i<N->c<p->g b.A i c=0
 lead:∀i,i<top->ld i<p/\0<g b.A i (ld i)/\∀c,c<ld i->g b.A i c=0
 mono:∀i j,i<j->j<top->ld i<ld j
 red:∀i j,i<j->j<top->0<=g b.A i (ld j)/\g b.A i (ld j)<g b.A j (ld j)
theorem eD.skip{A0:Rows}{N w top p e u v:Nat}{b:B3}{ld:Nat->Nat}(S:eD A0 N w b top p ld e u v)(h:jJ b.A N top p []):eD A0 N w b top (p+1) ld e u v:=
 ⟨S.tn,S.le,S.lo,S.hi,fun i c h1 h2 h3=>by
  by_cases hc:c=p
  . subst hc;exact Classical.byContradiction fun z=>absurd ((h.mem i).mpr ⟨h1,h2,z⟩) (by simp)
  . exact S.zs i c h1 h2 (by omega),fun i hi=>⟨Nat.lt_succ_of_lt (S.lead i hi).1,(S.lead i hi).2⟩,S.mono,S.red⟩
structure lL(A0:Rows)(N w top p e u v:Nat)(b:B3)(k:Nat)(c:B3):Prop where
 tn:Tn A0 c.A c.U c.C N w
 rA:∀i,k<=i->c.A.getD i []=b.A.getD i []/\c.U.getD i []=b.U.getD i []
 rC:∀i,i≠top->c.C.getD i []=b.C.getD i []
 ah:∀i q,i<k->q<p->g c.A i q=g b.A i q
 rd:∀i,i<k->0<=g c.A i p/\g c.A i p<g c.A top p
 sz:∀i q,i<k->(g c.A i q).natAbs<=2^(u+e+1)/\(g c.U i q).natAbs<=2^(u+e+1)
 sC:∀q,(g c.C top q).natAbs<=2^e+k*2^(u+v)
theorem lL.step{A0:Rows}{N w top p e u v k:Nat}{b c:B3}(I:lL A0 N w top p e u v b k c)(hk:k<top)(ht:top<N)(hp:p<w)(htp:0<g b.A top p)(hz:∀q,q<p->g b.A top q=0)
 (hlo:∀q,(g b.A top q).natAbs<=2^e/\(g b.U top q).natAbs<=2^e) (hhi:∀i q,i<top->(g b.A i q).natAbs<=2^u/\(g b.U i q).natAbs<=2^u/\(g b.C i q).natAbs<=2^v):
 lL A0 N w top p e u v b (k+1) ⟨aS c.A k ((g c.A k p).fdiv (g c.A top p)) top,aS c.U k ((g c.A k p).fdiv (g c.A top p)) top,aS c.C top (-((g c.A k p).fdiv (g c.A top p))) k⟩:=by
 have hkN:k<N:=by omega
 have gA:∀i q,k<=i->g c.A i q=g b.A i q:=fun i q hi=>by unfold g;rw[(I.rA i hi).1]
 have gU:∀i q,k<=i->g c.U i q=g b.U i q:=fun i q hi=>by unfold g;rw[(I.rA i hi).2]
 have gC:∀i q,i≠top->g c.C i q=g b.C i q:=fun i q hi=>by unfold g;rw[I.rC i hi]
 have qe:((g c.A k p).fdiv (g c.A top p)).natAbs<=2^u:=by
  rw[gA k p (Nat.le_refl _),gA top p (by omega)];exact Nat.le_trans (xH _ htp) (hhi k p hk).1
 have hq:∀x:Int,x.natAbs<=2^e->((g c.A k p).fdiv (g c.A top p)*x).natAbs<=2^(u+e):=fun x hx=>by
  rw[Int.natAbs_mul,Nat.pow_add];exact Nat.mul_le_mul qe hx
 have le1:2^u<=2^(u+e):=Nat.pow_le_pow_right (by decide) (by omega);refine⟨I.tn.take hkN ht (by omega),fun i hi=>?_,fun i hi=>?_,fun i q hi hqp=>?_,fun i hi=>?_,fun i q hi=>?_,fun q=>?_⟩
 . exact⟨(kl (by rw[I.tn.isA.len];exact hkN) (by omega)).trans (I.rA i (by omega)).1,(kl (by rw[I.tn.fK.len];exact hkN) (by omega)).trans (I.rA i (by omega)).2⟩
 . exact(kl (by rw[I.tn.gg.len];exact ht) hi).trans (I.rC i hi)
 . show g (aS c.A k _ top) i q=_;rw[du I.tn.isA hkN ht];split
   . rename_i h;rw[gA top q (by omega),hz q hqp,Int.mul_zero,gA k q (Nat.le_refl _),h];omega
   . exact I.ah i q (by omega) hqp
 . show 0<=g (aS c.A k _ top) i p/\g (aS c.A k _ top) i p<g (aS c.A k _ top) top p;rw[du I.tn.isA hkN ht,du I.tn.isA hkN ht,if_neg (show¬top=k by omega)];split
   . have h1:=Int.mul_fdiv_add_fmod (g c.A k p) (g c.A top p);have htp':0<g c.A top p:=by rw[gA top p (by omega)];exact htp
     have h2:=Int.fmod_nonneg_of_pos (g c.A k p) htp';have h3:=Int.fmod_lt_of_pos (g c.A k p) htp';rw[Int.mul_comm]at h1;omega
   . exact I.rd i (by omega)
 . show(g (aS c.A k _ top) i q).natAbs<=_/\(g (aS c.U k _ top) i q).natAbs<=_;rw[du I.tn.isA hkN ht,du I.tn.fK hkN ht];split
   . have a1:=hq (g c.A top q) (by rw[gA top q (by omega)];exact(hlo q).1);have a2:=hq (g c.U top q) (by rw[gU top q (by omega)];exact(hlo q).2);rw[gA k q (Nat.le_refl _),gU k q (Nat.le_refl _)];have b1:=(hhi k q hk).1;have b2:=(hhi k q hk).2.1;rw[Nat.pow_succ];omega
   . exact I.sz i q (by omega)
 . show(g (aS c.C top _ k) top q).natAbs<=_;rw[du I.tn.gg ht hkN,if_pos rfl,gC k q (by omega),Int.neg_mul];have a1:=I.sC q
   have a2:((g c.A k p).fdiv (g c.A top p)*g b.C k q).natAbs<=2^(u+v):=by
    rw[Int.natAbs_mul,Nat.pow_add];exact Nat.mul_le_mul qe (hhi k q hk).2.2
   rw[Nat.add_mul,Nat.one_mul];omega
theorem lL.start{A0:Rows}{N w top p e u v:Nat}{b:B3}(T:Tn A0 b.A b.U b.C N w)(h:∀q,(g b.C top q).natAbs<=2^e):lL A0 N w top p e u v b 0 b:=
 ⟨T,fun _ _=>⟨rfl,rfl⟩,fun _ _=>rfl,fun _ _ h=>absurd h (Nat.not_lt_zero _),fun _ h=>absurd h (Nat.not_lt_zero _),fun _ _ h=>absurd h (Nat.not_lt_zero _),fun q=>by rw[Nat.zero_mul];exact h q⟩
theorem eD.start{A:Rows}{N w e:Nat}(hA:aJ N w A)(h:gD A N 0 (2^e)):eD A N w ⟨A,units N,units N⟩ 0 0 (fun _=>0) e 0 0:=by
 have S:=qg.start hA h;exact⟨S.tn,S.le,S.lo,S.hi,S.zs,S.lead,S.mono,S.red⟩
theorem eD.BE{A0:Rows}{N w top p e u v:Nat}{b:B3}{ld:Nat->Nat}(S:eD A0 N w b top p ld e u v):qg A0 N w b top p ld e (u+v):=
 ⟨S.tn,S.le,S.lo,fun i c hi=>⟨Nat.le_trans (S.hi i c hi).1 (Nat.pow_le_pow_right (by decide) (by omega)),Nat.le_trans (S.hi i c hi).2.1 (Nat.pow_le_pow_right (by decide) (by omega)),Nat.le_trans (S.hi i c hi).2.2 (Nat.pow_le_pow_right (by decide) (by omega))⟩,S.zs,S.lead,S.mono,S.red⟩
theorem eD.zH{A0:Rows}{N w top p e u v:Nat}{b:B3}{ld:Nat->Nat}(S:eD A0 N w b top p ld e u v):top<=p:=by
 have go:∀i,i<top->i<=ld i:=fun i=>by
  induction i with
  |zero=>intro _;exact Nat.zero_le _
  |succ i ih=>
   intro h;have:=ih (by omega);have:=S.mono i (i+1) (by omega) h;omega
 rcases Nat.eq_zero_or_pos top with z|z
 . omega
 . have h1:=go (top-1) (by omega);have h2:=(S.lead (top-1) (by omega)).1;omega
theorem aR.smul{X:Rows}{n w:Nat}{v:Nat->Int}(x:Int)(h:aR X n w v):aR X n w fun c=>x*v c:=
 ((aR.zero (v:=fun _=>0) fun _ _=>rfl).ya x h).eq fun c _=>(Int.zero_add _).symm
structure qj(F:Rows)(w:Nat)(ld:Nat->Nat)(row:Nat->Int)(i:Nat)(o:Int)(L:Nat->Int):Prop where
 pos:0<o
 sum:aR F i w fun c=>o*row c-L c
 off:∀k,k<i->L (ld k)=0
 least:∀(m:Int) (v:Nat->Int),aR F i w v->(∀k,k<i->m*row (ld k)=v (ld k))->o∣m
theorem fj.KW{F:Rows}{n w:Nat}{ld:Nat->Nat}{v:Nat->Int}(s:fj F n w ld)(hv:aR F n w v)(h:∀k,k<n->0<=v (ld k)/\v (ld k)<g F k (ld k))(c:Nat):c<w->v c=0:=by
 induction c using Nat.strongRecOn with
 |ind c ih=>
  intro hc;rcases s.at hv hc fun d hd=>ih d hd (Nat.lt_trans hd hc)with⟨k,hk,rfl,d⟩|q
  . have:=h k hk;exact Int.eq_zero_of_dvd_of_natAbs_lt_natAbs d (by omega)
  . exact q
def FX(F:Rows)(i:Nat):Nat:=(F.getD i []).findIdx (fun x=>x != 0)
section
variable {F:Rows}{r:Row}{m w:Nat}(isF:aJ m w F)(lr:r.length=w)
include isF lr
end
def wo:Int->Int->List Rat->Row->Int×Int
 |T,B,p::ps,n::r=>wo (T*p.den+p.num*n*B) (B*p.den) ps r
 |T,B,_,_=>(T,B)
theorem vc(a:Nat)(f:Nat->Int):∀b,S (a+b) f=S a f+S b fun i=>f (a+i)
 |0=>(Int.add_zero _).symm
 |b+1=>by
  show S (a+b) f+f (a+b)=S a f+(S b (fun i=>f (a+i))+f (a+b));rw[vc a f b,Int.add_assoc]
theorem fj.Ct{X:Rows}{n w:Nat}{ld:Nat->Nat}{v z:Nat->Int}(s:fj X n w ld)(hz:∀c,c<w->v c=S n fun k=>z k*g X k c){j:Nat}(hj:j<=n)(h0:∀l,l<j->v (ld l)=0)(l:Nat):l<j->z l=0:=by
 induction l using Nat.strongRecOn with
 |_ l ih=>
  intro hl;obtain⟨h1,h2,_⟩:=s.lead l (by omega);have e:=hz _ h1
  rw[h0 l hl,jG (k:=l) (by omega) fun k hk hne=>by
   rcases Nat.lt_or_gt_of_ne hne with q|q
   . rw[ih k q (by omega),Int.zero_mul]
   . rw[(s.lead k hk).2.2 _ (s.mono l k q hk),Int.mul_zero]]at e
  rcases Int.mul_eq_zero.mp e.symm with q|q
  . exact q
  . omega
theorem fj.N6{X:Rows}{n w:Nat}{ld:Nat->Nat}{v z:Nat->Int}(s:fj X n w ld)(hz:∀c,c<w->v c=S n fun k=>z k*g X k c){j:Nat}(hj:j<n)(h0:∀l,l<j->v (ld l)=0):v (ld j)=z j*g X j (ld j):=by
 obtain⟨h1,h2,_⟩:=s.lead j hj;rw[hz _ h1]
 exact jG hj fun k hk hne=>by
  rcases Nat.lt_or_gt_of_ne hne with q|q
  . rw[s.Ct hz (Nat.le_of_lt hj) h0 k q,Int.zero_mul]
  . rw[(s.lead k hk).2.2 _ (s.mono j k q hk),Int.mul_zero]
theorem fj.nil{X:Rows}{n w:Nat}{ld:Nat->Nat}{v:Nat->Int}(s:fj X n w ld)(hv:aR X n w v)(h0:∀l,l<n->v (ld l)=0)(c:Nat)(hc:c<w):v c=0:=by
 obtain⟨z,hz⟩:=hv;rw[hz c hc];exact hV fun k hk=>by rw[s.Ct hz (Nat.le_refl n) h0 k hk,Int.zero_mul]
theorem aR.kZ{X:Rows}{n w:Nat}{u v:Nat->Int}(a:Int)(hu:aR X n w u)(hv:aR X n w v):aR X n w fun c=>u c+a*v c:=by
 obtain⟨y,hy⟩:=hu;obtain⟨z,hz⟩:=hv;refine⟨fun k=>y k+a*z k,fun c hc=>?_⟩;show u c+a*v c=S n fun k=>(y k+a*z k)*g X k c;rw[hy c hc,hz c hc,<-eh,<-gJ];exact aD fun k _=>by rw[Int.add_mul,Int.mul_assoc]
theorem aR.comb{X:Rows}{n w:Nat}{a:Nat->Int}{v:Nat->Nat->Int}:∀ {m:Nat},(∀l,l<m->aR X n w (v l))->aR X n w fun c=>S m fun l=>a l*v l c
 |0,_=>⟨fun _=>0,fun c _=>(hV fun k _=>Int.zero_mul _).symm⟩
 |m+1,h=>aR.kZ (a m) (aR.comb (m:=m) fun l hl=>h l (by omega)) (h m (Nat.lt_succ_self m))
theorem NU{X:Rows}{n w M:Nat}{ld:Nat->Nat}{d:Int}{v:Nat->Nat->Int}(s:fj X n w ld)(r:Eo X n ld)(hd:d≠0)(hv:∀l,l<n->aR X n w (v l))(hl:∀l j,l<n->j<n->v l (ld j)=d*dl l j)(hb:∀l c,l<n->c<w->(v l c).natAbs<=M):∀i c,i<n->c<w->(g X i c).natAbs<=n*M:=fun i c hi hc=>by
 have le:∀j,j<n->(g X j (ld j)).natAbs<=d.natAbs:=fun j hj=>by
  obtain⟨z,hz⟩:=hv j hj;have e:=s.N6 hz hj fun l h=>by rw[hl j l hj (by omega),bE (by omega),Int.mul_zero]
  rw[hl j j hj hj,bF,Int.mul_one]at e;rw[e,Int.natAbs_mul];refine Nat.le_mul_of_pos_left _ (Int.natAbs_pos.mpr fun q=>hd ?_);rw[e,q,Int.zero_mul]
 have bd:∀l,l<n->(g X i (ld l)).natAbs<=d.natAbs:=fun l h=>by
  have h1:=le l h;rcases Nat.lt_trichotomy i l with q|q|q
  . have:=r i l q h;omega
  . rw[q];exact h1
  . rw[(s.lead i hi).2.2 _ (s.mono l i q hi)];exact Nat.zero_le _
 have e:d*g X i c=S n fun l=>g X i (ld l)*v l c:=by
  have y:aR X n w fun c=>(0*g X i c+d*g X i c)-S n fun l=>g X i (ld l)*v l c:=aR.sub (aR.kZ d (aR.eq (u:=fun c=>S 0 fun _=>0) (aR.comb (m:=0) (a:=fun _=>0) (v:=fun _ _=>0) fun l h=>absurd h (Nat.not_lt_zero _)) fun c _=>Int.zero_mul _) (aR.row hi)) (aR.comb hv)
  have:=s.nil y (fun l h=>by
   obtain⟨h1,_⟩:=s.lead l h
   have e:(S n fun k=>g X i (ld k)*v k (ld l))=d*g X i (ld l):=by
    rw[jG h fun k hk hne=>by rw[hl k l hk h,bE hne,Int.mul_zero,Int.mul_zero],hl l l h h,bF,Int.mul_one,Int.mul_comm]
   show(0*g X i (ld l)+d*g X i (ld l))-(S n fun k=>g X i (ld k)*v k (ld l))=0;rw[e];omega) c hc
  simp only[Int.zero_mul,Int.zero_add]at this;omega
 have b2:(d*g X i c).natAbs<=n*(d.natAbs*M):=by
  rw[e];exact xF fun l h=>by rw[Int.natAbs_mul];exact Nat.mul_le_mul (bd l h) (hb l c h hc)
 rw[Int.natAbs_mul,Nat.mul_left_comm]at b2;exact Nat.le_of_mul_le_mul_left b2 (Int.natAbs_pos.mpr hd)
theorem Mj{t l j:Nat}{M:Fn}(hl:l<t)(hj:j<t):D t (upd M l (M j))=D t M*dl l j:=by
 by_cases h:l=j
 . subst h;rw[bF,Int.mul_one]
   exact cD fun r c _ _=>by
    by_cases q:r=l
    . subst q;exact cw ..
    . exact ax q c
 . rw[bE h,Int.mul_zero];exact(om t).alt l j _ hl hj h fun c _=>by rw[cw,ax (Ne.symm h)]
theorem NA{t l:Nat}{M:Fn}{x y:Nat->Int}(h:∀c,c<t->x c=y c):D t (upd M l x)=D t (upd M l y):=cD fun r c _ hc=>by
 unfold upd;split
 . exact h c hc
 . rfl
theorem Nx{A B:Fn}{G:Rows}{t w b:Nat}{ld:Nat->Nat}(s:fj G t w ld)(r:Eo G t ld)(t8:t<=9)(hA:∀i c,i<t->c<w->(A i c).natAbs<=b)(hAB:∀i c,i<t->c<w->A i c=S t fun k=>B i k*g G k c)(hB:D t B≠0):∀k c,k<t->c<w->(g G k c).natAbs<=t*(9*b)^t:=by
 have hd:D t (fun r i=>A i (ld r))≠0:=by
  have e1:D t (fun r i=>A i (ld r))=D t (fun i r=>A i (ld r)):=D9 t fun i r=>A i (ld r)
  have e2:D t (fun i r=>A i (ld r))=D t B*D t fun k r=>g G k (ld r):=by
   rw[<-A_];exact cD fun i r hi hr=>hAB i _ hi (s.lead r hr).1
  rw[e1,e2,D_ fun r c hr hc h=>(s.lead r hr).2.2 _ (s.mono c r h hr)];exact Int.mul_ne_zero hB (Int.ne_of_gt (l8 fun i hi=>(s.lead i hi).2.1))
 refine NU (v:=fun l c=>D t (upd (fun r i=>A i (ld r)) l fun i=>A i c)) s r hd (fun l hl=>?_) (fun l j hl hj=>Mj (M:=fun r i=>A i (ld r)) hl hj) fun l c hl hc=>CG (K:=9) t8 fun r i hr hi=>?_
 . refine⟨fun k=>D t (upd (fun r i=>A i (ld r)) l fun i=>B i k),fun c hc=>?_⟩;have e:=(om t).rP hl (fun r i=>A i (ld r)) (fun k=>g G k c) (fun k i=>B i k) t;show D t (upd (fun r i=>A i (ld r)) l fun i=>A i c)=_;rw[NA fun i hi=>(hAB i c hi hc).trans (aD fun k _=>Int.mul_comm _ _),e];exact aD fun k _=>Int.mul_comm _ _
 . unfold upd;split
   . exact hA i c hi hc
   . exact hA i _ hi (s.lead r hr).1
theorem dE.picked{A F:Rows}{N m w:Nat}{ld:Nat->Nat}(st:fj F m w ld)(same:dE A N F m w):∃(I:Nat->Nat) (B:Fn),(∀k,k<m->I k<N)/\(∀i c,i<m->c<w->g A (I i) c=S m fun k=>B i k*g F k c)/\D m B≠0:=by
 have hB:∀i,∃z:Nat->Int,i<N->∀c,c<w->g A i c=S m fun k=>z k*g F k c:=fun i=>by
  by_cases h:i<N
  . obtain⟨z,hz⟩:=same.to i h;exact⟨z,fun _=>hz⟩
  . exact⟨fun _=>0,fun z=>absurd z h⟩
 have hU:∀k,∃z:Nat->Int,k<m->∀c,c<w->g F k c=S N fun i=>z i*g A i c:=fun k=>by
  by_cases h:k<m
  . obtain⟨z,hz⟩:=same.of k h;exact⟨z,fun _=>hz⟩
  . exact⟨fun _=>0,fun z=>absurd z h⟩
 let B:Fn:=fun i=>Classical.choose (hB i)
 let U:Fn:=fun k=>Classical.choose (hU k)
 have eB:∀i,i<N->∀c,c<w->g A i c=S m fun k=>B i k*g F k c:=fun i=>Classical.choose_spec (hB i);have eU:∀k,k<m->∀c,c<w->g F k c=S N fun i=>U k i*g A i c:=fun k=>Classical.choose_spec (hU k)
 obtain⟨I,h1,h2⟩:=pick (t:=m) (N:=N) (U:=U) (B:=B) fun k l hk hl=>by
  have e1:∀c,c<w->S m (fun l=>(S N fun i=>U k i*B i l)*g F l c)=g F k c:=fun c hc=>by
   rw[eU k hk c hc]
   have:(S N fun i=>U k i*g A i c)=S N fun i=>S m fun l=>U k i*B i l*g F l c:=aD fun i hi=>by
    rw[eB i hi c hc,<-eh];exact aD fun l _=>(Int.mul_assoc _ _ _).symm
   rw[this,o_];exact aD fun l _=>(qL _ _ _).symm
  have e2:∀c,c<w->(0:Int)=S m fun l=>((S N fun i=>U k i*B i l)-dl k l)*g F l c:=fun c hc=>by
   have h1:(S m fun l=>((S N fun i=>U k i*B i l)-dl k l)*g F l c)=S m (fun l=>(S N fun i=>U k i*B i l)*g F l c)-S m fun l=>dl k l*g F l c:=by
    rw[Int.sub_eq_add_neg,<-uU,<-gJ];exact aD fun l _=>by rw[Int.sub_mul,Int.sub_eq_add_neg]
   rw[h1,e1 c hc,lV hk,Int.sub_self]
  have e3:(S N fun i=>U k i*B i l)-dl k l=0:=st.gone (v:=fun _=>0) (z:=fun l=>(S N fun i=>U k i*B i l)-dl k l) (q:=w) e2 (fun _ _=>rfl) l hl (st.lead l hl).1;omega
 exact⟨I,fun i=>B (I i),h1,fun i c hi hc=>eB _ (h1 i hi) c hc,h2⟩
def Ln(A:Rows)(N:Nat):Rows:=(List.range N).map fun n=>A.getD n []++jF N n
structure NX(A F:Rows)(N w m h:Nat):Prop where
 hA:aJ N w A
 is:aJ m (w+N) F
 st:fj F m (w+N) (FX F)
 red:Eo F m (FX F)
 same:dE (Ln A N) N F m (w+N)
 le:h<=m
 lo:∀i,i<h->FX F i<w
 hi:∀i,h<=i->i<m->w<=FX F i
section
variable {A F:Rows}{N w m h:Nat}(L:NX A F N w m h)
include L
end
theorem Ez{a b a' q s t s' C:Nat}(hb:0<b)(hba:b<=a)(hq:2*(q*b)<=2*a+b)(ha':2*a'<=b)(hs:s*(a*(a*a))<=C)(ht:t*(a*(b*b))<=C)(h:s'<=s+q*t):s'*(b*(a'*a'))<=C/\2*s'<=5*C:=by
 have ha:0<a:=Nat.lt_of_lt_of_le hb hba;have e1:2*(q*b)*t<=3*a*t:=Nat.mul_le_mul_right t (by omega)
 have e2:2*(q*b)*t*(b*b)<=3*C:=by
  refine Nat.le_trans (Nat.mul_le_mul_right (b*b) e1) ?_
  have:3*a*t*(b*b)=3*(t*(a*(b*b))):=by
   rw[Nat.mul_assoc 3 a t,Nat.mul_comm a t,Nat.mul_assoc 3,Nat.mul_assoc t a]
  rw[this];exact Nat.mul_le_mul_left 3 ht
 have e3:s*(b*(b*b))<=C:=Nat.le_trans (Nat.mul_le_mul_left s (Nat.mul_le_mul hba (Nat.mul_le_mul hba hba))) hs;constructor
 . have f1:4*(a'*a')<=b*b:=by
    have:=Nat.mul_le_mul ha' ha'
    have e:2*a'*(2*a')=4*(a'*a'):=by
     rw[Nat.mul_assoc,<-Nat.mul_assoc a' 2 a',Nat.mul_comm a' 2,Nat.mul_assoc 2 a' a',<-Nat.mul_assoc]
    rwa [e]at this
   have f2:s'*(b*(b*b))<=s*(b*(b*b))+q*t*(b*(b*b)):=by
    rw[<-Nat.add_mul];exact Nat.mul_le_mul_right _ h
   have f3:2*(q*t*(b*(b*b)))=2*(q*b)*t*(b*b):=by
    rw[<-Nat.mul_assoc (q*t) b (b*b),<-Nat.mul_assoc 2,Nat.mul_right_comm q t b,<-Nat.mul_assoc 2]
   have f4:4*(s'*(b*(a'*a')))<=s'*(b*(b*b)):=by
    have e:4*(s'*(b*(a'*a')))=s'*(b*(4*(a'*a'))):=by
     rw[Nat.mul_left_comm 4 s',Nat.mul_left_comm 4 b]
    rw[e];exact Nat.mul_le_mul_left _ (Nat.mul_le_mul_left _ f1)
   omega
 . have g1:s<=C:=Nat.le_trans (Nat.le_mul_of_pos_right s (Nat.mul_pos ha (Nat.mul_pos ha ha))) hs
   have g2:q*t<=q*b*t*(b*b):=by
    have h1:q*t<=q*b*t:=by
     rw[Nat.mul_right_comm];exact Nat.le_mul_of_pos_right _ hb
    exact Nat.le_trans h1 (Nat.le_mul_of_pos_right _ (Nat.mul_pos hb hb))
   have g3:2*(q*b*t*(b*b))=2*(q*b)*t*(b*b):=by
    rw[<-Nat.mul_assoc 2,<-Nat.mul_assoc 2]
   omega
theorem EB{a b a' q cg cs:Nat}(hb:0<b)(hba:b<=a)(ha':2*a'<=b)(hq:a=q*b+a'\/q*b=a+a'):b*b*(cg*a'+(cs+q*cg)*b)<=a*a*(cg*a+cs*b):=by
 have bb:b*b<=a*a:=Nat.mul_le_mul hba hba
 have e0:cg*a'+(cs+q*cg)*b=cg*(a'+q*b)+cs*b:=by
  rw[Nat.add_mul,Nat.mul_add,Nat.mul_right_comm q cg b,Nat.mul_comm (q*b) cg];omega
 rw[e0];by_cases z:a'=0
 . subst z;have:a=q*b:=by omega
   rw[Nat.zero_add,<-this];exact Nat.mul_le_mul_right _ bb
 rcases hq with h|h
 . rw[show a'+q*b=a by omega];exact Nat.mul_le_mul_right _ bb
 have q2:2<=q:=by
  rcases Nat.lt_or_ge q 2 with y|y
  . have:q=0\/q=1:=by omega
    rcases this with rfl|rfl
    . omega
    . omega
  . exact y
 have qb:2*b<=q*b:=Nat.mul_le_mul_right b q2;have a3:3*b<=2*a:=by omega
 have sq:9*(b*b)<=4*(a*a):=by
  have:=Nat.mul_le_mul a3 a3;have e1:3*b*(3*b)=9*(b*b):=by rw[Nat.mul_assoc,Nat.mul_left_comm b 3 b,<-Nat.mul_assoc]
  have e2:2*a*(2*a)=4*(a*a):=by rw[Nat.mul_assoc,Nat.mul_left_comm a 2 a,<-Nat.mul_assoc]
  rwa [e1,e2]at this
 have key:b*b*(a'+q*b)<=a*a*a:=by
  have h1:a'+q*b<=a+b:=by omega
  have h2:b*b*(a'+q*b)<=b*b*(a+b):=Nat.mul_le_mul_left _ h1;have h3:9*(b*b)*a<=4*(a*a)*a:=Nat.mul_le_mul_right a sq;have h4:b*b*b<=b*b*a:=Nat.mul_le_mul_left _ hba;rw[Nat.mul_add (b*b) a b]at h2;rw[Nat.mul_assoc 9,Nat.mul_assoc 4]at h3;omega
 rw[Nat.mul_add (b*b),Nat.mul_add (a*a)];refine Nat.add_le_add ?_ (Nat.mul_le_mul_right _ bb);rw[Nat.mul_left_comm (b*b) cg,Nat.mul_left_comm (a*a) cg];exact Nat.mul_le_mul_left cg key
theorem vf{x y:Int}(hy:y≠0)(hxy:y.natAbs<=x.natAbs):x.natAbs=(qn x y).natAbs*y.natAbs+(x-qn x y*y).natAbs\/(qn x y).natAbs*y.natAbs=x.natAbs+(x-qn x y*y).natAbs:=by
 have h:=pA (x:=x) hy;rw[<-Int.natAbs_mul];generalize qn x y*y=z at h;omega
def Gz(X A:Rows)(N top p gm K:Nat):Prop:=∀i c,top<=i->i<N->(g X i c).natAbs*(gm*((g A i p).natAbs*(g A i p).natAbs))<=K/\2*(g X i c).natAbs<=5*K
theorem Gz.step{X A:Rows}{N w wA top p gm K k j:Nat}(hX:aJ N w X)(hA:aJ N wA A)(hk:k<N)(hj:j<N)(hkt:top<=k)(hjt:top<=j)(hj0:g A j p≠0)(hle:(g A j p).natAbs<=(g A k p).natAbs)(hgm:(g A k p).natAbs<=gm)(h:Gz X A N top p gm K):Gz (aS X k (qn (g A k p) (g A j p)) j) (aS A k (qn (g A k p) (g A j p)) j) N top p (g A j p).natAbs K:=fun i c hi hN=>by
 by_cases hik:i=k
 . rw[hik,du hX hk hj,if_pos rfl,du hA hk hj,if_pos rfl];have r:=pA (x:=g A k p) hj0
   have q2:2*((qn (g A k p) (g A j p)).natAbs*(g A j p).natAbs)<=2*(g A k p).natAbs+(g A j p).natAbs:=by
    rcases vf hj0 hle with z|z<;>omega
   refine Ez (by omega) hle q2 r (Nat.le_trans (Nat.mul_le_mul_left _ (Nat.mul_le_mul_right _ hgm)) (h k c hkt hk).1) (Nat.le_trans (Nat.mul_le_mul_left _ (Nat.mul_le_mul_right _ hgm)) (h j c hjt hj).1) ?_;have h1:=Int.natAbs_sub_le (g X k c) (qn (g A k p) (g A j p)*g X j c);rw[Int.natAbs_mul]at h1;exact h1
 . rw[du hX hk hj,if_neg hik,du hA hk hj,if_neg hik];exact⟨Nat.le_trans (Nat.mul_le_mul_left _ (Nat.mul_le_mul_right _ (Nat.le_trans hle hgm))) (h i c hi hN).1,(h i c hi hN).2⟩
theorem yI{f f':Nat->Nat}{k:Nat}(h:∀i,i≠k->f' i=f i):∀ {n:Nat},k<n->SU f' n+f k=SU f n+f' k
 |0,hk=>absurd hk (Nat.not_lt_zero _)
 |n+1,hk=>by
  show SU f' n+f' n+f k=SU f n+f n+f' k;by_cases e:k=n
  . subst e;have:SU f' k=SU f k:=Nat.le_antisymm (xt fun i hi=>by rw[h i (by omega)];exact Nat.le_refl _) (xt fun i hi=>by rw[h i (by omega)];exact Nat.le_refl _);omega
  . have:=yI h (n:=n) (by omega);have:=h n (by omega);omega
theorem BG{f f':Nat->Nat}{j k n:Nat}(hj:j<n)(hk:k<n)(hjk:j≠k)(h:∀i,i≠j->i≠k->f' i=f i):SU f' n+(f j+f k)=SU f n+(f' j+f' k):=by
 have h1:=yI (f:=f) (f':=fun i=>if i=j then f' j else f i) (k:=j) (fun i hi=>if_neg hi) hj
 have h2:=yI (f:=fun i=>if i=j then f' j else f i) (f':=f') (k:=k) (fun i hi=>by
  by_cases z:i=j
  . rw[if_pos z,z]
  . rw[if_neg z];exact h i z hi) hk
 rw[if_pos rfl]at h1;rw[if_neg (Ne.symm hjk)]at h2;omega
theorem Fz{f:Nat->Nat}{k:Nat}:∀ {n:Nat},k<n->f k<=SU f n
 |0,hk=>absurd hk (Nat.not_lt_zero _)
 |n+1,hk=>by
  show f k<=SU f n+f n;by_cases e:k=n
  . subst e;omega
  . have:=Fz (f:=f) (k:=k) (n:=n) (by omega);omega
def Fc(C A:Rows)(top p c i:Nat):Nat:=if top<=i then(g C i c).natAbs*(g A i p).natAbs else 0
structure Sc(C A:Rows)(N top p gm K:Nat):Prop where
 sum:∀c,gm*gm*SU (Fc C A top p c) N<=K
 all:∀i c,top<=i->i<N->(g C i c).natAbs<=K
theorem Sc.step{C A:Rows}{N w wA top p gm K k j:Nat}(hC:aJ N w C)(hA:aJ N wA A)(hk:k<N)(hj:j<N)(hkt:top<=k)(hjt:top<=j)(hjk:j≠k)(hj0:g A j p≠0)(hle:(g A j p).natAbs<=(g A k p).natAbs)(hgm:(g A k p).natAbs<=gm)(h:Sc C A N top p gm K):Sc (aS C j (-(qn (g A k p) (g A j p))) k) (aS A k (qn (g A k p) (g A j p)) j) N top p (g A j p).natAbs K:=by
 have r:=pA (x:=g A k p) hj0;have side:=vf hj0 hle;have b0:0<(g A j p).natAbs:=by omega
 have gC:∀i c,g (aS C j (-(qn (g A k p) (g A j p))) k) i c=if i=j then g C j c- -(qn (g A k p) (g A j p))*g C k c else g C i c:=fun i c=>du hC hj hk i c
 have gA:∀i c,g (aS A k (qn (g A k p) (g A j p)) j) i c=if i=k then g A k c-qn (g A k p) (g A j p)*g A j c else g A i c:=fun i c=>du hA hk hj i c
 have sum:∀c,(g A j p).natAbs*(g A j p).natAbs*SU (Fc (aS C j (-(qn (g A k p) (g A j p))) k) (aS A k (qn (g A k p) (g A j p)) j) top p c) N<=K:=fun c=>by
  have k1:Fc (aS C j (-(qn (g A k p) (g A j p))) k) (aS A k (qn (g A k p) (g A j p)) j) top p c k=(g C k c).natAbs*(g A k p-qn (g A k p) (g A j p)*g A j p).natAbs:=by
   unfold Fc;rw[if_pos hkt,gC,if_neg (Ne.symm hjk),gA,if_pos rfl]
  have j1:Fc (aS C j (-(qn (g A k p) (g A j p))) k) (aS A k (qn (g A k p) (g A j p)) j) top p c j<=((g C j c).natAbs+(qn (g A k p) (g A j p)).natAbs*(g C k c).natAbs)*(g A j p).natAbs:=by
   unfold Fc;rw[if_pos hjt,gC,if_pos rfl,gA,if_neg hjk];refine Nat.mul_le_mul_right _ ?_;have h1:=Int.natAbs_sub_le (g C j c) (-(qn (g A k p) (g A j p))*g C k c);rw[Int.natAbs_mul,Int.natAbs_neg]at h1;exact h1
  have k0:Fc C A top p c k=(g C k c).natAbs*(g A k p).natAbs:=by unfold Fc;rw[if_pos hkt]
  have j0:Fc C A top p c j=(g C j c).natAbs*(g A j p).natAbs:=by unfold Fc;rw[if_pos hjt]
  have same:∀i,i≠j->i≠k->Fc (aS C j (-(qn (g A k p) (g A j p))) k) (aS A k (qn (g A k p) (g A j p)) j) top p c i=Fc C A top p c i:=fun i h1 h2=>by
   unfold Fc;rw[gC,if_neg h1,gA,if_neg h2]
  have main:=EB (cg:=(g C k c).natAbs) (cs:=(g C j c).natAbs) b0 hle r side;have H:=h.sum c;generalize Fc (aS C j (-(qn (g A k p) (g A j p))) k) (aS A k (qn (g A k p) (g A j p)) j) top p c=f' at k1 j1 same;generalize Fc C A top p c=f at k0 j0 same H;have t1:=BG (f:=fun i=>if i=j\/i=k then 0 else f i) (f':=f) hj hk hjk fun i h1 h2=>(if_neg (by omega)).symm;have t2:=BG (f:=fun i=>if i=j\/i=k then 0 else f i) (f':=f') hj hk hjk fun i h1 h2=>(same i h1 h2).trans (if_neg (by omega)).symm;rw[if_pos (.inl rfl),if_pos (.inr rfl)]at t1 t2;generalize SU (fun i=>if i=j\/i=k then 0 else f i) N=R at t1 t2;have e1:SU f' N=R+(f' k+f' j):=by omega
  have e2:SU f N=R+(f k+f j):=by omega
  rw[e2,k0,j0]at H;rw[e1];refine Nat.le_trans ?_ H;have bg:(g A j p).natAbs*(g A j p).natAbs<=gm*gm:=Nat.mul_le_mul (Nat.le_trans hle hgm) (Nat.le_trans hle hgm);have ag:(g A k p).natAbs*(g A k p).natAbs<=gm*gm:=Nat.mul_le_mul hgm hgm;rw[Nat.mul_add _ R,Nat.mul_add (gm*gm) R];refine Nat.add_le_add (Nat.mul_le_mul_right _ bg) ?_;refine Nat.le_trans (Nat.mul_le_mul_left _ (Nat.add_le_add (Nat.le_of_eq k1) j1)) (Nat.le_trans main (Nat.mul_le_mul_right _ ag))
 refine⟨sum,fun i c hi hN=>?_⟩;by_cases hij:i=j
 . rw[hij];refine Nat.le_trans ?_ (sum c)
   have h1:Fc (aS C j (-(qn (g A k p) (g A j p))) k) (aS A k (qn (g A k p) (g A j p)) j) top p c j=(g (aS C j (-(qn (g A k p) (g A j p))) k) j c).natAbs*(g A j p).natAbs:=by
    unfold Fc;rw[if_pos hjt,gA,if_neg hjk]
   have h2:=Fz (f:=Fc (aS C j (-(qn (g A k p) (g A j p))) k) (aS A k (qn (g A k p) (g A j p)) j) top p c) hj;rw[h1]at h2;refine Nat.le_trans (Nat.le_trans (Nat.le_mul_of_pos_right _ b0) h2) (Nat.le_mul_of_pos_left _ (Nat.mul_pos b0 b0))
 . rw[gC,if_neg hij];exact h.all i c hi hN
structure Gb(A0:Rows)(N w top p K KC gm:Nat)(b0 b:B3):Prop where
 tn:Tn A0 b.A b.U b.C N w
 up:∀i,i<top->b.A.getD i []=b0.A.getD i []/\b.U.getD i []=b0.U.getD i []/\b.C.getD i []=b0.C.getD i []
 mx:∀i,top<=i->i<N->(g b.A i p).natAbs<=gm
 sA:Gz b.A b.A N top p gm K
 sU:Gz b.U b.A N top p gm K
 sC:Sc b.C b.A N top p gm KC
 zs:∀i c,top<=i->i<N->c<p->g b.A i c=0
 Mo:b=b0\/∃j,top<=j/\j<N/\g b.A j p≠0
theorem Gb.step{A0:Rows}{N w top p K KC gm:Nat}{b0 b:B3}{L:List Nat}{k j:Nat}(G:Gb A0 N w top p K KC gm b0 b)(hL:jJ b.A N top p (L++[j,k])):
 Gb A0 N w top p K KC (g b.A j p).natAbs b0 (pL b p k j)/\(g (pL b p k j).A k p).natAbs<(g b.A k p).natAbs/\(∀i,i≠k->g (pL b p k j).A i p=g b.A i p)/\top<=k/\k<N/\top<=j/\j<N/\j≠k/\g b.A j p≠0/\(qn (g b.A k p) (g b.A j p)).natAbs<=2*(g b.A k p).natAbs:=by
 obtain⟨hk1,hk2,hk3⟩:=(hL.mem k).mp (by simp);obtain⟨hj1,hj2,hj3⟩:=(hL.mem j).mp (by simp);have hord:=hL.ord;rw[List.pairwise_append]at hord;have o2:=(List.pairwise_cons.mp hord.2.1).1 k (by simp);have hjk:j≠k:=by intro z;subst z;omega
 have hle:(g b.A j p).natAbs<=(g b.A k p).natAbs:=by omega
 have hgm:=G.mx k hk1 hk2
 have gk:g (pL b p k j).A k p=g b.A k p-qn (g b.A k p) (g b.A j p)*g b.A j p:=by
  show g (aS b.A k _ j) k p=_;rw[du G.tn.isA hk2 hj2,if_pos rfl]
 have gi:∀i,i≠k->g (pL b p k j).A i p=g b.A i p:=fun i hi=>by
  show g (aS b.A k _ j) i p=_;rw[du G.tn.isA hk2 hj2,if_neg hi]
 have hrest:=pA (x:=g b.A k p) hj3;refine⟨⟨G.tn.take hk2 hj2 hjk,fun i hi=>?_,fun i h1 h2=>?_,G.sA.step G.tn.isA G.tn.isA hk2 hj2 hk1 hj1 hj3 hle hgm,G.sU.step G.tn.fK G.tn.isA hk2 hj2 hk1 hj1 hj3 hle hgm,G.sC.step G.tn.gg G.tn.isA hk2 hj2 hk1 hj1 hjk hj3 hle hgm,fun i c hi hN hc=>?_,.inr ⟨j,hj1,hj2,by rw[gi j hjk];exact hj3⟩⟩,?_,gi,hk1,hk2,hj1,hj2,hjk,hj3,?_⟩
 . obtain⟨a1,a2,a3⟩:=G.up i hi;refine⟨(kl (by rw[G.tn.isA.len];exact hk2) (by omega)).trans a1,(kl (by rw[G.tn.fK.len];exact hk2) (by omega)).trans a2,(kl (by rw[G.tn.gg.len];exact hj2) (by omega)).trans a3⟩
 . by_cases h:i=k
   . rw[h,gk];omega
   . rw[gi i h];by_cases z:g b.A i p=0
     . rw[z];exact Nat.zero_le _
     . have m:=(hL.mem i).mpr ⟨h1,h2,z⟩;rcases List.mem_append.mp m with y|y
       . have:=hord.2.2 i y j (by simp);omega
       . rcases List.mem_cons.mp y with y|y
         . rw[y];exact Nat.le_refl _
         . exact absurd (List.mem_singleton.mp y) h
 . show g (aS b.A k _ j) i c=0;rw[du G.tn.isA hk2 hj2];by_cases h:i=k
   . rw[if_pos h,G.zs k c hk1 hk2 hc,G.zs j c hj1 hj2 hc,Int.mul_zero];rfl
   . rw[if_neg h];exact G.zs i c hi hN hc
 . rw[gk];omega
 . have b1:1<=(g b.A j p).natAbs:=by omega
   have:=Nat.mul_le_mul_left (qn (g b.A k p) (g b.A j p)).natAbs b1;rcases vf hj3 hle with z|z<;>omega
theorem F7{f:Nat->Nat}{M:Nat}:∀ {n:Nat},(∀i,i<n->f i<=M)->SU f n<=n*M
 |0,_=>Nat.zero_le _
 |n+1,h=>by
  have h1:=F7 (n:=n) fun i hi=>h i (Nat.lt_succ_of_lt hi);have h2:=h n (Nat.lt_succ_self n);rw[Nat.succ_mul];exact Nat.add_le_add h1 h2
theorem Gb.start{A0:Rows}{N w top p e u v:Nat}{b:B3}{ld:Nat->Nat}(S:eD A0 N w b top p ld e u v):Gb A0 N w top p (2^(4*e)) (N*2^(4*e)) (2^e) b b:=by
 obtain⟨lA,lU,lC⟩:=S.lo
 have e4:2^e*(2^e*(2^e*2^e))=2^(4*e):=by
  rw[<-Nat.pow_add,<-Nat.pow_add,<-Nat.pow_add];congr 1;omega
 have e1:2^e<=2^(4*e):=Nat.pow_le_pow_right (by decide) (by omega)
 have gz:∀X:Rows,gD X N top (2^e)->Gz X b.A N top p (2^e) (2^(4*e)):=fun X h i c hi hN=>by
  have h1:=h i c hi hN;have h2:=lA i p hi hN;refine⟨?_,by omega⟩;rw[<-e4];exact Nat.mul_le_mul h1 (Nat.mul_le_mul_left _ (Nat.mul_le_mul h2 h2))
 refine⟨S.tn,fun _ _=>⟨rfl,rfl,rfl⟩,fun i hi hN=>lA i p hi hN,gz _ lA,gz _ lU,⟨fun c=>?_,fun i c hi hN=>?_⟩,S.zs,.inl rfl⟩
 . have h1:SU (Fc b.C b.A top p c) N<=N*(2^e*2^e):=F7 fun i hi=>by
    unfold Fc;by_cases h:top<=i
    . rw[if_pos h];exact Nat.mul_le_mul (lC i c h hi) (lA i p h hi)
    . rw[if_neg h];exact Nat.zero_le _
   refine Nat.le_trans (Nat.mul_le_mul_left _ h1) ?_;rw[Nat.mul_left_comm,Nat.mul_assoc,e4];exact Nat.le_refl _
 . refine Nat.le_trans (lC i c hi hN) (Nat.le_trans e1 ?_);exact Nat.le_mul_of_pos_left _ (by omega)
theorem Gb.low{A0:Rows}{N w top p e gm:Nat}{b0 b:B3}(G:Gb A0 N w top p (2^(4*e)) (N*2^(4*e)) gm b0 b)(hN:N<=16):gD b.A N top (2^(4*e+4))/\gD b.U N top (2^(4*e+4))/\gD b.C N top (2^(4*e+4)):=by
 have e4:2^(4*e+4)=16*2^(4*e):=by rw[Nat.pow_add,Nat.mul_comm]
 rw[e4];refine⟨fun i c hi h=>?_,fun i c hi h=>?_,fun i c hi h=>?_⟩
 . have:=(G.sA i c hi h).2;omega
 . have:=(G.sU i c hi h).2;omega
 . exact Nat.le_trans (G.sC.all i c hi h) (Nat.mul_le_mul_right _ hN)
theorem Gb.set{A0:Rows}{N w top p K KC gm m r:Nat}{b0 b:B3}(G:Gb A0 N w top p K KC gm b0 b)(lw:gD b.A N top m/\gD b.U N top m/\gD b.C N top m)(hL:jJ b.A N top p [r]):tP A0 N w top p m b0 (setB b p top r)/\top<=r/\r<N:=by
 obtain⟨hr1,hr2,hr3⟩:=(hL.mem r).mp (by simp);have ht:top<N:=by omega
 have z:∀i,top<=i->i<N->i≠r->g b.A i p=0:=fun i h1 h2 h3=>Classical.byContradiction fun y=>h3 (by simpa using(hL.mem i).mpr ⟨h1,h2,y⟩);have swg:∀i c,g (bz b.A top r) i c=g b.A (sw top r i) c:=fun i c=>iP G.tn.isA ht hr2 i c;have gt:g (bz b.A top r) top p=g b.A r p:=by rw[swg];unfold sw;rw[if_pos rfl]
 have T1:=G.tn.Gd ht hr2
 have z1:∀i,top<i->i<N->g (bz b.A top r) i p=0:=fun i h1 h2=>by
  rw[swg];unfold sw;rw[if_neg (by omega)];by_cases h:i=r
  . rw[if_pos h];exact z top (Nat.le_refl _) ht (by omega)
  . rw[if_neg h];exact z i (by omega) h2 h
 have zs:∀i c,top<=i->i<N->c<p->g (bz b.A top r) i c=0:=fun i c h1 h2 h3=>by
  rw[swg];refine G.zs _ c ?_ (mr ht hr2 h2) h3;unfold sw;split
  . exact hr1
  . split
    . exact Nat.le_refl _
    . exact h1
 have up:∀i,i<top->(bz b.A top r).getD i []=b0.A.getD i []/\(bz b.U top r).getD i []=b0.U.getD i []/\(bz b.C top r).getD i []=b0.C.getD i []:=fun i hi=>by
  obtain⟨a1,a2,a3⟩:=G.up i hi;exact⟨(tX G.tn.isA ht hr2 hr1 hi).trans a1,(tX G.tn.fK ht hr2 hr1 hi).trans a2,(tX G.tn.gg ht hr2 hr1 hi).trans a3⟩
 have lo:=And.intro (ui G.tn.isA ht hr2 hr1 lw.1) (And.intro (ui G.tn.fK ht hr2 hr1 lw.2.1) (ui G.tn.gg ht hr2 hr1 lw.2.2));refine⟨?_,hr1,hr2⟩;unfold setB;by_cases hs:g (bz b.A top r) top p<0
 . rw[if_pos hs];refine⟨T1.neg ht,fun i hi=>?_,⟨xZ T1.isA ht lo.1,xZ T1.fK ht lo.2.1,xZ T1.gg ht lo.2.2⟩,fun i c h1 h2 h3=>?_,?_,fun i h1 h2=>?_⟩
   . obtain⟨a1,a2,a3⟩:=up i hi;exact⟨(x3 T1.isA ht hi).trans a1,(x3 T1.fK ht hi).trans a2,(x3 T1.gg ht hi).trans a3⟩
   . show g (fO (bz b.A top r) top) i c=0;rw[jw T1.isA ht];split
     . rw[zs top c (Nat.le_refl _) ht h3];rfl
     . exact zs i c h1 h2 h3
   . show 0<g (fO (bz b.A top r) top) top p;rw[jw T1.isA ht,if_pos rfl];omega
   . show g (fO (bz b.A top r) top) i p=0;rw[jw T1.isA ht,if_neg (by omega)];exact z1 i h1 h2
 . rw[if_neg hs];exact⟨T1,up,lo,zs,by show 0<g (bz b.A top r) top p;rw[gt]at hs⊢;omega,z1⟩
def Ey(e0:Nat):Nat->Nat
 |0=>e0
 |t+1=>4*Ey e0 t+4
def Uy(e0:Nat):Nat->Nat
 |0=>0
 |t+1=>Uy e0 t+Ey e0 (t+1)+1
def Cy(e0:Nat):Nat->Nat
 |0=>0
 |t+1=>Uy e0 t+Cy e0 t+Ey e0 (t+1)+4
def Ry(N w e0:Nat):Prop:=∀t,t<N->t<w->Ey e0 (t+1)<60000000/\Uy e0 t+Ey e0 (t+1)<=120000000/\Uy e0 t+Cy e0 t<=120000000
instance (N w e0:Nat):Decidable (Ry N w e0):=by
 unfold Ry;exact decidable_of_iff (∀t,t<N->t<w->(Ey e0 (t+1)<60000000/\Uy e0 t+Ey e0 (t+1)<=120000000/\Uy e0 t+Cy e0 t<=120000000)) Iff.rfl
theorem tP.Lz{A0:Rows}{N w top p e u v e' u' v':Nat}{b0 b c:B3}{ld:Nat->Nat}(S:eD A0 N w b0 top p ld e u v)(s:tP A0 N w top p (2^e') b0 b)(ht:top<N)(I:lL A0 N w top p e' u v b top c)(hN:top<=16)
 (h1:u+e'+1<=u') (h2:u+v+5<=v') (h9:e'+1<=v'):eD A0 N w c (top+1) (p+1) (fun i=>if i=top then p else ld i) e' u' v':=by
 have hup:∀i q,i<top->g b.A i q=g b0.A i q:=fun i q hi=>by unfold g;rw[(s.up i hi).1]
 have hA:∀i q,top<=i->g c.A i q=g b.A i q:=fun i q hi=>by unfold g;rw[(I.rA i hi).1]
 have hU:∀i q,top<=i->g c.U i q=g b.U i q:=fun i q hi=>by unfold g;rw[(I.rA i hi).2]
 have hC:∀i q,i≠top->g c.C i q=g b.C i q:=fun i q hi=>by unfold g;rw[I.rC i hi]
 have le:∀ {a x:Nat},a<=2^x->x<=u'->a<=2^u':=fun h hx=>Nat.le_trans h (Nat.pow_le_pow_right (by decide) hx);refine⟨I.tn,ht,⟨fun i q hi hN=>?_,fun i q hi hN=>?_,fun i q hi hN=>?_⟩,fun i q hi=>?_,fun i q hi hN hq=>?_,fun i hi=>?_,fun i j hij hj=>?_,fun i j hij hj=>?_⟩
 . rw[hA i q (by omega)];exact s.lo.1 i q (by omega) hN
 . rw[hU i q (by omega)];exact s.lo.2.1 i q (by omega) hN
 . rw[hC i q (by omega)];exact s.lo.2.2 i q (by omega) hN
 . by_cases h:i=top
   . subst h;refine⟨?_,?_,?_⟩
     . rw[hA i q (Nat.le_refl _)];exact le (s.lo.1 i q (Nat.le_refl _) ht) (by omega)
     . rw[hU i q (Nat.le_refl _)];exact le (s.lo.2.1 i q (Nat.le_refl _) ht) (by omega)
     . have h3:=I.sC q;have h4:i*2^(u+v)<=2^(u+v+4):=by rw[Nat.pow_add _ _ 4,Nat.mul_comm];exact Nat.mul_le_mul_left _ (by omega)
       have h5:2^(u+v+4)*2<=2^v':=by rw[<-Nat.pow_succ];exact Nat.pow_le_pow_right (by decide) h2
       have h6:2^e'*2<=2^v':=by rw[<-Nat.pow_succ];exact Nat.pow_le_pow_right (by decide) h9
       omega
   . have hi':i<top:=by omega
     refine⟨le (I.sz i q hi').1 h1,le (I.sz i q hi').2 h1,?_⟩;rw[hC i q h];have:g b.C i q=g b0.C i q:=by unfold g;rw[(s.up i hi').2.2]
     rw[this];exact Nat.le_trans (S.hi i q hi').2.2 (Nat.pow_le_pow_right (by decide) (by omega))
 . rw[hA i q (by omega)];by_cases h:q=p
   . rw[h];exact s.z1 i (by omega) hN
   . exact s.zs i q (by omega) hN (by omega)
 . by_cases h:i=top
   . subst h;rw[if_pos rfl];refine⟨Nat.lt_succ_self p,?_,fun q hq=>?_⟩
     . rw[hA i p (Nat.le_refl _)];exact s.tp
     . rw[hA i q (Nat.le_refl _)];exact s.zs i q (Nat.le_refl _) ht hq
   . have hi':i<top:=by omega
     rw[if_neg h];obtain⟨a1,a2,a3⟩:=S.lead i hi';refine⟨Nat.lt_succ_of_lt a1,?_,fun q hq=>?_⟩
     . rw[I.ah i _ hi' a1,hup i _ hi'];exact a2
     . rw[I.ah i _ hi' (Nat.lt_trans hq a1),hup i _ hi'];exact a3 q hq
 . by_cases h:j=top
   . rw[if_pos h,if_neg (by omega)];exact(S.lead i (by omega)).1
   . rw[if_neg h,if_neg (by omega)];exact S.mono i j hij (by omega)
 . by_cases h:j=top
   . subst h;rw[if_pos rfl];exact I.rd i hij
   . have hj':j<top:=by omega
     rw[if_neg h];have:=S.red i j hij hj';have hl:=(S.lead j hj').1;rw[I.ah i _ (by omega) hl,I.ah j _ hj' hl,hup i _ (by omega),hup j _ hj'];exact this
def Cx(e0:Nat):Nat->Nat
 |0=>0
 |t+1=>Uy e0 t+Cx e0 t+Ey e0 (t+1)+5
theorem fu.gb{A0:Rows}{N w top p K KC:Nat}{b0 b c:B3}(h:fu N top p b c):∀ {gm:Nat},Gb A0 N w top p K KC gm b0 b->∃gm',Gb A0 N w top p K KC gm' b0 c:=by
 induction h with
 |refl b=>exact fun G=>⟨_,G⟩
 |head s _ ih=>
  intro gm G;obtain⟨L,k,j,hL,rfl⟩:=s;exact ih (G.step hL).1
theorem eD.EL{A0:Rows}{N w t p e u v r:Nat}{b c:B3}{ld:Nat->Nat}(S:eD A0 N w b t p ld e u v)(hN:N<=16)(hp:p<w)(h:fu N t p b c)(l:jJ c.A N t p [r]):
 tP A0 N w t p (2^(4*e+4)) b (setB c p t r)/\t<N/\∀k,k<=t->lL A0 N w t p (4*e+4) u v (setB c p t r) k (i4 p t k (setB c p t r)):=by
 obtain⟨gm,G⟩:=h.gb (Gb.start S);obtain⟨s1,h1,h2⟩:=G.set (G.low hN) l;have ht:t<N:=Nat.lt_of_le_of_lt h1 h2;refine⟨s1,ht,fun k=>?_⟩;induction k with
 |zero=>exact fun _=>lL.start s1.tn fun q=>s1.lo.2.2 t q (Nat.le_refl _) ht
 |succ k ih=>
  intro hk;refine(ih (Nat.le_of_lt hk)).step hk ht hp s1.tp (fun q hq=>s1.zs t q (Nat.le_refl _) ht hq) (fun q=>⟨s1.lo.1 t q (Nat.le_refl _) ht,s1.lo.2.1 t q (Nat.le_refl _) ht⟩) fun i q hi=>?_;obtain⟨a1,a2,a3⟩:=s1.Fu hi q;rw[a1,a2,a3];exact S.hi i q hi
theorem eA.str{A:Rows}{N w e0:Nat}(hA:aJ N w A)(hlo:gD A N 0 (2^e0))(hN:N<=16){p t:Nat}{b:B3}(h:eA A N p t b):p<=w->∃ld,eD A N w b t p ld (Ey e0 t) (Uy e0 t) (Cx e0 t):=by
 induction h with
 |start=>exact fun _=>⟨_,eD.start hA hlo⟩
 |next _ c ih=>
  intro hp;obtain⟨ld,S⟩:=ih (Nat.le_of_lt hp);cases c with
  |none l=>exact⟨ld,S.skip l⟩
  |one g l=>
   obtain⟨s1,ht,I⟩:=S.EL hN hp g l;exact⟨_,tP.Lz (e':=Ey e0 (_+1)) (u':=Uy e0 (_+1)) (v':=Cx e0 (_+1)) S s1 ht (I _ (Nat.le_refl _)) (by omega) (Nat.le_refl _) (by show _<=Uy e0 _+Cx e0 _+Ey e0 (_+1)+5;omega) (by show _<=Uy e0 _+Cx e0 _+Ey e0 (_+1)+5;omega)⟩
theorem eD.Mi{A0:Rows}{N w t p e u v z:Nat}{b:B3}{ld:Nat->Nat}(S:eD A0 N w b t p ld e u v)(hp:p<w)(hN:N<=16)(hu:u<=z)(hv:v<=z)(hz:t<N->u+v+(4*e+4)+6<=z):Ao N p t z b:=by
 have up:∀ {a x:Nat},a<=2^x->x<=z->a<=2^z:=fun h hx=>Nat.le_trans h (Nat.pow_le_pow_right (by decide) hx);refine⟨fun c h i q hi=>?_,fun c r k h l hk i q hi=>?_⟩
 . obtain⟨gm,G⟩:=h.gb (Gb.start S);by_cases ht:i<t
   . obtain⟨a1,a2,a3⟩:=G.up i ht;have:=S.hi i q ht;unfold g at this⊢;rw[a1,a2,a3];exact⟨up this.1 hu,up this.2.1 hu,up this.2.2 hv⟩
   . have ht':=Nat.le_of_not_lt ht;have hz:=hz (by omega);have w1:=G.low hN;exact⟨up (w1.1 i q ht' hi) (by omega),up (w1.2.1 i q ht' hi) (by omega),up (w1.2.2 i q ht' hi) (by omega)⟩
 . obtain⟨s,ht,I'⟩:=S.EL hN hp h l;have hz9:=hz ht;have I:=I' k hk
   have aA:(g (i4 p t k (setB c p t r)).A i q).natAbs<=2^z/\(g (i4 p t k (setB c p t r)).U i q).natAbs<=2^z:=by
    by_cases hik:i<k
    . exact⟨up (I.sz i q hik).1 (by omega),up (I.sz i q hik).2 (by omega)⟩
    . obtain⟨b1,b2⟩:=I.rA i (Nat.le_of_not_lt hik);unfold g;rw[b1,b2];by_cases hit:i<t
      . obtain⟨a1,a2,a3⟩:=s.Fu hit q;have:=S.hi i q hit;rw[<-a1,<-a2]at this;exact⟨up this.1 hu,up this.2.1 hu⟩
      . have hit':=Nat.le_of_not_lt hit;exact⟨up (s.lo.1 i q hit' hi) (by omega),up (s.lo.2.1 i q hit' hi) (by omega)⟩
   refine⟨aA.1,aA.2,?_⟩;by_cases hit:i=t
   . subst hit;refine Nat.le_trans (I.sC q) ?_;have f1:2^(4*e+4)<=2^(u+v+(4*e+4)):=Nat.pow_le_pow_right (by decide) (by omega);have f2:k*2^(u+v)<=16*2^(u+v+(4*e+4)):=Nat.mul_le_mul (by omega) (Nat.pow_le_pow_right (by decide) (by omega));have f3:2^(u+v+(4*e+4)+6)<=2^z:=Nat.pow_le_pow_right (by decide) hz9;rw[Nat.pow_add _ _ 6]at f3;omega
   . have:=I.rC i hit;unfold g;rw[this];by_cases hlt:i<t
     . have a:=(s.Fu hlt q).2.2;have:=(S.hi i q hlt).2.2;rw[<-a]at this;exact up this hv
     . exact up (s.lo.2.2 i q (Nat.le_of_not_lt hlt) hi) (by omega)
def uk(n w:Nat)(f:Nat->Nat->Int):Rows:=(List.range n).map fun i=>(List.range w).map (f i)
theorem I_{n w:Nat}{f:Nat->Nat->Int}:aJ n w (uk n w f):=⟨by simp[uk],fun r hr=>by
 obtain⟨i,_,rfl⟩:=List.mem_map.mp hr;simp⟩
theorem A6{n w i c:Nat}{f:Nat->Nat->Int}(hi:i<n)(hc:c<w):g (uk n w f) i c=f i c:=by
 have h1:(uk n w f).getD i []=(List.range w).map (f i):=by
  unfold uk;rw[a7 (by simpa using hi),List.getElem_map,List.getElem_range]
 unfold g;rw[h1,a7 (by simpa using hc),List.getElem_map,List.getElem_range]
section
variable (F:Rows)(m w t s:Nat)
def N7(i c:Nat):Int:=
 if i<m then(if c<w then g F i c else if i<s then 0 else g F i (c-w))
 else if c<w then(if i-m<t then 0 else g F (i-m) c)
 else if i-m<s then g F (i-m) (c-w)else if i-m<t then-g F (i-m) (c-w)else 0
def N9(i c:Nat):Int:=
 if i<m then(if i<s then dl (m+i) c else dl i c)
 else if i-m<s then dl (i-m) c-dl i c else if i-m<t then dl i c-dl (i-m) c else dl i c
def Of(i c:Nat):Int:=
 if i<m then(if i<t then dl i c+dl (m+i) c else dl i c)
 else if i-m<s then dl (i-m) c else dl i c
def tw:B3:=⟨uk (m+m) (w+w) (N7 F m w t s),uk (m+m) (m+m) (N9 m t s),uk (m+m) (m+m) (Of m t s)⟩
end
section
variable {F:Rows}{m w t s:Nat}{ld:Nat->Nat}
def tv(F:Rows)(m w s:Nat):B3:=⟨fO (tw F m w m s).A (m+s),fO (tw F m w m s).U (m+s),fO (tw F m w m s).C (m+s)⟩
end
def tl(H:Rows)(a w:Nat):Rows:=(H.drop a).map (List.drop w)
section
variable {X Y:Rows}{N w r top:Nat}{ld f:Nat->Nat}
theorem zC(rw_:r<=w)(hf:∀q,q<r->f q<N)(out:∀i c,i<N->c<w->r<=c->g X i c=0)(jT:∀q c,q<r->c<r->q<c->g X (f q) c=0)(nz:∀q,q<r->g X (f q) q≠0):∀q,q<=r->∃P:Int,P≠0/\∀j,j<q->aR X N w fun c=>P*dl j c
 |0,_=>⟨1,by decide,fun j hj=>absurd hj (Nat.not_lt_zero _)⟩
 |q+1,hq=>by
  obtain⟨P,hP,h⟩:=zC rw_ hf out jT nz q (by omega);refine⟨P*g X (f q) q,Int.mul_ne_zero hP (nz q hq),fun j hj=>?_⟩;by_cases hjq:j<q
  . refine(aR.smul (g X (f q) q) (h j hjq)).eq fun c _=>?_;show P*g X (f q) q*dl j c=g X (f q) q*(P*dl j c);rw[Int.mul_comm P,Int.mul_assoc]
  . have e:j=q:=by omega
    subst e;have h1:=aR.kZ (-1) (aR.smul P (aR.row (X:=X) (w:=w) (hf j hq))) (aR.comb (X:=X) (n:=N) (w:=w) (a:=fun l=>g X (f j) l) (v:=fun l c=>P*dl l c) fun l hl=>h l hl);refine h1.eq fun c hc=>?_;show P*g X (f j) j*dl j c=P*g X (f j) c+ -1*S j fun l=>g X (f j) l*(P*dl l c)
    have e1:(S j fun l=>g X (f j) l*(P*dl l c))=if c<j then g X (f j) c*P else 0:=by
     by_cases h2:c<j
     . rw[if_pos h2,<-jS h2 fun l=>g X (f j) l*P];exact aD fun l _=>by rw[Int.mul_assoc]
     . rw[if_neg h2];exact hV fun l hl=>by rw[bE (show l≠c by omega),Int.mul_zero,Int.mul_zero]
    rw[e1];by_cases h2:c<j
    . rw[if_pos h2,bE (show j≠c by omega),Int.mul_comm (g X (f j) c)];omega
    . rw[if_neg h2];by_cases h3:c=j
      . subst h3;rw[bF];omega
      . rw[bE (show j≠c by omega)]
        have:g X (f j) c=0:=by
         by_cases h4:c<r
         . exact jT j c hq h4 (by omega)
         . exact out _ c (hf j hq) hc (by omega)
        rw[this];omega
theorem L8(st:fj Y top w ld)(same:dE X N Y top w)(rw_:r<=w)(hf:∀q,q<r->f q<N)(out:∀i c,i<N->c<w->r<=c->g X i c=0)(jT:∀q c,q<r->c<r->q<c->g X (f q) c=0)(nz:∀q,q<r->g X (f q) q≠0):top=r/\(∀q,q<r->ld q=q)/\∀i c,i<top->c<w->r<=c->g Y i c=0:=by
 obtain⟨P,hP,hu⟩:=zC rw_ hf out jT nz r (Nat.le_refl _)
 have ge:∀i,i<top->i<=ld i:=fun i=>by
  induction i with
  |zero=>exact fun _=>Nat.zero_le _
  |succ i ih=>exact fun hi=>Nat.lt_of_le_of_lt (ih (by omega)) (st.mono i (i+1) (Nat.lt_succ_self i) hi)
 have yo:∀i c,i<top->c<w->r<=c->g Y i c=0:=fun i c hi hc hr=>by
  obtain⟨z,hz⟩:=same.of i hi;rw[hz c hc];exact hV fun k hk=>by rw[out k c hk hc hr,Int.mul_zero]
 have lt:∀i,i<top->ld i<r:=fun i hi=>Nat.lt_of_not_le fun z=>by
  obtain⟨h1,h2,_⟩:=st.lead i hi;rw[yo i _ hi h1 z]at h2;exact absurd h2 (by decide)
 have key:∀q,q<r->q<top/\ld q=q:=fun q=>by
  induction q using Nat.strongRecOn with
  |ind q ih=>
   intro hq;have hv:=aR.trans same.to (hu q hq);rcases st.at (q:=q) hv (by omega) (fun c hc=>by show P*dl q c=0;rw[bE (by omega),Int.mul_zero])with⟨i,h1,h2,_⟩|h0
   . have h3:=ge i h1;by_cases e:i=q
     . subst e;exact⟨h1,h2⟩
     . have:=(ih i (by omega) (by omega)).2;omega
   . exact absurd h0 (by show P*dl q q≠0;rw[bF,Int.mul_one];exact hP)
 refine⟨Nat.le_antisymm (Nat.le_of_not_lt fun z=>?_) (Nat.le_of_not_lt fun z=>?_),fun q hq=>(key q hq).2,yo⟩
 . have h1:=lt r z;have h2:=ge r z;omega
 . have h1:=(key top z).1;omega
end
structure Fr(X Y:Rows)(N w r:Nat):Prop where
 is:aJ N w Y
 rN:r<=N
 rW:r<=w
 zs:∀i c,r<=i->i<N->c<w->g Y i c=0
 out:∀i c,i<N->c<w->r<=c->g Y i c=0
 up:∀i c,i<r->c<i->g Y i c=0
 pos:∀i,i<r->0<g Y i i
 red:∀i j,i<j->j<r->0<=g Y i j/\g Y i j<g Y j j
 wa:∀v:Nat->Int,aR X N w v↔aR Y r w v
theorem Fr.Be{X Y:Rows}{N w r:Nat}(h:Fr X Y N w r):fj Y r w fun i=>i:=⟨fun i hi=>⟨Nat.lt_of_lt_of_le hi h.rW,h.pos i hi,fun c hc=>h.up i c hi hc⟩,fun i j hij _=>hij⟩
theorem FN{X:Rows}{N w r top e u v:Nat}{c:B3}{ld f:Nat->Nat}(H:eD X N w c top w ld e u v)(rw_:r<=w)(hf:∀q,q<r->f q<N)(out:∀i c,i<N->c<w->r<=c->g X i c=0)(jT:∀q c,q<r->c<r->q<c->g X (f q) c=0)(nz:∀q,q<r->g X (f q) q≠0):top=r/\Fr X c.A N w r:=by
 have S1:=H.BE;have same:=S1.Ax;obtain⟨e,el,yo⟩:=L8 ⟨S1.lead,S1.mono⟩ same rw_ hf out jT nz;subst e;have zs:∀i c',top<=i->i<N->c'<w->g c.A i c'=0:=fun i c' h1 h2 h3=>S1.zs i c' h1 h2 h3;refine⟨rfl,S1.tn.isA,S1.le,rw_,zs,fun i c' h1 h2 h3=>?_,fun i c' h1 h2=>?_,fun i hi=>?_,fun i j hij hj=>?_,fun v=>⟨aR.trans same.to,aR.trans same.of⟩⟩
 . by_cases h:i<top
   . exact yo i c' h h2 h3
   . exact zs i c' (by omega) h1 h2
 . exact(S1.lead i h1).2.2 c' (by rw[el i h1];exact h2)
 . have:=(S1.lead i hi).2.1;rwa [el i hi]at this
 . have:=S1.red i j hij hj;rwa [el j hj]at this
theorem Fr.prod{X Y:Rows}{N w r:Nat}{f:Nat->Nat}(h:Fr X Y N w r)(hf:∀q,q<r->f q<N)(jT:∀q c,q<r->c<r->q<c->g X (f q) c=0):(Pr r fun q=>g Y q q)∣Pr r fun q=>g X (f q) q:=by
 have hz:∀q,∃z:Nat->Int,q<r->∀c,c<w->g X (f q) c=S r fun k=>z k*g Y k c:=fun q=>by
  by_cases hq:q<r
  . obtain⟨z,hz⟩:=(h.wa _).mp (aR.row (X:=X) (w:=w) (hf q hq));exact⟨z,fun _=>hz⟩
  . exact⟨fun _=>0,fun z=>absurd z hq⟩
 let B:Fn:=fun q=>Classical.choose (hz q)
 have eB:∀q,q<r->∀c,c<w->g X (f q) c=S r fun k=>B q k*g Y k c:=fun q=>Classical.choose_spec (hz q)
 have e1:D r (fun q c=>g X (f q) c)=D r B*D r (g Y):=by
  rw[<-A_];exact cD fun q c hq hc=>eB q hq c (by have:=h.rW;omega)
 rw[xm (fun q c hq hc hqc=>jT q c hq hc hqc),D_ (fun q c hq hc hqc=>h.up q c hq hqc)]at e1;exact⟨D r B,by rw[e1,Int.mul_comm]⟩
theorem Fr.fix{X Y:Rows}{N w r q:Nat}{a:Int}(h:Fr X Y N w r)(hq:q<r)(ha:0<a)(h1:∀i,i<N->a∣g X i q)(h2:aR X N w fun c=>a*dl q c):g Y q q=a/\(∀i,i<r->i≠q->g Y i q=0)/\∀c,c<w->c≠q->g Y q c=0:=by
 have rW:=h.rW
 have dv:∀v:Nat->Int,aR X N w v->a∣v q:=fun v ⟨z,hz⟩=>by
  rw[hz q (by omega)]
  have:∀n,n<=N->a∣S n fun k=>z k*g X k q:=fun n=>by
   induction n with
   |zero=>exact fun _=>⟨0,by rw[Int.mul_zero];rfl⟩
   |succ n ih=>exact fun hn=>Int.dvd_add (ih (by omega)) (Int.dvd_trans (h1 n (by omega)) (Int.dvd_mul_left _ _))
  exact this N (Nat.le_refl _)
 have row:∀i,i<r->aR X N w (g Y i):=fun i hi=>(h.wa _).mpr (aR.row hi)
 have e1:g Y q q=a:=by
  have d1:=dv _ (row q hq)
  have d2:g Y q q∣a:=by
   rcases h.Be.at (q:=q) ((h.wa _).mp h2) (by omega) (fun c hc=>by show a*dl q c=0;rw[bE (by omega),Int.mul_zero])with⟨i,_,e,hd⟩|h0
   . have e:i=q:=e;subst e;have:g Y i i∣a*dl i i:=hd;rwa [bF,Int.mul_one]at this
   . have h0:a*dl q q=0:=h0;rw[bF]at h0;omega
  exact Int.dvd_antisymm (Int.le_of_lt (h.pos q hq)) (Int.le_of_lt ha) d2 d1
 have e2:∀i,i<r->i≠q->g Y i q=0:=fun i hi hne=>by
  by_cases hlt:q<i
  . exact h.up i q hi hlt
  . obtain⟨r1,r2⟩:=h.red i q (by omega) hq;have d:=dv _ (row i hi);rw[e1]at r2;exact Int.eq_zero_of_dvd_of_natAbs_lt_natAbs d (by omega)
 refine⟨e1,e2,fun c hc hne=>?_⟩;have hv:aR Y r w fun c=>g Y q c-a*dl q c:=(h.wa _).mp (aR.sub (row q hq) h2)
 have:=h.Be.KW hv (fun k hk=>by
  show 0<=g Y q k-a*dl q k/\g Y q k-a*dl q k<g Y k k;have hp:=h.pos k hk;by_cases e:q=k
  . subst e;rw[bF,e1];omega
  . rw[bE e,Int.mul_zero,Int.sub_zero];by_cases hlt:q<k
    . exact h.red q k hlt hk
    . rw[h.up q k hq (by omega)];omega) c hc
 have:g Y q c-a*dl q c=0:=this;rw[bE (Ne.symm hne)]at this;omega
theorem Fr.dvd{X Y:Rows}{N w r q:Nat}{v:Nat->Int}(h:Fr X Y N w r)(hq:q<r)(hv:aR X N w v)(h0:∀c,c<q->v c=0):g Y q q∣v q:=by
 rcases h.Be.at (q:=q) ((h.wa _).mp hv) (by have:=h.rW;omega) h0 with⟨i,_,e,hd⟩|h0
 . have e:i=q:=e;subst e;exact hd
 . rw[h0];exact⟨0,by rw[Int.mul_zero]⟩
structure Lo(X:Rows)(N w r:Nat):Prop where
 is:aJ N w X
 rN:r<=N
 rW:r<=w
 out:∀i c,i<N->c<w->r<=i\/r<=c->g X i c=0
 jT:∀i c,i<r->c<r->i<c->g X i c=0
 pos:∀i,i<r->0<g X i i
 le:∀i c,c<i->i<r->0<=g X i c/\g X i c<=g X i i
theorem Fr.lo{X Y:Rows}{N w r:Nat}(h:Fr X Y N w r):Lo (aX Y w) w N r:=by
 have rN:=h.rN;have rW:=h.rW;have at_:∀i c,i<N->c<w->g (aX Y w) c i=g Y i c:=fun i c hi hc=>bL h.is hi hc;refine⟨b_ h.is,rW,rN,fun i c hi hc ho=>?_,fun i c hi hc hic=>?_,fun i hi=>?_,fun i c hci hi=>?_⟩
 . rw[at_ c i hc hi];rcases ho with z|z
   . exact h.out c i hc hi z
   . exact h.zs c i z hc hi
 . rw[at_ c i (by omega) (by omega)];exact h.up c i hc hic
 . rw[at_ i i (by omega) (by omega)];exact h.pos i hi
 . rw[at_ c i (by omega) (by omega),at_ i i (by omega) (by omega)];obtain⟨a,b⟩:=h.red c i hci hi;exact⟨a,Int.le_of_lt b⟩
theorem Lo.fr{X:Rows}{N w r top e u v:Nat}{c:B3}{ld:Nat->Nat}(L:Lo X N w r)(H:eD X N w c top w ld e u v):top=r/\Fr X c.A N w r/\(Pr r fun q=>g c.A q q)∣Pr r fun q=>g X q q:=by
 have rN:=L.rN;have h:=FN (f:=fun q=>q) H L.rW (fun q hq=>by omega) (fun i c hi hc hr=>L.out i c hi hc (.inr hr)) (fun q c hq hc=>L.jT q c hq hc) fun q hq=>Int.ne_of_gt (L.pos q hq);exact⟨h.1,h.2,h.2.prod (f:=fun q=>q) (fun q hq=>by omega) fun q c hq hc=>L.jT q c hq hc⟩
theorem Lo.abs{X:Rows}{N w r M:Nat}(L:Lo X N w r)(hM:(Pr r fun q=>g X q q)<=(M:Int))(i c:Nat)(hi:i<N)(hc:c<w):(g X i c).natAbs<=M:=by
 by_cases hir:i<r
 . by_cases hcr:c<r
   . have h1:=xk (fun q hq=>L.pos q hq) i hir;by_cases h2:i<c
     . rw[L.jT i c hir hcr h2];exact Nat.zero_le _
     . by_cases h3:c=i
       . subst h3;have:=L.pos c hir;omega
       . have:=L.le i c (by omega) hir;omega
   . rw[L.out i c hi hc (.inr (by omega))];exact Nat.zero_le _
 . rw[L.out i c hi hc (.inl (by omega))];exact Nat.zero_le _
theorem Kz{r M:Nat}{X:Fn}{t y:Nat->Int}(jT:∀i c,i<r->c<r->i<c->X i c=0)(pos:∀i,i<r->0<X i i)(le:∀i c,c<i->i<r->0<=X i c/\X i c<=X i i)(hy:∀c,c<r->(y c).natAbs<=M)(e:∀c,c<r->y c=S r fun j=>t j*X j c):∀d c,c<r->r-1-c=d->(t c*X c c).natAbs<=2^d*M:=fun d=>by
 induction d using Nat.strongRecOn with
 |ind d ih=>
  intro c hc hd;have h1:=e c hc
  have sp:(S r fun j=>t j*X j c)=t c*X c c+S (r-1-c) fun k=>t (c+1+k)*X (c+1+k) c:=by
   have er:r=(c+1)+(r-1-c):=by omega
   conv=>lhs;rw[er]
   rw[vc];congr 1;show S c (fun j=>t j*X j c)+t c*X c c=_;rw[hV fun j hj=>by rw[jT j c (by omega) hc hj,Int.mul_zero],Int.zero_add]
  have bd:∀n,n<=r-1-c->(S n fun k=>t (c+1+k)*X (c+1+k) c).natAbs<=(2^d-2^(d-n))*M:=fun n=>by
   induction n with
   |zero=>intro _;exact Nat.zero_le _
   |succ n ih2=>
    intro hn;have h3:=ih2 (by omega);have h4:=ih (d-1-n) (by omega) (c+1+n) (by omega) (by omega)
    have h5:(t (c+1+n)*X (c+1+n) c).natAbs<=2^(d-1-n)*M:=by
     refine Nat.le_trans ?_ h4;rw[Int.natAbs_mul,Int.natAbs_mul];refine Nat.mul_le_mul_left _ ?_;have:=le (c+1+n) c (by omega) (by omega);omega
    have h6:(S (n+1) fun k=>t (c+1+k)*X (c+1+k) c).natAbs<=(S n fun k=>t (c+1+k)*X (c+1+k) c).natAbs+(t (c+1+n)*X (c+1+n) c).natAbs:=Int.natAbs_add_le _ _;refine Nat.le_trans h6 (Nat.le_trans (Nat.add_le_add h3 h5) ?_);rw[<-Nat.add_mul];refine Nat.mul_le_mul_right _ ?_;have p1:2^(d-n)=2*2^(d-1-n):=by rw[show d-n=(d-1-n)+1 by omega,Nat.pow_succ,Nat.mul_comm]
    have p2:2^(d-n)<=2^d:=Nat.pow_le_pow_right (by decide) (by omega);rw[show d-(n+1)=d-1-n by omega];omega
  have h2:=bd (r-1-c) (Nat.le_refl _);rw[hd,Nat.sub_self]at h2;have h3:=hy c hc;rw[h1,sp]at h3;have h4:(t c*X c c).natAbs<=M+(2^d-2^0)*M:=by rw[hd]at h3;omega
  refine Nat.le_trans h4 ?_
  have:(2^d-2^0)*M+M=2^d*M:=by
   have p:1<=2^d:=Nat.one_le_two_pow;rw[show(2^d-2^0)*M+M=((2^d-1)+1)*M by rw[Nat.add_mul,Nat.one_mul],Nat.sub_add_cancel p]
  omega
theorem IH{r M:Nat}{Y:Fn}{t x:Nat->Int}(up:∀i c,i<r->c<i->Y i c=0)(pos:∀i,i<r->0<Y i i)(red:∀i j,i<j->j<r->0<=Y i j/\Y i j<Y j j)(hx:∀c,c<r->(x c).natAbs<=M)(e:∀c,c<r->x c=S r fun k=>t k*Y k c):∀c,c<r->(t c).natAbs<=2^c*M:=fun c=>by
 induction c using Nat.strongRecOn with
 |ind c ih=>
  intro hc;have h1:=e c hc
  have sp:(S r fun k=>t k*Y k c)=S c (fun k=>t k*Y k c)+t c*Y c c:=by
   have er:r=(c+1)+(r-1-c):=by omega
   conv=>lhs;rw[er]
   rw[vc,hV (n:=r-1-c) fun k hk=>by rw[up (c+1+k) c (by omega) (by omega),Int.mul_zero],Int.add_zero];rfl
  have bd:∀n,n<=c->(S n fun k=>t k*Y k c).natAbs<=(2^n-1)*M*(Y c c).natAbs:=fun n=>by
   induction n with
   |zero=>intro _;exact Nat.zero_le _
   |succ n ih2=>
    intro hn;have h3:=ih2 (by omega);have h4:=ih n (by omega) (by omega)
    have h5:(t n*Y n c).natAbs<=2^n*M*(Y c c).natAbs:=by
     rw[Int.natAbs_mul];refine Nat.mul_le_mul h4 ?_;have:=red n c (by omega) hc;omega
    have h6:(S (n+1) fun k=>t k*Y k c).natAbs<=(S n fun k=>t k*Y k c).natAbs+(t n*Y n c).natAbs:=Int.natAbs_add_le _ _;refine Nat.le_trans h6 (Nat.le_trans (Nat.add_le_add h3 h5) ?_);rw[<-Nat.add_mul,<-Nat.add_mul];refine Nat.mul_le_mul_right _ (Nat.mul_le_mul_right _ ?_);have p:1<=2^n:=Nat.one_le_two_pow;rw[Nat.pow_succ];omega
  have h2:=bd c (Nat.le_refl _);have h3:=hx c hc;have hp:=pos c hc;rw[h1,sp]at h3;have h4:(t c*Y c c).natAbs<=M+(2^c-1)*M*(Y c c).natAbs:=by omega
  have h5:(t c).natAbs*(Y c c).natAbs<=2^c*M*(Y c c).natAbs:=by
   rw[<-Int.natAbs_mul];refine Nat.le_trans h4 ?_;have p:1<=2^c:=Nat.one_le_two_pow
   have e1:2^c*M*(Y c c).natAbs=(2^c-1)*M*(Y c c).natAbs+M*(Y c c).natAbs:=by
    rw[<-Nat.add_mul];congr 1;rw[show(2^c-1)*M+M=((2^c-1)+1)*M by rw[Nat.add_mul,Nat.one_mul],Nat.sub_add_cancel p]
   rw[e1];have:M<=M*(Y c c).natAbs:=Nat.le_mul_of_pos_right _ (by omega);omega
  exact Nat.le_of_mul_le_mul_right h5 (by omega)
theorem p9{X B:Rows}{n w w' a b:Nat}(hX:aJ n w X)(hB:aJ w w' B)(w8:w<=8)(bX:∀i c,i<n->c<w->(g X i c).natAbs<=2^a)(bB:∀i c,i<w->c<w'->(g B i c).natAbs<=2^b):∀i c,i<n->c<w'->(g (mulM X B w') i c).natAbs<=2^(a+b+3):=fun i c hi hc=>by
 rw[eO hX hB hi]
 have:=xF (n:=w) (f:=fun k=>g X i k*g B k c) (m:=2^a*2^b) fun k hk=>by
  rw[Int.natAbs_mul];exact Nat.mul_le_mul (bX i k hi hk) (bB k c hk hc)
 refine Nat.le_trans this ?_;rw[show a+b+3=3+(a+b) by omega,Nat.pow_add _ 3,Nat.pow_add];exact Nat.mul_le_mul_right _ w8
structure Zr(N w r:Nat)(b:B3):Prop where
 iA:aJ N w b.A
 iU:aJ N N b.U
 iC:aJ N N b.C
 a:∀i c,r<=i->i<N->g b.A i c=0
 u:∀i c,i<N->c<N->r<=i\/r<=c->g b.U i c=dl i c
 c:∀i c,i<N->c<N->r<=i\/r<=c->g b.C i c=dl i c
section
variable {N w r p top:Nat}{b:B3}
theorem Ai{Y:Rows}{k j:Nat}{q:Int}(iY:aJ N N Y)(hk:k<N)(hj:j<N)(kr:k<r)(jr:j<r)(h:∀i c,i<N->c<N->r<=i\/r<=c->g Y i c=dl i c)(i c:Nat)(hi:i<N)(hc:c<N)(ho:r<=i\/r<=c):g (aS Y k q j) i c=dl i c:=by
 rw[du iY hk hj];by_cases e:i=k
 . subst e;rw[if_pos rfl,h i c hi hc ho,h j c hj hc (.inr (by omega)),bE (show j≠c by omega),Int.mul_zero,Int.sub_zero]
 . rw[if_neg e];exact h i c hi hc ho
theorem Zr.take(z:Zr N w r b){k j:Nat}{q q':Int}(hk:k<N)(hj:j<N)(kr:k<r)(jr:j<r):Zr N w r ⟨aS b.A k q j,aS b.U k q j,aS b.C j q' k⟩:=by
 refine⟨ly z.iA hk hj,ly z.iU hk hj,ly z.iC hj hk,fun i c h1 h2=>?_,Ai z.iU hk hj kr jr z.u,Ai z.iC hj hk jr kr z.c⟩;show g (aS b.A k q j) i c=0;rw[du z.iA hk hj,if_neg (by omega)];exact z.a i c h1 h2
theorem Zr.lt(z:Zr N w r b){L:List Nat}(hL:jJ b.A N top p L){k:Nat}(hk:k∈L):top<=k/\k<N/\k<r:=by
 obtain⟨h1,h2,h3⟩:=(hL.mem k).mp hk;exact⟨h1,h2,Nat.lt_of_not_le fun y=>h3 (z.a k p y h2)⟩
theorem Zr.reach{c:B3}(h:fu N top p b c):Zr N w r b->Zr N w r c:=by
 induction h with
 |refl b=>exact fun z=>z
 |head s _ ih=>
  intro z;obtain⟨L,k,j,hL,rfl⟩:=s;obtain⟨_,k2,k3⟩:=z.lt hL (k:=k) (by simp);obtain⟨_,j2,j3⟩:=z.lt hL (k:=j) (by simp);exact ih (z.take k2 j2 k3 j3)
theorem FD{Y:Rows}{k o:Nat}(iY:aJ N N Y)(hk:k<N)(ho:o<N)(kr:k<r)(or_:o<r)(h:∀i c,i<N->c<N->r<=i\/r<=c->g Y i c=dl i c)(i c:Nat)(hi:i<N)(hc:c<N)(hh:r<=i\/r<=c):g (bz Y k o) i c=dl i c:=by
 rw[iP iY hk ho];by_cases hr:r<=i
 . have e:sw k o i=i:=by unfold sw;rw[if_neg (by omega),if_neg (by omega)]
   rw[e];exact h i c hi hc hh
 . have hs:sw k o i<r:=mr kr or_ (by omega);rw[h _ c (mr hk ho hi) hc (.inr (by omega)),bE (by omega),bE (by omega)]
theorem F2{Y:Rows}{k:Nat}(iY:aJ N N Y)(hk:k<N)(kr:k<r)(h:∀i c,i<N->c<N->r<=i\/r<=c->g Y i c=dl i c)(i c:Nat)(hi:i<N)(hc:c<N)(hh:r<=i\/r<=c):g (fO Y k) i c=dl i c:=by
 rw[jw iY hk];by_cases e:i=k
 . subst e;rw[if_pos rfl,h i c hi hc hh,bE (show i≠c by omega)];rfl
 . rw[if_neg e];exact h i c hi hc hh
theorem Zr.set{c:B3}{s:Nat}(z:Zr N w r c)(hL:jJ c.A N top p [s]):Zr N w r (setB c p top s)/\top<r/\top<N:=by
 obtain⟨s1,s2,s3⟩:=z.lt hL (k:=s) (by simp);have tr:top<r:=by omega
 have tN:top<N:=by omega
 have z1:Zr N w r ⟨bz c.A top s,bz c.U top s,bz c.C top s⟩:=by
  refine⟨lg z.iA tN s2,lg z.iU tN s2,lg z.iC tN s2,fun i q h1 h2=>?_,FD z.iU tN s2 tr s3 z.u,FD z.iC tN s2 tr s3 z.c⟩;show g (bz c.A top s) i q=0;rw[iP z.iA tN s2,show sw top s i=i by unfold sw;rw[if_neg (by omega),if_neg (by omega)]];exact z.a i q h1 h2
 refine⟨?_,tr,tN⟩;unfold setB;split
 . refine⟨o4 z1.iA tN,o4 z1.iU tN,o4 z1.iC tN,fun i q h1 h2=>?_,F2 z1.iU tN tr z1.u,F2 z1.iC tN tr z1.c⟩;show g (fO (bz c.A top s) top) i q=0;rw[jw z1.iA tN,if_neg (by omega)];exact z1.a i q h1 h2
 . exact z1
theorem Zr.low(z:Zr N w r b)(tr:top<r)(tN:top<N):∀k,k<=top->Zr N w r (i4 p top k b)
 |0,_=>z
 |k+1,hk=>by
  have ih:=Zr.low z tr tN k (by omega);unfold i4;exact ih.take (by omega) tN (by omega) tr
theorem eA.zr{X:Rows}(iX:aJ N w X)(h0:∀i c,r<=i->i<N->c<w->g X i c=0){p t:Nat}{c:B3}(h:eA X N p t c):Zr N w r c:=by
 induction h with
 |start=>
  refine⟨iX,bP N,bP N,fun i c h1 h2=>?_,fun i c hi hc _=>cT hi hc,fun i c hi hc _=>cT hi hc⟩;by_cases hc:c<w
  . exact h0 i c h1 h2 hc
  . unfold g;rw[lE (by rw[iX.row h2];omega)]
 |next _ cl ih=>
  cases cl with
  |none l=>exact ih
  |one gr l=>
   obtain⟨z,tr,tN⟩:=(Zr.reach gr ih).set l;exact z.low tr tN _ (Nat.le_refl _)
end
theorem oB{f h:Nat->Int}:∀ {n:Nat},(∀i,i<n->f i=h i)->Pr n f=Pr n h
 |0,_=>rfl
 |n+1,e=>by
  show Pr n f*f n=Pr n h*h n;rw[oB fun i hi=>e i (Nat.lt_succ_of_lt hi),e n (Nat.lt_succ_self n)]
theorem Lo.turn{X:Rows}{N w r top e u v b:Nat}{c:B3}{ld:Nat->Nat}(L:Lo X N w r)(r8:r<=8)(hC:eA X N w top c)(H:eD X N w c top w ld e u v)(hM:(Pr r fun q=>g X q q)<=((2^b:Nat):Int)):∀i j,i<N->j<N->(g c.U i j).natAbs<=2^(b+8)/\(g c.C i j).natAbs<=2^(b+8):=by
 have rN:=L.rN;have rW:=L.rW;have z:=hC.zr L.is (r:=r) fun i c h1 h2 h3=>L.out i c h2 h3 (.inl h1);obtain⟨et,F,dv⟩:=L.fr H;subst et;have pX:0<Pr top fun q=>g X q q:=l8 fun q hq=>L.pos q hq;have hY:(Pr top fun q=>g c.A q q)<=((2^b:Nat):Int):=Int.le_trans (Int.le_of_dvd pX dv) hM;have bX:=L.abs hM
 have bY:∀i j,i<N->j<w->(g c.A i j).natAbs<=2^b:=fun i j hi hj=>by
  have hT:(Pr top fun q=>g (aX c.A w) q q)<=((2^b:Nat):Int):=by
   have e1:(Pr top fun q=>g (aX c.A w) q q)=Pr top fun q=>g c.A q q:=oB fun q hq=>bL F.is (by omega) (by omega);rw[e1];exact hY
  have:=F.lo.abs hT j i hj hi;rwa [bL F.is hi hj]at this
 have one:1<=2^(b+8):=Nat.one_le_two_pow;have d1:∀a b',(dl a b').natAbs<=2^(b+8):=fun a b'=>by unfold dl;split<;>(try exact one);exact Nat.zero_le _
 have up:∀ {d:Nat},d<=8->2^d*2^b<=2^(b+8):=fun{d} h=>by rw[<-Nat.pow_add];exact Nat.pow_le_pow_right (by decide) (by omega)
 refine fun i j hi hj=>⟨?_,?_⟩
 . by_cases ho:top<=i\/top<=j
   . rw[z.u i j hi hj ho];exact d1 _ _
   . have hi':i<top:=by omega
     have hj':j<top:=by omega
     have s:=Kz (r:=top) (M:=2^b) (X:=g X) (t:=g c.U i) (y:=g c.A i) L.jT L.pos L.le (fun c' hc'=>bY i c' hi (by omega)) (fun c' hc'=>by
      rw[H.tn.ua i c' hi (by omega)];exact AI rN fun k h1 h2=>by rw[L.out k c' h2 (by omega) (.inl h1),Int.mul_zero]) (top-1-j) j hj' rfl
     have hp:=L.pos j hj'
     have:(g c.U i j).natAbs<=(g c.U i j*g X j j).natAbs:=by
      rw[Int.natAbs_mul];exact Nat.le_mul_of_pos_right _ (by omega)
     exact Nat.le_trans this (Nat.le_trans s (up (by omega)))
 . by_cases ho:top<=i\/top<=j
   . rw[z.c i j hi hj ho];exact d1 _ _
   . have hi':i<top:=by omega
     have hj':j<top:=by omega
     have s:=IH (r:=top) (M:=2^b) (Y:=g c.A) (t:=fun k=>g c.C k j) (x:=g X j) F.up F.pos F.red (fun c' hc'=>bX j c' (by omega) (by omega)) (fun c' hc'=>H.BE.back hj (by omega)) i hi';exact Nat.le_trans s (up (by omega))
structure Sd(A B L Lb R Rb:Rows)(N w x:Nat):Prop where
 iA:aJ N w A
 iB:aJ N w B
 iL:aJ N N L
 rh:aJ N N Lb
 iR:aJ w w R
 oq:aJ w w Rb
 eq:mulM (mulM L A w) R w=B
 l1:mulM L Lb N=units N
 l2:mulM Lb L N=units N
 r1:mulM R Rb w=units w
 r2:mulM Rb R w=units w
 sL:∀i j,i<N->j<N->(g L i j).natAbs<=2^x
 F6:∀i j,i<N->j<N->(g Lb i j).natAbs<=2^x
 sR:∀i j,i<w->j<w->(g R i j).natAbs<=2^x
 FQ:∀i j,i<w->j<w->(g Rb i j).natAbs<=2^x
theorem Sd.start{A:Rows}{N w:Nat}(hA:aJ N w A):Sd A A (units N) (units N) (units w) (units w) N w 0:=by
 have d1:∀n i j,i<n->j<n->(g (units n) i j).natAbs<=2^0:=fun n i j hi hj=>by
  rw[cT hi hj];unfold dl;split<;>decide
 exact⟨hA,hA,bP _,bP _,bP _,bP _,by rw[dS hA,zq hA],dS (bP _),dS (bP _),dS (bP _),dS (bP _),d1 N,d1 N,d1 w,d1 w⟩
theorem Sd.mono{A B L Lb R Rb:Rows}{N w x x':Nat}(h:Sd A B L Lb R Rb N w x)(l:x<=x'):Sd A B L Lb R Rb N w x':=by
 have up:∀ {a:Nat},a<=2^x->a<=2^x':=fun h=>Nat.le_trans h (Nat.pow_le_pow_right (by decide) l);exact⟨h.iA,h.iB,h.iL,h.rh,h.iR,h.oq,h.eq,h.l1,h.l2,h.r1,h.r2,fun i j hi hj=>up (h.sL i j hi hj),fun i j hi hj=>up (h.F6 i j hi hj),fun i j hi hj=>up (h.sR i j hi hj),fun i j hi hj=>up (h.FQ i j hi hj)⟩
theorem Sd.left{A B L Lb R Rb T Tb:Rows}{N w x y:Nat}(h:Sd A B L Lb R Rb N w x)(n8:N<=8)(iT:aJ N N T)(iTb:aJ N N Tb)(t1:mulM T Tb N=units N)(t2:mulM Tb T N=units N)(sT:∀i j,i<N->j<N->(g T i j).natAbs<=2^y)(sTb:∀i j,i<N->j<N->(g Tb i j).natAbs<=2^y):Sd A (mulM T B w) (mulM T L N) (mulM Lb Tb N) R Rb N w (x+y+3):=by
 have h':=h.mono (show x<=x+y+3 by omega);refine⟨h.iA,bQ iT h.iB,bQ iT h.iL,bQ h.rh iTb,h.iR,h.oq,?_,?_,?_,h.r1,h.r2,?_,?_,h'.sR,h'.FQ⟩
 . rw[dD iT h.iL h.iA,dD iT (bQ h.iL h.iA) h.iR,h.eq]
 . rw[dD iT h.iL (bQ h.rh iTb),<-dD h.iL h.rh iTb,h.l1,dS iTb,t1]
 . rw[dD h.rh iTb (bQ iT h.iL),<-dD iTb iT h.iL,t2,dS h.iL,h.l2]
 . intro i j hi hj;have:=p9 iT h.iL n8 sT h.sL i j hi hj;rwa [show y+x+3=x+y+3 by omega]at this
 . exact fun i j hi hj=>p9 h.rh iTb n8 h.F6 sTb i j hi hj
theorem Sd.right{A B L Lb R Rb T Tb:Rows}{N w x y:Nat}(h:Sd A B L Lb R Rb N w x)(w8:w<=8)(iT:aJ w w T)(iTb:aJ w w Tb)(t1:mulM T Tb w=units w)(t2:mulM Tb T w=units w)(sT:∀i j,i<w->j<w->(g T i j).natAbs<=2^y)(sTb:∀i j,i<w->j<w->(g Tb i j).natAbs<=2^y):Sd A (mulM B T w) L Lb (mulM R T w) (mulM Tb Rb w) N w (x+y+3):=by
 have h':=h.mono (show x<=x+y+3 by omega);refine⟨h.iA,bQ h.iB iT,h.iL,h.rh,bQ h.iR iT,bQ iTb h.oq,?_,h.l1,h.l2,?_,?_,h'.sL,h'.F6,?_,?_⟩
 . rw[<-dD (bQ h.iL h.iA) h.iR iT,h.eq]
 . rw[dD h.iR iT (bQ iTb h.oq),<-dD iT iTb h.oq,t1,dS h.oq,h.r1]
 . rw[dD iTb h.oq (bQ h.iR iT),<-dD h.oq h.iR iT,h.r2,dS iT,t2]
 . exact fun i j hi hj=>p9 h.iR iT w8 h.sR sT i j hi hj
 . intro i j hi hj;have:=p9 iTb h.oq w8 sTb h.FQ i j hi hj;rwa [show y+x+3=x+y+3 by omega]at this
theorem Tn.Jc{X A U C:Rows}{N w:Nat}(T:Tn X A U C N w)(hX:aJ N w X):mulM U X w=A/\mulM U (aX C N) N=units N/\mulM (aX C N) U N=units N/\mulM (aX U N) C N=units N/\mulM C (aX U N) N=units N:=by
 have iU:=T.fK;have iC:=T.gg;refine⟨(bQ iU hX).ext T.isA fun i c hi hc=>?_,(bQ iU (b_ iC)).ext (bP _) fun i j hi hj=>?_,(bQ (b_ iC) iU).ext (bP _) fun i j hi hj=>?_,(bQ (b_ iU) iC).ext (bP _) fun i j hi hj=>?_,(bQ iC (b_ iU)).ext (bP _) fun i j hi hj=>?_⟩
 . rw[eO iU hX hi,T.ua i c hi hc]
 . rw[eO iU (b_ iC) hi,cT hi hj,<-T.ub i j hi hj];exact aD fun k hk=>by rw[bL iC hj hk]
 . rw[eO (b_ iC) iU hi,cT hi hj,<-T.bu i j hi hj];exact aD fun k hk=>by rw[bL iC hk hi];try rw[Int.mul_comm]
 . rw[eO (b_ iU) iC hi,cT hi hj,nq,<-T.bu j i hj hi];exact aD fun k hk=>by rw[bL iU hk hi];try rw[Int.mul_comm]
 . rw[eO iC (b_ iU) hi,cT hi hj,nq,<-T.ub j i hj hi];exact aD fun k hk=>by rw[bL iU hj hk,Int.mul_comm]
theorem vw{A:Rows}{N w:Nat}(hA:aJ N w A):aX (aX A w) N=A:=
 (b_ (b_ hA)).ext hA fun i j hi hj=>by rw[bL (b_ hA) hj hi,bL hA hi hj]
theorem He{A:Rows}{N w top e u v b:Nat}{c:B3}{ld:Nat->Nat}(H:eD A N w c top w ld e u v)(t8:top<=8)(hA:∀i c,i<N->c<w->(g A i c).natAbs<=b):(Pr top fun q=>g c.A q (ld q))<=(((8*b)^top:Nat):Int):=by
 have S1:=H.BE;obtain⟨I,B,h1,h2,h3⟩:=S1.Ax.picked ⟨S1.lead,S1.mono⟩
 have e1:D top (fun i k=>g A (I i) (ld k))=D top B*D top fun i k=>g c.A i (ld k):=by
  rw[<-A_];exact cD fun i k hi hk=>h2 i (ld k) hi (S1.lead k hk).1
 rw[D_ (M:=fun i k=>g c.A i (ld k)) fun i k hi hk hki=>(S1.lead i hi).2.2 _ (S1.mono k i hki hi)]at e1;have h4:=Fe t8 (M:=fun i k=>g A (I i) (ld k)) (m:=b) fun i k hi hk=>hA _ _ (h1 i hi) (S1.lead k hk).1;rw[e1]at h4;have h5:=Av h3 h4;have h6:0<Pr top fun q=>g c.A q (ld q):=l8 fun q hq=>(S1.lead q hq).2.1;omega
theorem Du{A:Rows}{N w t1 t2 e1 u1 v1 e2 u2 v2 b:Nat}{c1 c2:B3}{l1 l2:Nat->Nat}(H1:eD A N w c1 t1 w l1 e1 u1 v1)(H2:eD (aX c1.A w) w N c2 t2 N l2 e2 u2 v2)(t8:t1<=8)(hA:∀i c,i<N->c<w->(g A i c).natAbs<=b):t2=t1/\Lo (aX c2.A N) N w t1/\(Pr t1 fun q=>g (aX c2.A N) q q)<=(((8*b)^t1:Nat):Int):=by
 have S1:=H1.BE;have iA:=S1.tn.isA;have le:=S1.le;have at_:∀i c,i<N->c<w->g (aX c1.A w) c i=g c1.A i c:=fun i c hi hc=>bL iA hi hc;have lw:∀q,q<t1->l1 q<w:=fun q hq=>(S1.lead q hq).1
 have jT:∀q c,q<t1->c<t1->q<c->g (aX c1.A w) (l1 q) c=0:=fun q c hq hc hqc=>by
  rw[at_ c _ (by omega) (lw q hq)];exact(S1.lead c hc).2.2 _ (S1.mono q c hqc hc)
 obtain⟨e,F⟩:=FN (f:=l1) H2 le lw (fun i c hi hc hr=>by rw[at_ c i hc hi];exact S1.zs c i hr hc hi) jT (fun q hq=>by rw[at_ q _ (by omega) (lw q hq)];exact Int.ne_of_gt (S1.lead q hq).2.1);refine⟨e,F.lo,?_⟩;have d:=F.prod (f:=l1) lw jT;have e3:(Pr t1 fun q=>g (aX c1.A w) (l1 q) q)=Pr t1 fun q=>g c1.A q (l1 q):=oB fun q hq=>at_ q _ (by omega) (lw q hq);have e4:(Pr t1 fun q=>g (aX c2.A N) q q)=Pr t1 fun q=>g c2.A q q:=oB fun q hq=>bL F.is (by have:=F.rN;omega) (by omega);rw[e4];rw[e3]at d;exact Int.le_trans (Int.le_of_dvd (l8 fun q hq=>(S1.lead q hq).2.1) d) (He H1 t8 hA)
def Cl(X:Rows)(r t:Nat):Prop:=∀i j,j<t->j<i->i<r->g X i j=0
def Dg(X:Rows)(N w:Nat):Prop:=∀i c,i<N->c<w->i≠c->g X i c=0
theorem Lo.dg{X:Rows}{N w r:Nat}(L:Lo X N w r)(h:Cl X r r):Dg X N w:=fun i c hi hc hne=>by
 by_cases ho:r<=i\/r<=c
 . exact L.out i c hi hc ho
 . by_cases hic:i<c
   . exact L.jT i c (by omega) (by omega) hic
   . exact h i c (by omega) (by omega) (by omega)
section
variable {X Y Z:Rows}{N w r t:Nat}
theorem Cl.unit(L:Lo X N w r)(h:Cl X r t){q:Nat}(hqt:q<t)(hq:q<r):(∀i,i<N->g X q q∣g X i q)/\aR X N w fun c=>g X q q*dl q c:=by
 have rN:=L.rN;have rW:=L.rW
 have row:∀c,c<w->g X q c=g X q q*dl q c:=fun c hc=>by
  by_cases e:q=c
  . subst e;rw[bF,Int.mul_one]
  . rw[bE e,Int.mul_zero];by_cases hcr:c<r
    . by_cases hqc:q<c
      . exact L.jT q c hq hcr hqc
      . exact h q c (by omega) (by omega) hq
    . exact L.out q c (by omega) hc (.inr (by omega))
 refine⟨fun i hi=>?_,(aR.row (X:=X) (w:=w) (k:=q) (by omega)).eq fun c hc=>(row c hc).symm⟩;by_cases e:i=q
 . rw[e];exact Int.dvd_refl _
 . have:g X i q=0:=by
    by_cases hir:i<r
    . by_cases hiq:i<q
      . exact L.jT i q hir hq hiq
      . exact h i q hqt (by omega) hir
    . exact L.out i q hi (by omega) (.inl (by omega))
   rw[this];exact⟨0,by rw[Int.mul_zero]⟩
theorem Cl.step(L:Lo X N w r)(F:Fr X Y N w r)(h:Cl X r t):Cl (aX Y w) r t/\(∀q,q<t->q<r->g Y q q=g X q q)/\(t<r->∀i,i<r->t<=i->g Y t t∣g X i t):=by
 have rN:=L.rN;have rW:=L.rW;refine⟨fun i j hj hji hi=>?_,fun q hqt hq=>?_,fun htr i hi hti=>?_⟩
 . obtain⟨u1,u2⟩:=h.unit L hj (by omega);rw[bL F.is (show j<N by omega) (by omega)];exact(F.fix (by omega) (L.pos j (by omega)) u1 u2).2.2 i (by omega) (by omega)
 . obtain⟨u1,u2⟩:=h.unit L hqt hq;exact(F.fix hq (L.pos q hq) u1 u2).1
 . exact F.dvd htr (aR.row (X:=X) (w:=w) (k:=i) (by omega)) fun c hc=>h i c hc (by omega) hi
theorem Lo.round(L:Lo X N w r)(F:Fr X Y N w r)(G:Fr (aX Y w) Z w N r)(h:Cl X r t)(htr:t<r):Cl (aX Z N) r t/\(g Z t t∣g X t t)/\(g Z t t=g X t t->Cl (aX Z N) r (t+1)):=by
 have rN:=L.rN;have rW:=L.rW;have L2:=F.lo;obtain⟨c1,_,d1⟩:=h.step L F;obtain⟨c2,_,d2⟩:=c1.step L2 G;have a1:=d1 htr t htr (Nat.le_refl _);have at_:∀i c,i<N->c<w->g (aX Y w) c i=g Y i c:=fun i c hi hc=>bL F.is hi hc
 have a2:∀i,i<r->t<=i->g Z t t∣g Y t i:=fun i hi hti=>by
  have:=d2 htr i hi hti;rwa [at_ t i (by omega) (by omega)]at this
 have a3:=a2 t htr (Nat.le_refl _);refine⟨c2,Int.dvd_trans a3 a1,fun e=>?_⟩
 have eY:g Z t t=g Y t t:=by
  rw[<-e]at a1;exact Int.dvd_antisymm (Int.le_of_lt (G.pos t htr)) (Int.le_of_lt (F.pos t htr)) a3 a1
 have u1:∀i,i<w->g Y t t∣g (aX Y w) i t:=fun i hi=>by
  rw[at_ t i (by omega) hi];by_cases hir:i<r
  . by_cases hti:t<=i
    . rw[<-eY];exact a2 i hir hti
    . rw[F.up t i htr (by omega)];exact⟨0,by rw[Int.mul_zero]⟩
  . rw[F.out t i (by omega) hi (by omega)];exact⟨0,by rw[Int.mul_zero]⟩
 have u2:aR (aX Y w) w N fun c=>g Y t t*dl t c:=(aR.row (X:=aX Y w) (w:=N) (k:=t) (by omega)).eq fun c hc=>by
  rw[at_ c t hc (by omega)];by_cases e:t=c
  . subst e;rw[bF,Int.mul_one]
  . rw[bE e,Int.mul_zero];by_cases hcr:c<r
    . by_cases htc:t<c
      . exact(F.up c t hcr htc).symm
      . have:=c1 t c (by omega) (by omega) htr;rw[at_ c t hc (by omega)]at this;exact this.symm
    . exact(F.zs c t (by omega) hc (by omega)).symm
 have f:=G.fix htr (F.pos t htr) u1 u2;intro i j hj hji hi;by_cases e2:j=t
 . subst e2;rw[bL G.is (show j<w by omega) (by omega)];exact f.2.2 i (by omega) (by omega)
 . exact c2 i j (by omega) hji hi
end
def lf(X:Rows)(r t b:Nat):Nat:=(r-t)*(b+1)+if t<r then(g X t t).natAbs.log2 else 0
theorem EJ{a b:Nat}(hb:0<b)(h:b∣a)(ha:0<a)(hne:b≠a):b.log2<a.log2:=by
 obtain⟨k,rfl⟩:=h
 have k2:2<=k:=by
  rcases k with _|_|k
  . simp at ha
  . simp at hne
  . omega
 have h1:2^(b.log2)<=b:=Nat.log2_self_le (by omega);have h2:b*2<=b*k:=Nat.mul_le_mul_left b k2;have h3:b.log2+1<=(b*k).log2:=(Nat.le_log2 (by omega)).mpr (by rw[Nat.pow_succ];omega);omega
theorem Lg{X:Rows}{N w r t b:Nat}(L:Lo X N w r)(r8:r<=8)(hM:(Pr r fun q=>g X q q)<=((2^b:Nat):Int)):lf X r t b<=9*(b+1):=by
 unfold lf;have h1:(r-t)*(b+1)<=8*(b+1):=Nat.mul_le_mul_right _ (by omega);split
 . rename_i h;have h2:=xk (fun q hq=>L.pos q hq) t h;have h3:=L.pos t h;have h4:(g X t t).natAbs.log2<b+1:=(Nat.log2_lt (by omega)).mpr (by rw[Nat.pow_succ];omega);omega
 . omega
theorem Lo.less{X Y Z:Rows}{N w r t b:Nat}(L:Lo X N w r)(F:Fr X Y N w r)(G:Fr (aX Y w) Z w N r)(h:Cl X r t)(htr:t<r)(hM:(Pr r fun q=>g (aX Z N) q q)<=((2^b:Nat):Int)):∃t',t'<=r/\Cl (aX Z N) r t'/\lf (aX Z N) r t' b<lf X r t b:=by
 obtain⟨h1,h2,h3⟩:=L.round F G h htr;have rN:=L.rN;have rW:=L.rW;have LZ:=G.lo;have eZ:g (aX Z N) t t=g Z t t:=bL G.is (by omega) (by omega);by_cases e:g Z t t=g X t t
 . refine⟨t+1,htr,h3 e,?_⟩;unfold lf;rw[if_pos htr]
   have h4:(if t+1<r then(g (aX Z N) (t+1) (t+1)).natAbs.log2 else 0)<=b:=by
    split
    . rename_i h;have h5:=xk (fun q hq=>LZ.pos q hq) (t+1) h;have h6:=LZ.pos (t+1) h;have h7:(g (aX Z N) (t+1) (t+1)).natAbs.log2<b+1:=(Nat.log2_lt (by omega)).mpr (by rw[Nat.pow_succ];omega);omega
    . exact Nat.zero_le _
   have h5:(r-t)*(b+1)=(r-(t+1))*(b+1)+(b+1):=by rw[show r-t=(r-(t+1))+1 by omega,Nat.add_mul,Nat.one_mul]
   omega
 . refine⟨t,Nat.le_of_lt htr,h1,?_⟩;unfold lf;rw[if_pos htr,if_pos htr,eZ];have:=EJ (b:=(g Z t t).natAbs) (a:=(g X t t).natAbs) (by have:=G.pos t htr;omega) (Int.natAbs_dvd_natAbs.mpr h2) (by have:=L.pos t htr;omega) (by have:=G.pos t htr;have:=L.pos t htr;omega);omega
def ub(n k p:Nat)(x:Int):Rows:=uk n n fun i j=>if i=k/\j=p then x else dl i j
theorem kY{n k p:Nat}{x:Int}:aJ n n (ub n k p x):=I_
theorem Ba{n k p i j:Nat}{x:Int}(hi:i<n)(hj:j<n)(hkp:k≠p):g (ub n k p x) i j=dl i j+x*(dl i k*dl p j):=by
 unfold ub;rw[A6 hi hj];by_cases h1:i=k
 . by_cases h2:j=p
   . rw[if_pos ⟨h1,h2⟩,h1,h2,bF,bF,bE hkp];omega
   . rw[if_neg fun h=>h2 h.2,bE (Ne.symm h2)];simp
 . rw[if_neg fun h=>h1 h.1,bE h1];simp
theorem Dk{n k p m:Nat}{x:Int}{B:Rows}(hB:aJ m n B)(hk:k<n)(hkp:k≠p){i c:Nat}(hi:i<m)(hc:c<n):g (mulM B (ub n k p x) n) i c=g B i c+x*(g B i k*dl p c):=by
 rw[eO hB kY hi]
 have e:(S n fun j=>g B i j*g (ub n k p x) j c)=S n (fun j=>g B i j*dl j c)+S n fun j=>x*dl p c*(g B i j*dl j k):=by
  rw[<-gJ]
  exact aD fun j hj=>by
   rw[Ba hj hc hkp];grind
 rw[e,eh,jS hc fun j=>g B i j,jS hk fun j=>g B i j];grind
theorem Af{n k p:Nat}{x:Int}(hk:k<n)(hp:p<n)(hkp:k≠p):mulM (ub n k p x) (ub n k p (-x)) n=units n:=(bQ kY kY).ext (bP n) fun i c hi hc=>by
 rw[Dk kY hk hkp hi hc,Ba hi hc hkp,Ba hi hk hkp,cT hi hc,bE (Ne.symm hkp)];grind
theorem Cf{n k p i j:Nat}{x:Int}(hx:x.natAbs<=1)(hi:i<n)(hj:j<n):(g (ub n k p x) i j).natAbs<=2^0:=by
 unfold ub;rw[A6 hi hj];split
 . exact hx
 . unfold dl;split<;>decide
theorem Ae{X:Rows}{N w q:Nat}{a:Int}{v:Nat->Int}(hq:q<w)(h:∀i,i<N->a∣g X i q)(hv:aR X N w v):a∣v q:=by
 obtain⟨z,hz⟩:=hv;rw[hz q hq]
 have:∀n,n<=N->a∣S n fun k=>z k*g X k q:=fun n=>by
  induction n with
  |zero=>exact fun _=>⟨0,by rw[Int.mul_zero];rfl⟩
  |succ n ih=>exact fun hn=>Int.dvd_add (ih (by omega)) (Int.dvd_trans (h n (by omega)) (Int.dvd_mul_left _ _))
 exact this N (Nat.le_refl _)
section
variable {B Y Z:Rows}{N w r k o:Nat}
theorem FI(L:Lo B N w r)(dg:Dg B N w)(hko:k<o)(ho:o<r){i c:Nat}(hi:i<N)(hc:c<w):g (mulM B (ub w o k 1) w) i c=if i=c then g B i i else if i=o/\c=k then g B o o else 0:=by
 have rN:=L.rN;have rW:=L.rW;rw[Dk L.is (by omega) (by omega) hi hc,Int.one_mul];by_cases h1:i=c
 . subst h1;rw[if_pos rfl];by_cases h2:k=i
   . subst h2;rw[dg k o hi (by omega) (by omega),Int.zero_mul,Int.add_zero]
   . rw[bE h2,Int.mul_zero,Int.add_zero]
 . rw[if_neg h1,dg i c hi hc h1];by_cases h2:k=c
   . subst h2;rw[bF,Int.mul_one,Int.zero_add];by_cases h3:i=o
     . subst h3;rw[if_pos ⟨rfl,rfl⟩]
     . rw[if_neg fun h=>h3 h.1];exact dg i o hi (by omega) h3
   . rw[bE h2,if_neg fun h=>h2 h.2.symm];simp
theorem Fo(L:Lo B N w r)(dg:Dg B N w)(hko:k<o)(ho:o<r):Lo (mulM B (ub w o k 1) w) N w r/\(Pr r fun q=>g (mulM B (ub w o k 1) w) q q)=Pr r fun q=>g B q q:=by
 have rN:=L.rN;have rW:=L.rW;have at_:=fun{i c:Nat} (hi:i<N) (hc:c<w)=>FI L dg hko ho hi hc;refine⟨⟨bQ L.is kY,rN,rW,fun i c hi hc ho'=>?_,fun i c hi hc hic=>?_,fun i hi=>?_,fun i c hci hi=>?_⟩,oB fun q hq=>by rw[at_ (by omega) (by omega),if_pos rfl]⟩
 . rw[at_ hi hc];split
   . rename_i e;subst e;exact L.out i i hi hc ho'
   . rw[if_neg (by omega)]
 . rw[at_ (by omega) (by omega),if_neg (by omega),if_neg (by omega)]
 . rw[at_ (by omega) (by omega),if_pos rfl];exact L.pos i hi
 . have hp:=L.pos i hi;rw[at_ (by omega) (by omega),at_ (by omega) (by omega),if_neg (by omega),if_pos rfl];split
   . rename_i h;rw[<-h.1];omega
   . omega
theorem Cz(L:Lo B N w r)(dg:Dg B N w)(hko:k<o)(ho:o<r)(F:Fr (mulM B (ub w o k 1) w) Y N w r)(G:Fr (aX Y w) Z w N r):Dg (aX Z N) N w/\∀q,q<r->g (aX Z N) q q=if q=k then((Int.gcd (g B k k) (g B o o):Nat):Int)else if q=o then((Int.lcm (g B k k) (g B o o):Nat):Int)else g B q q:=by
 have rN:=L.rN;have rW:=L.rW;have at_:=fun{i c:Nat} (hi:i<N) (hc:c<w)=>FI L dg hko ho hi hc;have pk:=L.pos k (by omega);have po:=L.pos o ho;have LX:=(Fo L dg hko ho).1;have row:∀i,i<N->aR (mulM B (ub w o k 1) w) N w (g (mulM B (ub w o k 1) w) i):=fun i hi=>aR.row hi
 have oth:∀q,q<r->q≠k->q≠o->g Y q q=g B q q/\(∀i,i<r->i≠q->g Y i q=0)/\∀c,c<w->c≠q->g Y q c=0:=fun q hq hqk hqo=>F.fix hq (L.pos q hq) (fun i hi=>by
  rw[at_ hi (by omega)];by_cases e:i=q
  . rw[if_pos e,e];exact Int.dvd_refl _
  . rw[if_neg e,if_neg (by omega)];exact⟨0,by rw[Int.mul_zero]⟩) ((row q (by omega)).eq fun c hc=>by
  rw[at_ (by omega) hc];by_cases e:q=c
  . rw[if_pos e,e,bF,Int.mul_one]
  . rw[if_neg e,if_neg (by omega),bE e,Int.mul_zero])
 have Xkk:g (mulM B (ub w o k 1) w) k k=g B k k:=by rw[at_ (by omega) (by omega),if_pos rfl]
 have Xok:g (mulM B (ub w o k 1) w) o k=g B o o:=by rw[at_ (by omega) (by omega),if_neg (by omega),if_pos ⟨rfl,rfl⟩]
 have Xoo:g (mulM B (ub w o k 1) w) o o=g B o o:=by rw[at_ (by omega) (by omega),if_pos rfl]
 have Xko:g (mulM B (ub w o k 1) w) k o=0:=by rw[at_ (by omega) (by omega),if_neg (by omega),if_neg (by omega)]
 have hg:g Y k k=((Int.gcd (g B k k) (g B o o):Nat):Int):=by
  have d1:g Y k k∣g B k k:=by
   have:=F.dvd (q:=k) (by omega) (row k (by omega)) fun c hc=>by rw[at_ (by omega) (by omega),if_neg (by omega),if_neg (by omega)]
   rwa [Xkk]at this
  have d2:g Y k k∣g B o o:=by
   have:=F.dvd (q:=k) (by omega) (row o (by omega)) fun c hc=>by rw[at_ (by omega) (by omega),if_neg (by omega),if_neg (by omega)]
   rwa [Xok]at this
  have d3:((Int.gcd (g B k k) (g B o o):Nat):Int)∣g Y k k:=Ae (by omega) (fun i hi=>by
   rw[at_ hi (by omega)];by_cases e:i=k
   . rw[if_pos e,e];exact Int.gcd_dvd_left ..
   . rw[if_neg e];split
     . exact Int.gcd_dvd_right ..
     . exact⟨0,by rw[Int.mul_zero]⟩) ((F.wa _).mpr (aR.row (by omega)))
  exact Int.dvd_antisymm (Int.le_of_lt (F.pos k (by omega))) (Int.natCast_nonneg _) (Int.dvd_coe_gcd d1 d2) d3
 have hl:g Y o o=((Int.lcm (g B k k) (g B o o):Nat):Int):=by
  obtain⟨α,hα⟩:=Int.dvd_lcm_left (g B k k) (g B o o);obtain⟨β,hβ⟩:=Int.dvd_lcm_right (g B k k) (g B o o)
  have d1:g Y o o∣((Int.lcm (g B k k) (g B o o):Nat):Int):=by
   have hv:aR (mulM B (ub w o k 1) w) N w fun c=>((Int.lcm (g B k k) (g B o o):Nat):Int)*dl o c:=(aR.kZ (-α) (aR.smul β (row o (by omega))) (row k (by omega))).eq fun c hc=>by
    rw[at_ (by omega) hc,at_ (by omega) hc];by_cases e1:c=o
    . subst e1;rw[bF,if_pos rfl,if_neg (by omega),if_neg (by omega),hβ];grind
    . rw[bE (Ne.symm e1),if_neg (by omega)];by_cases e2:c=k
      . subst e2;rw[if_pos ⟨rfl,rfl⟩,if_pos rfl];grind
      . rw[if_neg (by omega),if_neg (by omega),if_neg (by omega)];grind
   have:=F.dvd ho hv fun c hc=>by rw[bE (by omega),Int.mul_zero]
   rwa [bF,Int.mul_one]at this
  have d2:((Int.lcm (g B k k) (g B o o):Nat):Int)∣g Y o o:=by
   obtain⟨z,hz⟩:=(F.wa _).mpr (aR.row (X:=Y) (n:=r) (w:=w) ho);have z1:=hz k (by omega);have z2:=hz o (by omega);rw[F.up o k ho hko]at z1
   have s1:(S N fun i=>z i*g (mulM B (ub w o k 1) w) i k)=z k*g B k k+z o*g B o o:=by
    have:(S N fun i=>z i*g (mulM B (ub w o k 1) w) i k)=S N (fun i=>g B k k*(z i*dl i k))+S N fun i=>g B o o*(z i*dl i o):=by
     rw[<-gJ]
     exact aD fun i hi=>by
      rw[at_ hi (by omega)];by_cases e1:i=k
      . subst e1;rw[if_pos rfl,bF,bE (show i≠o by omega)];grind
      . rw[if_neg e1,bE e1];by_cases e2:i=o
        . subst e2;rw[if_pos ⟨rfl,rfl⟩,bF];grind
        . rw[if_neg (by omega),bE e2];grind
    rw[this,eh,eh,jS (show k<N by omega) z,jS (show o<N by omega) z];grind
   have s2:(S N fun i=>z i*g (mulM B (ub w o k 1) w) i o)=z o*g B o o:=by
    rw[jG (k:=o) (by omega) fun i hi hne=>by rw[at_ hi (by omega),if_neg hne,if_neg (by omega),Int.mul_zero],Xoo]
   rw[s1]at z1;rw[s2]at z2;rw[z2];refine Int.coe_lcm_dvd ⟨-(z k),?_⟩ ⟨z o,Int.mul_comm _ _⟩;have:g B k k* -(z k)= -(z k*g B k k):=by grind
   omega
  exact Int.dvd_antisymm (Int.le_of_lt (F.pos o ho)) (Int.natCast_nonneg _) d1 d2
 have gp:0<((Int.gcd (g B k k) (g B o o):Nat):Int):=by rw[<-hg];exact F.pos k (by omega)
 have lp:0<((Int.lcm (g B k k) (g B o o):Nat):Int):=by rw[<-hl];exact F.pos o ho
 have hx:((Int.gcd (g B k k) (g B o o):Nat):Int)∣g Y k o:=Int.dvd_trans (Int.gcd_dvd_right ..) (Ae (X:=mulM B (ub w o k 1) w) (N:=N) (w:=w) (by omega) (fun i hi=>by
  rw[at_ hi (by omega)];by_cases e:i=o
  . rw[if_pos e,e];exact Int.dvd_refl _
  . rw[if_neg e,if_neg (by omega)];exact⟨0,by rw[Int.mul_zero]⟩) ((F.wa _).mpr (aR.row (by omega))))
 have tr_:∀i c,i<N->c<w->g (aX Y w) c i=g Y i c:=fun i c hi hc=>bL F.is hi hc;have zero:∀ {a:Int},a∣0:=fun{a}=>⟨0,by rw[Int.mul_zero]⟩
 have yk:∀c,c<w->c≠k->c≠o->g Y k c=0:=fun c hc h1 h2=>by
  by_cases hcr:c<r
  . exact(oth c hcr h1 h2).2.1 k (by omega) (Ne.symm h1)
  . exact F.out k c (by omega) hc (by omega)
 have yo:∀c,c<w->c≠o->g Y o c=0:=fun c hc h1=>by
  by_cases hcr:c<r
  . by_cases h2:c=k
    . subst h2;exact F.up o c ho hko
    . exact(oth c hcr h2 h1).2.1 o ho (Ne.symm h1)
  . exact F.out o c (by omega) hc (by omega)
 have ck:∀i,i<N->i≠k->g Y i k=0:=fun i hi h1=>by
  by_cases hir:i<r
  . by_cases h2:i=o
    . subst h2;exact F.up i k ho hko
    . exact(oth i hir h1 h2).2.2 k (by omega) (Ne.symm h1)
  . exact F.zs i k (by omega) hi (by omega)
 have co:∀i,i<N->i≠o->i≠k->g Y i o=0:=fun i hi h1 h2=>by
  by_cases hir:i<r
  . exact(oth i hir h2 h1).2.2 o (by omega) (Ne.symm h1)
  . exact F.zs i o (by omega) hi (by omega)
 have lk:aR (aX Y w) w N fun c=>((Int.gcd (g B k k) (g B o o):Nat):Int)*dl k c:=(aR.row (X:=aX Y w) (w:=N) (k:=k) (by omega)).eq fun c hc=>by
  rw[tr_ c k hc (by omega)];by_cases e:k=c
  . subst e;rw[hg,bF,Int.mul_one]
  . rw[bE e,ck c hc (Ne.symm e),Int.mul_zero]
 have all:∀q,q<r->g Z q q=(if q=k then((Int.gcd (g B k k) (g B o o):Nat):Int)else if q=o then((Int.lcm (g B k k) (g B o o):Nat):Int)else g B q q)/\∀c,c<N->c≠q->g Z q c=0:=fun q hq=>by
  by_cases h1:q=k
  . subst h1;rw[if_pos rfl]
    have f:=G.fix hq gp (fun i hi=>by
     rw[tr_ q i (by omega) hi];by_cases e1:i=q
     . subst e1;rw[hg];exact Int.dvd_refl _
     . by_cases e2:i=o
       . subst e2;exact hx
       . rw[yk i hi e1 e2];exact zero) lk
    exact⟨f.1,f.2.2⟩
  . rw[if_neg h1];by_cases h2:q=o
    . subst h2;rw[if_pos rfl];obtain⟨y,hy⟩:=hx
      have f:=G.fix hq lp (fun i hi=>by
       rw[tr_ q i (by omega) hi];by_cases e1:i=q
       . subst e1;rw[hl];exact Int.dvd_refl _
       . rw[yo i hi e1];exact zero) ((aR.kZ (-y) (aR.row (X:=aX Y w) (n:=w) (w:=N) (k:=q) (by omega)) lk).eq fun c hc=>by
       rw[tr_ c q hc (by omega)];by_cases e1:q=c
       . subst e1;rw[hl,bF,bE (show k≠q by omega)];grind
       . rw[bE e1];by_cases e2:k=c
         . subst e2;rw[hy,bF];grind
         . rw[bE e2,co c hc (Ne.symm e1) (Ne.symm e2)];grind)
      exact⟨f.1,f.2.2⟩
    . rw[if_neg h2];obtain⟨o1,o2,o3⟩:=oth q hq h1 h2
      have f:=G.fix hq (L.pos q hq) (fun i hi=>by
       rw[tr_ q i (by omega) hi];by_cases e1:i=q
       . subst e1;rw[o1];exact Int.dvd_refl _
       . rw[o3 i hi e1];exact zero) ((aR.row (X:=aX Y w) (w:=N) (k:=q) (by omega)).eq fun c hc=>by
       rw[tr_ c q hc (by omega)];by_cases e1:q=c
       . subst e1;rw[o1,bF,Int.mul_one]
       . rw[bE e1,Int.mul_zero];by_cases hcr:c<r
         . exact(o2 c hcr (Ne.symm e1)).symm
         . exact(F.zs c q (by omega) hc (by omega)).symm)
      exact⟨f.1,f.2.2⟩
 refine⟨fun i c hi hc hne=>?_,fun q hq=>?_⟩
 . rw[bL G.is hc hi];by_cases hcr:c<r
   . exact(all c hcr).2 i hi hne
   . exact G.zs c i (by omega) hc hi
 . rw[bL G.is (by omega) (by omega)];exact(all q hq).1
end
structure x5(X:Rows)(N w y:Nat)(c:B3):Prop where
 sz:∀i j,i<N->j<N->(g c.U i j).natAbs<=2^y/\(g c.C i j).natAbs<=2^y
structure DM(B:Rows)(N w y:Nat)(Q:Nat->Rows->Prop):Prop where
 low:∀i j,i<N->j<w->(g B i j).natAbs<=2^350
 s1:∀t c,eA B N w t c->x5 B N w y c
 a1:∀t c,eA B N w t c->∀i j,i<N->j<w->(g c.A i j).natAbs<=2^350
 s2:∀t c,eA B N w t c->∀t2 c2,eA (aX c.A w) w N t2 c2->x5 (aX c.A w) w N y c2
 lo:∀t c,eA B N w t c->∀t2 c2,eA (aX c.A w) w N t2 c2->∃r,r<=8/\Lo (aX c2.A N) N w r/\(Pr r fun q=>g (aX c2.A N) q q)<=((2^343:Nat):Int)/\Q r (aX c2.A N)
theorem pw{A:Rows}{N w M:Nat}(hA:aJ N w A)(h:∀i c,i<N->c<w->(g A i c).natAbs<=M):gD A N 0 M:=fun i c _ hi=>by
 by_cases hc:c<w
 . exact h i c hi hc
 . unfold g;rw[lE (by rw[hA.row hi];omega)];exact Nat.zero_le _
theorem mY{a b c:Nat}(h:a<=2^b)(l:b<=c):a<=2^c:=Nat.le_trans h (Nat.pow_le_pow_right (by decide) l)
theorem Lo.two{X:Rows}{N w r:Nat}{P:Rows->Prop}(L:Lo X N w r)(n8:N<=8)(w8:w<=8)(hM:(Pr r fun q=>g X q q)<=((2^343:Nat):Int))(h:∀Y Z,Fr X Y N w r->Fr (aX Y w) Z w N r->(Pr r fun q=>g (aX Z N) q q)<=((2^343:Nat):Int)->P (aX Z N)):DM X N w 351 (fun r' M=>r'=r/\P M):=by
 have rN:=L.rN;have rW:=L.rW;have bX:=L.abs hM;have lX:=pw L.is bX;have one:∀t c,eA X N w t c->∃ld,eD X N w c t w ld (Ey 343 t) (Uy 343 t) (Cx 343 t):=fun t c hC=>hC.str L.is lX (by omega) (Nat.le_refl _)
 have lo1:∀t c,eA X N w t c->Fr X c.A N w r/\Lo (aX c.A w) w N r/\(Pr r fun q=>g (aX c.A w) q q)<=((2^343:Nat):Int):=fun t c hC=>by
  obtain⟨ld,H⟩:=one t c hC;obtain⟨_,F,dv⟩:=L.fr H;refine⟨F,F.lo,?_⟩;rw[oB (h:=fun q=>g c.A q q) fun q hq=>bL F.is (by omega) (by omega)];exact Int.le_trans (Int.le_of_dvd (l8 fun q hq=>L.pos q hq) dv) hM
 refine⟨fun i j hi hj=>mY (bX i j hi hj) (by decide),fun t c hC=>?_,fun t c hC i j hi hj=>?_,fun t c hC t2 c2 hC2=>?_,fun t c hC t2 c2 hC2=>?_⟩
 . obtain⟨ld,H⟩:=one t c hC;exact⟨L.turn (by omega) hC H hM⟩
 . obtain⟨F,L2,hM2⟩:=lo1 t c hC;have:=L2.abs hM2 j i hj hi;rw[bL F.is hi hj]at this;exact mY this (by decide)
 . obtain⟨F,L2,hM2⟩:=lo1 t c hC;obtain⟨ld,H⟩:=hC2.str L2.is (pw L2.is (L2.abs hM2)) (by omega) (Nat.le_refl _);exact⟨L2.turn (by omega) hC2 H hM2⟩
 . obtain⟨F,L2,hM2⟩:=lo1 t c hC;obtain⟨ld,H⟩:=hC2.str L2.is (pw L2.is (L2.abs hM2)) (by omega) (Nat.le_refl _);obtain⟨_,G,dv⟩:=L2.fr H
   have hM3:(Pr r fun q=>g (aX c2.A N) q q)<=((2^343:Nat):Int):=by
    rw[oB (h:=fun q=>g c2.A q q) fun q hq=>bL G.is (by omega) (by omega)];exact Int.le_trans (Int.le_of_dvd (l8 fun q hq=>L2.pos q hq) dv) hM2
   exact⟨r,by omega,G.lo,hM3,rfl,h _ _ F G hM3⟩
theorem Oi:∀t,t<8->Ey 350 t<=10300000/\Uy 350 t<=10300000/\Cx 350 t<=10300000:=by decide+kernel
theorem KD:∀t,t<9->Uy 350 t<=60000000/\Cx 350 t<=60000000/\(t<8->Uy 350 t+Cx 350 t+(4*Ey 350 t+4)+6<=60000000):=by decide+kernel
theorem eA.C0{A:Rows}{N w:Nat}(hA:aJ N w A)(hlo:gD A N 0 (2^350))(hN:N<=8){p t:Nat}{b:B3}(hp:p<w)(h:eA A N p t b):Ao N p t 60000000 b:=by
 obtain⟨ld,S⟩:=h.str hA hlo (by omega) (Nat.le_of_lt hp);have le:=S.le;obtain⟨h1,h2,h3⟩:=KD t (by omega);exact S.Mi hp (by omega) h1 h2 fun h=>h3 (by omega)
theorem eD.FZ{X:Rows}{N w top p e u v y:Nat}{c:B3}{ld:Nat->Nat}(H:eD X N w c top p ld e u v)(h1:e<=y)(h2:u<=y)(h3:v<=y):x5 X N w y c:=⟨fun i j hi hj=>by
 by_cases ht:i<top
 . have:=H.hi i j ht;exact⟨mY this.2.1 h2,mY this.2.2 h3⟩
 . have ht:=Nat.le_of_not_lt ht;exact⟨mY (H.lo.2.1 i j ht hi) h1,mY (H.lo.2.2 i j ht hi) h1⟩⟩
def Ge(A:Rows)(N w:Nat):Prop:=(N<=7\/w<=7)/\∀i j,i<N->j<w->(g A i j).natAbs<=2^46
theorem EN{A:Rows}{N w:Nat}(hA:aJ N w A)(n8:N<=8)(w8:w<=8)(h:Ge A N w):DM A N w 10300000 (fun _ _=>True):=by
 obtain⟨h7,hb⟩:=h;have sz:∀t,t<=N->t<=w->Ey 350 t<=10300000/\Uy 350 t<=10300000/\Cx 350 t<=10300000:=fun t h1 h2=>Oi t (by omega);have lA:gD A N 0 (2^350):=pw hA fun i j hi hj=>mY (hb i j hi hj) (by decide);have one:∀t c,eA A N w t c->∃ld,eD A N w c t w ld (Ey 350 t) (Uy 350 t) (Cx 350 t):=fun t c hC=>hC.str hA lA (by omega) (Nat.le_refl _)
 have bA:∀t c,eA A N w t c->∀i j,i<N->j<w->(g c.A i j).natAbs<=2^350:=fun t c hC i j hi hj=>by
  obtain⟨ld,H⟩:=one t c hC;have S1:=H.BE;have le:=S1.le;have zH:=H.zH;by_cases ht:i<t
  . have s:fj c.A t w ld:=⟨S1.lead,S1.mono⟩
    obtain⟨I,B,h1,h2,h3⟩:=S1.Ax.picked s;refine Nat.le_trans (Nx (A:=fun i=>g A (I i)) s S1.red (by omega) (fun i c hi hc=>hb _ c (h1 i hi) hc) h2 h3 i j ht hj) ?_;exact Nat.le_trans (Nat.mul_le_mul (show t<=7 by omega) (Nat.pow_le_pow_right (by decide) (show t<=7 by omega))) (show 7*(9*2^46)^7<=2^350 by decide+kernel)
  . rw[S1.zs i j (by omega) hi hj];exact Nat.zero_le _
 have two:∀t c,eA A N w t c->∀t2 c2,eA (aX c.A w) w N t2 c2->∃ld,eD (aX c.A w) w N c2 t2 N ld (Ey 350 t2) (Uy 350 t2) (Cx 350 t2):=fun t c hC t2 c2 hC2=>by
  obtain⟨ld,H⟩:=one t c hC;have iA:=H.tn.isA;exact hC2.str (b_ iA) (pw (b_ iA) fun i j hi hj=>by rw[bL iA hj hi];exact bA t c hC j i hj hi) (by omega) (Nat.le_refl _)
 refine⟨fun i j hi hj=>mY (hb i j hi hj) (by decide),fun t c hC=>?_,bA,fun t c hC t2 c2 hC2=>?_,fun t c hC t2 c2 hC2=>?_⟩
 . obtain⟨ld,H⟩:=one t c hC;obtain⟨z1,z2,z3⟩:=sz t H.le H.zH;exact H.FZ z1 z2 z3
 . obtain⟨ld,H⟩:=two t c hC t2 c2 hC2;obtain⟨z1,z2,z3⟩:=sz t2 H.zH H.le;exact H.FZ z1 z2 z3
 . obtain⟨ld,H⟩:=two t c hC t2 c2 hC2;obtain⟨ld1,H1⟩:=one t c hC;have le:=H1.le;have zH:=H1.zH;obtain⟨_,L,hM⟩:=Du H1 H (by omega) hb;refine⟨t,by omega,L,Int.le_trans hM (Int.ofNat_le.mpr ?_),trivial⟩;exact Nat.le_trans (Nat.pow_le_pow_right (by decide) (show t<=7 by omega)) (show(8*2^46)^7<=2^343 by decide+kernel)
theorem Lo.again{X:Rows}{N w r:Nat}(L:Lo X N w r)(n8:N<=8)(w8:w<=8)(hM:(Pr r fun q=>g X q q)<=((2^343:Nat):Int)):DM X N w 351 (fun r' M=>r'=r/\∀t,t<r->Cl X r t->∃t',t'<=r/\Cl M r t'/\lf M r t' 343<lf X r t 343):=
 L.two n8 w8 hM fun Y Z F G hZ t ht h=>L.less F G h ht hZ
theorem Eg{B:Rows}{N w r k o:Nat}(L:Lo B N w r)(n8:N<=8)(w8:w<=8)(hM:(Pr r fun q=>g B q q)<=((2^343:Nat):Int))(dg:Dg B N w)(hko:k<o)(ho:o<r):DM (mulM B (ub w o k 1) w) N w 351 (fun r' M=>r'=r/\Dg M N w/\∀q,q<r->g M q q=if q=k then((Int.gcd (g B k k) (g B o o):Nat):Int)else if q=o then((Int.lcm (g B k k) (g B o o):Nat):Int)else g B q q):=by
 obtain⟨LX,eP⟩:=Fo L dg hko ho;exact LX.two n8 w8 (by rw[eP];exact hM) fun Y Z F G _=>Cz L dg hko ho F G
def Mn(A:Rows)(N w k:Nat)(d:Int):Prop:=∀I J:Nat->Nat,(∀r,r<k->I r<N)->(∀c,c<k->J c<w)->d∣D k fun r c=>g A (I r) (J c)
theorem Bz{d:Int}{f:Nat->Int}:∀ {n:Nat},(∀i,i<n->d∣f i)->d∣S n f
 |0,_=>⟨0,by rw[Int.mul_zero];rfl⟩
 |n+1,h=>Int.dvd_add (Bz fun i hi=>h i (Nat.lt_succ_of_lt hi)) (h n (Nat.lt_succ_self n))
theorem Mn.rows{A A':Rows}{N N' w k:Nat}{d:Int}(m:Mn A N w k d)(h:∀i,i<N'->aR A N w (g A' i)):Mn A' N' w k d:=by
 intro I J hI hJ
 have key:∀p,p<=k->∀rows:Nat->Nat->Int,(∀r,r<k->(r<p/\aR A N w (rows r))\/∃j,j<N/\rows r=g A j)->d∣D k fun r c=>rows r (J c):=fun p=>by
  induction p with
  |zero=>
   intro _ rows hr
   have hc:∀r,∃j,r<k->j<N/\rows r=g A j:=fun r=>by
    by_cases h1:r<k
    . rcases hr r h1 with⟨z,_⟩|⟨j,hj,e⟩
      . exact absurd z (Nat.not_lt_zero _)
      . exact⟨j,fun _=>⟨hj,e⟩⟩
    . exact⟨0,fun z=>absurd z h1⟩
   have:=m (fun r=>Classical.choose (hc r)) J (fun r h1=>(Classical.choose_spec (hc r) h1).1) hJ;rw[cD (M':=fun r c=>g A (Classical.choose (hc r)) (J c)) fun r c h1 _=>congrFun (Classical.choose_spec (hc r) h1).2 (J c)];exact this
  |succ p ih=>
   intro hp rows hr;rcases hr p (by omega)with⟨_,z,hz⟩|⟨j,hj,e⟩
   . have e1:D k (fun r c=>rows r (J c))=D k (upd (fun r c=>rows r (J c)) p fun c=>S N fun j=>z j*g A j (J c)):=cD fun r c _ hc=>by
      by_cases h1:r=p
      . subst h1;rw[cw];exact hz (J c) (hJ c hc)
      . rw[ax h1]
     rw[e1,(om k).rP (by omega) _ z fun j c=>g A j (J c)];refine Bz fun j hj=>Int.dvd_trans ?_ (Int.dvd_mul_left _ _)
     have e2:D k (upd (fun r c=>rows r (J c)) p fun c=>g A j (J c))=D k fun r c=>(if r=p then g A j else rows r) (J c):=cD fun r c _ _=>by
      by_cases h1:r=p
      . subst h1;rw[cw,if_pos rfl]
      . rw[ax h1,if_neg h1]
     rw[e2];refine ih (by omega) _ fun r hrk=>?_;by_cases h1:r=p
     . rw[if_pos h1];exact .inr ⟨j,hj,rfl⟩
     . rw[if_neg h1];rcases hr r hrk with⟨h2,h3⟩|h2
       . exact .inl ⟨by omega,h3⟩
       . exact .inr h2
   . refine ih (by omega) rows fun r hrk=>?_;by_cases h1:r=p
     . subst h1;exact .inr ⟨j,hj,e⟩
     . rcases hr r hrk with⟨h2,h3⟩|h2
       . exact .inl ⟨by omega,h3⟩
       . exact .inr h2
 exact key k (Nat.le_refl _) (fun r=>g A' (I r)) fun r hr=> .inl ⟨hr,h _ (hI r hr)⟩
theorem Mn.same{A A':Rows}{N N' w k:Nat}{d:Int}(s:dE A N A' N' w):Mn A N w k d↔Mn A' N' w k d:=⟨fun m=>m.rows s.of,fun m=>m.rows s.to⟩
theorem Mn.tr{A:Rows}{N w k:Nat}{d:Int}(hA:aJ N w A):Mn (aX A w) w N k d↔Mn A N w k d:=by
 have key:∀ {B:Rows} {n m:Nat},aJ n m B->Mn B n m k d->Mn (aX B m) m n k d:=fun{B n m} hB h I J hI hJ=>by
  have:=h J I hJ hI;rw[<-D9]at this;rw[cD (M':=Mx.tr fun r c=>g B (J r) (I c)) fun r c hr hc=>bL hB (hJ c hc) (hI r hr)];exact this
 refine⟨fun h=>?_,key hA⟩;have:=key (b_ hA) h;rwa [vw hA]at this
theorem DQ:∀ {k:Nat} {I:Nat->Nat},(∀r,r<=k->I r<k)->∃i j,i<j/\j<=k/\I i=I j
 |0,I,h=>absurd (h 0 (Nat.le_refl _)) (Nat.not_lt_zero _)
 |k+1,I,h=>by
  by_cases hx:∃r,r<=k/\I r=I (k+1)
  . obtain⟨r,h1,h2⟩:=hx;exact⟨r,k+1,by omega,Nat.le_refl _,h2⟩
  . have no:∀r,r<=k->I r≠I (k+1):=fun r h1 h2=>hx ⟨r,h1,h2⟩
    obtain⟨i,j,h1,h2,h3⟩:=DQ (k:=k) (I:=fun r=>if I r=k then I (k+1)else I r) fun r hr=>by
     have a:=h r (by omega);have b:=h (k+1) (Nat.le_refl _);have c:=no r hr;show(if I r=k then I (k+1)else I r)<k;split<;>omega
    refine⟨i,j,h1,by omega,?_⟩;have a:=no i (by omega);have b:=no j h2;have h3:(if I i=k then I (k+1)else I i)=if I j=k then I (k+1)else I j:=h3
    split at h3<;>split at h3<;>omega
theorem FC{B:Rows}{N w:Nat}{b:Nat->Int}(hB:∀i c,i<N->c<w->g B i c=if i=c then b i else 0)(ch:∀i j,i<=j->b i∣b j):∀k,Mn B N w k (Pr k b)
 |0=>fun I J _ _=>Int.dvd_refl _
 |k+1=>fun I J hI hJ=>by
  by_cases hx:∃r,r<=k/\k<=I r
  . obtain⟨r,hr,hIr⟩:=hx
    have key:∀I':Nat->Nat,(∀r,r<k+1->I' r<N)->k<=I' 0->Pr (k+1) b∣D (k+1) fun r c=>g B (I' r) (J c):=fun I' hI' h0=>by
     rw[dw];refine Bz fun j hj=>?_
     have d1:b k∣g B (I' 0) (J j):=by
      rw[hB _ _ (hI' 0 (by omega)) (hJ j hj)];split
      . exact ch k _ h0
      . exact⟨0,by rw[Int.mul_zero]⟩
     have d2:Pr k b∣D k fun r c=>g B (I' (r+1)) (J (sk j c)):=FC hB ch k (fun r=>I' (r+1)) (fun c=>J (sk j c)) (fun r hr=>hI' _ (by omega)) fun c hc=>hJ _ (j7 hc);obtain⟨x,hx⟩:=d1;obtain⟨y,hy⟩:=d2;refine⟨sg j*x*y,?_⟩;show sg j*g B (I' 0) (J j)*D k (fun r c=>g B (I' (r+1)) (J (sk j c)))=Pr k b*b k*(sg j*x*y);rw[hx,hy];grind
    by_cases h0:r=0
    . subst h0;exact key I hI hIr
    . have e:=(om (k+1)).swap (i:=0) (j:=r) (by omega) (by omega) (Ne.symm h0) fun r c=>g B (I r) (J c);have:=key (fun x=>I (sw 0 r x)) (fun x hx=>hI _ (mr (by omega) (by omega) hx)) (by show k<=I (sw 0 r 0);unfold sw;rw[if_pos rfl];exact hIr);have e2:D (k+1) (fun x c=>g B (I (sw 0 r x)) (J c))= -D (k+1) fun r c=>g B (I r) (J c):=e;rw[e2]at this;exact Int.dvd_neg.mp this
  . obtain⟨i,j,h1,h2,h3⟩:=DQ (k:=k) (I:=I) fun r hr=>Nat.lt_of_not_le fun z=>hx ⟨r,hr,z⟩;rw[(om (k+1)).alt i j _ (by omega) (by omega) (by omega) fun c _=>by rw[h3]];exact⟨0,by rw[Int.mul_zero]⟩
def nb(B:Rows)(r q:Nat):Int:=if q<r then g B q q else 0
structure Ch(B:Rows)(N w r:Nat):Prop where
 lo:Lo B N w r
 dg:Dg B N w
 ch:∀i j,i<j->j<r->g B i i∣g B j j
theorem Ch.at{B:Rows}{N w r:Nat}(h:Ch B N w r)(i c:Nat)(hi:i<N)(hc:c<w):g B i c=if i=c then nb B r i else 0:=by
 by_cases e:i=c
 . subst e;rw[if_pos rfl];unfold nb;split
   . rfl
   . rename_i z;exact h.lo.out i i hi hc (.inl (by omega))
 . rw[if_neg e];exact h.dg i c hi hc e
theorem Ch.all{B:Rows}{N w r:Nat}(h:Ch B N w r)(i j:Nat)(hij:i<=j):nb B r i∣nb B r j:=by
 unfold nb;by_cases hj:j<r
 . rw[if_pos hj,if_pos (by omega)];by_cases e:i=j
   . rw[e];exact Int.dvd_refl _
   . exact h.ch i j (by omega) hj
 . rw[if_neg hj];exact⟨0,by rw[Int.mul_zero]⟩
theorem Ch.mn{B:Rows}{N w r:Nat}(h:Ch B N w r)(k:Nat)(d:Int):Mn B N w k d↔d∣Pr k (nb B r):=by
 constructor
 . intro m;by_cases hk:k<=N/\k<=w
   . have:=m (fun r=>r) (fun c=>c) (fun r hr=>by omega) (fun c hc=>by omega);rw[xm fun i c hi hc hic=>by rw[h.at i c (by omega) (by omega),if_neg (by omega)]]at this;rwa [oB (h:=nb B r) fun i hi=>by rw[h.at i i (by omega) (by omega),if_pos rfl]]at this
   . have z:Pr k (nb B r)=0:=by
      have rN:=h.lo.rN;have rW:=h.lo.rW;cases k with
      |zero=>exact absurd ⟨Nat.zero_le _,Nat.zero_le _⟩ hk
      |succ k=>
       show Pr k _*nb B r k=0;unfold nb;rw[if_neg (by omega),Int.mul_zero]
     rw[z];exact⟨0,by rw[Int.mul_zero]⟩
 . intro hd I J hI hJ;exact Int.dvd_trans hd (FC h.at h.all k I J hI hJ)
theorem xB{B:Rows}{N w r:Nat}(h:Lo B N w r)(q:Nat):0<=nb B r q:=by
 unfold nb;split
 . rename_i z;exact Int.le_of_lt (h.pos q z)
 . exact Int.le_refl _
theorem AL{f:Nat->Int}(h:∀i,0<=f i):∀n,0<=Pr n f
 |0=>(by decide:(0:Int)<=1)
 |n+1=>Int.mul_nonneg (AL h n) (h n)
theorem Am{b c:Nat->Int}(b0:∀i,0<=b i)(c0:∀i,0<=c i)(cb:∀i j,i<=j->b i∣b j)(cc:∀i j,i<=j->c i∣c j)(h:∀k d,d∣Pr k b↔d∣Pr k c)(q:Nat):b q=c q:=by
 have e:∀k,Pr k b=Pr k c:=fun k=>Int.dvd_antisymm (AL b0 k) (AL c0 k) ((h k _).mp (Int.dvd_refl _)) ((h k _).mpr (Int.dvd_refl _));have e1:Pr q b*b q=Pr q c*c q:=e (q+1);rw[e q]at e1
 have zero:∀ {f:Nat->Int},(∀i j,i<=j->f i∣f j)->∀n,Pr n f=0->f n=0:=fun{f} hf n=>by
  induction n with
  |zero=>intro z;exact absurd z (by decide:(1:Int)≠0)
  |succ n ih=>
   intro z;have z:Pr n f*f n=0:=z
   have fn:f n=0:=by
    rcases Int.mul_eq_zero.mp z with y|y
    . exact ih y
    . exact y
   have:=hf n (n+1) (Nat.le_succ n);rw[fn]at this;exact Int.zero_dvd.mp this
 by_cases z:Pr q c=0
 . rw[zero cc q z,zero cb q (by rw[e q];exact z)]
 . exact Int.eq_of_mul_eq_mul_left z e1
theorem Ch.same{B B':Rows}{N w r N' w' r':Nat}(h:Ch B N w r)(h':Ch B' N' w' r')(m:∀k d,Mn B N w k d↔Mn B' N' w' k d):r=r'/\∀q,q<r->g B q q=g B' q q:=by
 have e:=fun q=>Am (b:=nb B r) (c:=nb B' r') (xB h.lo) (xB h'.lo) h.all h'.all (fun k d=>((h.mn k d).symm.trans (m k d)).trans (h'.mn k d)) q
 have key:∀ {B B':Rows} {N w r r':Nat},Lo B N w r->(∀q,nb B r q=nb B' r' q)->r<=r':=fun{B B' N w r r'} L e=>Nat.le_of_not_lt fun z=>by
  have h1:=e r';unfold nb at h1;rw[if_pos z,if_neg (Nat.lt_irrefl _)]at h1;have:=L.pos r' z;omega
 have er:r=r':=Nat.le_antisymm (key h.lo e) (key h'.lo fun q=>(e q).symm);subst er;refine⟨rfl,fun q hq=>?_⟩;have:=e q;unfold nb at this;rwa [if_pos hq,if_pos hq]at this
theorem rY{X A:Rows}{n m w:Nat}(hX:aJ n m X)(hA:aJ m w A):∀i,i<n->aR A m w (g (mulM X A w) i):=fun i hi=>⟨g X i,fun c _=>eO hX hA hi c⟩
theorem Sd.mn{A B L Lb R Rb:Rows}{N w x:Nat}(h:Sd A B L Lb R Rb N w x)(k:Nat)(d:Int):Mn A N w k d↔Mn B N w k d:=by
 have iLA:=bQ h.iL h.iA
 have s1:dE A N (mulM L A w) N w:=⟨fun i hi=>by
  have:=rY h.rh iLA i hi;rwa [<-dD h.rh h.iL h.iA,h.l2,dS h.iA]at this,rY h.iL h.iA⟩
 have iRt:=b_ h.iR;have iRbt:=b_ h.oq;have iT:=b_ iLA;have e1:mulM (aX R w) (aX (mulM L A w) w) N=aX B w:=by rw[<-vH iLA h.iR,h.eq]
 have iBt:aJ w N (aX B w):=b_ h.iB
 have s2:dE (aX (mulM L A w) w) w (aX B w) w N:=⟨fun i hi=>by
  have:=rY iRbt iBt i hi;rw[<-e1,<-dD iRbt iRt iT,<-vH h.iR h.oq,h.r1]at this;have eU:aX (units w) w=units w:=(b_ (bP w)).ext (bP w) fun i j hi hj=>by rw[bL (bP w) hj hi,cT hj hi,cT hi hj,nq]
  rw[eU,dS iT,e1]at this;exact this,fun i hi=>by
  have:=rY iRt iT i hi;rwa [e1]at this⟩
 exact(Mn.same s1).trans ((Mn.tr iLA).symm.trans ((Mn.same s2).trans (Mn.tr h.iB)))
def ff(A:Rows)(N w:Nat)(B:Rows)(N' w':Nat):Prop:=∀k d,Mn A N w k d↔Mn B N' w' k d
theorem ff.symm{A B:Rows}{N w N' w':Nat}(h:ff A N w B N' w'):ff B N' w' A N w:=fun k d=>(h k d).symm
theorem ff.trans{A B C:Rows}{N w N' w' N2 w2:Nat}(h:ff A N w B N' w')(h2:ff B N' w' C N2 w2):ff A N w C N2 w2:=fun k d=>(h k d).trans (h2 k d)
theorem ff.same{A B:Rows}{N w N':Nat}(h:dE A N B N' w):ff A N w B N' w:=fun _ _=>Mn.same h
theorem ff.tr{A:Rows}{N w:Nat}(hA:aJ N w A):ff (aX A w) w N A N w:=fun _ _=>Mn.tr hA
theorem Mn.pick{A C:Rows}{N w N' w' k:Nat}{d:Int}{σ τ:Nat->Nat}(m:Mn A N w k d)(hs:∀i,i<N'->σ i<N)(ht:∀j,j<w'->τ j<w)(h:∀i j,i<N'->j<w'->g C i j=g A (σ i) (τ j)):Mn C N' w' k d:=fun I J hI hJ=>by
 rw[cD (M':=fun r c=>g A (σ (I r)) (τ (J c))) fun r c hr hc=>h _ _ (hI r hr) (hJ c hc)];exact m (fun r=>σ (I r)) (fun c=>τ (J c)) (fun r hr=>hs _ (hI r hr)) fun c hc=>ht _ (hJ c hc)
theorem ff.more{A C:Rows}{N N' w:Nat}{σ:Nat->Nat}(to:∀i,i<N'->aR A N w (g C i))(hs:∀i,i<N->σ i<N')(h:∀i j,i<N->j<w->g A i j=g C (σ i) j):ff A N w C N' w:=fun k d=>⟨fun m=>m.rows to,fun m=>m.pick (τ:=fun j=>j) hs (fun j hj=>hj) h⟩
theorem ff.col{A C:Rows}{N w:Nat}(iA:aJ N w A)(iC:aJ N (w+1) C)(h:∀i j,i<N->j<w->g C i j=g A i j)(h0:∀i,i<N->g C i w=0):ff A N w C N (w+1):=by
 refine(ff.tr iA).symm.trans (ff.trans ?_ (ff.tr iC));refine ff.more (σ:=fun i=>i) (fun i hi=>?_) (fun i hi=>by omega) fun i j hi hj=>?_
 . by_cases hw:i<w
   . exact(aR.row hw).eq fun c hc=>by rw[bL iC hc hi,bL iA hc hw,h c i hc hw]
   . have:i=w:=by omega
     subst this;exact aR.zero fun c hc=>by rw[bL iC hc hi,h0 c hc]
 . rw[bL iA hj hi,bL iC hj (by omega),h j i hj hi]
theorem ff.rev{A C:Rows}{N w:Nat}(h:∀i j,i<N->j<w->g C i j=g A (N-1-i) (w-1-j)):ff A N w C N w:=fun k d=>
 ⟨fun m=>m.pick (σ:=fun i=>N-1-i) (τ:=fun j=>w-1-j) (fun i hi=>by omega) (fun j hj=>by omega) h,
  fun m=>m.pick (σ:=fun i=>N-1-i) (τ:=fun j=>w-1-j) (fun i hi=>by omega) (fun j hj=>by omega) fun i j hi hj=>by
   rw[h (N-1-i) (w-1-j) (by omega) (by omega),show N-1-(N-1-i)=i by omega,show w-1-(w-1-j)=j by omega]⟩
theorem zN{c:Int}:∀(k:Nat) (M:Nat->Nat->Int),D k (fun r j=>c*M r j)=c^k*D k M
 |0,M=>by rw[Int.pow_zero,Int.one_mul];rfl
 |k+1,M=>by
  rw[dw,dw,<-eh];refine aD fun j hj=>?_;have:=zN (c:=c) k fun r x=>M (r+1) (sk j x);show sg j*(c*M 0 j)*D k (fun r x=>c*M (r+1) (sk j x))=c^(k+1)*(sg j*M 0 j*D k fun r x=>M (r+1) (sk j x));rw[this,Int.pow_succ];grind
theorem yB{c:Int}{f:Nat->Int}:∀k,Pr k (fun q=>c*f q)=c^k*Pr k f
 |0=>by rw[Int.pow_zero,Int.one_mul];rfl
 |k+1=>by
  show Pr k (fun q=>c*f q)*(c*f k)=c^(k+1)*(Pr k f*f k);rw[yB k,Int.pow_succ];grind
theorem Bv{d C:Nat}(hC:0<C):∃d':Nat,∀m:Nat,d∣C*m↔d'∣m:=by
 have hg:0<Nat.gcd d C:=Nat.gcd_pos_of_pos_right d hC;refine⟨d/Nat.gcd d C,fun m=>?_⟩;have e1:d=Nat.gcd d C*(d/Nat.gcd d C):=(Nat.mul_div_cancel' (Nat.gcd_dvd_left d C)).symm;have e2:C=Nat.gcd d C*(C/Nat.gcd d C):=(Nat.mul_div_cancel' (Nat.gcd_dvd_right d C)).symm;have co:=Nat.coprime_div_gcd_div_gcd hg;constructor
 . intro h
   have h2:Nat.gcd d C*(d/Nat.gcd d C)∣Nat.gcd d C*(C/Nat.gcd d C*m):=by
    rw[<-Nat.mul_assoc,<-e1,<-e2];exact h
   exact co.dvd_of_dvd_mul_left (Nat.dvd_of_mul_dvd_mul_left hg h2)
 . intro h;have h2:Nat.gcd d C*(d/Nat.gcd d C)∣Nat.gcd d C*(C/Nat.gcd d C*m):=Nat.mul_dvd_mul_left _ (Nat.dvd_trans h (Nat.dvd_mul_left _ _));rw[<-Nat.mul_assoc,<-e1,<-e2]at h2;exact h2
theorem CW{d C:Int}(hC:C≠0):∃d':Int,∀m:Int,d∣C*m↔d'∣m:=by
 obtain⟨d',h⟩:=Bv (d:=d.natAbs) (C:=C.natAbs) (by omega);refine⟨d',fun m=>?_⟩;rw[<-Int.natAbs_dvd_natAbs,Int.natAbs_mul,h,<-Int.natAbs_dvd_natAbs (a:=(d':Int)),Int.natAbs_natCast]
theorem EF{A C:Rows}{N w k:Nat}{c P d:Int}(c0:c≠0)(hC:∀i j,i<N->j<w->g C i j=c*g A i j)(hA:∀d,Mn A N w k d↔d∣P):Mn C N w k d↔d∣c^k*P:=by
 obtain⟨d',h⟩:=CW (d:=d) (C:=c^k) (Int.pow_ne_zero c0);rw[h,<-hA]
 have e:∀I J:Nat->Nat,(∀r,r<k->I r<N)->(∀c,c<k->J c<w)->(D k fun r x=>g C (I r) (J x))=c^k*D k fun r x=>g A (I r) (J x):=fun I J hI hJ=>by
  rw[cD (M':=fun r x=>c*g A (I r) (J x)) fun r x hr hx=>hC _ _ (hI r hr) (hJ x hx)];exact zN k fun r x=>g A (I r) (J x)
 constructor
 . intro m I J hI hJ;have:=m I J hI hJ;rw[e I J hI hJ]at this;exact(h _).mp this
 . intro m I J hI hJ;rw[e I J hI hJ];exact(h _).mpr (m I J hI hJ)
theorem Gm{c d P:Int}{k:Nat}:d∣c^k*P↔d∣((c.natAbs:Nat):Int)^k*P:=by
 rw[<-Int.natAbs_dvd_natAbs,<-Int.natAbs_dvd_natAbs (b:=((c.natAbs:Nat):Int)^k*P),Int.natAbs_mul,Int.natAbs_mul,Int.natAbs_pow,Int.natAbs_pow,Int.natAbs_natCast]
theorem Ch.scale{B B':Rows}{N w r N' w' r':Nat}(h:Ch B N w r)(h':Ch B' N' w' r'){c:Int}(c0:0<c)(m:∀k d,Mn B' N' w' k d↔d∣c^k*Pr k (nb B r)):r=r'/\∀q,q<r->g B' q q=c*g B q q:=by
 have e:=fun q=>Am (b:=nb B' r') (c:=fun q=>c*nb B r q) (xB h'.lo) (fun i=>Int.mul_nonneg (by omega) (xB h.lo i)) h'.all (fun i j hij=>Int.mul_dvd_mul_left c (h.all i j hij)) (fun k d=>by rw[yB];exact(h'.mn k d).symm.trans (m k d)) q
 have e1:r'<=r:=Nat.le_of_not_lt fun z=>by
  have h1:=e r;have h2:nb B r r=0:=by unfold nb;rw[if_neg (Nat.lt_irrefl _)]
  try dsimp only at h1
  rw[h2,Int.mul_zero]at h1;unfold nb at h1;rw[if_pos z]at h1;have:=h'.lo.pos r z;omega
 have e2:r<=r':=Nat.le_of_not_lt fun z=>by
  have h1:=e r';have h2:nb B' r' r'=0:=by unfold nb;rw[if_neg (Nat.lt_irrefl _)]
  rw[h2]at h1;unfold nb at h1;try dsimp only at h1
  rw[if_pos z]at h1;have:=Int.mul_pos c0 (h.lo.pos r' z);omega
 have er:r=r':=by omega
 subst er;refine⟨rfl,fun q hq=>?_⟩;have:=e q;unfold nb at this;try dsimp only at this
 rwa [if_pos hq,if_pos hq]at this
end Mx
namespace Prog
open PySem L2 L3
open PySem.Spec hiding items?
open PyProof.Rows hiding St
theorem h_{i j:Int}(h1: -(2^64)<i)(h2:i<2^64):IntMulOk i j:= .of_left (intBits_le_64 h1 h2)
theorem vq{i j:Int}(h1: -(2^64)<j)(h2:j<2^64):IntMulOk i j:= .of_right (intBits_le_64 h1 h2)
def isInt:D->Bool
 | .int _=>true
 |_=>false
abbrev aH(r:List Int):List D:=r.map D.int
abbrev bG(r:List Int):D:= .tup (aH r)
abbrev bf(r:List Int):D:= .lst (aH r)
abbrev av(A:List (List Int)):D:= .tup (A.map bG)
def cf(st:af):List D->List (List Int)->Prop
 | [],[]=>True
 |d::ds,r::rs=>items? st d=some (aH r)/\cf st ds rs
 |_,_=>False
structure fC(st:af)(d:D)(A:List (List Int)):Prop where
 ex:∃ds,items? st d=some ds/\cf st ds A
theorem cf.len{st:af}:∀ {ds:List D} {A:List (List Int)},cf st ds A->ds.length=A.length
 | [],[],_=>rfl
 |_::_,_::_,h=>by simp[cf.len h.2]
theorem cf.tup{st:af}:∀ {A:List (List Int)},cf st (A.map bG) A
 | []=>trivial
 |_::_=>⟨rfl,cf.tup⟩
theorem cf.lst{st:af}:∀ {A:List (List Int)},cf st (A.map bf) A
 | []=>trivial
 |_::_=>⟨rfl,cf.lst⟩
theorem cf.get{st:af}:∀ {ds:List D} {A:List (List Int)} {i:Nat} {d:D},cf st ds A->ds[i]?=some d->∃r,A[i]?=some r/\items? st d=some (aH r)
 |_::_,r::_,0,_,h,e=>by simp at e;subst e;exact⟨r,rfl,h.1⟩
 |_::_,_::_,i+1,d,h,e=>by
  obtain⟨r,e1,e2⟩:=cf.get (i:=i) (d:=d) h.2 (by simpa using e);exact⟨r,by simpa using e1,e2⟩
theorem cO{st:af}{A:List (List Int)}:fC st (av A) A:=⟨_,rfl,cf.tup⟩
structure Ext(st st':af):Prop where
 len:st.length<=st'.length
 same:∀m,m<st.length->st'[m]?=st[m]?
theorem Ext.trans{st st1 st2:af}(a:Ext st st1)(b:Ext st1 st2):Ext st st2:=⟨Nat.le_trans a.len b.len,fun m h=>(b.same m (Nat.lt_of_lt_of_le h a.len)).trans (a.same m h)⟩
theorem Ext.push{st:af}{c:List Cell}:Ext st (st++c):=⟨by simp,fun m h=>List.getElem?_append_left h⟩
theorem Ext.set{st:af}{n:Nat}{c:Cell}{st0:af}(a:Ext st0 st)(h:st0.length<=n):Ext st0 (st.set n c):=⟨by rw[List.length_set];exact a.len,fun m hm=>by rw[List.getElem?_set_ne (by omega)];exact a.same m hm⟩
theorem pf{r:List Int}{k:Nat}(h:k<r.length):eQ (aH r) (k:Int)=some (.int (r.getD k 0)):=by
 refine iO ?_;rw[List.getElem?_map,List.getElem?_eq_getElem h,Mx.a7 h];rfl
theorem getD_mem{r:List Int}{k:Nat}(h:k<r.length):r.getD k 0∈r:=by rw[Mx.a7 h];exact List.getElem_mem _
theorem cf.at{st:af}{ds:List D}{A:List (List Int)}{k:Nat}(h:cf st ds A)(hk:k<A.length):∃d,eQ ds (k:Int)=some d/\items? st d=some (aH (A.getD k [])):=by
 have hl:=h.len;have e:ds[k]?=some ds[k]:=List.getElem?_eq_getElem (by omega);obtain⟨r,er,hr⟩:=h.get e;refine⟨ds[k],iO e,?_⟩;rw[Mx.a7 hk];rw[List.getElem?_eq_getElem hk]at er;cases er;exact hr
theorem ints_app{r:List Int}{x:Int}:aH r++[D.int x]=aH (r++[x]):=by simp[aH]
theorem EU{A:List (List Int)}{r:List Int}:A.map bG++[bG r]=(A++[r]).map bG:=by simp
theorem tQ{r s:List Int}{d:D}(h:d∈iW (aH r) (aH s)):∃a b,a∈r/\b∈s/\d= .tup [.int a,.int b]:=by
 obtain⟨n,hn,e⟩:=List.mem_iff_getElem.mp h;have e':(iW (aH r) (aH s))[n]?=some d:=by rw[List.getElem?_eq_getElem hn,e]
 obtain⟨x,y,ex,ey,rfl⟩:=uf e';rw[List.getElem?_map]at ex ey;cases q1:r[n]? with
 |none=>rw[q1]at ex;cases ex
 |some a=>
  cases q2:s[n]? with
  |none=>rw[q2]at ey;cases ey
  |some b=>
   rw[q1]at ex;rw[q2]at ey;cases ex;cases ey;exact⟨a,b,List.mem_of_getElem? q1,List.mem_of_getElem? q2,rfl⟩
theorem yN(n:Nat):(List.replicate n [D.int 0]).flatten=aH (List.replicate n 0):=by
 induction n with
 |zero=>rfl
 |succ n ih=>rw[List.replicate_succ,List.flatten_cons,ih];rfl
theorem wb:∀r:List Int,(aH r).map (fun x=>match x with| .int i=>i|_=>0)=r
 | []=>rfl
 |a::r=>by rw[aH,List.map_cons,List.map_cons,wb r]
theorem Ee{d:D}{ds:List D}:eQ (d::ds) 0=some d:=iO (j:=0) rfl
def intsOf(st:af)(d:D):List Int:=match items? st d with
 |some xs=>xs.map fun x=>match x with| .int i=>i|_=>0
 |none=>[]
theorem wI{st:af}{d:D}{r:List Int}(h:items? st d=some (aH r)):intsOf st d=r:=by
 unfold intsOf;rw[h];exact wb r
theorem Dx{x y:D}{xs ys:List D}:iW (x::xs) (y::ys)= .tup [x,y]::iW xs ys:=rfl
theorem Gv{n:Nat}{r:List Int}:(aH r).all (pl n)=true:=by
 refine List.all_eq_true.mpr fun d hd=>?_;obtain⟨i,_,rfl⟩:=List.mem_map.mp hd;cases n<;>rfl
def az:Addr:=130
def aC:Addr:=200
abbrev eF(b:Bool):Cell:=Cell.tab 110 ⟨56,32,56,66⟩ "Bench.live_rows.<locals>.<lambda>" b
abbrev JZ:List (Addr×Pos×Str):=[(110,⟨56,32,56,66⟩,"Bench.live_rows.<locals>.<lambda>")]
def l7:cV:=fun ds st K=>∃(d:D) (A:List (List Int)),ds=[d]/\fC st d A/\A.length<=1000/\K (av A) st
def oj:List Str:=["rows"]
def BI:DS:=(dJ (cy c7 (ae (dz (fx (ab 0)) [none] (cj 0) cB (cy c7 (ae (ab 0) ak))) ak)))
theorem ix{tg:gh}{te:DE}{ok:af->Prop}{σc:bR}{st:af}{K:List D->af->Prop}{ds:List D}{A:List (List Int)}(f:List Int->D)(aI:ok st)(hr:cf st ds A)(hx:∀d r,r∈A->items? st d=some (aH r)->∀K',K' (f r) st->∃σ2,tg d σc=some σ2/\te σ2 st K')(k:K (A.map f) st):dc tg cB te ok σc ds [] st K:=by
 refine gT (fun rest acc st'=>∃(A1 A2:List (List Int)),st=st'/\A1++A2=A/\cf st rest A2/\acc=A1.map f) ?_ ?_ _ _ _ ⟨[],A,rfl,rfl,hr,rfl⟩
 . rintro acc st' ⟨A1,A2,rfl,he,h,rfl⟩;match A2,h with
   | [],_=>
     rw[List.append_nil]at he;subst he;exact⟨aI,k⟩
 . rintro d rest acc st' ⟨A1,A2,rfl,he,h,rfl⟩ next
   match A2,h with
   |r::A2,h=>
    obtain⟨σ2,e2,q⟩:=hx d r (by rw[<-he];simp) h.1 (fun y st2=>dc tg cB te ok σc rest (A1.map f++[y]) st2 K) (next _ _ ⟨A1++[r],A2,rfl,by rw[<-he];simp,h.2,by simp⟩);exact⟨aI,σ2,e2,q⟩
theorem Az:∀ds st K,l7 ds st K->ds.length=1/\BI {nx:=fun _ st'=>K .aM st',rt:=K} (bj oj ds) st:=by
 rintro ds st K ⟨d,A,rfl,⟨da,hd,ra⟩,hl,k⟩;refine⟨rfl,?_⟩;refine nW hd fun ok aI=>⟨bJ (by rw[ra.len];exact hl),?_⟩
 refine ix bG aI ra (fun e r hr he K' q=>⟨_,rfl,cM he q⟩) ?_;exact cM rfl k
def nu:cV:=fun ds st K=>∃x y t r s,ds=[x,.int t,y]/\items? st x=some (aH r)/\items? st y=some (aH s)/\r.length<=1000/\(∀b∈s,IntMulOk t b)/\K (bf (Mx.f9 r t s)) st
def sj:List Str:=["row","times","other"]
def Gh:DS:=(dJ (dz (vk (ae (ab 0) (ae (ab 2) ak))) [none,none,some 1] (kH 0 1) cB (aE fL (ab 0) (aE eW (ab 2) (ab 1)))))
theorem qD{t:Int}:∀(r s:List Int),(iW (aH r) (aH s)).map (fun d=>match d with| .tup [.int a,.int b]=> .int (a+t*b)|_=> .aM)=aH (Mx.f9 r t s)
 | [],_=>rfl
 |_::_,[]=>rfl
 |a::r,b::s=>by
  have:=qD (t:=t) r s;unfold iW Mx.f9 at this⊢;simp only[aH,List.map_cons,List.zip_cons_cons,List.zipWith_cons_cons]at this⊢;rw[this]
theorem DW:∀ds st K,nu ds st K->ds.length=3/\Gh {nx:=fun _ st'=>K .aM st',rt:=K} (bj sj ds) st:=by
 rintro ds st K ⟨x,y,t,r,s,rfl,hx,hy,hl,hm,k⟩;refine⟨rfl,?_⟩;refine uH hx hy fun ok aI=>⟨bJ (by rw[pV];simp;omega),?_⟩
 refine comp_map (g:=fun d=>match d with| .tup [.int a,.int b]=> .int (a+t*b)|_=> .aM) (aI st hx hy) _ (fun d hd K' q=>?_) ?_
 . obtain⟨a,b,ha,hb,rfl⟩:=tQ hd;exact⟨_,rfl,fV (hm b hb) (gO q)⟩
 . rw[qD];exact k
def tT:cV:=fun ds st K=>∃(x y:D) (n:Nat) (ws:List Int) (A:List (List Int)),ds=[x,y,.int n]/\items? st x=some (aH ws)/\fC st y A/\(∀r∈A,r.length=n)/\n<=1000/\(∀w∈ws,∀r∈A,∀b∈r,IntMulOk w b)/\K (bG (Mx.gI ws A (List.replicate n 0))) st
def pK:List Str:=["weights","rows","wide","total","weight","row"]
def Ek:DS:=(aP (cv 3 (aE eW (vL (ae (dC (.int 0)) ak)) (ab 2)))
 (aP (lF (vk (ae (ab 0) (ae (ab 1) ak))) (kH 4 5) (cv 3 (aL nu (ae (ab 3) (ae (ab 4) (ae (ab 5) ak))))))
 (dJ (cy c7 (ae (ab 3) ak)))))
theorem Cj:∀ds st K,tT ds st K->ds.length=3/\Ek {nx:=fun _ st'=>K .aM st',rt:=K} (bj pK ds) st:=by
 rintro ds st K ⟨x,y,n,ws,A,rfl,hx,⟨dr,hy,hr⟩,hw,hn,hm,k⟩;refine⟨rfl,?_⟩;refine Oe (Nat.le_of_ble_eq_true rfl) (HK ⟨by omega,by omega,bJ (by simp;omega)⟩ ?_);rw[Int.toNat_natCast,yN];refine uH hx hy fun ok aI=>?_
 refine nA (fun rest σ st'=>∃(v4 v5:Option D) (ws':List Int) (ds':List D) (A':List (List Int)) (acc:List Int),st=st'/\rest=iW (aH ws') ds'/\cf st ds' A'/\σ=[some x,some y,some (.int n),some (bf acc),v4,v5]/\acc.length=n/\(∀r∈A',r∈A)/\(∀w∈ws',w∈ws)/\Mx.gI ws' A' acc=Mx.gI ws A (List.replicate n 0)) ?_ ?_ _ _ _
  ⟨none,none,ws,dr,A,List.replicate n 0,rfl,rfl,hr,rfl,by simp,fun _ h=>h,fun _ h=>h,rfl⟩
 . rintro σ st1 ⟨v4,v5,ws',ds',A',acc,rfl,he,hr',rfl,hl,_,_,hs⟩;refine⟨aI _ hx hy,cM rfl ?_⟩
   have:Mx.gI ws' A' acc=acc:=by
    match ws',ds',A',hr',he with
    | [],_,_,_,_=>unfold Mx.gI;rfl
    |_::_,[],[],_,_=>unfold Mx.gI;rfl
    |_::_,_::_,_::_,_,he=>cases he
   rw[this]at hs;rw[hs];exact k
 . rintro d rest σ st1 ⟨v4,v5,ws',ds',A',acc,rfl,he,hr',rfl,hl,ha,hw',hs⟩ next
   match ws',ds',A',hr',he with
   |w::ws',e::ds',r::A',hr',he=>
    simp only[aH,List.map_cons,Dx,List.cons.injEq]at he;obtain⟨rfl,rfl⟩:=he;refine⟨aI _ hx hy,_,rfl,?_⟩;have hrl:=hw r (ha r List.mem_cons_self);refine⟨_,_,_,acc,r,rfl,rfl,hr'.1,by omega,fun b hb=>hm w (hw' w List.mem_cons_self) r (ha r List.mem_cons_self) b hb,?_⟩;refine next _ _ ⟨_,_,ws',ds',A',Mx.f9 acc w r,rfl,rfl,hr'.2,rfl,by rw[Mx.nD (by omega)];exact hl,fun q hq=>ha q (List.mem_cons_of_mem _ hq),fun q hq=>hw' q (List.mem_cons_of_mem _ hq),?_⟩
    rw[<-hs];rfl
   | [],_,_,_,he=>cases he
   |_::_,[],[],_,he=>cases he
def il:cV:=fun ds st K=>∃(x y:D) (n:Nat) (A B:List (List Int)),ds=[x,y]/\fC st x A/\fC st y B/\B≠ []/\(∀r∈B,r.length=n)/\n<=1000/\A.length<=1000/\(∀w∈A,∀c∈w,∀r∈B,∀b∈r,IntMulOk c b)/\K (av (Mx.mulM A B n)) st
def og:List Str:=["one","other","wide"]
def Dw:DS:=(aP (cv 2 (cy fm (ae (aE bN (ab 1) (dC (.int 0))) ak)))
 (dJ (cy c7 (ae (dz (fx (ab 0)) [none,some 1,some 2] (cj 0) cB (aL tT (ae (ab 0) (ae (ab 1) (ae (ab 2) ak))))) ak))))
theorem xJ{st:af}{n:Nat}{B:List (List Int)}{f:D->D}:∀ {ds:List D} {A:List (List Int)},cf st ds A->(∀d r,items? st d=some (aH r)->f d=bG (Mx.gI r B (List.replicate n 0)))->ds.map f=(Mx.mulM A B n).map bG
 | [],[],_,_=>rfl
 |d::ds,r::A,h,hf=>by
  rw[List.map_cons,hf d r h.1,xJ h.2 hf];rfl
theorem AN:∀ds st K,il ds st K->ds.length=2/\Dw {nx:=fun _ st'=>K .aM st',rt:=K} (bj og ds) st:=by
 rintro ds st K ⟨x,y,n,A,B,rfl,⟨da,hx,ra⟩,hy,hB,hw,hn,hl,hm,k⟩;refine⟨rfl,?_⟩;obtain⟨db,ey,rb⟩:=hy.ex;match B,db,rb,hB,hw,hm,hy,k,ey with
 |r0::B,d0::db,rb,_,hw,hm,hy,k,ey=>
  have h0:r0.length=n:=hw r0 List.mem_cons_self;refine aU ey Ee (dG rb.1 ?_);rw[List.length_map,h0];refine nW hx fun ok aI=>⟨bJ (by rw[ra.len];exact hl),?_⟩
  refine comp_map (g:=fun d=>bG (Mx.gI (intsOf st d) (r0::B) (List.replicate n 0))) aI da (fun d hd K' q=>?_) ?_
  . obtain⟨i,hi,ed⟩:=List.mem_iff_getElem.mp hd;obtain⟨r,er,hr⟩:=ra.get (i:=i) (d:=d) (by rw[List.getElem?_eq_getElem hi,ed]);refine⟨_,rfl,d,y,n,r,r0::B,rfl,hr,hy,hw,hn,fun c hc=>hm r (List.mem_of_getElem? er) c hc,?_⟩;rw[wI hr]at q;exact q
  . refine cM rfl ?_;rw[xJ ra (n:=n) (B:=r0::B) fun d r h=>by rw[wI h]];exact k
 |_::_,[],rb,_,_,_,_,_,_=>exact rb.elim
def tL:cV:=fun ds st K=>∃(d:D) (A:List (List Int)) (j:Nat),ds=[d,.int j]/\fC st d A/\(∀r∈A,j<r.length)/\A.length<=1000/\K (bG (Mx.mE A j)) st
def pZ:List Str:=["rows","place"]
def EH:DS:=(dJ (cy c7 (ae (dz (fx (ab 0)) [none,some 1] (cj 0) cB (aE bN (ab 0) (ab 1))) ak)))
theorem BK{tg:gh}{te:DE}{ok:af->Prop}{σc:bR}{st:af}{K:List D->af->Prop}{ds:List D}{A:List (List Int)}(f:List Int->D)(aI:ok st)(hr:cf st ds A)(hx:∀d r,r∈A->items? st d=some (aH r)->∀K',K' (f r) st->∃σ2,tg d σc=some σ2/\te σ2 st K')(k:K (A.map f) st):dc tg cB te ok σc ds [] st K:=by
 refine gT (fun rest acc st'=>∃(A1 A2:List (List Int)),st=st'/\A1++A2=A/\cf st rest A2/\acc=A1.map f) ?_ ?_ _ _ _ ⟨[],A,rfl,rfl,hr,rfl⟩
 . rintro acc st' ⟨A1,A2,rfl,he,h,rfl⟩;match A2,h with
   | [],_=>
     rw[List.append_nil]at he;subst he;exact⟨aI,k⟩
 . rintro d rest acc st' ⟨A1,A2,rfl,he,h,rfl⟩ next
   match A2,h with
   |r::A2,h=>
    obtain⟨σ2,e2,q⟩:=hx d r (by rw[<-he];simp) h.1 (fun y st2=>dc tg cB te ok σc rest (A1.map f++[y]) st2 K) (next _ _ ⟨A1++[r],A2,rfl,by rw[<-he];simp,h.2,by simp⟩);exact⟨aI,σ2,e2,q⟩
theorem Dd(A:List (List Int))(j:Nat):A.map (fun r=>D.int (r.getD j 0))=aH (Mx.mE A j):=by unfold Mx.mE aH;rw[List.map_map];rfl
theorem Cr:∀ds st K,tL ds st K->ds.length=2/\EH {nx:=fun _ st'=>K .aM st',rt:=K} (bj pZ ds) st:=by
 rintro ds st K ⟨d,A,j,rfl,⟨da,hd,ra⟩,hj,hl,k⟩;refine⟨rfl,?_⟩;refine nW hd fun ok aI=>⟨bJ (by rw[ra.len];exact hl),?_⟩
 refine BK (fun r=> .int (r.getD j 0)) aI ra (fun e r hr he K' q=>⟨_,rfl,aU he (pf (hj r hr)) q⟩) ?_;rw[Dd];exact cM rfl k
def gj:cV:=fun ds st K=>∃(d:D) (A:List (List Int)) (n:Nat),ds=[d,.int n]/\fC st d A/\(∀r∈A,r.length=n)/\A.length<=1000/\n<=1000/\K (av (Mx.aX A n)) st
def jW:List Str:=["rows","wide"]
def w9:DS:=(dJ (cy c7 (ae (dz (fB (ae (ab 1) ak)) [none,some 0] (cj 0) cB (aL tL (ae (ab 1) (ae (ab 0) ak)))) ak)))
theorem yX(A:List (List Int))(n:Nat):(List.range n).map (fun j=>bG (Mx.mE A j))=(Mx.aX A n).map bG:=by unfold Mx.aX;rw[List.map_map];rfl
theorem vS:∀ds st K,gj ds st K->ds.length=2/\w9 {nx:=fun _ st'=>K .aM st',rt:=K} (bj jW ds) st:=by
 rintro ds st K ⟨d,A,n,rfl,hd,hw,hl,hn,k⟩;refine⟨rfl,?_⟩;refine ie ⟨by omega,by omega⟩ ⟨bJ (by rw[gK];omega),?_⟩;rw[Int.toNat_natCast];refine m8 (fun j=>bG (Mx.mE A j)) n (fun i hi K' q=>⟨_,rfl,d,A,i,rfl,hd,fun r hr=>by rw[hw r hr];exact hi,hl,q⟩) ?_;rw[yX];exact cM rfl k
def pR:cV:=fun ds st K=>∃(n i:Nat),ds=[.int n,.int i]/\n<=1000/\K (bG (Mx.jF n i)) st
def m6:List Str:=["n","place"]
def A7:DS:=(dJ (cy c7 (ae (dz (fB (ae (ab 0) ak)) [none,some 1] (cj 0) cB (FJ (ef (aE mR (ab 0) (ab 1))) (dC (.int 1)) (dC (.int 0)))) ak)))
theorem zi:∀ds st K,pR ds st K->ds.length=2/\A7 {nx:=fun _ st'=>K .aM st',rt:=K} (bj m6 ds) st:=by
 rintro ds st K ⟨n,i,rfl,hn,k⟩;refine⟨rfl,?_⟩;refine ie ⟨by omega,by omega⟩ ⟨bJ (by rw[gK];omega),?_⟩;rw[Int.toNat_natCast];refine m8 (fun j=> .int (Mx.dl j i)) n (fun j hj K' q=>⟨_,rfl,?_⟩) ?_
 . refine eq2 (fun h=>mD ?_) fun h=>?_
   . have:j=i:=by omega
     subst this;rw[Mx.bF]at q;exact q
   . rw[Mx.bE (by omega)]at q;exact q
 . have:(List.range n).map (fun j=>D.int (Mx.dl j i))=aH (Mx.jF n i):=by unfold Mx.jF aH;rw[List.map_map];rfl
   rw[this];exact cM rfl k
def fg:cV:=fun ds st K=>∃(n:Nat),ds=[.int n]/\n<=1000/\K (av (Mx.units n)) st
def lR:List Str:=["n"]
def zo:DS:=(dJ (cy c7 (ae (dz (fB (ae (ab 0) ak)) [none,some 0] (cj 0) cB (aL pR (ae (ab 1) (ae (ab 0) ak)))) ak)))
theorem xU:∀ds st K,fg ds st K->ds.length=1/\zo {nx:=fun _ st'=>K .aM st',rt:=K} (bj lR ds) st:=by
 rintro ds st K ⟨n,rfl,hn,k⟩;refine⟨rfl,?_⟩;refine ie ⟨by omega,by omega⟩ ⟨bJ (by rw[gK];omega),?_⟩;rw[Int.toNat_natCast];refine m8 (fun i=>bG (Mx.jF n i)) n (fun i hi K' q=>⟨_,rfl,n,i,rfl,hn,q⟩) ?_;have:(List.range n).map (fun i=>bG (Mx.jF n i))=(Mx.units n).map bG:=by unfold Mx.units;rw[List.map_map];rfl
 rw[this];exact cM rfl k
def jb:cV:=fun ds st K=>∃(t d:Int),ds=[.int t,.int d]/\d≠0/\K (.int (Mx.qn t d)) st
def gR:List Str:=["top","bottom"]
def rF:DS:=(dJ (aE oV (aE fL (aE eW (dC (.int 2)) (ab 0)) (ab 1)) (aE eW (dC (.int 2)) (ab 1))))
theorem Eu{a:Int}{m:Nat}(h:a.natAbs<2^m):Builtin.Int.intBits a<=m:=by
 unfold Builtin.Int.intBits;by_cases h0:a.natAbs=0
 . have:a=0:=by omega
   subst this;simp
 . have:=(Nat.log2_lt h0).mpr h;split<;>omega
theorem nk{a b:Int}{m n:Nat}(ha:a.natAbs<=2^m)(hb:b.natAbs<=2^n)(h:m+n<=130000000):IntMulOk a b:=by
 have q:∀ {x:Int} {k:Nat},x.natAbs<=2^k->Builtin.Int.intBits x<=k+1:=fun{x k} h=>Eu (Nat.lt_of_le_of_lt h (Nat.pow_lt_pow_right (by decide) (Nat.lt_succ_self k)));have h1:=q ha;have h2:=q hb;have e:(2:Nat)^27=134217728:=by decide
 have z:Builtin.Int.intTooBig (Builtin.Int.intBits a+Builtin.Int.intBits b)=false:=by
  unfold Builtin.Int.intTooBig bitsLine;exact decide_eq_false (by omega)
 unfold IntMulOk;rw[z];simp
theorem qo:∀ds st K,jb ds st K->ds.length=2/\rF {nx:=fun _ st'=>K .aM st',rt:=K} (bj gR ds) st:=by
 rintro ds st K ⟨t,d,rfl,hd,k⟩;exact⟨rfl,fV (h_ (by decide) (by decide)) (gO (fV (h_ (by decide) (by decide)) (yp (by omega) k)))⟩
def jQ:cV:=fun ds st K=>∃(n k o:Nat) (A:List (List Int)),ds=[.ref n,.int k,.int o]/\st[n]?=some (.lst (A.map bf))/\k<A.length/\o<A.length/\K (.ref st.length) (st++[.lst ((Mx.bz A k o).map bf)])
def lO:List Str:=["rows","k","other","order"]
def zu:DS:=(aP (cv 3 (cy oP (ae (ab 0) ak)))
 (aP (fw (ab 3) (ab 1) (aE bN (ab 0) (ab 2)))
 (aP (fw (ab 3) (ab 2) (aE bN (ab 0) (ab 1)))
 (dJ (ab 3)))))
theorem dR{A:List (List Int)}{j:Nat}(h:j<A.length):eQ (A.map bf) (j:Int)=some (bf (A.getD j [])):=by
 refine iO ?_;rw[List.getElem?_map,List.getElem?_eq_getElem h,Mx.a7 h];rfl
theorem ma{m k:Nat}(h:k<m):nU m (k:Int)=some k:=by
 have:=oY (i:=(k:Int)) (m:=m) (by omega) (by omega);rw[Int.toNat_natCast]at this;exact this
theorem iQ{A:List (List Int)}{k:Nat}{r:List Int}:(A.map bf).set k (bf r)=(A.set k r).map bf:=by rw[List.map_set]
theorem xN:∀ds st K,jQ ds st K->ds.length=3/\zu {nx:=fun _ st'=>K .aM st',rt:=K} (bj lO ds) st:=by
 rintro ds st K ⟨n,k,o,A,rfl,e,hk,ho,kk⟩;refine⟨rfl,?_⟩;have hn:n<st.length:=(List.getElem?_eq_some_iff.mp e).1;refine yV (aW e) ?_;have e1:(st++[Cell.lst (A.map bf)])[n]?=some (.lst (A.map bf)):=by rw[List.getElem?_append_left hn];exact e
 have e2:(st++[Cell.lst (A.map bf)])[st.length]?=some (.lst (A.map bf)):=by simp
 refine aU (aW e1) (dR ho) (fU e2 (by rw[List.length_map];exact ma hk) ?_);rw[iQ]
 have es:(st++[Cell.lst (A.map bf)]).set st.length (.lst ((A.set k (A.getD o [])).map bf))=st++[Cell.lst ((A.set k (A.getD o [])).map bf)]:=by
  rw[List.set_append_right _ _ (Nat.le_refl _),Nat.sub_self];rfl
 rw[es];have e3:(st++[Cell.lst ((A.set k (A.getD o [])).map bf)])[n]?=some (.lst (A.map bf)):=by rw[List.getElem?_append_left hn];exact e
 have e4:(st++[Cell.lst ((A.set k (A.getD o [])).map bf)])[st.length]?=some (.lst ((A.set k (A.getD o [])).map bf)):=by simp
 refine aU (aW e3) (dR hk) (fU e4 (by rw[List.length_map,List.length_set];exact ma ho) ?_);rw[iQ]
 have es2:(st++[Cell.lst ((A.set k (A.getD o [])).map bf)]).set st.length (.lst (((A.set k (A.getD o [])).set o (A.getD k [])).map bf))=st++[Cell.lst ((Mx.bz A k o).map bf)]:=by
  rw[List.set_append_right _ _ (Nat.le_refl _),Nat.sub_self];rfl
 rw[es2];exact kk
def mm:cV:=fun ds st K=>∃(d:D) (r:List Int),ds=[d]/\items? st d=some (aH r)/\r.length<=1000/\K (bf (r.map fun x=> -x)) st
def oy:List Str:=["row"]
def CZ:DS:=(dJ (dz (fx (ab 0)) [none] (cj 0) cB (oa jK (ab 0))))
theorem Br:∀ds st K,mm ds st K->ds.length=1/\CZ {nx:=fun _ st'=>K .aM st',rt:=K} (bj oy ds) st:=by
 rintro ds st K ⟨d,r,rfl,hd,hl,k⟩;refine⟨rfl,?_⟩;refine nW hd fun ok aI=>⟨bJ (by unfold aH;rw[List.length_map];exact hl),?_⟩
 refine comp_map (g:=fun x=>match x with| .int a=> .int (-a)|_=> .aM) aI _ (fun x hx K' q=>?_) ?_
 . unfold aH at hx;obtain⟨a,_,rfl⟩:=List.mem_map.mp hx;exact⟨_,rfl,ji q⟩
 . have e:(aH r).map (fun x=>match x with| .int a=> .int (-a)|_=> .aM)=aH (r.map fun x=> -x):=by unfold aH;rw[List.map_map,List.map_map];rfl
   rw[e];exact k
structure Bn(st:af)(b xb xu xc:Nat)(A U C:List (List Int)):Prop where
 eb:st[b]?=some (Cell.ins az [("body",.ref xb),("turn",.ref xu),("back_columns",.ref xc)])
 e1:st[xb]?=some (Cell.lst (A.map bf))
 e2:st[xu]?=some (Cell.lst (U.map bf))
 e3:st[xc]?=some (Cell.lst (C.map bf))
 n1:xb≠xu
 n2:xb≠xc
 n3:xu≠xc
theorem kU{st:af}{b x:Nat}{C:Addr}{fs:List (Str×D)}{xs:List D}(h1:st[b]?=some (Cell.ins C fs))(h2:st[x]?=some (Cell.lst xs)):b≠x:=fun z=>by rw[z,h2]at h1;cases h1
def kc:cV:=fun ds st K=>∃(b N:Nat) (d:D) (A:List (List Int)),ds=[.ref b,d]/\st[b]?=some (.ins az [])/\fC st d A/\A.length=N/\N<=16/\∀st',Bn st' b st.length (st.length+1) (st.length+2) A (Mx.units N) (Mx.units N)->st'.length=st.length+3->(∀m,m<st.length->m≠b->st'[m]?=st[m]?)->K .aM st'
def iq:List Str:=["self","rows"]
def t_:DS:=(aP (fh az "body" (ab 0) (kD (fx (ab 1)) [none] (cj 0) cB (cy oA (ae (ab 0) ak))))
 (aP (fh az "turn" (ab 0) (kD (fx (aL fg (ae (cy fm (ae (ab 1) ak)) ak))) [none] (cj 0) cB (cy oA (ae (ab 0) ak))))
 (fh az "back_columns" (ab 0) (kD (fx (aL fg (ae (cy fm (ae (ab 1) ak)) ak))) [none] (cj 0) cB (cy oA (ae (ab 0) ak))))))
theorem pN(f:Str)(v:D):∀fs:List (Str×D),(putD f v fs).length<=fs.length+1
 | []=>by simp[putD]
 |(g,x)::r=>by
  unfold putD;split
  . simp
  . have:=pN f v r;simp only[List.length_cons];omega
theorem yS{st:af}{A:List (List Int)}:cf st (A.map bG) A:=cf.tup
theorem vW(n:Nat):(Mx.units n).length=n:=by unfold Mx.units;simp
theorem sY:∀ds st K,kc ds st K->ds.length=2/\t_ {nx:=fun _ st'=>K .aM st',rt:=K} (bj iq ds) st:=by
 rintro ds st K ⟨b,N,d,A,rfl,eb,hA,hl,hN,k⟩;refine⟨rfl,?_⟩;have hb:b<st.length:=(List.getElem?_eq_some_iff.mp eb).1;obtain⟨da,hd,ra⟩:=hA.ex;have hdl:=ra.len;have lst:∀(e:D) (r:List Int),True:=fun _ _=>trivial;refine nW hd fun ok aI=>⟨bJ (by omega),?_⟩
 refine ix bf aI ra (fun e r hr he K' q=>⟨_,rfl,sD he q⟩) ?_;have eb1:(st++[Cell.lst (A.map bf)])[b]?=some (.ins az []):=by rw[List.getElem?_append_left hb];exact eb
 refine lq eb1 (by decide) ?_;generalize hs1:(st++[Cell.lst (A.map bf)]).set b (.ins az (putD "body" (.ref st.length) []))=st1;have l1:st1.length=st.length+1:=by rw[<-hs1];simp
 have f1:∀m,m<st.length->m≠b->st1[m]?=st[m]?:=fun m hm hmb=>by rw[<-hs1,List.getElem?_set_ne (Ne.symm hmb),List.getElem?_append_left hm]
 have b1:st1[b]?=some (.ins az (putD "body" (.ref st.length) [])):=by rw[<-hs1,List.getElem?_set_self (by simp;omega)]
 have x1:st1[st.length]?=some (.lst (A.map bf)):=by rw[<-hs1,List.getElem?_set_ne (by omega)];simp
 clear hs1
 have itd:∃da',items? st1 d=some da'/\da'.length=N:=by
  cases d with
  |ref n=>
   by_cases hnb:n=b
   . subst hnb;unfold items? at hd;simp only[eb]at hd;cases hd
   . have hn:n<st.length:=by
      unfold items? at hd;simp only at hd;cases q:st[n]? with
      |none=>rw[q]at hd;cases hd
      |some c=>exact(List.getElem?_eq_some_iff.mp q).1
     refine⟨da,?_,by omega⟩;unfold items? at hd⊢;simp only at hd⊢;rw[f1 n hn hnb];exact hd
  |_=>exact⟨da,hd,by omega⟩
 obtain⟨da1,hd1,hdl1⟩:=itd;refine dG hd1 ?_;rw[hdl1];refine⟨N,rfl,by omega,?_⟩;refine kq ⟨bJ (by rw[List.length_map,vW];omega),?_⟩;refine ix bf trivial yS (fun e r hr he K' q=>⟨_,rfl,sD he q⟩) ?_;have b2:(st1++[Cell.lst ((Mx.units N).map bf)])[b]?=some (.ins az (putD "body" (.ref st.length) [])):=by rw[List.getElem?_append_left (by omega)];exact b1
 refine lq b2 (by have:=pN "body" (.ref st.length) [];simp only[List.length_nil]at this;omega) ?_;generalize hs2:(st1++[Cell.lst ((Mx.units N).map bf)]).set b (.ins az (putD "turn" (.ref st1.length) (putD "body" (.ref st.length) [])))=st2;have l2:st2.length=st.length+2:=by rw[<-hs2];simp;omega
 have f2:∀m,m<st1.length->m≠b->st2[m]?=st1[m]?:=fun m hm hmb=>by rw[<-hs2,List.getElem?_set_ne (Ne.symm hmb),List.getElem?_append_left hm]
 have b2':st2[b]?=some (.ins az (putD "turn" (.ref st1.length) (putD "body" (.ref st.length) []))):=by rw[<-hs2,List.getElem?_set_self (by simp;omega)]
 have x2:st2[st1.length]?=some (.lst ((Mx.units N).map bf)):=by rw[<-hs2,List.getElem?_set_ne (by omega)];simp
 clear hs2
 have itd2:items? st2 d=some da1:=by
  cases d with
  |ref n=>
   by_cases hnb:n=b
   . subst hnb;unfold items? at hd1;simp only[b1]at hd1;cases hd1
   . have hn:n<st1.length:=by
      unfold items? at hd1;simp only at hd1;cases q:st1[n]? with
      |none=>rw[q]at hd1;cases hd1
      |some c=>exact(List.getElem?_eq_some_iff.mp q).1
     unfold items? at hd1⊢;simp only at hd1⊢;rw[f2 n hn hnb];exact hd1
  |_=>exact hd1
 refine dG itd2 ?_;rw[hdl1];refine⟨N,rfl,by omega,?_⟩;refine kq ⟨bJ (by rw[List.length_map,vW];omega),?_⟩;refine ix bf trivial yS (fun e r hr he K' q=>⟨_,rfl,sD he q⟩) ?_;have b3:(st2++[Cell.lst ((Mx.units N).map bf)])[b]?=some (.ins az (putD "turn" (.ref st1.length) (putD "body" (.ref st.length) []))):=by rw[List.getElem?_append_left (by omega)];exact b2'
 refine lq b3 (by have h1:=pN "body" (.ref st.length) [];have h2:=pN "turn" (.ref st1.length) (putD "body" (.ref st.length) []);simp only[List.length_nil]at h1;omega) ?_;refine k _ ⟨?_,?_,?_,?_,by omega,by omega,by omega⟩ (by simp;omega) fun m hm hmb=>?_
 . rw[List.getElem?_set_self (by simp;omega),l1,l2];rfl
 . rw[List.getElem?_set_ne (by omega),List.getElem?_append_left (by omega),f2 _ (by omega) (by omega)];exact x1
 . rw[List.getElem?_set_ne (by omega),List.getElem?_append_left (by omega)];rw[l1]at x2;exact x2
 . rw[List.getElem?_set_ne (by omega)];rw[show st.length+2=st2.length by omega];simp
 . rw[List.getElem?_set_ne (Ne.symm hmb),List.getElem?_append_left (by omega),f2 m (by omega) hmb,f1 m hm hmb]
def kE:cV:=fun ds st K=>∃(b xb xu xc N w k j:Nat) (A U C:List (List Int)) (q:Int),ds=[.ref b,.int k,.int q,.int j]/\Bn st b xb xu xc A U C/\Mx.aJ N w A/\Mx.aJ N N U/\Mx.aJ N N C/\k<N/\j<N/\N<=16/\w<=16/\(∀x∈A.getD j [],IntMulOk (-q) x)/\(∀x∈U.getD j [],IntMulOk (-q) x)/\(∀x∈C.getD k [],IntMulOk q x)/\
 ∀st',Bn st' b xb xu xc (Mx.aS A k q j) (Mx.aS U k q j) (Mx.aS C j (-q) k)->st'.length=st.length->(∀m,m≠xb->m≠xu->m≠xc->st'[m]?=st[m]?)->K .aM st'
def k6:List Str:=["self","k","times","other"]
def xX:DS:=(aP (fw (bM az "body" (ab 0)) (ab 1) (aL nu (ae (aE bN (bM az "body" (ab 0)) (ab 1)) (ae (oa jK (ab 2)) (ae (aE bN (bM az "body" (ab 0)) (ab 3)) ak)))))
 (aP (fw (bM az "turn" (ab 0)) (ab 1) (aL nu (ae (aE bN (bM az "turn" (ab 0)) (ab 1)) (ae (oa jK (ab 2)) (ae (aE bN (bM az "turn" (ab 0)) (ab 3)) ak)))))
 (fw (bM az "back_columns" (ab 0)) (ab 3) (aL nu (ae (aE bN (bM az "back_columns" (ab 0)) (ab 3)) (ae (ab 2) (ae (aE bN (bM az "back_columns" (ab 0)) (ab 1)) ak)))))))
theorem wQ:∀ds st K,kE ds st K->ds.length=4/\xX {nx:=fun _ st'=>K .aM st',rt:=K} (bj k6 ds) st:=by
 rintro ds st K ⟨b,xb,xu,xc,N,w,k,j,A,U,C,q,rfl,B,hA,hU,hC,hk,hj,hN,hw,mA,mU,mC,kk⟩;refine⟨rfl,?_⟩;have lA:=hA.len;have lU:=hU.len;have lC:=hC.len;have rA:=Mx.cY hA hk;have rU:=Mx.cY hU hk;have rC:=Mx.cY hC hj;have bx1:=kU B.eb B.e1;have bx2:=kU B.eb B.e2;have bx3:=kU B.eb B.e3;have n1:=B.n1;have n2:=B.n2;have n3:=B.n3;refine aY B.eb rfl (aU (aW B.e1) (dR (by omega)) (ji (aY B.eb rfl (aU (aW B.e1) (dR (by omega)) ?_))));refine⟨_,_,-q,A.getD k [],A.getD j [],rfl,rfl,rfl,by omega,mA,?_⟩;refine aY B.eb rfl (fU B.e1 (by rw[List.length_map,lA];exact ma hk) ?_);rw[iQ];have g1:∀m,m≠xb->(st.set xb (.lst ((A.set k (Mx.f9 (A.getD k []) (-q) (A.getD j []))).map bf)))[m]?=st[m]?:=fun m hm=>List.getElem?_set_ne (Ne.symm hm);have h1:(st.set xb (.lst ((A.set k (Mx.f9 (A.getD k []) (-q) (A.getD j []))).map bf)))[xb]?=some (.lst ((Mx.aS A k q j).map bf)):=List.getElem?_set_self (List.getElem?_eq_some_iff.mp B.e1).1;have z1:(st.set xb (.lst ((A.set k (Mx.f9 (A.getD k []) (-q) (A.getD j []))).map bf))).length=st.length:=List.length_set;generalize st.set xb (.lst ((A.set k (Mx.f9 (A.getD k []) (-q) (A.getD j []))).map bf))=st1 at g1 h1 z1⊢;have eb1:=(g1 b bx1).trans B.eb;have e21:=(g1 xu (Ne.symm n1)).trans B.e2;have e31:=(g1 xc (Ne.symm n2)).trans B.e3;refine aY eb1 rfl (aU (aW e21) (dR (by omega)) (ji (aY eb1 rfl (aU (aW e21) (dR (by omega)) ?_))));refine⟨_,_,-q,U.getD k [],U.getD j [],rfl,rfl,rfl,by omega,mU,?_⟩;refine aY eb1 rfl (fU e21 (by rw[List.length_map,lU];exact ma hk) ?_);rw[iQ];have g2:∀m,m≠xu->(st1.set xu (.lst ((U.set k (Mx.f9 (U.getD k []) (-q) (U.getD j []))).map bf)))[m]?=st1[m]?:=fun m hm=>List.getElem?_set_ne (Ne.symm hm);have h2:(st1.set xu (.lst ((U.set k (Mx.f9 (U.getD k []) (-q) (U.getD j []))).map bf)))[xu]?=some (.lst ((Mx.aS U k q j).map bf)):=List.getElem?_set_self (List.getElem?_eq_some_iff.mp e21).1;have z2:(st1.set xu (.lst ((U.set k (Mx.f9 (U.getD k []) (-q) (U.getD j []))).map bf))).length=st1.length:=List.length_set;generalize st1.set xu (.lst ((U.set k (Mx.f9 (U.getD k []) (-q) (U.getD j []))).map bf))=st2 at g2 h2 z2⊢;have eb2:=(g2 b bx2).trans eb1;have e32:=(g2 xc (Ne.symm n3)).trans e31;refine aY eb2 rfl (aU (aW e32) (dR (by omega)) (aY eb2 rfl (aU (aW e32) (dR (by omega)) ?_)));refine⟨_,_,q,C.getD j [],C.getD k [],rfl,rfl,rfl,by omega,mC,?_⟩;refine aY eb2 rfl (fU e32 (by rw[List.length_map,lC];exact ma hj) ?_);rw[iQ];have hc:C.set j (Mx.f9 (C.getD j []) q (C.getD k []))=Mx.aS C j (-q) k:=by unfold Mx.aS;rw[Int.neg_neg]
 rw[hc];refine kk _ ⟨?_,?_,?_,?_,n1,n2,n3⟩ (by rw[List.length_set];omega) fun m m1 m2 m3=>?_
 . rw[List.getElem?_set_ne (Ne.symm bx3)];exact eb2
 . rw[List.getElem?_set_ne (Ne.symm n2),g2 _ n1];exact h1
 . rw[List.getElem?_set_ne (Ne.symm n3)];exact h2
 . exact List.getElem?_set_self (List.getElem?_eq_some_iff.mp e32).1
 . rw[List.getElem?_set_ne (Ne.symm m3),g2 m m2,g1 m m1]
def kb:cV:=fun ds st K=>∃(b xb xu xc N w k o:Nat) (A U C:List (List Int)),ds=[.ref b,.int k,.int o]/\Bn st b xb xu xc A U C/\Mx.aJ N w A/\Mx.aJ N N U/\Mx.aJ N N C/\k<N/\o<N/\
 ∀st',Bn st' b st.length (st.length+1) (st.length+2) (Mx.bz A k o) (Mx.bz U k o) (Mx.bz C k o)->st'.length=st.length+3->(∀m,m<st.length->m≠b->st'[m]?=st[m]?)->K .aM st'
def iw:List Str:=["self","k","other"]
def uj:DS:=(aP (fh az "body" (ab 0) (aL jQ (ae (bM az "body" (ab 0)) (ae (ab 1) (ae (ab 2) ak)))))
 (aP (fh az "turn" (ab 0) (aL jQ (ae (bM az "turn" (ab 0)) (ae (ab 1) (ae (ab 2) ak)))))
 (fh az "back_columns" (ab 0) (aL jQ (ae (bM az "back_columns" (ab 0)) (ae (ab 1) (ae (ab 2) ak)))))))
theorem sM:∀ds st K,kb ds st K->ds.length=3/\uj {nx:=fun _ st'=>K .aM st',rt:=K} (bj iw ds) st:=by
 rintro ds st K ⟨b,xb,xu,xc,N,w,k,o,A,U,C,rfl,B,hA,hU,hC,hk,ho,kk⟩;refine⟨rfl,?_⟩;have lA:=hA.len;have lU:=hU.len;have lC:=hC.len;have bx1:=kU B.eb B.e1;have bx2:=kU B.eb B.e2;have bx3:=kU B.eb B.e3;have hb:b<st.length:=(List.getElem?_eq_some_iff.mp B.eb).1;have hu:xu<st.length:=(List.getElem?_eq_some_iff.mp B.e2).1;have hc:xc<st.length:=(List.getElem?_eq_some_iff.mp B.e3).1;refine aY B.eb rfl ?_;refine⟨xb,k,o,A,rfl,B.e1,by omega,by omega,?_⟩;have eb1:(st++[Cell.lst ((Mx.bz A k o).map bf)])[b]?=some (.ins az [("body",.ref xb),("turn",.ref xu),("back_columns",.ref xc)]):=by rw[List.getElem?_append_left hb];exact B.eb
 refine lq eb1 (by simp) ?_;have pb:putD "body" (.ref st.length) [("body",.ref xb),("turn",.ref xu),("back_columns",.ref xc)]=([("body",.ref st.length),("turn",.ref xu),("back_columns",.ref xc)]:List (Str×D)):=rfl;rw[pb];generalize hs1:(st++[Cell.lst ((Mx.bz A k o).map bf)]).set b (.ins az [("body",.ref st.length),("turn",.ref xu),("back_columns",.ref xc)])=st1;have l1:st1.length=st.length+1:=by rw[<-hs1];simp
 have f1:∀m,m<st.length->m≠b->st1[m]?=st[m]?:=fun m hm hmb=>by rw[<-hs1,List.getElem?_set_ne (Ne.symm hmb),List.getElem?_append_left hm]
 have b1:st1[b]?=some (.ins az [("body",.ref st.length),("turn",.ref xu),("back_columns",.ref xc)]):=by rw[<-hs1,List.getElem?_set_self (by simp;omega)]
 have x1:st1[st.length]?=some (.lst ((Mx.bz A k o).map bf)):=by rw[<-hs1,List.getElem?_set_ne (by omega)];simp
 clear hs1 eb1;refine aY b1 rfl ?_;refine⟨xu,k,o,U,rfl,(f1 xu hu (Ne.symm bx2)).trans B.e2,by omega,by omega,?_⟩;have eb1:(st1++[Cell.lst ((Mx.bz U k o).map bf)])[b]?=some (.ins az [("body",.ref st.length),("turn",.ref xu),("back_columns",.ref xc)]):=by rw[List.getElem?_append_left (by omega)];exact b1
 refine lq eb1 (by simp) ?_;have pb:putD "turn" (.ref st1.length) [("body",.ref st.length),("turn",.ref xu),("back_columns",.ref xc)]=([("body",.ref st.length),("turn",.ref st1.length),("back_columns",.ref xc)]:List (Str×D)):=rfl;rw[pb];generalize hs2:(st1++[Cell.lst ((Mx.bz U k o).map bf)]).set b (.ins az [("body",.ref st.length),("turn",.ref st1.length),("back_columns",.ref xc)])=st2;have l2:st2.length=st.length+2:=by rw[<-hs2];simp;omega
 have f2:∀m,m<st1.length->m≠b->st2[m]?=st1[m]?:=fun m hm hmb=>by rw[<-hs2,List.getElem?_set_ne (Ne.symm hmb),List.getElem?_append_left hm]
 have b2:st2[b]?=some (.ins az [("body",.ref st.length),("turn",.ref st1.length),("back_columns",.ref xc)]):=by rw[<-hs2,List.getElem?_set_self (by simp;omega)]
 have x2:st2[st1.length]?=some (.lst ((Mx.bz U k o).map bf)):=by rw[<-hs2,List.getElem?_set_ne (by omega)];simp
 clear hs2 eb1;refine aY b2 rfl ?_;refine⟨xc,k,o,C,rfl,((f2 xc (by omega) (Ne.symm bx3)).trans (f1 xc hc (Ne.symm bx3))).trans B.e3,by omega,by omega,?_⟩;have eb1:(st2++[Cell.lst ((Mx.bz C k o).map bf)])[b]?=some (.ins az [("body",.ref st.length),("turn",.ref st1.length),("back_columns",.ref xc)]):=by rw[List.getElem?_append_left (by omega)];exact b2
 refine lq eb1 (by simp) ?_;have pb:putD "back_columns" (.ref st2.length) [("body",.ref st.length),("turn",.ref st1.length),("back_columns",.ref xc)]=([("body",.ref st.length),("turn",.ref st1.length),("back_columns",.ref st2.length)]:List (Str×D)):=rfl;rw[pb];refine kk _ ⟨?_,?_,?_,?_,by omega,by omega,by omega⟩ (by simp;omega) fun m hm hmb=>?_
 . rw[List.getElem?_set_self (by simp;omega),l1,l2]
 . rw[List.getElem?_set_ne (by omega),List.getElem?_append_left (by omega),f2 _ (by omega) (by omega)];exact x1
 . rw[List.getElem?_set_ne (by omega),List.getElem?_append_left (by omega)];rw[l1]at x2;exact x2
 . rw[List.getElem?_set_ne (by omega)];rw[show st.length+2=st2.length by omega];simp
 . rw[List.getElem?_set_ne (Ne.symm hmb),List.getElem?_append_left (by omega),f2 m (by omega) hmb,f1 m hm hmb]
def i5:cV:=fun ds st K=>∃(b xb xu xc N w k:Nat) (A U C:List (List Int)),ds=[.ref b,.int k]/\Bn st b xb xu xc A U C/\Mx.aJ N w A/\Mx.aJ N N U/\Mx.aJ N N C/\k<N/\N<=16/\w<=16/\
 ∀st',Bn st' b xb xu xc (Mx.fO A k) (Mx.fO U k) (Mx.fO C k)->st'.length=st.length->(∀m,m≠xb->m≠xu->m≠xc->st'[m]?=st[m]?)->K .aM st'
def f_:List Str:=["self","k"]
def qy:DS:=(aP (fw (bM az "body" (ab 0)) (ab 1) (aL mm (ae (aE bN (bM az "body" (ab 0)) (ab 1)) ak)))
 (aP (fw (bM az "turn" (ab 0)) (ab 1) (aL mm (ae (aE bN (bM az "turn" (ab 0)) (ab 1)) ak)))
 (fw (bM az "back_columns" (ab 0)) (ab 1) (aL mm (ae (aE bN (bM az "back_columns" (ab 0)) (ab 1)) ak)))))
theorem pY:∀ds st K,i5 ds st K->ds.length=2/\qy {nx:=fun _ st'=>K .aM st',rt:=K} (bj f_ ds) st:=by
 rintro ds st K ⟨b,xb,xu,xc,N,w,k,A,U,C,rfl,B,hA,hU,hC,hk,hN,hw,kk⟩;refine⟨rfl,?_⟩;have lA:=hA.len;have lU:=hU.len;have lC:=hC.len;have rA:=Mx.cY hA hk;have rU:=Mx.cY hU hk;have rC:=Mx.cY hC hk;have bx1:=kU B.eb B.e1;have bx2:=kU B.eb B.e2;have bx3:=kU B.eb B.e3;have n1:=B.n1;have n2:=B.n2;have n3:=B.n3;refine aY B.eb rfl (aU (aW B.e1) (dR (by omega)) ?_);refine⟨_,A.getD k [],rfl,rfl,by omega,?_⟩;refine aY B.eb rfl (fU B.e1 (by rw[List.length_map,lA];exact ma hk) ?_);rw[iQ];have g1:∀m,m≠xb->(st.set xb (.lst ((A.set k ((A.getD k []).map fun x=> -x)).map bf)))[m]?=st[m]?:=fun m hm=>List.getElem?_set_ne (Ne.symm hm);have h1:(st.set xb (.lst ((A.set k ((A.getD k []).map fun x=> -x)).map bf)))[xb]?=some (.lst ((Mx.fO A k).map bf)):=List.getElem?_set_self (List.getElem?_eq_some_iff.mp B.e1).1;have z1:(st.set xb (.lst ((A.set k ((A.getD k []).map fun x=> -x)).map bf))).length=st.length:=List.length_set;generalize st.set xb (.lst ((A.set k ((A.getD k []).map fun x=> -x)).map bf))=st1 at g1 h1 z1⊢;have eb1:=(g1 b bx1).trans B.eb;have e21:=(g1 xu (Ne.symm n1)).trans B.e2;have e31:=(g1 xc (Ne.symm n2)).trans B.e3;refine aY eb1 rfl (aU (aW e21) (dR (by omega)) ?_);refine⟨_,U.getD k [],rfl,rfl,by omega,?_⟩;refine aY eb1 rfl (fU e21 (by rw[List.length_map,lU];exact ma hk) ?_);rw[iQ];have g2:∀m,m≠xu->(st1.set xu (.lst ((U.set k ((U.getD k []).map fun x=> -x)).map bf)))[m]?=st1[m]?:=fun m hm=>List.getElem?_set_ne (Ne.symm hm);have h2:(st1.set xu (.lst ((U.set k ((U.getD k []).map fun x=> -x)).map bf)))[xu]?=some (.lst ((Mx.fO U k).map bf)):=List.getElem?_set_self (List.getElem?_eq_some_iff.mp e21).1;have z2:(st1.set xu (.lst ((U.set k ((U.getD k []).map fun x=> -x)).map bf))).length=st1.length:=List.length_set;generalize st1.set xu (.lst ((U.set k ((U.getD k []).map fun x=> -x)).map bf))=st2 at g2 h2 z2⊢;have eb2:=(g2 b bx2).trans eb1;have e32:=(g2 xc (Ne.symm n3)).trans e31;refine aY eb2 rfl (aU (aW e32) (dR (by omega)) ?_);refine⟨_,C.getD k [],rfl,rfl,by omega,?_⟩;refine aY eb2 rfl (fU e32 (by rw[List.length_map,lC];exact ma hk) ?_);rw[iQ];refine kk _ ⟨?_,?_,?_,?_,n1,n2,n3⟩ (by rw[List.length_set];omega) fun m m1 m2 m3=>?_
 . rw[List.getElem?_set_ne (Ne.symm bx3)];exact eb2
 . rw[List.getElem?_set_ne (Ne.symm n2),g2 _ n1];exact h1
 . rw[List.getElem?_set_ne (Ne.symm n3)];exact h2
 . exact List.getElem?_set_self (List.getElem?_eq_some_iff.mp e32).1
 . rw[List.getElem?_set_ne (Ne.symm m3),g2 m m2,g1 m m1]
def g4:cV:=fun ds st K=>∃(b xb xu xc N w top p:Nat) (A U C:List (List Int)) (f:Bool),ds=[.ref b,.int top,.int p]/\Bn st b xb xu xc A U C/\Mx.aJ N w A/\top<=N/\N<=16/\p<w/\w<=16/\st[0]?=some (eF f)/\
 ∀L,Mx.jJ A N top p L->K (.lst (L.map fun(k:Nat)=> .int (k:Int))) (st.set 0 (eF true))
def gZ:List Str:=["self","top","place","live"]
def sQ:DS:=(aP (cv 3 (dz (pv (ae (ab 1) (ae (cy fm (ae (bM az "body" (ab 0)) ak)) ak))) [none,some 0,some 2] (cj 0) (ef (aE tD (aE bN (aE bN (bM az "body" (ab 1)) (ab 0)) (ab 2)) (dC (.int 0)))) (ab 0)))
 (dJ (xR 0 110 ⟨56,32,56,66⟩ "Bench.live_rows.<locals>.<lambda>" [none,some 0,some 2] (cy vm (ae (aE bN (aE bN (bM az "body" (ab 1)) (ab 0)) (ab 2)) ak)) (ab 3))))
theorem u6{a b:Prop}(h:b):if false=true then a else b:=h
theorem HC{st:af}{b:Nat}{C:Addr}{fs:List (Str×D)}{f:Bool}(h1:st[b]?=some (Cell.ins C fs))(h2:st[0]?=some (eF f)):b≠0:=fun z=>by rw[z,h2]at h1;cases h1
theorem sy{st:af}{b:Nat}{xs:List D}{f:Bool}(h1:st[b]?=some (Cell.lst xs))(h2:st[0]?=some (eF f)):b≠0:=fun z=>by rw[z,h2]at h1;cases h1
theorem Bn.keep{st st':af}{b xb xu xc:Nat}{A U C:List (List Int)}(B:Bn st b xb xu xc A U C)(h:∀m,m=b\/m=xb\/m=xu\/m=xc->st'[m]?=st[m]?):Bn st' b xb xu xc A U C:=
 ⟨(h b (.inl rfl)).trans B.eb,(h xb (.inr (.inl rfl))).trans B.e1,(h xu (.inr (.inr (.inl rfl)))).trans B.e2,(h xc (.inr (.inr (.inr rfl)))).trans B.e3,B.n1,B.n2,B.n3⟩
theorem Bn.tab{st:af}{b xb xu xc:Nat}{A U C:List (List Int)}{f:Bool}(B:Bn st b xb xu xc A U C)(h:st[0]?=some (eF f))(c:Cell):Bn (st.set 0 c) b xb xu xc A U C:=
 B.keep fun m hm=>List.getElem?_set_ne fun z=>by
  subst z;rcases hm with rfl|rfl|rfl|rfl
  . exact HC B.eb h rfl
  . exact sy B.e1 h rfl
  . exact sy B.e2 h rfl
  . exact sy B.e3 h rfl
theorem nH{r:List Int}{k:Nat}(h:k<r.length):eQ (aH r) (k:Int)=some (.int (r.getD k 0)):=by
 refine iO ?_;unfold aH;rw[List.getElem?_map,List.getElem?_eq_getElem h,Mx.a7 h];rfl
def gN(A:List (List Int))(N top p:Nat):List Nat:=(List.range (N-top)).filterMap fun i=>if Mx.g A (top+i) p≠0 then some (top+i)else none
theorem wj{A:List (List Int)}{N top p k:Nat}:k∈gN A N top p↔top<=k/\k<N/\Mx.g A k p≠0:=by
 unfold gN;rw[List.mem_filterMap];constructor
 . rintro⟨i,hi,e⟩;rw[List.mem_range]at hi;split at e
   . rename_i h;cases e;exact⟨by omega,by omega,h⟩
   . cases e
 . rintro⟨h1,h2,h3⟩;refine⟨k-top,List.mem_range.mpr (by omega),?_⟩;rw[show top+(k-top)=k by omega,if_pos h3]
theorem pw_filterMap{f:Nat->Option Nat}(h:∀i j a b,i<j->f i=some a->f j=some b->a<b):∀ {l:List Nat},l.Pairwise (· < ·)->(l.filterMap f).Pairwise (· < ·)
 | [],_=>by simp
 |x::l,hl=>by
  obtain⟨h1,h2⟩:=List.pairwise_cons.mp hl;rw[List.filterMap_cons];split
  . exact pw_filterMap h h2
  . rename_i a e;refine List.pairwise_cons.mpr ⟨fun b hb=>?_,pw_filterMap h h2⟩;obtain⟨j,hj,ej⟩:=List.mem_filterMap.mp hb;exact h x j a b (h1 j hj) e ej
theorem pw_liveR{A:List (List Int)}{N top p:Nat}:(gN A N top p).Pairwise (· < ·):=by
 unfold gN;refine pw_filterMap (fun i j a b hij ha hb=>?_) List.pairwise_lt_range;split at ha
 . split at hb
   . cases ha;cases hb;omega
   . cases hb
 . cases ha
theorem wX{f:Nat->Option Nat}(l:List Nat):(l.filterMap f).length<=l.length:=List.length_filterMap_le ..
theorem Gg{A:List (List Int)}{N top p:Nat}{os:List (Int×Int)}(hp:os.Perm (((gN A N top p).map fun(k:Nat)=>(((Mx.g A k p).natAbs:Nat):Int)).zip ((gN A N top p).map fun(k:Nat)=>(k:Int))))(hs:os.Pairwise slt):
 Mx.jJ A N top p (os.map fun q=>q.2.toNat)/\os.map (fun q=>D.int q.2)=(os.map fun q=>q.2.toNat).map fun(k:Nat)=>D.int (k:Int):=by
 have hz:((gN A N top p).map fun(k:Nat)=>(((Mx.g A k p).natAbs:Nat):Int)).zip ((gN A N top p).map fun(k:Nat)=>(k:Int))=(gN A N top p).map fun k=>((((Mx.g A k p).natAbs:Nat):Int),(k:Int)):=by
  exact List.zip_map' ..
 rw[hz]at hp
 have hm:∀q∈os,∃k,k∈gN A N top p/\q=((((Mx.g A k p).natAbs:Nat):Int),(k:Int)):=fun q hq=>by
  obtain⟨k,h1,h2⟩:=List.mem_map.mp (hp.mem_iff.mp hq);exact⟨k,h1,h2.symm⟩
 refine⟨⟨fun k=>?_,?_⟩,?_⟩
 . rw[<-wj];constructor
   . intro h;obtain⟨q,hq,e⟩:=List.mem_map.mp h;obtain⟨j,h1,rfl⟩:=hm q hq;simp only[Int.toNat_natCast]at e;rw[<-e];exact h1
   . intro h;exact List.mem_map.mpr ⟨((((Mx.g A k p).natAbs:Nat):Int),(k:Int)),hp.mem_iff.mpr (List.mem_map.mpr ⟨k,h,rfl⟩),by simp⟩
 . rw[List.pairwise_map];refine hs.imp_of_mem fun{x y} hx hy h=>?_;obtain⟨j,_,rfl⟩:=hm x hx;obtain⟨k,_,rfl⟩:=hm y hy;unfold slt at h;simp only[Int.toNat_natCast];omega
 . rw[List.map_map];refine List.map_congr_left fun q hq=>?_;obtain⟨j,_,rfl⟩:=hm q hq;simp
theorem rK:∀ds st K,g4 ds st K->ds.length=3/\sQ {nx:=fun _ st'=>K .aM st',rt:=K} (bj gZ ds) st:=by
 rintro ds st K ⟨b,xb,xu,xc,N,w,top,p,A,U,C,f,rfl,B,hA,ht,hN,hp,hw,h0,k⟩;refine⟨rfl,?_⟩;have lA:=hA.len;have rowA:∀i,i<N->(A.getD i []).length=w:=fun i hi=>Mx.cY hA hi;refine aY B.eb rfl (dG (aW B.e1) ?_);rw[List.length_map,lA];refine zY ⟨by omega,by omega,by omega,by omega⟩ ⟨bJ (by unfold d_;simp;omega),?_⟩;have er:((N:Int)-(top:Int)).toNat=N-top:=by omega
 rw[er];refine gT (fun rest acc st'=>∃i:Nat,i<=N-top/\st'=st/\rest=(List.range (N-top-i)).map (fun j=>D.int ((top+i+j:Nat):Int))/\acc=((List.range i).filterMap fun i=>if Mx.g A (top+i) p≠0 then some (top+i)else none).map fun(k:Nat)=>D.int (k:Int)) ?_ ?_ _ _ _ ⟨0,Nat.zero_le _,rfl,by unfold d_;simp,by simp⟩
 . rintro acc st' ⟨i,hi,rfl,hr,rfl⟩
   have hi':i=N-top:=by
    rcases Nat.lt_or_ge i (N-top)with z|z
    . rw[show N-top-i=(N-top-i-1)+1 by omega,List.range_succ_eq_map]at hr;cases hr
    . omega
   subst hi';refine⟨trivial,?_⟩;have e1:((gN A N top p).map fun(k:Nat)=>D.int (k:Int))=((gN A N top p).map fun(k:Nat)=>(k:Int)).map D.int:=by rw[List.map_map];rfl
   refine⟨(gN A N top p).map fun(k:Nat)=>(k:Int),(gN A N top p).map fun(k:Nat)=>(((Mx.g A k p).natAbs:Nat):Int),f,congrArg D.lst e1,?_,?_,by rw[List.length_map,List.length_map],h0,fun i n q hn hq=>?_,fun os hp' hs=>?_⟩
   . rw[List.length_map];have:=wX (f:=fun i=>if Mx.g A (top+i) p≠0 then some (top+i)else none) (List.range (N-top));rw[List.length_range]at this;show(gN A N top p).length<64;unfold gN;omega
   . rw[List.pairwise_map];exact pw_liveR.imp fun h=>by omega
   . rw[List.getElem?_map]at hn hq;cases z:(gN A N top p)[i]? with
     |none=>rw[z]at hn;cases hn
     |some j=>
      rw[z]at hn hq;cases hn;cases hq;obtain⟨j1,j2,j3⟩:=wj.mp (List.mem_of_getElem? z);have B1:=B.tab h0 (eF true);refine aY B1.eb rfl (aU (aW B1.e1) (dR (by omega)) (aU rfl (nH (by rw[rowA j j2];exact hp)) (BV ⟨rfl,rfl⟩)))
   . obtain⟨h1,h2⟩:=Gg hp' hs;rw[h2];exact k _ h1
 . rintro d rest acc st' ⟨i,hi,rfl,hr,rfl⟩ next
   have hlt:i<N-top:=by
    rcases Nat.lt_or_ge i (N-top)with z|z
    . exact z
    . rw[show N-top-i=0 by omega]at hr;cases hr
   rw[show N-top-i=(N-top-i-1)+1 by omega,List.range_succ_eq_map,List.map_cons,List.map_map]at hr;obtain⟨rfl,rfl⟩:=List.cons.inj hr;refine⟨trivial,_,rfl,?_⟩;refine aY B.eb rfl (aU (aW B.e1) (dR (j:=top+i+0) (by omega)) (aU rfl (nH (by rw[rowA _ (by omega)];exact hp)) ?_));have e2:List.range (i+1)=List.range i++[i]:=List.range_succ
   have e3:((List.range (N-top-i-1)).map ((fun j=>D.int ((top+i+j:Nat):Int))∘Nat.succ))=(List.range (N-top-(i+1))).map fun j=>D.int ((top+(i+1)+j:Nat):Int):=by
    rw[show N-top-i-1=N-top-(i+1) by omega];refine List.map_congr_left fun j _=>?_;show D.int ((top+i+(j+1):Nat):Int)=_;rw[show top+i+(j+1)=top+(i+1)+j by omega]
   refine ne2 (fun h=>?_) fun h=>?_
   . refine(next _ _ ⟨i+1,by omega,rfl,e3,?_⟩);rw[e2,List.filterMap_append,List.map_append];have:Mx.g A (top+i) p≠0:=h;simp[this]
   . refine(next _ _ ⟨i+1,by omega,rfl,e3,?_⟩);rw[e2,List.filterMap_append,List.map_append];have:Mx.g A (top+i) p=0:=h;simp[this]
structure Bo(n0:Nat)(st st':af)(b xb xu xc:Nat):Prop where
 lo:1<=n0/\n0<=b/\n0<=xb/\n0<=xu/\n0<=xc
 fr:∀m,m<n0->m≠0->st'[m]?=st[m]?
 tb:∃f,st'[0]?=some (eF f)
def lJ:cV:=fun ds st K=>∃(n0 b xb xu xc N w top p e u v z:Nat) (A0 A U C:List (List Int)) (ld:Nat->Nat),ds=[.ref b,.int top,.int p]/\Bn st b xb xu xc A U C/\Bo n0 st st b xb xu xc/\Mx.eD A0 N w ⟨A,U,C⟩ top p ld e u v/\N<=16/\w<=16/\p<w/\z<=60000000/\(∀c,Mx.fu N top p ⟨A,U,C⟩ c->Mx.Sm c N (2^z))/\
 (∀st',Bn st' b xb xu xc A U C->Bo n0 st st' b xb xu xc->Mx.jJ A N top p []->K (.bl false) st')/\
 ∀st' xb' xu' xc' (c:Mx.B3) (r:Nat),Bn st' b xb' xu' xc' (Mx.setB c p top r).A (Mx.setB c p top r).U (Mx.setB c p top r).C->Bo n0 st st' b xb' xu' xc'->Mx.fu N top p ⟨A,U,C⟩ c->Mx.jJ c.A N top p [r]->K (.bl true) st'
def jx:List Str:=["self","top","place","live","great","small"]
def vn:DS:=(aP (cv 3 (dZ az "live_rows" g4 (ab 0) (ae (ab 1) (ae (ab 2) ak))))
 (aP (ur (ef (aE qZ (cy fm (ae (ab 3) ak)) (dC (.int 1)))) (aP (cv 4 (aE bN (ab 3) (oa jK (dC (.int 1)))))
 (aP (cv 5 (aE bN (ab 3) (oa jK (dC (.int 2)))))
 (aP (eK (dZ az "take" kE (ab 0) (ae (ab 4) (ae (aL jb (ae (aE bN (aE bN (bM az "body" (ab 0)) (ab 4)) (ab 2)) (ae (aE bN (aE bN (bM az "body" (ab 0)) (ab 5)) (ab 2)) ak))) (ae (ab 5) ak)))))
 (cv 3 (dZ az "live_rows" g4 (ab 0) (ae (ab 1) (ae (ab 2) ak))))))))
 (aP (ki (ef (aE mR (cy fm (ae (ab 3) ak)) (dC (.int 0)))) (dJ (dC (.bl false))) j5)
 (aP (eK (dZ az "exchange" kb (ab 0) (ae (ab 1) (ae (aE bN (ab 3) (dC (.int 0))) ak))))
 (aP (ki (ef (aE wg (aE bN (aE bN (bM az "body" (ab 0)) (ab 1)) (ab 2)) (dC (.int 0)))) (eK (dZ az "change_sign" i5 (ab 0) (ae (ab 1) ak))) j5)
 (dJ (dC (.bl true))))))))
theorem Bo.Iw{n0:Nat}{st st':af}{b xb xu xc:Nat}(h:Bo n0 st st' b xb xu xc):Bo n0 st (st'.set 0 (eF true)) b xb xu xc:=
 ⟨h.lo,fun m hm h0=>by rw[List.getElem?_set_ne (Ne.symm h0)];exact h.fr m hm h0,true,by
  obtain⟨f,e⟩:=h.tb;exact List.getElem?_set_self (List.getElem?_eq_some_iff.mp e).1⟩
theorem Bo.low{n0:Nat}{st st1 st2:af}{b xb xu xc:Nat}(h:Bo n0 st st1 b xb xu xc)(f:∀m,m≠xb->m≠xu->m≠xc->st2[m]?=st1[m]?):Bo n0 st st2 b xb xu xc:=by
 obtain⟨l1,l2,l3,l4,l5⟩:=h.lo;refine⟨h.lo,fun m hm h0=>?_,?_⟩
 . rw[f m (by omega) (by omega) (by omega)];exact h.fr m hm h0
 . obtain⟨z,e⟩:=h.tb;exact⟨z,by rw[f 0 (by omega) (by omega) (by omega)];exact e⟩
theorem y8{n j:Nat}(h:1<=j)(h2:j<=n):nU n (-(j:Int))=some (n-j):=by
 unfold nU;rw[if_neg (by omega),if_pos (by omega)];congr 1;omega
theorem Mb{L:List Nat}{j k:Nat}:eQ ((L++[j,k]).map fun(k:Nat)=>D.int (k:Int)) (-1)=some (.int (k:Int)):=by
 unfold eQ;have:=y8 (n:=((L++[j,k]).map fun(k:Nat)=>D.int (k:Int)).length) (j:=1) (by decide) (by simp);rw[show(-((1:Nat):Int))= -1 from rfl]at this;rw[this];simp
theorem L9{L:List Nat}{j k:Nat}:eQ ((L++[j,k]).map fun(k:Nat)=>D.int (k:Int)) (-2)=some (.int (j:Int)):=by
 unfold eQ;have:=y8 (n:=((L++[j,k]).map fun(k:Nat)=>D.int (k:Int)).length) (j:=2) (by decide) (by simp);rw[show(-((2:Nat):Int))= -2 from rfl]at this;rw[this];simp
theorem Ew:∀ {L:List Nat},1<L.length->∃M j k,L=M++[j,k]:=fun{L} h=>by
 refine⟨L.take (L.length-2),L[L.length-2]'(by omega),L[L.length-1]'(by omega),?_⟩;have e1:L=L.take (L.length-2)++L.drop (L.length-2):=(List.take_append_drop _ _).symm
 have e2:L.drop (L.length-2)=[L[L.length-2]'(by omega),L[L.length-1]'(by omega)]:=by
  rw[List.drop_eq_getElem_cons (by omega),List.drop_eq_getElem_cons (by omega),List.drop_eq_nil_of_le (by omega)];congr 2;congr 1;omega
 rw[<-e2];exact e1
theorem u0:∀ds st K,lJ ds st K->ds.length=3/\vn {nx:=fun _ st'=>K .aM st',rt:=K} (bj jx ds) st:=by
 rintro ds st K ⟨n0,b,xb,xu,xc,N,w,top,p,e,u,v,z,A0,A,U,C,ld,rfl,B,O,S,hN,hw,hp,hzz,hz,kf,kt⟩;refine⟨rfl,?_⟩;have hle:=S.le;obtain⟨f,h0⟩:=O.tb;refine dP B.eb rfl ?_;refine⟨b,xb,xu,xc,N,w,top,p,A,U,C,f,rfl,B,S.tn.isA,hle,hN,hp,hw,h0,fun L hL=>?_⟩;have B1:=B.tab h0 (eF true);have O1:=O.Iw;try dsimp only[ak]
 refine nt (fun σ st'=>∃(L:List Nat) (v4 v5:Option D) (c:Mx.B3) (gr:Nat),σ=[some (.ref b),some (.int top),some (.int p),some (.lst (L.map fun(k:Nat)=> .int (k:Int))),v4,v5]/\L.length<=1/\Bn st' b xb xu xc c.A c.U c.C/\Bo n0 st st' b xb xu xc/\Mx.fu N top p ⟨A,U,C⟩ c/\Mx.Gb A0 N w top p (2^(4*e)) (N*2^(4*e)) gr ⟨A,U,C⟩ c/\Mx.jJ c.A N top p L) (fun nx hnx=>?_) ?_
 . refine⟨fun m σ st'=>∃(L:List Nat) (v4 v5:Option D) (c:Mx.B3) (gr:Nat),σ=[some (.ref b),some (.int top),some (.int p),some (.lst (L.map fun(k:Nat)=> .int (k:Int))),v4,v5]/\Bn st' b xb xu xc c.A c.U c.C/\Bo n0 st st' b xb xu xc/\Mx.fu N top p ⟨A,U,C⟩ c/\Mx.Gb A0 N w top p (2^(4*e)) (N*2^(4*e)) gr ⟨A,U,C⟩ c/\Mx.jJ c.A N top p L/\m=Mx.mu c.A N p,⟨_,L,none,none,⟨A,U,C⟩,_,rfl,B1,O1,.refl _,Mx.Gb.start S,hL,rfl⟩,?_⟩;rintro m σ st1 ⟨L,v4,v5,c,gr,rfl,B,O,hR,hG,hL,rfl⟩;refine dG rfl ?_;rw[List.length_map];refine Jl (fun h=>mD ?_) fun h=>u6 (hnx _ _ ⟨L,v4,v5,c,gr,rfl,by omega,B,O,hR,hG,hL⟩);obtain⟨M,j,k,rfl⟩:=Ew (L:=L) (by omega);refine ji (aU rfl Mb (ji (aU rfl L9 ?_)));obtain⟨G2,hlt,hoth,k1,k2,j1,j2,hjk,hj0,_⟩:=hG.step hL;have T:=hG.tn;have lA:=T.isA.len;have hsm:=hz c hR;refine dP B.eb rfl (aY B.eb rfl (aU (aW B.e1) (dR (by omega)) (aU rfl (nH (by rw[Mx.cY T.isA k2];exact hp)) (aY B.eb rfl (aU (aW B.e1) (dR (by omega)) (aU rfl (nH (by rw[Mx.cY T.isA j2];exact hp)) ?_))))));refine⟨_,_,rfl,hj0,?_⟩;have hq:(Mx.qn (Mx.g c.A k p) (Mx.g c.A j p)).natAbs<=2^(z+1):=Nat.le_trans (Mx.Lx hj0) (Mx.zk (hsm k p k2).1 (hsm j p j2).1)
   have hm:∀ {x:Int},x.natAbs<=2^z->IntMulOk (Mx.qn (Mx.g c.A k p) (Mx.g c.A j p)) x/\IntMulOk (-(Mx.qn (Mx.g c.A k p) (Mx.g c.A j p))) x:=fun{x} h=>
    ⟨nk hq h (by omega),nk (by rw[Int.natAbs_neg];exact hq) h (by omega)⟩
   have mg:∀ {X:List (List Int)} {i:Nat} {x:Int},x∈X.getD i []->∃q,x=Mx.g X i q:=fun{X i x} hx=>by
    obtain⟨c,hc,rfl⟩:=List.mem_iff_getElem.mp hx;exact⟨c,by unfold Mx.g;rw[Mx.a7 hc]⟩
   refine⟨b,xb,xu,xc,N,w,k,j,c.A,c.U,c.C,_,rfl,B,T.isA,T.fK,T.gg,k2,j2,hN,hw,fun x hx=>(by obtain⟨q,rfl⟩:=mg hx;exact(hm (hsm j q j2).1).2),fun x hx=>(by obtain⟨q,rfl⟩:=mg hx;exact(hm (hsm j q j2).2.1).2),fun x hx=>(by obtain⟨q,rfl⟩:=mg hx;exact(hm (hsm k q k2).2.2).1),fun st2 B2 l2 f2=>?_⟩;have O2:=O.low f2;obtain⟨f',h0'⟩:=O2.tb;refine dP B2.eb rfl ?_;refine⟨b,xb,xu,xc,N,w,top,p,_,_,_,f',rfl,B2,G2.tn.isA,hle,hN,hp,hw,h0',fun L2 hL2=>?_⟩;refine⟨_,?_,L2,_,_,Mx.pL c p k j,_,rfl,B2.tab h0' (eF true),O2.Iw,hR.tail ⟨M,k,j,hL,rfl⟩,G2,hL2,rfl⟩;unfold Mx.mu;refine Mx.FP (k:=k) hlt k2 fun i hi=>?_;by_cases h:i=k
   . rw[h];exact Nat.le_of_lt hlt
   . rw[hoth i h];exact Nat.le_refl _
 . rintro σ st1 ⟨L,v4,v5,c,gr,rfl,hl,B,O,hR,hG,hL⟩;refine dG rfl ?_;rw[List.length_map];match L,hl,hL with
   | [],_,hL=>
     refine eq2 (fun h=>mD ?_) fun h=>absurd rfl h
     have e0:c=⟨A,U,C⟩:=by
      rcases hG.Mo with z|⟨j,h1,h2,h3⟩
      . exact z
      . exact absurd ((hL.mem j).mpr ⟨h1,h2,h3⟩) (by simp)
     subst e0;exact kf st1 B O hL
   | [r],_,hL=>
     refine eq2 (fun h=>absurd h (by simp)) fun h=>u6 ?_;obtain⟨s1,hr1,hr2⟩:=hG.set (hG.low hN) hL;have ht:top<N:=by omega
     have T:=hG.tn;refine dP B.eb rfl (aU rfl (show eQ ([r].map fun(k:Nat)=>D.int (k:Int)) 0=some (.int (r:Int))from rfl) ?_);refine⟨b,xb,xu,xc,N,w,top,r,c.A,c.U,c.C,rfl,B,T.isA,T.fK,T.gg,ht,hr2,fun st2 B2 l2 f2=>?_⟩;obtain⟨l1,l2',l3,l4,l5⟩:=O.lo
     have hst:n0<=st1.length:=by
      have:=(List.getElem?_eq_some_iff.mp B.eb).1;omega
     have O2:Bo n0 st st2 b st1.length (st1.length+1) (st1.length+2):=by
      refine⟨⟨l1,l2',by omega,by omega,by omega⟩,fun m hm h0=>?_,?_⟩
      . rw[f2 m (by omega) (by omega)];exact O.fr m hm h0
      . obtain⟨z,e⟩:=O.tb;exact⟨z,by rw[f2 0 (by omega) (by omega)];exact e⟩
     have T1:=T.Gd ht hr2;refine aY B2.eb rfl (aU (aW B2.e1) (dR (by have:=T1.isA.len;omega)) (aU rfl (nH (by rw[Mx.cY T1.isA ht];exact hp)) ?_));refine Oj (fun h=>mD ?_) fun h=>u6 ?_
     . have es:Mx.setB c p top r=⟨Mx.fO (Mx.bz c.A top r) top,Mx.fO (Mx.bz c.U top r) top,Mx.fO (Mx.bz c.C top r) top⟩:=if_pos h;refine dP B2.eb rfl ?_;refine⟨b,_,_,_,N,w,top,_,_,_,rfl,B2,T1.isA,T1.fK,T1.gg,ht,hN,hw,fun st3 B3 l3 f3=>?_⟩;exact kt st3 _ _ _ c r (by rw[es];exact B3) (O2.low f3) hR hL
     . have es:Mx.setB c p top r=⟨Mx.bz c.A top r,Mx.bz c.U top r,Mx.bz c.C top r⟩:=if_neg (fun z=>by unfold Mx.g at z;omega);exact kt st2 _ _ _ c r (by rw[es];exact B2) O2 hR hL
def iV:cV:=fun ds st K=>∃(b xb xu xc N w top p e u v z:Nat) (A0 A U C:List (List Int)),ds=[.ref b,.int top,.int p]/\Bn st b xb xu xc A U C/\Mx.Tn A0 A U C N w/\N<=16/\w<=16/\p<w/\top<N/\0<Mx.g A top p/\(∀q,q<p->Mx.g A top q=0)/\
 (∀q,(Mx.g A top q).natAbs<=2^e/\(Mx.g U top q).natAbs<=2^e/\(Mx.g C top q).natAbs<=2^e)/\(∀i q,i<top->(Mx.g A i q).natAbs<=2^u/\(Mx.g U i q).natAbs<=2^u/\(Mx.g C i q).natAbs<=2^v)/\z<=60000000/\(∀k,k<=top->Mx.Sm (Mx.i4 p top k ⟨A,U,C⟩) N (2^z))/\
 ∀st',Bn st' b xb xu xc (Mx.i4 p top top ⟨A,U,C⟩).A (Mx.i4 p top top ⟨A,U,C⟩).U (Mx.i4 p top top ⟨A,U,C⟩).C->(∀m,m≠xb->m≠xu->m≠xc->st'[m]?=st[m]?)->K .aM st'
def gc:List Str:=["self","top","place","k"]
def qt:DS:=(lF (fB (ae (ab 1) ak)) (cj 3) (eK (dZ az "take" kE (ab 0) (ae (ab 3) (ae (aE oV (aE bN (aE bN (bM az "body" (ab 0)) (ab 3)) (ab 2)) (aE bN (aE bN (bM az "body" (ab 0)) (ab 1)) (ab 2))) (ae (ab 1) ak))))))
theorem A4{X:List (List Int)}{i:Nat}{x:Int}(hx:x∈X.getD i []):∃q,x=Mx.g X i q:=by
 obtain⟨c,hc,rfl⟩:=List.mem_iff_getElem.mp hx;exact⟨c,by unfold Mx.g;rw[Mx.a7 hc]⟩
theorem pQ:∀ds st K,iV ds st K->ds.length=3/\qt {nx:=fun _ st'=>K .aM st',rt:=K} (bj gc ds) st:=by
 rintro ds st K ⟨b,xb,xu,xc,N,w,top,p,e,u,v,z,A0,A,U,C,rfl,B,T,hN,hw,hp,ht,htp,hz,hlo,hhi,hzz,hsm,kk⟩;refine⟨rfl,?_⟩;refine ie ⟨by omega,by omega⟩ ?_;rw[Int.toNat_natCast];refine kj top (fun k σ st'=>∃v3:Option D,σ=[some (.ref b),some (.int top),some (.int p),v3]/\Bn st' b xb xu xc (Mx.i4 p top k ⟨A,U,C⟩).A (Mx.i4 p top k ⟨A,U,C⟩).U (Mx.i4 p top k ⟨A,U,C⟩).C/\(∀m,m≠xb->m≠xu->m≠xc->st'[m]?=st[m]?)/\Mx.lL A0 N w top p e u v ⟨A,U,C⟩ k (Mx.i4 p top k ⟨A,U,C⟩)) ?_ ?_ ⟨none,rfl,B,fun _ _ _ _=>rfl,Mx.lL.start T fun q=>(hlo q).2.2⟩
 . rintro σ st' ⟨v3,rfl,B',f,I⟩;exact kk st' B' f
 . rintro k σ st' rest hk ⟨v3,rfl,B',f,I⟩ next
   refine⟨_,rfl,?_⟩;have hs:=I.step hk ht hp htp hz (fun q=>⟨(hlo q).1,(hlo q).2.1⟩) hhi;have hs2:=hsm k (Nat.le_of_lt hk);generalize hc:Mx.i4 p top k ⟨A,U,C⟩=c at*;have lA:=I.tn.isA.len;have kN:k<N:=by omega
   have gA:∀i q,k<=i->Mx.g c.A i q=Mx.g A i q:=fun i q hi=>by unfold Mx.g;rw[(I.rA i hi).1]
   have hq:((Mx.g c.A k p).fdiv (Mx.g c.A top p)).natAbs<=2^z:=Nat.le_trans (Mx.xH _ (by rw[gA top p (by omega)];exact htp)) (hs2 k p kN).1;have htp':Mx.g c.A top p≠0:=by rw[gA top p (by omega)];omega
   refine dP B'.eb rfl (aY B'.eb rfl (aU (aW B'.e1) (dR (by omega)) (aU rfl (nH (by rw[Mx.cY I.tn.isA kN];exact hp)) (aY B'.eb rfl (aU (aW B'.e1) (dR (by omega)) (aU rfl (nH (by rw[Mx.cY I.tn.isA ht];exact hp)) (yp htp' ?_)))))));refine⟨b,xb,xu,xc,N,w,k,top,c.A,c.U,c.C,_,rfl,B',I.tn.isA,I.tn.fK,I.tn.gg,kN,ht,hN,hw,fun x hx=>?_,fun x hx=>?_,fun x hx=>?_,fun st2 B2 l2 f2=>?_⟩
   . obtain⟨q,rfl⟩:=A4 hx;exact nk (by rw[Int.natAbs_neg];exact hq) (hs2 top q ht).1 (by omega)
   . obtain⟨q,rfl⟩:=A4 hx;exact nk (by rw[Int.natAbs_neg];exact hq) (hs2 top q ht).2.1 (by omega)
   . obtain⟨q,rfl⟩:=A4 hx;exact nk hq (hs2 k q kN).2.2 (by omega)
   . have el:Mx.i4 p top (k+1) ⟨A,U,C⟩=⟨Mx.aS c.A k ((Mx.g c.A k p).fdiv (Mx.g c.A top p)) top,Mx.aS c.U k ((Mx.g c.A k p).fdiv (Mx.g c.A top p)) top,Mx.aS c.C top (-((Mx.g c.A k p).fdiv (Mx.g c.A top p))) k⟩:=by rw[<-hc];rfl
     refine next _ _ ⟨_,rfl,?_,fun m h1 h2 h3=>(f2 m h1 h2 h3).trans (f m h1 h2 h3),?_⟩
     . rw[el];exact B2
     . rw[el];exact hs
structure Bk(st st':af):Prop where
 le:st.length<=st'.length
 fr:∀m,m<st.length->m≠0->st'[m]?=st[m]?
 tb:∃f,st'[0]?=some (eF f)
def nj:cV:=fun ds st K=>∃(d:D) (N w e0 z:Nat) (A:List (List Int)) (f:Bool),ds=[d]/\fC st d A/\Mx.aJ N w A/\1<=N/\N<=16/\w<=16/\Mx.gD A N 0 (2^e0)/\z<=60000000/\(∀p t c,p<w->Mx.eA A N p t c->Mx.Ao N p t z c)/\st[0]?=some (eF f)/\
 ∀st' (top:Nat) (c:Mx.B3),Mx.eA A N w top c->Bk st st'->K (.tup [av (c.A.take top),av c.U,av (Mx.aX c.C N)]) st'
def ni:List Str:=["rows","bench","top","place","back"]
def Au:DS:=(aP (cv 1 (xG az kc (ae (ab 0) ak)))
 (aP (cv 2 (dC (.int 0)))
 (aP (lF (fB (ae (cy fm (ae (aE bN (ab 0) (dC (.int 0))) ak)) ak)) (cj 3) (ki (ef (dZ az "gather" lJ (ab 1) (ae (ab 2) (ae (ab 3) ak)))) (aP (eK (dZ az "lower_above" iV (ab 1) (ae (ab 2) (ae (ab 3) ak))))
 (AB 2 (zc (fun i j=>i+j)) (dC (.int 1)))) j5))
 (aP (cv 4 (aL gj (ae (bM az "back_columns" (ab 1)) (ae (cy fm (ae (ab 0) ak)) ak))))
 (dJ (qd (ae (aL l7 (ae (x6 (bM az "body" (ab 1)) vJ (As (ab 2))) ak)) (ae (aL l7 (ae (bM az "turn" (ab 1)) ak)) (ae (ab 4) ak)))))))))
theorem v_{st st':af}{f:Bool}(h0:st[0]?=some (eF f))(fr:∀m,m<st.length->m≠0->st'[m]?=st[m]?){d:D}{xs:List D}(h:items? st d=some xs):items? st' d=some xs:=by
 cases d with
 |ref n=>
  have e:=CT h;have n0:n≠0:=sy e h0;rw[aW ((fr n (List.getElem?_eq_some_iff.mp e).1 n0).trans e)]
 |_=>exact h
theorem vY{st st':af}{f:Bool}(h0:st[0]?=some (eF f))(fr:∀m,m<st.length->m≠0->st'[m]?=st[m]?):∀ {ds:List D} {A:List (List Int)},cf st ds A->cf st' ds A
 | [],[],_=>trivial
 |_::_,_::_,h=>⟨v_ h0 fr h.1,vY h0 fr h.2⟩
theorem uY{st st':af}{f:Bool}(h0:st[0]?=some (eF f))(fr:∀m,m<st.length->m≠0->st'[m]?=st[m]?){d:D}{A:List (List Int)}(h:fC st d A):fC st' d A:=by
 obtain⟨ds,h1,h2⟩:=h.ex;exact⟨ds,v_ h0 fr h1,vY h0 fr h2⟩
theorem IZ{xs:List D}{j:Nat}:L3.cutD xs none (some (j:Int))=xs.take j:=by
 unfold L3.cutD;rw[HT.G7,HT.EE,List.drop_zero,Nat.sub_zero];by_cases h:j<=xs.length
 . rw[Nat.min_eq_left h]
 . rw[Nat.min_eq_right (by omega),List.take_length,List.take_of_length_le (by omega)]
theorem zm:∀ds st K,nj ds st K->ds.length=1/\Au {nx:=fun _ st'=>K .aM st',rt:=K} (bj ni ds) st:=by
 rintro ds st K ⟨d,N,w,e0,z,A,f,rfl,hd,hA,hN1,hN,hw,hlo,hzz,hsz,h0,kk⟩;refine⟨rfl,?_⟩;have lA:=hA.len;have h0l:0<st.length:=(List.getElem?_eq_some_iff.mp h0).1;have hd1:fC (st++[Cell.ins az []]) d A:=uY h0 (fun m hm _=>List.getElem?_append_left hm) hd;refine⟨st.length,N,d,A,rfl,by simp,hd1,lA,hN,fun st1 B1 l1 f1=>⟨rfl,?_⟩⟩;have hl1:(st++[Cell.ins az []]).length=st.length+1:=by simp
 have fr1:∀m,m<st.length->st1[m]?=st[m]?:=fun m hm=>by rw[f1 m (by omega) (by omega),List.getElem?_append_left hm]
 have O1:Bo st.length st st1 st.length (st.length+1) (st.length+1+1) (st.length+1+2):=⟨⟨h0l,by omega,by omega,by omega,by omega⟩,fun m hm _=>fr1 m hm,f,(fr1 0 h0l).trans h0⟩
 rw[hl1]at B1;have hdk:∀ {st':af},(∀m,m<st.length->m≠0->st'[m]?=st[m]?)->fC st' d A:=fun h=>uY h0 h hd;obtain⟨da,hda,hra⟩:=(hdk O1.fr).ex;have hdl:=hra.len
 have hrow0:∃d0,da[0]?=some d0/\items? st1 d0=some (aH (A.getD 0 [])):=by
  have hi:0<da.length:=by omega
  obtain⟨r,e1,e2⟩:=cf.get hra (List.getElem?_eq_getElem hi);refine⟨da[0],List.getElem?_eq_getElem hi,?_⟩;have:A.getD 0 []=r:=by rw[List.getD_eq_getElem?_getD,e1];rfl
  rw[this];exact e2
 obtain⟨d0,hd0,hi0⟩:=hrow0;have er:(aH (A.getD 0 [])).length=w:=by unfold aH;rw[List.length_map];exact Mx.cY hA (by omega)
 try dsimp only[ak]
 refine nt (A:=cv 2 _) (fun σ st'=>σ=[some d,some (.ref st.length),some (.int 0),none,none]/\st'=st1) (fun nx h=>h _ _ ⟨rfl,rfl⟩) ?_;rintro _ _ ⟨rfl,rfl⟩;refine nt (A:=lF _ _ _) (fun σ st'=>∃(top xb xu xc:Nat) (v3:Option D) (c:Mx.B3),σ=[some d,some (.ref st.length),some (.int top),v3,none]/\Bn st' st.length xb xu xc c.A c.U c.C/\Bo st.length st st' st.length xb xu xc/\Mx.eA A N w top c) (fun nx hnx=>?_) ?_
 . refine aU hda (show eQ da 0=some d0 from iO (j:=0) hd0) (dG hi0 ?_);rw[er];refine ie ⟨by omega,by omega⟩ ?_;rw[Int.toNat_natCast];refine kj w (fun p σ st'=>∃(top xb xu xc:Nat) (v3:Option D) (c:Mx.B3),σ=[some d,some (.ref st.length),some (.int top),v3,none]/\Bn st' st.length xb xu xc c.A c.U c.C/\Bo st.length st st' st.length xb xu xc/\Mx.eA A N p top c) ?_ ?_ ⟨0,_,_,_,none,⟨A,Mx.units N,Mx.units N⟩,rfl,B1,O1,.start⟩
   . rintro σ st' ⟨top,xb,xu,xc,v3,c,rfl,B,O,hC⟩;exact hnx _ _ ⟨top,xb,xu,xc,v3,c,rfl,B,O,hC⟩
   . rintro p σ st' rest hp ⟨top,xb,xu,xc,v3,c,rfl,B,O,hC⟩ next
     refine⟨_,rfl,?_⟩;obtain⟨ld,S⟩:=hC.str hA hlo hN (Nat.le_of_lt hp);have hle:=S.le;have hroom:=hsz p top c hp hC;refine dP B.eb rfl ?_;refine⟨st.length,st.length,xb,xu,xc,N,w,top,p,_,_,_,z,A,c.A,c.U,c.C,ld,rfl,B,⟨O.lo,fun _ _ _=>rfl,O.tb⟩,S,hN,hw,hp,hzz,hroom.ga,fun st2 B2 O2 hL=>?_,fun st2 xb2 xu2 xc2 c2 r B2 O2 hR hL=>?_⟩
     . exact u6 (next _ _ ⟨top,xb,xu,xc,_,c,rfl,B2,⟨O2.lo,fun m h1 h2=>(O2.fr m h1 h2).trans (O.fr m h1 h2),O2.tb⟩,.next hC (.none hL)⟩)
     . refine mD ?_;obtain⟨s1,ht,_⟩:=S.EL hN hp hR hL;have O2':Bo st.length st st2 st.length xb2 xu2 xc2:=⟨O2.lo,fun m h1 h2=>(O2.fr m h1 h2).trans (O.fr m h1 h2),O2.tb⟩
       refine dP B2.eb rfl ?_;refine⟨st.length,xb2,xu2,xc2,N,w,top,p,4*Mx.Ey e0 top+4,Mx.Uy e0 top,Mx.Cx e0 top,z,A,_,_,_,rfl,B2,s1.tn,hN,hw,hp,ht,s1.tp,fun q hq=>s1.zs top q (Nat.le_refl _) ht hq,fun q=>⟨s1.lo.1 top q (Nat.le_refl _) ht,s1.lo.2.1 top q (Nat.le_refl _) ht,s1.lo.2.2 top q (Nat.le_refl _) ht⟩,fun i q hi=>?_,hzz,fun k hk=>hroom.lo c2 r k hR hL hk,fun st3 B3 f3=>?_⟩
       . obtain⟨a1,a2,a3⟩:=s1.Fu hi q;rw[a1,a2,a3];exact S.hi i q hi
       . exact next _ _ ⟨top+1,xb2,xu2,xc2,_,_,rfl,B3,O2'.low f3,.next hC (.one hR hL)⟩
 . rintro σ st2 ⟨top,xb,xu,xc,v3,c,rfl,B,O,hC⟩;obtain⟨ld,S⟩:=hC.str hA hlo hN (Nat.le_refl _);have hle:=S.le;have T:=S.tn;have lN:=T.isA.len;refine aY B.eb rfl ?_;obtain⟨da2,hda2,hra2⟩:=(hdk O.fr).ex;refine dG hda2 ?_;rw[hra2.len,lA];refine⟨_,c.C,N,rfl,⟨_,aW B.e3,cf.lst⟩,T.gg.fN,by rw[T.gg.len];omega,by omega,?_⟩;refine aY B.eb rfl (CD B.e1 ?_);rw[IZ,<-List.map_take];refine⟨_,c.A.take top,rfl,⟨_,rfl,cf.lst⟩,by rw[List.length_take];omega,?_⟩;refine aY B.eb rfl ?_;refine⟨_,c.U,rfl,⟨_,aW B.e2,cf.lst⟩,by rw[T.fK.len];omega,?_⟩;refine⟨by show 3<=sizeLine;decide,?_⟩;refine kk st2 top c hC ⟨?_,O.fr,O.tb⟩;have:=(List.getElem?_eq_some_iff.mp B.eb).1;omega
structure Us(n:Nat)(st st':af):Prop where
 len:st'.length=st.length
 same:∀m,m≠n->st'[m]?=st[m]?
theorem Us.trans{n:Nat}{st st1 st2:af}(a:Us n st st1)(b:Us n st1 st2):Us n st st2:=⟨b.len.trans a.len,fun m h=>(b.same m h).trans (a.same m h)⟩
theorem fe{st:af}{n:Nat}{C:Addr}{fs gs:List (Str×D)}{f:Str}{d:D}{K:af->Prop}(e:st[n]?=some (.ins C fs))(h:fs.length<1000)(eg:putD f d fs=gs)(k:∀st',st'[n]?=some (.ins C gs)->Us n st st'->K st'):u9 C f (.ref n) d st K:=lq e h (by
 rw[eg];exact k _ (List.getElem?_set_self (List.getElem?_eq_some_iff.mp e).1) ⟨List.length_set,fun m hm=>List.getElem?_set_ne (Ne.symm hm)⟩)
structure Si(st:af)(n N w:Nat)(d:D)(L Lb R Rb:List (List Int)):Prop where
 e:st[n]?=some (Cell.ins aC [("many",.int N),("wide",.int w),("body",d),("left",av L),("left_back",av Lb),("right",av R),("right_back",av Rb)])
def ke:cV:=fun ds st K=>∃(n N w:Nat) (d:D) (A:List (List Int)),ds=[.ref n,d]/\st[n]?=some (.ins aC [])/\(∀s,fC s d A)/\Mx.aJ N w A/\1<=N/\N<=8/\w<=8/\∀st',Si st' n N w d (Mx.units N) (Mx.units N) (Mx.units w) (Mx.units w)->Us n st st'->K .aM st'
def iD:List Str:=["self","rows"]
def tJ:DS:=(aP (fh aC "many" (ab 0) (cy fm (ae (ab 1) ak)))
 (aP (fh aC "wide" (ab 0) (cy fm (ae (aE bN (ab 1) (dC (.int 0))) ak)))
 (aP (fh aC "body" (ab 0) (ab 1))
 (aP (fh aC "left" (ab 0) (aL fg (ae (bM aC "many" (ab 0)) ak)))
 (aP (fh aC "left_back" (ab 0) (aL fg (ae (bM aC "many" (ab 0)) ak)))
 (aP (fh aC "right" (ab 0) (aL fg (ae (bM aC "wide" (ab 0)) ak)))
 (fh aC "right_back" (ab 0) (aL fg (ae (bM aC "wide" (ab 0)) ak)))))))))
theorem sV:∀ds st K,ke ds st K->ds.length=2/\tJ {nx:=fun _ st'=>K .aM st',rt:=K} (bj iD ds) st:=by
 rintro ds st K ⟨n,N,w,d,A,rfl,e,hd,hA,n1,n8,w8,k⟩;refine⟨rfl,?_⟩;have lA:=hA.len;obtain⟨da,hda,ra⟩:=(hd st).ex;have lda:da.length=N:=by rw[ra.len];exact lA
 refine dG hda ?_;rw[lda];refine fe (gs:=[("many",.int N)]) e (Nat.le_of_ble_eq_true rfl) rfl fun st1 e1 U1=>?_;obtain⟨db,hdb,rb⟩:=(hd st1).ex;obtain⟨d0,h0,i0⟩:=rb.at (k:=0) (by omega);refine aU hdb h0 (dG i0 ?_);rw[List.length_map,hA.row (i:=0) (by omega)];refine fe (gs:=[("many",.int N),("wide",.int w)]) e1 (Nat.le_of_ble_eq_true rfl) rfl fun st2 e2 U2=>?_;refine fe (gs:=[("many",.int N),("wide",.int w),("body",d)]) e2 (Nat.le_of_ble_eq_true rfl) rfl fun st3 e3 U3=>?_;refine aY e3 rfl ⟨N,rfl,by omega,?_⟩;refine fe (gs:=[("many",.int N),("wide",.int w),("body",d),("left",av (Mx.units N))]) e3 (Nat.le_of_ble_eq_true rfl) rfl fun st4 e4 U4=>?_;refine aY e4 rfl ⟨N,rfl,by omega,?_⟩;refine fe (gs:=[("many",.int N),("wide",.int w),("body",d),("left",av (Mx.units N)),("left_back",av (Mx.units N))]) e4 (Nat.le_of_ble_eq_true rfl) rfl fun st5 e5 U5=>?_;refine aY e5 rfl ⟨w,rfl,by omega,?_⟩;refine fe (gs:=[("many",.int N),("wide",.int w),("body",d),("left",av (Mx.units N)),("left_back",av (Mx.units N)),("right",av (Mx.units w))]) e5 (Nat.le_of_ble_eq_true rfl) rfl fun st6 e6 U6=>?_;refine aY e6 rfl ⟨w,rfl,by omega,?_⟩;refine fe (gs:=[("many",.int N),("wide",.int w),("body",d),("left",av (Mx.units N)),("left_back",av (Mx.units N)),("right",av (Mx.units w)),("right_back",av (Mx.units w))]) e6 (Nat.le_of_ble_eq_true rfl) rfl fun st7 e7 U7=>?_;exact k st7 ⟨e7⟩ (U1.trans (U2.trans (U3.trans (U4.trans (U5.trans (U6.trans U7))))))
def Le(X:List (List Int))(N w b:Nat):Prop:=∀i j,i<N->j<w->(Mx.g X i j).natAbs<=2^b
theorem Le.mem{X:List (List Int)}{N w b:Nat}(h:Le X N w b)(hX:Mx.aJ N w X):∀r∈X,∀x∈r,x.natAbs<=2^b:=fun r hr x hx=>by
 obtain⟨i,hi,rfl⟩:=List.mem_iff_getElem.mp hr;obtain⟨j,hj,rfl⟩:=List.mem_iff_getElem.mp hx;have:=h i j (by rw[<-hX.len];exact hi) (by rw[<-hX.fN _ hr];exact hj);unfold Mx.g at this;rwa [Mx.a7 hi,Mx.a7 hj]at this
theorem oX{X Y:List (List Int)}{N w p q a b:Nat}(hX:Mx.aJ N w X)(hY:Mx.aJ p q Y)(bX:Le X N w a)(bY:Le Y p q b)(h:a+b<=130000000):∀r∈X,∀c∈r,∀s∈Y,∀y∈s,IntMulOk c y:=fun r hr c hc s hs y hy=>nk (bX.mem hX r hr c hc) (bY.mem hY s hs y hy) h
theorem ne_nil{X:List (List Int)}{N w:Nat}(hX:Mx.aJ N w X)(h:1<=N):X≠ []:=fun z=>by
 have:=hX.len;rw[z]at this;simp at this;omega
def jL:cV:=fun ds st K=>∃(n N w x y:Nat) (d:D) (A B L Lb R Rb T Tb:List (List Int)),ds=[.ref n,av T,av Tb]/\Si st n N w d L Lb R Rb/\(∀s,fC s d B)/\Mx.Sd A B L Lb R Rb N w x/\1<=N/\N<=8/\w<=8/\Mx.aJ N N T/\Mx.aJ N N Tb/\Le T N N y/\Le Tb N N y/\Le B N w 350/\x+y<=120000000/\∀st',Si st' n N w (av (Mx.mulM T B w)) (Mx.mulM T L N) (Mx.mulM Lb Tb N) R Rb->Us n st st'->K .aM st'
def g0:List Str:=["self","turn","back"]
def sS:DS:=(aP (fh aC "body" (ab 0) (aL il (ae (ab 1) (ae (bM aC "body" (ab 0)) ak))))
 (aP (fh aC "left" (ab 0) (aL il (ae (ab 1) (ae (bM aC "left" (ab 0)) ak))))
 (fh aC "left_back" (ab 0) (aL il (ae (bM aC "left_back" (ab 0)) (ae (ab 2) ak))))))
theorem rQ:∀ds st K,jL ds st K->ds.length=3/\sS {nx:=fun _ st'=>K .aM st',rt:=K} (bj g0 ds) st:=by
 rintro ds st K ⟨n,N,w,x,y,d,A,B,L,Lb,R,Rb,T,Tb,rfl,s,hd,S,n1,n8,w8,iT,iTb,sT,sTb,sB,hxy,k⟩;refine⟨rfl,?_⟩;refine aY s.e rfl ⟨av T,d,w,T,B,rfl,cO,hd st,ne_nil S.iB n1,S.iB.fN,by omega,by rw[iT.len];omega,oX iT S.iB sT sB (by omega),?_⟩;refine fe (gs:=[("many",.int N),("wide",.int w),("body",av (Mx.mulM T B w)),("left",av L),("left_back",av Lb),("right",av R),("right_back",av Rb)]) s.e (Nat.le_of_ble_eq_true rfl) rfl fun st1 e1 U1=>?_;refine aY e1 rfl ⟨av T,_,N,T,L,rfl,cO,cO,ne_nil S.iL n1,S.iL.fN,by omega,by rw[iT.len];omega,oX iT S.iL sT S.sL (by omega),?_⟩;refine fe (gs:=[("many",.int N),("wide",.int w),("body",av (Mx.mulM T B w)),("left",av (Mx.mulM T L N)),("left_back",av Lb),("right",av R),("right_back",av Rb)]) e1 (Nat.le_of_ble_eq_true rfl) rfl fun st2 e2 U2=>?_;refine aY e2 rfl ⟨_,_,N,Lb,Tb,rfl,cO,cO,ne_nil iTb n1,iTb.fN,by omega,by rw[S.rh.len];omega,oX S.rh iTb S.F6 sTb (by omega),?_⟩;refine fe (gs:=[("many",.int N),("wide",.int w),("body",av (Mx.mulM T B w)),("left",av (Mx.mulM T L N)),("left_back",av (Mx.mulM Lb Tb N)),("right",av R),("right_back",av Rb)]) e2 (Nat.le_of_ble_eq_true rfl) rfl fun st3 e3 U3=>?_;exact k st3 ⟨e3⟩ (U1.trans (U2.trans U3))
def gQ:cV:=fun ds st K=>∃(n N w x y:Nat) (d:D) (A B L Lb R Rb T Tb:List (List Int)),ds=[.ref n,av T,av Tb]/\Si st n N w d L Lb R Rb/\(∀s,fC s d B)/\Mx.Sd A B L Lb R Rb N w x/\1<=w/\N<=8/\w<=8/\Mx.aJ w w T/\Mx.aJ w w Tb/\Le T w w y/\Le Tb w w y/\Le B N w 350/\x+y<=120000000/\∀st',Si st' n N w (av (Mx.mulM B T w)) L Lb (Mx.mulM R T w) (Mx.mulM Tb Rb w)->Us n st st'->K .aM st'
def gF:List Str:=["self","turn","back"]
def rR:DS:=(aP (fh aC "body" (ab 0) (aL il (ae (bM aC "body" (ab 0)) (ae (ab 1) ak))))
 (aP (fh aC "right" (ab 0) (aL il (ae (bM aC "right" (ab 0)) (ae (ab 1) ak))))
 (fh aC "right_back" (ab 0) (aL il (ae (ab 2) (ae (bM aC "right_back" (ab 0)) ak))))))
theorem qv:∀ds st K,gQ ds st K->ds.length=3/\rR {nx:=fun _ st'=>K .aM st',rt:=K} (bj gF ds) st:=by
 rintro ds st K ⟨n,N,w,x,y,d,A,B,L,Lb,R,Rb,T,Tb,rfl,s,hd,S,w1,n8,w8,iT,iTb,sT,sTb,sB,hxy,k⟩;refine⟨rfl,?_⟩;refine aY s.e rfl ⟨d,av T,w,B,T,rfl,hd st,cO,ne_nil iT w1,iT.fN,by omega,by rw[S.iB.len];omega,oX S.iB iT sB sT (by omega),?_⟩;refine fe (gs:=[("many",.int N),("wide",.int w),("body",av (Mx.mulM B T w)),("left",av L),("left_back",av Lb),("right",av R),("right_back",av Rb)]) s.e (Nat.le_of_ble_eq_true rfl) rfl fun st1 e1 U1=>?_;refine aY e1 rfl ⟨_,_,w,R,T,rfl,cO,cO,ne_nil iT w1,iT.fN,by omega,by rw[S.iR.len];omega,oX S.iR iT S.sR sT (by omega),?_⟩;refine fe (gs:=[("many",.int N),("wide",.int w),("body",av (Mx.mulM B T w)),("left",av L),("left_back",av Lb),("right",av (Mx.mulM R T w)),("right_back",av Rb)]) e1 (Nat.le_of_ble_eq_true rfl) rfl fun st2 e2 U2=>?_;refine aY e2 rfl ⟨_,_,w,Tb,Rb,rfl,cO,cO,ne_nil S.oq w1,S.oq.fN,by omega,by rw[iTb.len];omega,oX iTb S.oq sTb S.FQ (by omega),?_⟩;refine fe (gs:=[("many",.int N),("wide",.int w),("body",av (Mx.mulM B T w)),("left",av L),("left_back",av Lb),("right",av (Mx.mulM R T w)),("right_back",av (Mx.mulM Tb Rb w))]) e2 (Nat.le_of_ble_eq_true rfl) rfl fun st3 e3 U3=>?_;exact k st3 ⟨e3⟩ (U1.trans (U2.trans U3))
structure Sk(n:Nat)(st st':af):Prop where
 le:st.length<=st'.length
 fr:∀m,m<st.length->m≠0->m≠n->st'[m]?=st[m]?
 tb:∃f,st'[0]?=some (eF f)
theorem Sk.trans{n:Nat}{st st1 st2:af}(a:Sk n st st1)(b:Sk n st1 st2):Sk n st st2:=⟨Nat.le_trans a.le b.le,fun m h h0 hn=>(b.fr m (Nat.lt_of_lt_of_le h a.le) h0 hn).trans (a.fr m h h0 hn),b.tb⟩
theorem Sk.of{n:Nat}{st st1 st2:af}(nz:n≠0)(a:Bk st st1)(b:Us n st1 st2):Sk n st st2:=by
 obtain⟨f,e⟩:=a.tb;exact⟨by have:=a.le;have:=b.len;omega,fun m h h0 hn=>(b.same m hn).trans (a.fr m h h0),f,(b.same 0 (Ne.symm nz)).trans e⟩
theorem Si.keep{st st1:af}{n N w:Nat}{d:D}{L Lb R Rb:List (List Int)}(s:Si st n N w d L Lb R Rb)(nz:n≠0)(a:Bk st st1):Si st1 n N w d L Lb R Rb:=⟨(a.fr n (List.getElem?_eq_some_iff.mp s.e).1 nz).trans s.e⟩
theorem CF{A:List (List Int)}{N w b:Nat}(hA:Mx.aJ N w A)(h:Le A N w b):Mx.gD A N 0 (2^b):=Mx.pw hA h
def gE:cV:=fun ds st K=>∃(n N w x y:Nat) (d:D) (A B L Lb R Rb:List (List Int)) (f:Bool),ds=[.ref n]/\Si st n N w d L Lb R Rb/\(∀s,fC s d B)/\Mx.Sd A B L Lb R Rb N w x/\1<=N/\N<=8/\w<=8/\Le B N w 350/\(∀t c,Mx.eA B N w t c->Mx.x5 B N w y c)/\x+y<=120000000/\n≠0/\st[0]?=some (eF f)/\∀st' t c,Mx.eA B N w t c->Si st' n N w (av c.A) (Mx.mulM c.U L N) (Mx.mulM Lb (Mx.aX c.C N) N) R Rb->Mx.Sd A c.A (Mx.mulM c.U L N) (Mx.mulM Lb (Mx.aX c.C N) N) R Rb N w (x+y+3)->Sk n st st'->K .aM st'
def gB:List Str:=["self","told"]
def rE:DS:=(aP (cv 1 (aL nj (ae (bM aC "body" (ab 0)) ak)))
 (eK (dZ aC "turn_left" jL (ab 0) (ae (aE bN (ab 1) (dC (.int 1))) (ae (aE bN (ab 1) (dC (.int 2))) ak)))))
theorem qw:∀ds st K,gE ds st K->ds.length=1/\rE {nx:=fun _ st'=>K .aM st',rt:=K} (bj gB ds) st:=by
 rintro ds st K ⟨n,N,w,x,y,d,A,B,L,Lb,R,Rb,f,rfl,s,hd,S,n1,n8,w8,sB,hy,hxy,nz,h0,k⟩;refine⟨rfl,?_⟩;have hlo:=CF S.iB sB;refine aY s.e rfl ⟨d,N,w,350,60000000,B,f,rfl,hd st,S.iB,n1,by omega,by omega,hlo,by decide,fun p t c hp hC=>hC.C0 S.iB hlo n8 hp,h0,fun st1 top c hC Bk1=>?_⟩;have s1:=s.keep nz Bk1;obtain⟨ld,H⟩:=hC.str S.iB hlo (by omega) (Nat.le_refl _);obtain⟨m1,m2,m3,_,_⟩:=H.tn.Jc S.iB;have iU:=H.tn.fK;have iC:=H.tn.gg;have iCt:=Mx.b_ iC;have sz:=(hy top c hC).sz;have sU:Le c.U N N y:=fun i j hi hj=>(sz i j hi hj).1;have sC:Le (Mx.aX c.C N) N N y:=fun i j hi hj=>by rw[Mx.bL iC hj hi];exact(sz j i hj hi).2
 refine dP s1.e rfl (aU rfl rfl (aU rfl rfl ⟨n,N,w,x,y,d,A,B,L,Lb,R,Rb,c.U,Mx.aX c.C N,rfl,s1,hd,S,n1,n8,w8,iU,iCt,sU,sC,sB,hxy,fun st2 s2 U2=>?_⟩));have S2:=S.left n8 iU iCt m2 m3 sU sC;rw[m1]at s2 S2;exact k st2 top c hC s2 S2 (Sk.of nz Bk1 U2)
def fy:cV:=fun ds st K=>∃(n N w x y:Nat) (A B L Lb R Rb:List (List Int)) (f:Bool),ds=[.ref n]/\Si st n N w (av B) L Lb R Rb/\Mx.Sd A B L Lb R Rb N w x/\1<=w/\N<=8/\w<=8/\Le B N w 350/\(∀t c,Mx.eA (Mx.aX B w) w N t c->Mx.x5 (Mx.aX B w) w N y c)/\x+y<=120000000/\n≠0/\st[0]?=some (eF f)/\∀st' t c,Mx.eA (Mx.aX B w) w N t c->Si st' n N w (av (Mx.aX c.A N)) L Lb (Mx.mulM R (Mx.aX c.U w) w) (Mx.mulM c.C Rb w)->Mx.Sd A (Mx.aX c.A N) L Lb (Mx.mulM R (Mx.aX c.U w) w) (Mx.mulM c.C Rb w) N w (x+y+3)->Sk n st st'->K .aM st'
def fA:List Str:=["self","told"]
def o6:DS:=(aP (cv 1 (aL nj (ae (aL gj (ae (bM aC "body" (ab 0)) (ae (bM aC "wide" (ab 0)) ak))) ak)))
 (eK (dZ aC "turn_right" gQ (ab 0) (ae (aL gj (ae (aE bN (ab 1) (dC (.int 1))) (ae (bM aC "wide" (ab 0)) ak))) (ae (aL gj (ae (aE bN (ab 1) (dC (.int 2))) (ae (bM aC "wide" (ab 0)) ak))) ak)))))
theorem oF:∀ds st K,fy ds st K->ds.length=1/\o6 {nx:=fun _ st'=>K .aM st',rt:=K} (bj fA ds) st:=by
 rintro ds st K ⟨n,N,w,x,y,A,B,L,Lb,R,Rb,f,rfl,s,S,w1,n8,w8,sB,hy,hxy,nz,h0,k⟩;refine⟨rfl,?_⟩;have iX:=Mx.b_ S.iB;have hlo:=CF iX (b:=350) fun i j hi hj=>by rw[Mx.bL S.iB hj hi];exact sB j i hj hi
 refine aY s.e rfl (aY s.e rfl ⟨_,B,w,rfl,cO,S.iB.fN,by rw[S.iB.len];omega,by omega,?_⟩);refine⟨_,w,N,350,60000000,Mx.aX B w,f,rfl,cO,iX,w1,by omega,by omega,hlo,by decide,fun p t c hp hC=>hC.C0 iX hlo w8 hp,h0,fun st1 top c hC Bk1=>?_⟩;have s1:=s.keep nz Bk1;obtain⟨ld,H⟩:=hC.str iX hlo (by omega) (Nat.le_refl _);obtain⟨m1,_,_,m4,m5⟩:=H.tn.Jc iX;have iU:=H.tn.fK;have iC:=H.tn.gg;have iUt:=Mx.b_ iU;have sz:=(hy top c hC).sz;have sU:Le (Mx.aX c.U w) w w y:=fun i j hi hj=>by rw[Mx.bL iU hj hi];exact(sz j i hj hi).1
 have sC:Le c.C w w y:=fun i j hi hj=>(sz i j hi hj).2;refine dP s1.e rfl (aU rfl rfl (aY s1.e rfl ⟨_,c.U,w,rfl,cO,iU.fN,by rw[iU.len];omega,by omega,?_⟩));refine aU rfl rfl (aY s1.e rfl ⟨_,Mx.aX c.C w,w,rfl,cO,(Mx.b_ iC).fN,by rw[(Mx.b_ iC).len];omega,by omega,?_⟩);rw[Mx.vw iC];refine⟨n,N,w,x,y,av B,A,B,L,Lb,R,Rb,Mx.aX c.U w,c.C,rfl,s1,fun _=>cO,S,w1,n8,w8,iUt,iC,sU,sC,sB,hxy,fun st2 s2 U2=>?_⟩;have S2:=S.right w8 iUt iC m4 m5 sU sC
 have eB:Mx.mulM B (Mx.aX c.U w) w=Mx.aX c.A N:=by
  rw[<-m1,Mx.vH iU iX,Mx.vw S.iB]
 rw[eB]at s2 S2;exact k st2 top c hC s2 S2 (Sk.of nz Bk1 U2)
def mG:cV:=fun ds st K=>∃(B:List (List Int)) (N w:Nat),ds=[av B]/\Mx.aJ N w B/\N<=8/\w<=8/\∀b:Bool,(b=true↔Mx.Dg B N w)->K (.bl b) st
def j6:List Str:=["rows","k","row"]
def wZ:DS:=(aP (lF (xg (ae (ab 0) ak)) (kH 1 2) (ki (uP (ef (cy yT (ae (dz (xg (ae (ab 2) ak)) [none,none,some 1] (kH 0 1) cB (Bm (aE mR (ab 1) (dC (.int 0))) (aE mR (ab 0) (ab 2)))) ak)))) (dJ (dC (.bl false))) j5))
 (dJ (dC (.bl true))))
theorem BA{A:List (List Int)}{i:Nat}{d:D}{rest:List D}(hr:d::rest=fz i ((A.map bG).drop i)):i<A.length/\d= .tup [.int (i:Int),bG (A.getD i [])]/\rest=fz (i+1) ((A.map bG).drop (i+1)):=by
 rcases Nat.lt_or_ge i A.length with h|h
 . rw[List.drop_eq_getElem_cons (by rw[List.length_map];exact h),List.getElem_map]at hr;unfold fz at hr;obtain⟨h1,h2⟩:=List.cons.inj hr;exact⟨h,by rw[Mx.a7 h];exact h1,h2⟩
 . rw[List.drop_eq_nil_of_le (by rw[List.length_map];exact h)]at hr;cases hr
theorem BU{r:List Int}{i:Nat}{d:D}{rest:List D}(hr:d::rest=fz i ((aH r).drop i)):i<r.length/\d= .tup [.int (i:Int),.int (r.getD i 0)]/\rest=fz (i+1) ((aH r).drop (i+1)):=by
 rcases Nat.lt_or_ge i r.length with h|h
 . rw[List.drop_eq_getElem_cons (by rw[List.length_map];exact h),List.getElem_map]at hr;unfold fz at hr;obtain⟨h1,h2⟩:=List.cons.inj hr;exact⟨h,by rw[Mx.a7 h];exact h1,h2⟩
 . rw[List.drop_eq_nil_of_le (by rw[List.length_map];exact h)]at hr;cases hr
theorem yc{xs:List D}{i:Nat}(hr: []=fz i (xs.drop i)):xs.length<=i:=by
 rcases Nat.lt_or_ge i xs.length with h|h
 . rw[List.drop_eq_getElem_cons h]at hr;unfold fz at hr;cases hr
 . exact h
theorem yw{f:Nat->Bool}:∀l:List Nat,mq (l.map fun j=>D.bl (f j))=some (l.map f)
 | []=>rfl
 |a::l=>by rw[List.map_cons,List.map_cons];unfold mq;rw[yw l];rfl
theorem vQ:∀ds st K,mG ds st K->ds.length=1/\wZ {nx:=fun _ st'=>K .aM st',rt:=K} (bj j6 ds) st:=by
 rintro ds st K ⟨B,N,w,rfl,iB,n8,w8,k⟩;refine⟨rfl,?_⟩;have lB:=iB.len;refine z_ (xs:=B.map bG) rfl fun ok aI=>?_;refine nA (fun rest σ st'=>st=st'/\∃(i:Nat) (v1 v2:Option D),i<=N/\rest=fz i ((B.map bG).drop i)/\σ=[some (av B),v1,v2]/\∀a c,a<i->c<w->a≠c->Mx.g B a c=0) ?_ ?_ _ _ _ ⟨rfl,0,none,none,Nat.zero_le _,rfl,rfl,fun a c ha=>absurd ha (Nat.not_lt_zero _)⟩
 . rintro σ st' ⟨rfl,i,v1,v2,hi,hrest,rfl,h⟩;have:=yc hrest;rw[List.length_map]at this;exact⟨aI _ rfl,k true ⟨fun _ a c ha=>h a c (by omega),fun _=>rfl⟩⟩
 . rintro x rest σ st' ⟨rfl,i,v1,v2,hi,hrest,rfl,h⟩ next
   obtain⟨hiB,rfl,rfl⟩:=BA hrest;have lr:=iB.row (i:=i) (by omega);refine⟨aI _ rfl,_,rfl,z_ (xs:=aH (B.getD i [])) rfl fun ok2 hok2=>⟨bJ (by rw[qO,List.length_map];omega),?_⟩⟩;refine gT (fun rest acc st'=>st=st'/\∃j:Nat,j<=w/\rest=fz j ((aH (B.getD i [])).drop j)/\acc=(List.range j).map fun c=>D.bl (decide (Mx.g B i c=0\/c=i))) ?_ ?_ _ _ _ ⟨rfl,0,Nat.zero_le _,rfl,rfl⟩
   . rintro acc st' ⟨rfl,j,hj,hrest,rfl⟩;have:=yc hrest;rw[List.length_map]at this;have ej:j=w:=by omega
     subst ej;refine⟨hok2 _ rfl,Jy (yw _) ?_⟩;cases hb:((List.range j).map fun c=>decide (Mx.g B i c=0\/c=i)).all id with
     |true=>
      refine next _ _ ⟨rfl,i+1,_,_,by omega,rfl,rfl,fun a c ha hc hne=>?_⟩
      by_cases e:a=i
      . subst e;have:=List.all_eq_true.mp hb (decide (Mx.g B a c=0\/c=a)) (List.mem_map.mpr ⟨c,List.mem_range.mpr hc,rfl⟩);rcases of_decide_eq_true this with z|z
        . exact z
        . exact absurd z.symm hne
      . exact h a c (by omega) hc hne
     |false=>
      refine k false ⟨fun z=>(by cases z),fun dg=>?_⟩;exfalso
      have:((List.range j).map fun c=>decide (Mx.g B i c=0\/c=i)).all id=true:=List.all_eq_true.mpr fun b hb'=>by
       obtain⟨c,hc,rfl⟩:=List.mem_map.mp hb';by_cases e:c=i
       . exact decide_eq_true (.inr e)
       . exact decide_eq_true (.inl (dg i c (by omega) (List.mem_range.mp hc) (Ne.symm e)))
      rw[hb]at this;cases this
   . rintro x rest acc st' ⟨rfl,j,hj,hrest,rfl⟩ next2;obtain⟨hjr,rfl,rfl⟩:=BU hrest;refine⟨hok2 _ rfl,_,rfl,?_⟩;have fin:∀b,b=decide (Mx.g B i j=0\/j=i)->(List.range j).map (fun c=>D.bl (decide (Mx.g B i c=0\/c=i)))++[D.bl b]=(List.range (j+1)).map fun c=>D.bl (decide (Mx.g B i c=0\/c=i)):=fun b e=>by rw[List.range_succ,List.map_append,e];rfl
     refine eq2 (fun z=>?_) fun z=>eq2 (fun z2=>?_) fun z2=>?_
     . show dc _ _ _ _ _ _ _ _ _;rw[fin true (decide_eq_true (.inl z)).symm];exact next2 _ _ ⟨rfl,j+1,by omega,rfl,rfl⟩
     . show dc _ _ _ _ _ _ _ _ _;rw[fin true (decide_eq_true (.inr (by omega))).symm];exact next2 _ _ ⟨rfl,j+1,by omega,rfl,rfl⟩
     . show dc _ _ _ _ _ _ _ _ _;rw[fin false (decide_eq_false (fun y=>y.elim z fun y=>z2 (by omega))).symm];exact next2 _ _ ⟨rfl,j+1,by omega,rfl,rfl⟩
def jD:cV:=fun ds st K=>∃(n N w x y:Nat) (d:D) (A B L Lb R Rb:List (List Int)) (Q:Nat->List (List Int)->Prop) (f:Bool),ds=[.ref n]/\Si st n N w d L Lb R Rb/\(∀s,fC s d B)/\Mx.Sd A B L Lb R Rb N w x/\1<=N/\1<=w/\N<=8/\w<=8/\Mx.DM B N w y Q/\x+2*y<=100000000/\n≠0/\st[0]?=some (eF f)/\∀st' r M B' L' Lb' R' Rb' x',r<=8->Q r M->Mx.Lo M N w r->Mx.Lo B' N w r->Mx.Dg B' N w->(Mx.Pr r fun q=>Mx.g B' q q)<=((2^343:Nat):Int)->(Mx.Dg M N w->B'=M)->x'<=x+2*y+2300000->(Mx.Dg M N w->x'<=x+2*y+6)->Si st' n N w (av B') L' Lb' R' Rb'->Mx.Sd A B' L' Lb' R' Rb' N w x'->Sk n st st'->K .aM st'
def jC:List Str:=["self"]
def vR:DS:=(aP (eK (dZ aC "stand_rows" gE (ab 0) ak))
 (aP (eK (dZ aC "stand_columns" fy (ab 0) ak))
 (ur (uP (ef (aL mG (ae (bM aC "body" (ab 0)) ak)))) (aP (eK (dZ aC "stand_rows" gE (ab 0) ak))
 (eK (dZ aC "stand_columns" fy (ab 0) ak))))))
theorem um:∀ds st K,jD ds st K->ds.length=1/\vR {nx:=fun _ st'=>K .aM st',rt:=K} (bj jC ds) st:=by
 rintro ds st K ⟨n,N,w,x,y,d,A,B,L,Lb,R,Rb,Q,f,rfl,s,hd,S,n1,w1,n8,w8,T,hxy,nz,h0,k⟩;refine⟨rfl,?_⟩;refine dP s.e rfl ⟨n,N,w,x,y,d,A,B,L,Lb,R,Rb,f,rfl,s,hd,S,n1,n8,w8,T.low,T.s1,by omega,nz,h0,fun st1 t1 c1 C1 s1 S1 K1=>?_⟩;obtain⟨f1,h1⟩:=K1.tb;refine dP s1.e rfl ⟨n,N,w,x+y+3,y,A,c1.A,_,_,R,Rb,f1,rfl,s1,S1,w1,n8,w8,T.a1 t1 c1 C1,T.s2 t1 c1 C1,by omega,nz,h1,fun st2 t2 c2 C2 s2 S2 K2=>?_⟩;obtain⟨r,r8,LM,hM,q⟩:=T.lo t1 c1 C1 t2 c2 C2;have K12:=K1.trans K2;generalize Mx.aX c2.A N=M at s2 S2 LM hM q;refine⟨fun m σ st'=>∃(B' L' Lb' R' Rb':List (List Int)) (t x':Nat),σ=[some (.ref n)]/\Mx.Lo B' N w r/\(Mx.Pr r fun q=>Mx.g B' q q)<=((2^343:Nat):Int)/\t<=r/\Mx.Cl B' r t/\m=Mx.lf B' r t 343/\x'+720*m<=x+2*y+2300000/\((B'=M/\x'<=x+2*y+6)\/¬Mx.Dg M N w)/\Si st' n N w (av B') L' Lb' R' Rb'/\Mx.Sd A B' L' Lb' R' Rb' N w x'/\Sk n st st',⟨_,M,_,_,_,_,0,_,rfl,LM,hM,Nat.zero_le _,fun i j hj=>absurd hj (Nat.not_lt_zero _),rfl,?_,.inl ⟨rfl,by omega⟩,s2,S2,K12⟩,?_⟩
 . have:=Mx.Lg (t:=0) LM r8 hM;omega
 . rintro m σ st3 ⟨B',L',Lb',R',Rb',t,x',rfl,LB,hB,ht,cl,rfl,hx,hq,s3,S3,K3⟩;refine aY s3.e rfl ⟨B',N,w,rfl,S3.iB,n8,w8,fun b hb=>?_⟩;cases b with
   |true=>exact k st3 r M B' L' Lb' R' Rb' x' r8 q LM LB (hb.mp rfl) hB (fun dM=>hq.elim (fun z=>z.1) fun z=>absurd dM z) (by omega) (fun dM=>hq.elim (fun z=>z.2) fun z=>absurd dM z) s3 S3 K3
   |false=>
    have nd:¬Mx.Dg B' N w:=fun z=>by have:=hb.mpr z;cases this
    have htr:t<r:=Nat.lt_of_le_of_ne ht fun z=>nd (LB.dg (by rw[<-z];rw[z]at cl⊢;exact cl));have T2:=LB.again n8 w8 hB;obtain⟨f3,h3⟩:=K3.tb;refine mD (dP s3.e rfl ⟨n,N,w,x',351,_,A,B',L',Lb',R',Rb',f3,rfl,s3,fun _=>cO,S3,n1,n8,w8,T2.low,T2.s1,by omega,nz,h3,fun st4 t4 c4 C4 s4 S4 K4=>?_⟩);obtain⟨f4,h4⟩:=K4.tb;refine dP s4.e rfl ⟨n,N,w,x'+351+3,351,A,c4.A,_,_,R',Rb',f4,rfl,s4,S4,w1,n8,w8,T2.a1 t4 c4 C4,T2.s2 t4 c4 C4,by omega,nz,h4,fun st5 t5 c5 C5 s5 S5 K5=>?_⟩;obtain⟨r',_,LM2,hM2,er,hl⟩:=T2.lo t4 c4 C4 t5 c5 C5;subst er;obtain⟨t',ht',cl',hlt⟩:=hl t htr cl;refine⟨_,hlt,_,_,_,_,_,t',_,rfl,LM2,hM2,ht',cl',rfl,?_,.inr ?_,s5,S5,K3.trans (K4.trans K5)⟩
    . omega
    . rcases hq with⟨rfl,_⟩|z
      . exact nd
      . exact z
def ja:cV:=fun ds st K=>∃(n k p:Nat) (x:Int),ds=[.int n,.int k,.int p,.int x]/\n<=8/\k<n/\p<n/\∀st',Ext st st'->K (av (Mx.ub n k p x)) st'
def i7:List Str:=["n","k","place","number","rows"]
def ux:DS:=(aP (cv 4 (kD (fx (aL fg (ae (ab 0) ak))) [none] (cj 0) cB (cy oP (ae (ab 0) ak))))
 (aP (fw (aE bN (ab 4) (ab 1)) (ab 2) (ab 3))
 (dJ (aL l7 (ae (ab 4) ak)))))
theorem GA{n k p:Nat}{x:Int}(hk:k<n)(hp:p<n):(Mx.units n).set k (((Mx.units n).getD k []).set p x)=Mx.ub n k p x:=by
 have iU:=Mx.bP n;have lU:=iU.len;have lr:=iU.row hk
 have is:Mx.aJ n n ((Mx.units n).set k (((Mx.units n).getD k []).set p x)):=⟨by rw[List.length_set];exact lU,fun r hr=>by
  rcases List.mem_or_eq_of_mem_set hr with h|h
  . exact iU.fN r h
  . rw[h,List.length_set];exact lr⟩
 refine is.ext Mx.kY fun i j hi hj=>?_;unfold Mx.ub;rw[Mx.A6 hi hj];unfold Mx.g
 have gs:((Mx.units n).set k (((Mx.units n).getD k []).set p x)).getD i []=if i=k then((Mx.units n).getD k []).set p x else(Mx.units n).getD i []:=by
  rw[Mx.a7 (by rw[List.length_set];omega)];by_cases h:i=k
  . subst h;rw[List.getElem_set_self,if_pos rfl]
  . rw[List.getElem_set_ne (Ne.symm h),if_neg h,Mx.a7 (show i<(Mx.units n).length by omega)]
 rw[gs];by_cases h:i=k
 . subst h;rw[if_pos rfl];by_cases h2:j=p
   . subst h2;rw[Mx.a7 (by rw[List.length_set];omega),List.getElem_set_self,if_pos ⟨rfl,rfl⟩]
   . rw[Mx.a7 (by rw[List.length_set];omega),List.getElem_set_ne (Ne.symm h2),<-Mx.a7 (d:=0),if_neg fun z=>h2 z.2];exact Mx.cT hi hj
 . rw[if_neg h,if_neg fun z=>h z.1];exact Mx.cT hi hj
abbrev uI(r:List Int):Cell:= .lst (aH r)
def jz(b n:Nat):List D:=(List.range n).map fun i=> .ref (b+i)
theorem DR{b n:Nat}:jz b n++[.ref (b+n)]=jz b (n+1):=by unfold jz;rw[List.range_succ,List.map_append];rfl
theorem wH{st:af}:∀ {A:List (List Int)} {b:Nat},(∀i r,A[i]?=some r->st[b+i]?=some (uI r))->cf st (jz b A.length) A
 | [],_,_=>trivial
 |r::A,b,h=>by
  have e:jz b (r::A).length= .ref b::jz (b+1) A.length:=by
   unfold jz;rw[List.length_cons,List.range_succ_eq_map,List.map_cons,List.map_map,Nat.add_zero];congr 1;exact List.map_congr_left fun i _=>by show D.ref (b+(i+1))=D.ref (b+1+i);congr 1;omega
  rw[e]
  exact⟨aW (h 0 r rfl),wH fun i q hq=>by
   have:=h (i+1) q hq;rwa [show b+(i+1)=b+1+i by omega]at this⟩
theorem tO:∀ds st K,ja ds st K->ds.length=4/\ux {nx:=fun _ st'=>K .aM st',rt:=K} (bj i7 ds) st:=by
 rintro ds st K ⟨n,k,p,x,rfl,n8,hk,hp,kk⟩;refine⟨rfl,⟨n,rfl,by omega,?_⟩⟩;have iU:=Mx.bP n;have lU:=iU.len;refine kq ⟨bJ (by rw[List.length_map,lU];omega),?_⟩;refine gT (fun rest acc st'=>∃A1 A2:List (List Int),A1++A2=Mx.units n/\rest=A2.map bG/\acc=jz st.length A1.length/\st'=st++A1.map uI) ?_ ?_ _ _ _ ⟨[],Mx.units n,rfl,rfl,rfl,by simp⟩;rotate_left
 . rintro d rest acc st' ⟨A1,A2,he,hr,rfl,rfl⟩ next
   match A2,hr with
   |r::A2,hr=>
    rw[List.map_cons,List.cons.injEq]at hr;obtain⟨rfl,rfl⟩:=hr;refine⟨trivial,_,rfl,yV rfl ?_⟩;show dc _ _ _ _ _ _ _ _ _;rw[List.length_append,List.length_map,DR];refine next _ _ ⟨A1++[r],A2,by rw[<-he];simp,rfl,by simp,by simp⟩
 rintro acc st' ⟨A1,A2,he,hr,rfl,rfl⟩;match A2,hr with
 | [],_=>
   rw[List.append_nil]at he;subst he;refine⟨trivial,?_⟩;generalize hs:st++(Mx.units n).map uI++[Cell.lst (jz st.length (Mx.units n).length)]=st1;have l1:(st++(Mx.units n).map uI).length=st.length+n:=by simp[lU]
   have er:st1[st.length+n]?=some (.lst (jz st.length n)):=by
    rw[<-hs,<-l1,List.getElem?_append_right (Nat.le_refl _),Nat.sub_self,lU];rfl
   have ec:∀i r,(Mx.units n)[i]?=some r->st1[st.length+i]?=some (uI r):=fun i r hi=>by
    have hil:=(List.getElem?_eq_some_iff.mp hi).1;rw[<-hs,List.getElem?_append_left (by rw[l1];omega),List.getElem?_append_right (by omega),Nat.add_sub_cancel_left,List.getElem?_map,hi];rfl
   have X1:Ext st st1:=by rw[<-hs,List.append_assoc];exact Ext.push
   rw[l1];clear hs;have hk':k<(Mx.units n).length:=by omega
   have ek:=ec k _ (List.getElem?_eq_getElem hk');rw[<-Mx.a7 (d:=[]) hk']at ek;have lr:=iU.row hk;have at1:eQ (jz st.length n) (k:Int)=some (.ref (st.length+k)):=iO (by unfold jz;rw[List.getElem?_map,List.getElem?_range hk];rfl);refine aU (aW er) at1 ?_;show t9 (.ref (st.length+k)) (.int p) (.int x) st1 _;refine fU ek (oY (by omega) (by rw[List.length_map,Int.toNat_natCast];omega)) ?_;rw[Int.toNat_natCast,show(aH ((Mx.units n).getD k [])).set p (.int x)=aH (((Mx.units n).getD k []).set p x)from List.map_set.symm];refine⟨_,Mx.ub n k p x,rfl,⟨jz st.length n,aW ((List.getElem?_set_ne (by omega)).trans er),?_⟩,by rw[Mx.kY.len];omega,kk _ (X1.set (by omega))⟩;rw[<-GA hk hp];have:=wH (st:=st1.set (st.length+k) (.lst (aH (((Mx.units n).getD k []).set p x)))) (A:=(Mx.units n).set k (((Mx.units n).getD k []).set p x)) (b:=st.length) fun i r hi=>?_
   . rwa [List.length_set,lU]at this
   . by_cases h:k=i
     . subst h;rw[List.getElem?_set_self hk']at hi;cases hi;rw[List.getElem?_set_self (List.getElem?_eq_some_iff.mp ek).1]
     . rw[List.getElem?_set_ne h]at hi;rw[List.getElem?_set_ne (by omega)];exact ec i r hi
def mL:cV:=fun ds st K=>∃(n N w x r k o:Nat) (A B L Lb R Rb:List (List Int)) (f:Bool),ds=[.ref n,.int k,.int o]/\Si st n N w (av B) L Lb R Rb/\Mx.Sd A B L Lb R Rb N w x/\1<=N/\N<=8/\w<=8/\r<=8/\Mx.Lo B N w r/\Mx.Dg B N w/\(Mx.Pr r fun q=>Mx.g B q q)<=((2^343:Nat):Int)/\k<o/\o<r/\x<=90000000/\n≠0/\st[0]?=some (eF f)/\∀st' B' L' Lb' R' Rb',Mx.Lo B' N w r->Mx.Dg B' N w->(Mx.Pr r fun q=>Mx.g B' q q)<=((2^343:Nat):Int)->(∀q,q<r->Mx.g B' q q=if q=k then((Int.gcd (Mx.g B k k) (Mx.g B o o):Nat):Int)else if q=o then((Int.lcm (Mx.g B k k) (Mx.g B o o):Nat):Int)else Mx.g B q q)->Si st' n N w (av B') L' Lb' R' Rb'->Mx.Sd A B' L' Lb' R' Rb' N w (x+720)->Sk n st st'->K .aM st'
def jU:List Str:=["self","k","other"]
def wO:DS:=(aP (eK (dZ aC "turn_right" gQ (ab 0) (ae (aL ja (ae (bM aC "wide" (ab 0)) (ae (ab 2) (ae (ab 1) (ae (dC (.int 1)) ak))))) (ae (aL ja (ae (bM aC "wide" (ab 0)) (ae (ab 2) (ae (ab 1) (ae (oa jK (dC (.int 1))) ak))))) ak))))
 (eK (dZ aC "settle" jD (ab 0) ak)))
theorem Sk.ext{n:Nat}{st st1 st2:af}(nz:n≠0)(h0:∃f,st[0]?=some (eF f))(hn:n<st.length)(a:Ext st st1)(b:Us n st1 st2):Sk n st st2:=by
 obtain⟨f,e⟩:=h0;have l0:=(List.getElem?_eq_some_iff.mp e).1;exact⟨by have:=a.len;have:=b.len;omega,fun m h h0 hn=>(b.same m hn).trans (a.same m h),f,(b.same 0 (Ne.symm nz)).trans ((a.same 0 l0).trans e)⟩
theorem vT:∀ds st K,mL ds st K->ds.length=3/\wO {nx:=fun _ st'=>K .aM st',rt:=K} (bj jU ds) st:=by
 rintro ds st K ⟨n,N,w,x,r,k,o,A,B,L,Lb,R,Rb,f,rfl,s,S,n1,n8,w8,r8,LB,dg,hM,hko,ho,hx,nz,h0,kk⟩;refine⟨rfl,?_⟩;have rW:=LB.rW;have rN:=LB.rN;have hn:=(List.getElem?_eq_some_iff.mp s.e).1;refine dP s.e rfl (aY s.e rfl ⟨w,o,k,1,rfl,w8,by omega,by omega,fun st1 X1=>?_⟩);have s1:Si st1 n N w (av B) L Lb R Rb:=⟨(X1.same n hn).trans s.e⟩
 refine aY s1.e rfl (ji ⟨w,o,k,-1,rfl,w8,by omega,by omega,fun st2 X2=>?_⟩);have s2:Si st2 n N w (av B) L Lb R Rb:=⟨((X1.trans X2).same n hn).trans s.e⟩
 have sB:Le B N w 350:=fun i j hi hj=>Mx.mY (LB.abs hM i j hi hj) (by decide);have a1:Le (Mx.ub w o k 1) w w 0:=fun i j hi hj=>Mx.Cf (by decide) hi hj;have a2:Le (Mx.ub w o k (-1)) w w 0:=fun i j hi hj=>Mx.Cf (by decide) hi hj;refine⟨n,N,w,x,0,_,A,B,L,Lb,R,Rb,Mx.ub w o k 1,Mx.ub w o k (-1),rfl,s2,fun _=>cO,S,by omega,n8,w8,Mx.kY,Mx.kY,a1,a2,sB,by omega,fun st3 s3 U3=>?_⟩;have b1:=Mx.Af (n:=w) (k:=o) (p:=k) (x:=1) (by omega) (by omega) (by omega);have b2:=Mx.Af (n:=w) (k:=o) (p:=k) (x:= -1) (by omega) (by omega) (by omega);have S3:=S.right w8 Mx.kY Mx.kY b1 b2 a1 a2;have K3:=Sk.ext nz ⟨f,h0⟩ hn (X1.trans X2) U3;obtain⟨f3,h3⟩:=K3.tb;refine dP s3.e rfl ⟨n,N,w,x+0+3,351,_,A,_,L,Lb,_,_,_,f3,rfl,s3,fun _=>cO,S3,n1,by omega,n8,w8,Mx.Eg LB n8 w8 hM dg hko ho,by omega,nz,h3,fun st4 r' M B' L' Lb' R' Rb' x4 _ q _ LB' dg' hM' hd _ hx4 s4 S4 K4=>?_⟩;obtain⟨er,dM,qM⟩:=q;subst er;have e:=hd dM;have hx5:=hx4 dM;subst e;exact kk st4 _ L' Lb' R' Rb' LB' dg' hM' qM s4 (S4.mono (by omega)) (K3.trans K4)
def dg(B:List (List Int))(r:Nat):List Int:=(List.range r).map fun q=>Mx.g B q q
def kK:cV:=fun ds st K=>∃(B:List (List Int)) (N w r:Nat),ds=[av B]/\Mx.Lo B N w r/\1<=N/\N<=8/\w<=8/\K (bG (dg B r)) st
def kP:List Str:=["body","least"]
def yK:DS:=(aP (cv 1 (cy yY (ae (cy fm (ae (ab 0) ak)) (ae (cy fm (ae (aE bN (ab 0) (dC (.int 0))) ak)) ak))))
 (dJ (cy c7 (ae (dz (fB (ae (ab 1) ak)) [none,some 0] (cj 0) (ef (aE tD (aE bN (aE bN (ab 1) (ab 0)) (ab 0)) (dC (.int 0)))) (aE bN (aE bN (ab 1) (ab 0)) (ab 0))) ak))))
theorem kB{A:List (List Int)}{j:Nat}(h:j<A.length):eQ (A.map bG) (j:Int)=some (bG (A.getD j [])):=by
 refine iO ?_;rw[List.getElem?_map,List.getElem?_eq_getElem h,Mx.a7 h];rfl
theorem wU:∀ds st K,kK ds st K->ds.length=1/\yK {nx:=fun _ st'=>K .aM st',rt:=K} (bj kP ds) st:=by
 rintro ds st K ⟨B,N,w,r,rfl,L,n1,n8,w8,k⟩;refine⟨rfl,?_⟩;have lB:=L.is.len;have rN:=L.rN;have rW:=L.rW;refine dG rfl (aU rfl (kB (j:=0) (by omega)) (dG rfl (Km ?_)));rw[List.length_map,List.length_map,lB,L.is.row (i:=0) (by omega)]
 obtain⟨m,em,hm1,hm2,hm3⟩:∃m:Nat,(if(w:Int)<(N:Int)then(w:Int)else(N:Int))=(m:Int)/\r<=m/\m<=N/\m<=w:=by
  by_cases h:(w:Int)<(N:Int)
  . exact⟨w,if_pos h,rW,by omega,by omega⟩
  . exact⟨N,if_neg h,rN,by omega,by omega⟩
 rw[em];refine ie ⟨by omega,by omega⟩ ⟨bJ (by rw[gK];omega),?_⟩;rw[Int.toNat_natCast];have at2:∀j,j<m->eQ (aH (B.getD j [])) (j:Int)=some (.int (Mx.g B j j)):=fun j hj=>pf (by rw[L.is.row (by omega)];omega);refine gT (fun rest acc st'=>st=st'/\∃j:Nat,j<=m/\rest=(List.range (m-j)).map (fun i=>D.int (((j+i:Nat):Int)))/\acc=aH (dg B (min j r))) ?_ ?_ _ _ _ ⟨rfl,0,Nat.zero_le _,by unfold d_;simp,by rw[Nat.zero_min];rfl⟩
 . rintro acc st' ⟨rfl,j,hj,hr,rfl⟩
   have:m-j=0:=by
    cases q:m-j with
    |zero=>rfl
    |succ i=>rw[q,List.range_succ_eq_map]at hr;cases hr
   refine⟨trivial,cM rfl ?_⟩;rw[show min j r=r by omega];exact k
 . rintro d rest acc st' ⟨rfl,j,hj,hr,rfl⟩ next
   have hjm:j<m:=by
    rcases Nat.lt_or_ge j m with h|h
    . exact h
    . rw[show m-j=0 by omega]at hr;cases hr
   rw[show m-j=(m-(j+1))+1 by omega,List.range_succ_eq_map,List.map_cons,List.map_map,List.cons.injEq]at hr;obtain⟨rfl,rfl⟩:=hr
   have erest:(List.map ((fun i=>D.int (((j+i:Nat):Int)))∘Nat.succ) (List.range (m-(j+1))))=(List.range (m-(j+1))).map (fun i=>D.int (((j+1+i:Nat):Int))):=List.map_congr_left fun i _=>by
    show D.int (((j+(i+1):Nat):Int))=D.int (((j+1+i:Nat):Int));congr 2;omega
   rw[Nat.add_zero];refine⟨trivial,_,rfl,aU rfl (kB (by omega)) (aU rfl (at2 j hjm) (ne2 (fun h=>?_) fun h=>?_))⟩
   . have hjr:j<r:=Nat.lt_of_not_le fun z=>h (L.out j j (by omega) (by omega) (.inl z));refine mD (aU rfl (kB (by omega)) (aU rfl (at2 j hjm) ?_));show dc _ _ _ _ _ _ _ _ _;rw[ints_app];refine next _ _ ⟨rfl,j+1,hjm,erest,?_⟩
     rw[show min (j+1) r=j+1 by omega,show min j r=j by omega];unfold dg;rw[List.range_succ,List.map_append];rfl
   . have hjr:r<=j:=Nat.le_of_not_lt fun z=>by have:=L.pos j z;omega
     refine next _ _ ⟨rfl,j+1,hjm,erest,?_⟩
     rw[show min (j+1) r=r by omega,show min j r=r by omega]
structure Dv(A B L Lb R Rb:List (List Int))(N w r:Nat):Prop where
 lo:Mx.Lo B N w r
 dg:Mx.Dg B N w
 pr:(Mx.Pr r fun q=>Mx.g B q q)<=((2^343:Nat):Int)
 ch:∀i j,i<j->j<r->Mx.g B i i∣Mx.g B j j
 sd:Mx.Sd A B L Lb R Rb N w 23000000
def jB:cV:=fun ds st K=>∃(d:D) (A:List (List Int)) (N w:Nat) (f:Bool),ds=[d]/\(∀s,fC s d A)/\Mx.aJ N w A/\1<=N/\1<=w/\N<=8/\w<=8/\Mx.Ge A N w/\st[0]?=some (eF f)/\∀st' B L Lb R Rb r,Dv A B L Lb R Rb N w r->Bk st st'->K (.tup [bG (dg B r),av L,av Lb,av R,av Rb]) st'
def mT:List Str:=["rows","sides","many","k","other"]
def Bd:DS:=(aP (cv 1 (xG aC ke (ae (ab 0) ak)))
 (aP (eK (dZ aC "settle" jD (ab 1) ak))
 (aP (cv 2 (cy fm (ae (aL kK (ae (bM aC "body" (ab 1)) ak)) ak)))
 (aP (lF (fB (ae (ab 2) ak)) (cj 3) (lF (pv (ae (aE fL (ab 3) (dC (.int 1))) (ae (ab 2) ak))) (cj 4) (ki (ef (aE tD (aE mF (aE bN (aE bN (bM aC "body" (ab 1)) (ab 4)) (ab 4)) (aE bN (aE bN (bM aC "body" (ab 1)) (ab 3)) (ab 3))) (dC (.int 0)))) (eK (dZ aC "merge" mL (ab 1) (ae (ab 3) (ae (ab 4) ak)))) j5)))
 (dJ (qd (ae (aL kK (ae (bM aC "body" (ab 1)) ak)) (ae (bM aC "left" (ab 1)) (ae (bM aC "left_back" (ab 1)) (ae (bM aC "right" (ab 1)) (ae (bM aC "right_back" (ab 1)) ak)))))))))))
theorem DG{m:Int}(h0:0<m)(h:m<2^62):m.natAbs.log2<9000:=by
 have:m.natAbs.log2<62:=(Nat.log2_lt (by omega)).mpr (by omega);omega
theorem CI{B:List (List Int)}{r:Nat}:(dg B r).length=r:=by unfold dg;simp
theorem zA:∀ds st K,jB ds st K->ds.length=1/\Bd {nx:=fun _ st'=>K .aM st',rt:=K} (bj mT ds) st:=by
 rintro ds st K ⟨d,A,N,w,f,rfl,hd,hA,n1,w1,n8,w8,hb,h0,k⟩;refine⟨rfl,?_⟩;have l0:=(List.getElem?_eq_some_iff.mp h0).1;refine⟨st.length,N,w,d,A,rfl,by simp,hd,hA,n1,n8,w8,fun st1 s1 U1=>⟨rfl,?_⟩⟩;have nz:st.length≠0:=by omega
 have h1:st1[0]?=some (eF f):=by rw[U1.same 0 (by omega),List.getElem?_append_left l0];exact h0
 refine dP s1.e rfl ⟨st.length,N,w,0,10300000,d,A,A,_,_,_,_,fun _ _=>True,f,rfl,s1,hd,Mx.Sd.start hA,n1,w1,n8,w8,Mx.EN hA n8 w8 hb,by omega,nz,h1,fun st2 r M B L Lb R Rb x2 r8 _ _ LB dB pB _ hx2 _ s2 S2 K2=>?_⟩;refine aY s2.e rfl ⟨B,N,w,r,rfl,LB,n1,n8,w8,dG rfl ?_⟩;rw[List.length_map,CI];have K02:Sk st.length st st2:=⟨by have:=K2.le;have:=U1.len;simp at this;omega,fun m hm hm0 hmn=>(K2.fr m (by have:=U1.len;simp at this;omega) hm0 hmn).trans ((U1.same m hmn).trans (List.getElem?_append_left hm)),K2.tb⟩
 clear K2 U1 h1 s1;try dsimp only[ak]
 refine nt (A:=lF _ _ _) (fun σ st'=>∃(B L Lb R Rb:List (List Int)) (v3 v4:Option D),σ=[some d,some (.ref st.length),some (.int r),v3,v4]/\Dv A B L Lb R Rb N w r/\Si st' st.length N w (av B) L Lb R Rb/\Sk st.length st st') (fun nx hnx=>?_) ?_
 . refine ie ⟨by omega,by omega⟩ ?_;rw[Int.toNat_natCast];refine kj r (fun q σ st'=>∃(B L Lb R Rb:List (List Int)) (v3 v4:Option D),σ=[some d,some (.ref st.length),some (.int r),v3,v4]/\Mx.Lo B N w r/\Mx.Dg B N w/\(Mx.Pr r fun q=>Mx.g B q q)<=((2^343:Nat):Int)/\(∀i j,i<q->i<j->j<r->Mx.g B i i∣Mx.g B j j)/\Mx.Sd A B L Lb R Rb N w (22900000+5100*q)/\Si st' st.length N w (av B) L Lb R Rb/\Sk st.length st st') ?_ ?_ ⟨B,L,Lb,R,Rb,none,none,rfl,LB,dB,pB,fun i j hi=>absurd hi (Nat.not_lt_zero _),S2.mono (by omega),s2,K02⟩
   . rintro σ st' ⟨B,L,Lb,R,Rb,v3,v4,rfl,LB,dB,pB,ch,S,s,K'⟩;exact hnx _ _ ⟨B,L,Lb,R,Rb,v3,v4,rfl,⟨LB,dB,pB,fun i j hij hj=>ch i j (by omega) hij hj,S.mono (by omega)⟩,s,K'⟩
   . clear LB dB pB S2 s2 K02;rintro q σ st3 rest hq ⟨B,L,Lb,R,Rb,v3,v4,rfl,LB,dB,pB,ch,S,s3,K3⟩ next
     refine⟨_,rfl,gO (zY ⟨by omega,by omega,by omega,by omega⟩ ?_)⟩;have er:((r:Int)-((q:Int)+1)).toNat=r-(q+1):=by omega
     rw[er];refine nA (fun rest2 σ st'=>∃(o:Nat) (B L Lb R Rb:List (List Int)) (v4:Option D),q<o/\o<=r/\rest2=(List.range (r-o)).map (fun i=>D.int (((o+i:Nat):Int)))/\σ=[some d,some (.ref st.length),some (.int r),some (.int (q:Int)),v4]/\Mx.Lo B N w r/\Mx.Dg B N w/\(Mx.Pr r fun q=>Mx.g B q q)<=((2^343:Nat):Int)/\(∀i j,i<q->i<j->j<r->Mx.g B i i∣Mx.g B j j)/\(∀j,q<j->j<o->Mx.g B q q∣Mx.g B j j)/\Mx.Sd A B L Lb R Rb N w (22900000+5100*q+720*(o-(q+1)))/\Si st' st.length N w (av B) L Lb R Rb/\Sk st.length st st') ?_ ?_ _ _ _ ⟨q+1,B,L,Lb,R,Rb,v4,by omega,hq,?_,rfl,LB,dB,pB,ch,fun j h1 h2=>absurd h1 (by omega),by rw[Nat.sub_self];exact S,s3,K3⟩
     . clear LB dB pB ch S s3 K3 B L Lb R Rb;rintro σ st4 ⟨o,B,L,Lb,R,Rb,v4,h1,h2,hr,rfl,LB,dB,pB,ch,ch2,S,s4,K4⟩
       have eo:r-o=0:=by
        cases z:r-o with
        |zero=>rfl
        |succ i=>rw[z,List.range_succ_eq_map]at hr;cases hr
       refine⟨trivial,next _ _ ⟨B,L,Lb,R,Rb,_,_,rfl,LB,dB,pB,fun i j hi hij hj=>?_,S.mono (by omega),s4,K4⟩⟩;by_cases z:i=q
       . subst z;exact ch2 j hij (by omega)
       . exact ch i j (by omega) hij hj
     . clear LB dB pB ch S s3 K3 B L Lb R Rb;rintro x rest2 σ st4 ⟨o,B,L,Lb,R,Rb,v4,h1,h2,hr,rfl,LB,dB,pB,ch,ch2,S,s4,K4⟩ next2
       have ho:o<r:=by
        rcases Nat.lt_or_ge o r with h|h
        . exact h
        . rw[show r-o=0 by omega]at hr;cases hr
       rw[show r-o=(r-(o+1))+1 by omega,List.range_succ_eq_map,List.map_cons,List.map_map,List.cons.injEq]at hr;obtain⟨rfl,rfl⟩:=hr
       have erest:(List.map ((fun i=>D.int (((o+i:Nat):Int)))∘Nat.succ) (List.range (r-(o+1))))=(List.range (r-(o+1))).map (fun i=>D.int (((o+1+i:Nat):Int))):=List.map_congr_left fun i _=>by
        show D.int (((o+(i+1):Nat):Int))=D.int (((o+1+i:Nat):Int));congr 2;omega
       rw[Nat.add_zero];have rN:=LB.rN;have rW:=LB.rW;have lB:=LB.is.len;have at2:∀j,j<r->eQ (aH (B.getD j [])) (j:Int)=some (.int (Mx.g B j j)):=fun j hj=>pf (by rw[LB.is.row (by omega)];omega);have hpq:=LB.pos q hq;refine⟨trivial,_,rfl,?_⟩;refine aY s4.e rfl (aU rfl (kB (by omega)) (aU rfl (at2 o ho) (aY s4.e rfl (aU rfl (kB (by omega)) (aU rfl (at2 q hq) (mh (by omega) (ne2 (fun hne=>mD ?_) fun he=>?_)))))))
       . obtain⟨f4,h4⟩:=K4.tb;refine dP s4.e rfl ⟨st.length,N,w,_,r,q,o,A,B,L,Lb,R,Rb,f4,rfl,s4,S,n1,n8,w8,r8,LB,dB,pB,h1,ho,by omega,nz,h4,fun st5 B' L' Lb' R' Rb' LB' dB' pB' gv s5 S5 K5=>?_⟩;have gl:=Int.gcd_dvd_left (Mx.g B q q) (Mx.g B o o);have gr:=Int.gcd_dvd_right (Mx.g B q q) (Mx.g B o o);have lr:=Int.dvd_lcm_right (Mx.g B q q) (Mx.g B o o);refine next2 _ _ ⟨o+1,B',L',Lb',R',Rb',_,by omega,ho,erest,rfl,LB',dB',pB',fun i j hi hij hj=>?_,fun j hqj hjo=>?_,S5.mono (by omega),s5,K4.trans K5⟩
         . rw[gv i (by omega),gv j hj,if_neg (by omega),if_neg (by omega)];by_cases e1:j=q
           . rw[if_pos e1];exact Int.dvd_coe_gcd (ch i q hi (by omega) hq) (ch i o hi (by omega) ho)
           . rw[if_neg e1];by_cases e2:j=o
             . rw[if_pos e2];exact Int.dvd_trans (ch i o hi (by omega) ho) lr
             . rw[if_neg e2];exact ch i j hi hij hj
         . rw[gv q hq,gv j (by omega),if_pos rfl,if_neg (by omega)];by_cases e2:j=o
           . rw[if_pos e2];exact Int.dvd_trans gr lr
           . rw[if_neg e2];exact Int.dvd_trans gl (ch2 j hqj (by omega))
       . refine next2 _ _ ⟨o+1,B,L,Lb,R,Rb,_,by omega,ho,erest,rfl,LB,dB,pB,ch,fun j hqj hjo=>?_,S.mono (by omega),s4,K4⟩;by_cases e2:j=o
         . rw[e2];exact Int.dvd_of_fmod_eq_zero he
         . exact ch2 j hqj (by omega)
     . unfold d_;exact List.map_congr_left fun i _=>by congr 1
 . rintro σ st3 ⟨B,L,Lb,R,Rb,v3,v4,rfl,dv,s3,K3⟩;refine aY s3.e rfl ⟨B,N,w,r,rfl,dv.lo,n1,n8,w8,?_⟩;refine aY s3.e rfl (aY s3.e rfl (aY s3.e rfl (aY s3.e rfl ⟨Nat.le_of_ble_eq_true rfl,?_⟩)));exact k st3 B L Lb R Rb r dv ⟨K3.le,fun m hm h0=>K3.fr m hm h0 (by omega),K3.tb⟩
structure Bx(st:af)(n:Nat)(b:Int):Prop where
 ex:∃x y z,st[n]?=some (.lst [.int x,.int y,.int z])/\0<=x/\0<=z/\z<=b
structure Upd(st:af)(n:Nat)(st':af):Prop where
 len:st'.length=st.length
 same:∀m,m≠n->st'[m]?=st[m]?
theorem Upd.refl{st:af}{n:Nat}:Upd st n st:=⟨rfl,fun _ _=>rfl⟩
theorem Upd.trans{st st1 st2:af}{n:Nat}(a:Upd st n st1)(b:Upd st1 n st2):Upd st n st2:=⟨b.len.trans a.len,fun m h=>(b.same m h).trans (a.same m h)⟩
theorem Upd.set{st:af}{n:Nat}{c:Cell}:Upd st n (st.set n c):=⟨List.length_set,fun m h=>List.getElem?_set_ne (Ne.symm h)⟩
structure XU(st:af)(n:Nat)(st':af):Prop where
 len:st.length<=st'.length
 same:∀m,m<st.length->m≠n->st'[m]?=st[m]?
theorem XU.trans{st st1 st2:af}{n:Nat}(a:XU st n st1)(b:XU st1 n st2):XU st n st2:=⟨Nat.le_trans a.len b.len,fun m h g=>(b.same m (Nat.lt_of_lt_of_le h a.len) g).trans (a.same m h g)⟩
theorem XU.upd{st st1:af}{n:Nat}(a:Upd st n st1):XU st n st1:=⟨by rw[a.len];exact Nat.le_refl _,fun m _ g=>a.same m g⟩
theorem XU.ext{st st1:af}{n:Nat}(a:Ext st st1):XU st n st1:=⟨a.len,fun m h _=>a.same m h⟩
theorem XU.set{st st1:af}{n k:Nat}{c:Cell}(a:XU st n st1)(h:st.length<=k):XU st n (st1.set k c):=⟨by rw[List.length_set];exact a.len,fun m hm g=>by rw[List.getElem?_set_ne (Nat.ne_of_gt (Nat.lt_of_lt_of_le hm h))];exact a.same m hm g⟩
theorem Bx.lt{st:af}{n:Nat}{b:Int}(B:Bx st n b):n<st.length:=by
 obtain⟨_,_,_,e,_⟩:=B.ex;exact(List.getElem?_eq_some_iff.mp e).1
theorem Bx.cell{st st':af}{n:Nat}{b:Int}(B:Bx st n b)(e:st'[n]?=st[n]?):Bx st' n b:=by
 obtain⟨x,y,z,e1,r⟩:=B.ex;exact⟨x,y,z,e.trans e1,r⟩
theorem Bx.mono{st:af}{n:Nat}{b b':Int}(B:Bx st n b)(l:b<=b'):Bx st n b':=by
 obtain⟨x,y,z,e,h1,h2,h3⟩:=B.ex;exact⟨x,y,z,e,h1,h2,Int.le_trans h3 l⟩
def nR:cV:=fun ds st K=>∃(ns:List Int) (k:Nat),ds=[.lst (ns.map .int),.int k]/\k<=3/\ns.length<=63/\∀st',Bx st' st.length 4000->Ext st st'->K (.ref st.length) st'
def kF:List Str:=["_law_script","_law_k","_law_cell"]
def za:DS:=(aP (cv 2 (dC (.int 0)))
 (aP (ki (ef (aE qZ (cy fm (ae (ab 0) ak)) (dC (.int 0)))) (cv 2 (aE bN (ab 0) (aE mF (ab 1) (cy fm (ae (ab 0) ak))))) j5)
 (dJ (vU (ae (aE eW (ab 2) (cy vz (ae (aE zP (ab 2) (aE vj (dC (.int 10)) (dC (.int 18)))) ak))) (ae (ab 2) (ae (aE eW (dC (.int 1009)) (ab 1)) ak)))))))
theorem wJ:∀ds st K,nR ds st K->ds.length=2/\za {nx:=fun _ st'=>K .aM st',rt:=K} (bj kF ds) st:=by
 rintro ds st K ⟨ns,k,rfl,hk,hl,q⟩;refine⟨rfl,?_⟩
 have fin:∀c:Int,dJ (vU (ae (aE eW (ab 2) (cy vz (ae (aE zP (ab 2) (aE vj (dC (.int 10)) (dC (.int 18)))) ak))) (ae (ab 2) (ae (aE eW (dC (.int 1009)) (ab 1)) ak))))
  {nx:=fun _ st'=>K .aM st',rt:=K} [some (.lst (ns.map .int)),some (.int k),some (.int c)] st:=by
  intro c;refine Jp ⟨by decide,by decide,by decide⟩ (LU (GO (fV (vq ?_ ?_) (fV (h_ (by decide) (by decide)) ⟨Nat.le_of_ble_eq_true rfl,?_⟩))))
  . split<;>decide
  . split<;>decide
  . refine q _ ⟨_,_,_,by rw[List.getElem?_append_right (Nat.le_refl _),Nat.sub_self];rfl,?_,?_,?_⟩ Ext.push
    . by_cases hc:(10:Int)^(18:Int).toNat<=c
      . have:(0:Int)<=c:=Int.le_trans (by decide) hc;rw[decide_eq_true hc,if_pos rfl];omega
      . rw[decide_eq_false hc,if_neg Bool.false_ne_true];omega
    . omega
    . omega
 refine dG rfl (AW ?_);rw[List.length_map];by_cases h0:(0:Int)<(ns.length:Int)
 . rw[decide_eq_true h0];refine mD (dG rfl (mh (by rw[List.length_map];omega) ?_));rw[List.length_map];have m1:=Int.fmod_nonneg_of_pos (k:Int) h0;have m2:=Int.fmod_lt_of_pos (k:Int) h0;obtain⟨j,ej⟩:=Int.eq_ofNat_of_zero_le m1;rw[ej]at m2⊢;exact aU rfl (pf (r:=ns) (by omega)) (fin _)
 . rw[decide_eq_false h0];exact fin 0
def cA:cV:=fun ds st K=>∃(n:Nat) (m b:Int),ds=[.ref n,.int m]/\Bx st n b/\b<=1000000/\0<m/\m<2^62/\∀r st',0<=r->r<m->Bx st' n (b+1)->Upd st n st'->K (.int r) st'
def mZ:List Str:=["_law_source_here","_law_many","_law_digit","_law_m"]
def AZ:DS:=(aP (ki (ef (aE qZ (aE bN (ab 0) (dC (.int 0))) (dC (.int 0)))) (aP (cv 2 (aE mF (aE bN (ab 0) (dC (.int 0))) (ab 1)))
 (aP (fw (ab 0) (dC (.int 0)) (aE sE (aE bN (ab 0) (dC (.int 0))) (ab 1)))
 (dJ (ab 2)))) j5)
 (aP (fw (ab 0) (dC (.int 2)) (aE fL (aE bN (ab 0) (dC (.int 2))) (dC (.int 1))))
 (aP (cv 3 (aE mF (aE eW (aE fL (aE fL (aE mF (aE bN (ab 0) (dC (.int 1))) (dC (.int 2147483647))) (aE eW (dC (.int 65539)) (aE bN (ab 0) (dC (.int 2))))) (dC (.int 11))) (dC (.int 48271))) (dC (.int 2147483629))))
 (aP (cv 3 (aE fL (aE mF (aE eW (ab 3) (ab 3)) (dC (.int 1999999973))) (aE eW (dC (.int 39373)) (aE bN (ab 0) (dC (.int 2))))))
 (dJ (aE mF (aE sE (aE mF (aE eW (ab 3) (dC (.int 99991))) (dC (.int 2147483587))) (dC (.int 7))) (ab 1)))))))
theorem vM{d:D}{σ:bR}{st:af}{K:DK}(k:K d st):dC d σ st K:=k
theorem zt:∀ds st K,cA ds st K->ds.length=2/\AZ {nx:=fun _ st'=>K .aM st',rt:=K} (bj mZ ds) st:=by
 rintro ds st K ⟨n,m,b,rfl,⟨x,y,z,e,hx,hz,hb⟩,hb2,hm0,hm1,k⟩;refine⟨rfl,?_⟩;have hn:n<st.length:=(List.getElem?_eq_some_iff.mp e).1;have it:items? st (.ref n)=some [.int x,.int y,.int z]:=aW e;refine aU it (by rfl) (Jl (fun h=>mD ?_) fun h=>?_)
 . refine aU it (by rfl) (mh (by omega) (aU it (by rfl) (zI (by omega) (DG hm0 hm1) (fU e (by rfl) ?_))));refine k _ _ (Int.fmod_nonneg_of_pos _ hm0) (Int.fmod_lt_of_pos _ hm0) ⟨_,_,_,List.getElem?_set_self hn,?_,hz,by omega⟩ Upd.set;rw[Int.fdiv_eq_ediv_of_nonneg _ (by omega)];exact Int.ediv_nonneg hx (by omega)
 . refine aU it (by rfl) (gO (fU e (by rfl) ?_));have e2:(st.set n (.lst ([D.int x,D.int y,D.int z].set 2 (.int (z+1)))))[n]?=some (.lst [.int x,.int y,.int (z+1)]):=List.getElem?_set_self hn;have it2:=aW e2;refine aU it2 (by rfl) (mh (by decide) (aU it2 (by rfl) (fV (h_ (by decide) (by decide)) ?_)));generalize y.fmod 2147483647=y1;generalize 65539*(z+1)=p;refine gO (vM (gO (vM (fV (vq (by decide) (by decide)) (vM (mh (by decide) ?_))))));have u1:=Int.fmod_nonneg_of_pos ((y1+p+11)*48271) (show(0:Int)<2147483629 by decide);have u2:=Int.fmod_lt_of_pos ((y1+p+11)*48271) (show(0:Int)<2147483629 by decide);generalize((y1+p+11)*48271).fmod 2147483629=u at u1 u2⊢;refine fV (h_ (by omega) (by omega)) (vM (mh (by decide) ?_));generalize(u*u).fmod 1999999973=u3;refine aU it2 (by rfl) (fV (h_ (by decide) (by decide)) ?_);generalize 39373*(z+1)=p2;refine gO ?_;generalize u3+p2=u4;refine fV (vq (by decide) (by decide)) (vM (mh (by decide) (vM (zI (by decide) (by decide+kernel) (mh (by omega) ?_)))));exact k _ _ (Int.fmod_nonneg_of_pos _ hm0) (Int.fmod_lt_of_pos _ hm0) ⟨_,_,_,e2,hx,by omega,by omega⟩ Upd.set
def k_:cV:=fun ds st K=>∃(n:Nat) (b:Int) (d:D) (A:List (List Int)) (N w M:Nat),ds=[.ref n,d]/\Bx st n b/\b<=900000/\fC st d A/\Mx.aJ N w A/\1<=N/\N<=8/\w<=8/\(∀r∈A,∀x∈r,x.natAbs<=M)/\∀B st',Mx.ku A N w (M*8^6) B N->Bx st' n (b+30)->XU st n st'->K (av B) st'
def kL:List Str:=["_law_source_here","_law_rows","_law_made","_law_k","_law_i","_law_j","_law_how","_law_by"]
def yD:DS:=(aP (cv 2 (kD (fx (ab 1)) [none] (cj 0) cB (cy oA (ae (ab 0) ak))))
 (aP (lF (fB (ae (aL cA (ae (ab 0) (ae (dC (.int 7)) ak))) ak)) (cj 3) (aP (cv 4 (aL cA (ae (ab 0) (ae (cy fm (ae (ab 2) ak)) ak))))
 (aP (cv 5 (aL cA (ae (ab 0) (ae (cy fm (ae (ab 2) ak)) ak))))
 (aP (cv 6 (aL cA (ae (ab 0) (ae (dC (.int 4)) ak))))
 (ki (ef (aE mR (ab 4) (ab 5))) (fw (ab 2) (ab 4) (dz (fx (aE bN (ab 2) (ab 4))) [none] (cj 0) cB (oa jK (ab 0)))) (ki (ef (aE mR (ab 6) (dC (.int 0)))) (Bw (uL (si (ab 2) (ab 4)) (si (ab 2) (ab 5))) (qd (ae (aE bN (ab 2) (ab 5)) (ae (aE bN (ab 2) (ab 4)) ak)))) (aP (cv 7 (aE bN (vL (ae (dC (.int 1)) (ae (oa jK (dC (.int 1))) (ae (dC (.int 2)) (ae (oa jK (dC (.int 2))) ak))))) (aL cA (ae (ab 0) (ae (dC (.int 4)) ak)))))
 (fw (ab 2) (ab 4) (dz (vk (ae (aE bN (ab 2) (ab 4)) (ae (aE bN (ab 2) (ab 5)) ak))) [none,none,some 7] (kH 0 1) cB (aE fL (ab 0) (aE eW (ab 2) (ab 1))))))))))))
 (dJ (cy c7 (ae (dz (fx (ab 2)) [none] (cj 0) cB (cy c7 (ae (ab 0) ak))) ak)))))
theorem nZ{A:List (List Int)}{k:Nat}(h:k<A.length):eQ (A.map bf) (k:Int)=some (bf (A.getD k [])):=by
 refine iO ?_;rw[List.getElem?_map,List.getElem?_eq_getElem h,Mx.a7 h];rfl
theorem pU{T:List (List Int)}{l:Nat}{r:List Int}:(T.map bf).set l (bf r)=(T.set l r).map bf:=by rw[List.map_set]
theorem wM:∀ds st K,k_ ds st K->ds.length=2/\yD {nx:=fun _ st'=>K .aM st',rt:=K} (bj kL ds) st:=by
 rintro ds st K ⟨n,b,d,A,N,w,M,rfl,B,hb,⟨da,hd,ra⟩,hA,hN1,hN8,hw,hbd,k⟩;refine⟨rfl,?_⟩;have hn:=B.lt;have hnL:st.length≠n:=Nat.ne_of_gt hn;have lA:=ra.len;have lAN:=hA.len;refine nW hd fun ok aI=>⟨bJ (by omega),?_⟩
 refine ix bf aI ra (fun d r hr he K' q=>⟨_,rfl,sD he q⟩) ?_;refine⟨n,7,b,rfl,B.cell (List.getElem?_append_left hn),by omega,by decide,by decide,fun r0 st1 z0 z1 B1 U1=>?_⟩;obtain⟨T,rfl⟩:=Int.eq_ofNat_of_zero_le z0;refine ie ⟨by omega,by omega⟩ ?_;rw[Int.toNat_natCast];have e1:st1[st.length]?=some (.lst (A.map bf)):=(U1.same _ hnL).trans (by rw[List.getElem?_append_right (Nat.le_refl _),Nat.sub_self];rfl);have X1:XU st n st1:=(XU.ext Ext.push).trans (XU.upd U1);refine kj T (fun j σ st'=>∃(X:List (List Int)) (v3 v4 v5 v6 v7:Option D),σ=[some (.ref n),some d,some (.ref st.length),v3,v4,v5,v6,v7]/\st'[st.length]?=some (.lst (X.map bf))/\Mx.ku A N w (M*8^j) X N/\Bx st' n (b+1+4*j)/\XU st n st') ?_ ?_ ⟨A,none,none,none,none,none,rfl,e1,⟨hA,hN1,hN8,fun r hr x hx=>by rw[Nat.pow_zero,Nat.mul_one];exact hbd r hr x hx,Mx.dE.refl _ _ _⟩,B1.mono (by simp),X1⟩
 . rintro σ st' ⟨X,v3,v4,v5,v6,v7,rfl,e,M',B',X'⟩;have lX:=M'.is.len;refine nW (aW e) fun ok aI=>⟨bJ (by rw[List.length_map];omega),?_⟩
   refine ix bG aI cf.lst (fun d r hr he K' q=>⟨_,rfl,cM he q⟩) (cM rfl ?_);exact k X st' (M'.more (Nat.mul_le_mul_left _ (Nat.pow_le_pow_right (by decide) (by omega)))) (B'.mono (by omega)) X'
 . rintro j σ st2 rest hj ⟨X,v3,v4,v5,v6,v7,rfl,e,M',B2,X2⟩ next
   refine⟨_,rfl,?_⟩;have lX:=M'.is.len;have lM:(X.map bf).length=N:=by rw[List.length_map,lX]
   refine dG (aW e) ⟨n,_,_,rfl,B2,by omega,by omega,by omega,fun rk st3 a0 a1 B3 U3=>?_⟩;obtain⟨kk,rfl⟩:=Int.eq_ofNat_of_zero_le a0;have hk:kk<N:=by omega
   have e3:=(U3.same _ hnL).trans e;refine dG (aW e3) ⟨n,_,_,rfl,B3,by omega,by omega,by omega,fun ro st4 c0 c1 B4 U4=>?_⟩;obtain⟨o,rfl⟩:=Int.eq_ofNat_of_zero_le c0;have ho:o<N:=by omega
   have e4:=(U4.same _ hnL).trans e3;refine⟨n,4,_,rfl,B4,by omega,by decide,by decide,fun way st5 w0 w1 B5 U5=>?_⟩;have e5:=(U5.same _ hnL).trans e4;have X5:XU st n st5:=X2.trans (XU.upd ((U3.trans U4).trans U5));have l5:=(List.getElem?_eq_some_iff.mp e5).1;clear U3 U4 U5 e e3 e4 B2 B3 B4;have pj:M*8^(j+1)=M*8^j*8:=by rw[Nat.pow_succ,Nat.mul_assoc]
   have M1:Mx.ku A N w (M*8^(j+1)) X N:=M'.more (by omega);have wk:=M'.is.row hk;have wo:=M'.is.row ho;have B6:Bx st5 n (b+1+4*((j+1:Nat):Int)):=B5.mono (by omega);refine eq2 (fun heq=>mD ?_) fun hne=>?_
   . refine aU (aW e5) (nZ (by omega)) (zZ ⟨bJ (by rw[List.length_map];omega),?_⟩);refine comp_map (g:=fun x=>match x with| .int a=> .int (-a)|_=> .aM) trivial _ (fun x hx K' q=>?_) ?_
     . unfold aH at hx;obtain⟨a,_,rfl⟩:=List.mem_map.mp hx;exact⟨_,rfl,ji q⟩
     have en:(aH (X.getD kk [])).map (fun x=>match x with| .int a=> .int (-a)|_=> .aM)=aH ((X.getD kk []).map fun x=> -x):=by unfold aH;rw[List.map_map,List.map_map];rfl
     rw[en];refine fU e5 (oY (by omega) (by omega)) ?_;rw[Int.toNat_natCast];exact next _ _ ⟨_,_,_,_,_,_,rfl,(List.getElem?_set_self l5).trans (congrArg (fun x=>some (Cell.lst x)) pU),M1.neg hk,B6.cell (List.getElem?_set_ne hnL),X5.set (Nat.le_refl _)⟩
   refine eq2 (fun h0=>mD ?_) fun h0=>?_
   . refine aU (aW e5) (nZ (by omega)) (aU (aW e5) (nZ (by omega)) ⟨Nat.le_of_ble_eq_true rfl,?_⟩);refine fU e5 (oY (by omega) (by omega)) ?_;rw[Int.toNat_natCast,pU];refine fU (List.getElem?_set_self l5) (oY (by omega) (by rw[List.length_map,List.length_set];omega)) ?_;rw[Int.toNat_natCast,pU,List.set_set];exact next _ _ ⟨_,_,_,_,_,_,rfl,List.getElem?_set_self l5,M1.swap hk ho,B6.cell (List.getElem?_set_ne hnL),X5.set (Nat.le_refl _)⟩
   refine ji (ji ⟨Nat.le_of_ble_eq_true rfl,n,4,_,rfl,B5,by omega,by decide,by decide,fun q st6 q0 q1 B6 U6=>?_⟩);have e6:=(U6.same _ hnL).trans e5;have l6:=(List.getElem?_eq_some_iff.mp e6).1
   obtain⟨c,ec,hc⟩:∃c:Int,eQ [D.int 1,.int (-1),.int 2,.int (-2)] q=some (.int c)/\c.natAbs<=7:=by
    have:q=0\/q=1\/q=2\/q=3:=by omega
    rcases this with rfl|rfl|rfl|rfl
    . exact⟨1,rfl,by decide⟩
    . exact⟨-1,rfl,by decide⟩
    . exact⟨2,rfl,by decide⟩
    . exact⟨-2,rfl,by decide⟩
   refine aU rfl ec ?_;refine aU (aW e6) (nZ (by omega)) (aU (aW e6) (nZ (by omega)) ?_);refine uH rfl rfl fun ok aI=>⟨bJ (by rw[pV,List.length_map,List.length_map];omega),?_⟩
   refine comp_map (g:=fun d=>match d with| .tup [.int x,.int y]=> .int (x+c*y)|_=> .aM) (aI st6 rfl rfl) _ (fun d hd K' q=>?_) ?_
   . obtain⟨x,y,_,_,rfl⟩:=tQ hd;exact⟨_,rfl,fV (h_ (by omega) (by omega)) (gO q)⟩
   have ea:(iW (aH (X.getD kk [])) (aH (X.getD o []))).map (fun d=>match d with| .tup [.int x,.int y]=> .int (x+c*y)|_=> .aM)=aH (Mx.f9 (X.getD kk []) c (X.getD o [])):=qD _ _;rw[ea];refine fU e6 (oY (by omega) (by omega)) ?_;rw[Int.toNat_natCast];refine next _ _ ⟨_,_,_,_,_,_,rfl,(List.getElem?_set_self l6).trans (congrArg (fun x=>some (Cell.lst x)) pU),?_,(B6.cell (List.getElem?_set_ne hnL)).mono (by omega),(X5.trans (XU.upd U6)).set (Nat.le_refl _)⟩
   rw[pj];exact M'.add hk ho (by omega) hc
def kM:cV:=fun ds st K=>∃(A:List (List Int)) (N w:Nat),ds=[av A]/\Mx.aJ N w A/\1<=N/\N<=8/\w<=8/\K (av (Mx.aX A w)) st
def nc:List Str:=["_law_rows"]
def AV:DS:=(dJ (cy c7 (ae (dz (fB (ae (cy fm (ae (aE bN (ab 0) (dC (.int 0))) ak)) ak)) [none,some 0] (cj 0) cB (cy c7 (ae (dz (fx (ab 1)) [none,some 0] (cj 0) cB (aE bN (ab 0) (ab 1))) ak))) ak)))
theorem zy:∀ds st K,kM ds st K->ds.length=1/\AV {nx:=fun _ st'=>K .aM st',rt:=K} (bj nc ds) st:=by
 rintro ds st K ⟨A,N,w,rfl,iA,n1,n8,w8,k⟩;refine⟨rfl,?_⟩;have lA:=iA.len;refine aU rfl (kB (j:=0) (by omega)) (dG rfl ?_);rw[List.length_map,iA.row (i:=0) (by omega)];refine ie ⟨by omega,by omega⟩ ⟨bJ (by rw[gK];omega),?_⟩;rw[Int.toNat_natCast];refine m8 (fun j=>bG (Mx.mE A j)) w (fun j hj K' q=>⟨_,rfl,?_⟩) ?_
 . refine kq ⟨bJ (by rw[List.length_map];omega),?_⟩;refine ix (fun r=> .int (r.getD j 0)) trivial cf.tup (fun e r hr he K2 z=>⟨_,rfl,aU he (pf (by rw[iA.fN r hr];exact hj)) z⟩) (cM rfl ?_)
   have e:A.map (fun r=>D.int (r.getD j 0))=aH (Mx.mE A j):=by
    unfold aH Mx.mE;rw[List.map_map];rfl
   rw[e];exact q
 . refine cM rfl ?_;rw[yX];exact k
structure Ds(A:List (List Int))(N w:Nat):Prop where
 is:Mx.aJ N w A
 n1:1<=N
 n7:N<=7
 w1:1<=w
 w7:w<=7
 bd:∀r∈A,∀x∈r,x.natAbs<=20
def kg:cV:=fun ds st K=>∃(n:Nat) (b:Int),ds=[.ref n]/\Bx st n b/\b<=500000/\∀st' A N w,Ds A N w->Bx st' n (b+1000)->XU st n st'->K (av A) st'
def ip:List Str:=["_law_source_here","_law_great","_law_many","_law_wide","_law_rows","_law_k","_law_size"]
def ug:DS:=(aP (cv 1 (aE mR (aL cA (ae (ab 0) (ae (dC (.int 8)) ak))) (dC (.int 5))))
 (aP (Bf 2 3 (ae (aE fL (dC (.int 1)) (aL cA (ae (ab 0) (ae (dC (.int 4)) ak)))) (ae (aE fL (dC (.int 1)) (aL cA (ae (ab 0) (ae (dC (.int 4)) ak)))) ak)))
 (aP (ki (ef (ab 1)) (Bf 2 3 (ae (aE fL (dC (.int 6)) (aL cA (ae (ab 0) (ae (dC (.int 2)) ak)))) (ae (aE fL (dC (.int 6)) (aL cA (ae (ab 0) (ae (dC (.int 2)) ak)))) ak))) j5)
 (aP (cv 4 (vU ak))
 (aP (lF (fB (ae (ab 2) ak)) (cj 5) (aP (cv 6 (FJ (uP (ef (ab 1))) (aE bN (vL (ae (dC (.int 2)) (ae (dC (.int 3)) (ae (dC (.int 20)) (ae (dC (.int 2)) ak))))) (aL cA (ae (ab 0) (ae (dC (.int 4)) ak)))) (dC (.int 2))))
 (eK (jE (ab 4) (cy c7 (ae (dz (fB (ae (ab 3) ak)) [none,some 0,some 6] (cj 0) cB (aE vC (aL cA (ae (ab 1) (ae (aE fL (aE eW (dC (.int 2)) (ab 2)) (dC (.int 1))) ak))) (ab 2))) ak))))))
 (dJ (cy c7 (ae (ab 4) ak))))))))
theorem HV{i:Nat}(h:i<4):∃z:Nat,eQ [D.int 2,D.int 3,D.int 20,D.int 2] (i:Int)=some (.int (z:Int))/\z<=20:=by
 match i,h with
 |0,_=>exact⟨2,rfl,by decide⟩
 |1,_=>exact⟨3,rfl,by decide⟩
 |2,_=>exact⟨20,rfl,by decide⟩
 |3,_=>exact⟨2,rfl,by decide⟩
theorem sO:∀ds st K,kg ds st K->ds.length=1/\ug {nx:=fun _ st'=>K .aM st',rt:=K} (bj ip ds) st:=by
 rintro ds st K ⟨n,b,rfl,B,hb,k⟩;refine⟨rfl,?_⟩;refine⟨n,8,b,rfl,B,by omega,by decide,by decide,fun r0 st0 a0 a1 B0 U0=>Bu rfl rfl ?_⟩;generalize cU (.int r0) (.int 5)=g;refine⟨n,4,_,rfl,B0,by omega,by decide,by decide,fun r1 st1 c0 c1 B1 U1=>gO ?_⟩;refine⟨n,4,_,rfl,B1,by omega,by decide,by decide,fun r2 st2 d0 d1 B2 U2=>gO ?_⟩;have U02:=(U0.trans U1).trans U2;try dsimp only[ak]
 refine nt (A:=ki _ _ _) (fun σ s=>∃N w:Nat,σ=[some (.ref n),some (.bl g),some (.int N),some (.int w),none,none,none]/\1<=N/\N<=7/\1<=w/\w<=7/\Bx s n (b+5)/\Upd st n s) (fun nx hnx=>?_) ?_
 . cases g with
   |true=>
    refine⟨n,2,_,rfl,B2,by omega,by decide,by decide,fun r3 st3 e0 e1 B3 U3=>gO ⟨n,2,_,rfl,B3,by omega,by decide,by decide,fun r4 st4 f0 f1 B4 U4=>gO ?_⟩⟩;obtain⟨i,rfl⟩:=Int.eq_ofNat_of_zero_le e0;obtain⟨j,rfl⟩:=Int.eq_ofNat_of_zero_le f0;exact hnx _ _ ⟨6+i,6+j,by simp[bj];rfl,by omega,by omega,by omega,by omega,B4.mono (by omega),(U02.trans U3).trans U4⟩
   |false=>
    obtain⟨i,rfl⟩:=Int.eq_ofNat_of_zero_le c0;obtain⟨j,rfl⟩:=Int.eq_ofNat_of_zero_le d0;exact hnx _ _ ⟨1+i,1+j,by simp[bj];rfl,by omega,by omega,by omega,by omega,B2.mono (by omega),U02⟩
 clear B0 U0 B1 U1 B2 U2 U02;rintro _ st3 ⟨N,w,rfl,n1,n7,w1,w7,B3,U3⟩;refine⟨Nat.le_of_ble_eq_true rfl,?_⟩;have nl:=B3.lt;have l3:=U3.len;have X3:Ext st3 (st3++[Cell.lst []]):=Ext.push;have e3:(st3++[Cell.lst []])[st3.length]?=some (.lst (([]:List (List Int)).map bG)):=by simp
 have B3':Bx (st3++[Cell.lst []]) n (b+5):=B3.cell (X3.same n nl);have XU3:XU st n (st3++[Cell.lst []]):=(XU.upd U3).trans (XU.ext X3);generalize st3.length=m at e3 nl l3;generalize st3++[Cell.lst []]=st4 at e3 B3' XU3;clear B3 U3 X3;refine ie ⟨by omega,by omega⟩ ?_;rw[Int.toNat_natCast];refine kj N (fun q σ st'=>∃(A:List (List Int)) (v5 v6:Option D),σ=[some (.ref n),some (.bl g),some (.int N),some (.int w),some (.ref m),v5,v6]/\A.length=q/\(∀r∈A,r.length=w)/\(∀r∈A,∀x∈r,x.natAbs<=20)/\st'[m]?=some (.lst (A.map bG))/\Bx st' n (b+5+100*q)/\XU st n st') ?_ ?_ ⟨[],none,none,rfl,rfl,fun r hr=>(by cases hr),fun r hr=>(by cases hr),e3,B3'.mono (by omega),XU3⟩
 . rintro σ st' ⟨A,v5,v6,rfl,lA,wA,bA,e,B',X⟩;exact cM (aW e) (k st' A N w ⟨⟨lA,wA⟩,n1,n7,w1,w7,bA⟩ (B'.mono (by omega)) X)
 . clear e3 B3' XU3 st4;rintro q σ st4 rest hq ⟨A,v5,v6,rfl,lA,wA,bA,e4,B4,X4⟩ next
   have mn:m≠n:=by omega
   refine⟨_,rfl,?_⟩;refine nt (A:=cv 6 _) (fun σ s=>∃z:Nat,σ=[some (.ref n),some (.bl g),some (.int N),some (.int w),some (.ref m),some (.int q),some (.int z)]/\z<=20/\Bx s n (b+5+100*q+1)/\Upd st4 n s) (fun nx hnx=>?_) ?_
   . cases g with
     |true=>exact hnx _ _ ⟨2,rfl,by decide,B4.mono (by omega),Upd.refl⟩
     |false=>
      refine⟨Nat.le_of_ble_eq_true rfl,n,4,_,rfl,B4,by omega,by decide,by decide,fun y st5 y0 y1 B5 U5=>?_⟩;obtain⟨i,rfl⟩:=Int.eq_ofNat_of_zero_le y0;obtain⟨z,ez,hz⟩:=HV (i:=i) (by omega);exact aU rfl ez (hnx _ _ ⟨z,rfl,hz,B5,U5⟩)
   rintro _ st5 ⟨z,rfl,hz,B5,U5⟩;have e5:st5[m]?=some (.lst (A.map bG)):=(U5.same m mn).trans e4;have X5:=X4.trans (XU.upd U5);refine q_ (by rfl) e5 ?_;refine ie ⟨by omega,by omega⟩ ⟨bJ (by rw[gK];omega),?_⟩;rw[Int.toNat_natCast];refine gT (fun rest acc st'=>∃r:List Int,acc=aH r/\r.length+rest.length=w/\(∀x∈r,x.natAbs<=20)/\Bx st' n (b+5+100*q+1+r.length)/\Upd st5 n st') ?_ ?_ _ _ _ ⟨[],rfl,by rw[gK];simp,by simp,B5.mono (by simp),Upd.refl⟩
   . rintro acc st6 ⟨r,rfl,hr,br,B6,U6⟩;have hr:r.length=w:=by simpa using hr
     have e6:st6[m]?=some (.lst (A.map bG)):=(U6.same m mn).trans e5;have X6:=X5.trans (XU.upd U6);refine⟨trivial,cM rfl (pd e6 (by rw[sizeLine_eq,List.length_map];omega) ?_)⟩;have ea:A.map bG++[D.tup (aH r)]=(A++[r]).map bG:=EU;rw[ea];have hm:=(List.getElem?_eq_some_iff.mp e6).1;refine next _ _ ⟨A++[r],_,_,rfl,by simp[lA],fun s hs=>?_,fun s hs=>?_,List.getElem?_set_self hm,(B6.cell (List.getElem?_set_ne mn)).mono (by omega),X6.set (by omega)⟩
     . rcases List.mem_append.mp hs with h|h
       . exact wA s h
       . rw[List.mem_singleton.mp h];exact hr
     . rcases List.mem_append.mp hs with h|h
       . exact bA s h
       . rw[List.mem_singleton.mp h];exact br
   . rintro x rest2 acc st6 ⟨r,rfl,hr,br,B6,U6⟩ next2;have hr2:r.length<w:=by simp at hr;omega
     refine⟨trivial,_,rfl,?_⟩;refine fV (h_ (by decide) (by decide)) (gO ⟨n,_,_,rfl,B6,by omega,by omega,by omega,fun y st7 y0 y1 B7 U7=>BF ?_⟩);show dc _ _ _ _ _ _ _ _ _;rw[ints_app];refine next2 _ _ ⟨r++[y-z],rfl,by simp at hr⊢;omega,fun x hx=>?_,B7.mono (by simp;omega),U6.trans U7⟩;rcases List.mem_append.mp hx with h|h
     . exact br x h
     . rw[List.mem_singleton.mp h];omega
def Ot(A:List (List Int))(N w:Nat)(M:List (List Int)):Prop:=∃N' w',Mx.aJ N' w' M/\1<=N'/\1<=w'/\N'<=8/\w'<=8/\Mx.Ge M N' w'/\Mx.ff A N w M N' w'
def nN:cV:=fun ds st K=>∃(n:Nat) (b:Int) (A:List (List Int)) (N w:Nat),ds=[.ref n,av A]/\Bx st n b/\b<=600000/\Ds A N w/\∀st' (Ms:List (List (List Int))),Ms.length<=100->(∀M∈Ms,Ot A N w M)->Bx st' n (b+100)->XU st n st'->K (.lst (Ms.map av)) st'
def kW:List Str:=["_law_source_here","_law_rows","_law_turned_here","_law_made","_law_one","_law_other","_law_many"]
def yE:DS:=(aP (cv 2 (aL k_ (ae (ab 0) (ae (ab 1) ak))))
 (aP (cv 3 (vU (ae (ab 2) (ae (aL kM (ae (ab 1) ak)) (ae (aL kM (ae (aL k_ (ae (ab 0) (ae (aL kM (ae (ab 2) ak)) ak))) ak)) ak)))))
 (aP (cv 4 (aE bN (ab 1) (aL cA (ae (ab 0) (ae (cy fm (ae (ab 1) ak)) ak)))))
 (aP (cv 5 (aE bN (ab 1) (aL cA (ae (ab 0) (ae (cy fm (ae (ab 1) ak)) ak)))))
 (aP (cv 6 (aE vC (aL cA (ae (ab 0) (ae (dC (.int 7)) ak))) (dC (.int 3))))
 (aP (eK (jE (ab 3) (aE fL (ab 1) (qd (ae (cy c7 (ae (dz (vk (ae (ab 4) (ae (ab 5) ak))) [none,none,some 6] (kH 0 1) cB (aE fL (ab 0) (aE eW (ab 2) (ab 1)))) ak)) ak)))))
 (aP (eK (jE (ab 3) (aE fL (qd (ae (aE eW (qd (ae (dC (.int 0)) ak)) (cy fm (ae (ab 4) ak))) ak)) (ab 1))))
 (aP (eK (jE (ab 3) (cy c7 (ae (dz (fx (ab 1)) [none] (cj 0) cB (aE fL (ab 0) (qd (ae (dC (.int 0)) ak)))) ak))))
 (aP (eK (jE (ab 3) (cy c7 (ae (dz (Ap (ae (ab 1) ak)) [none] (cj 0) cB (cy Ag (ae (ab 0) ak))) ak))))
 (rV 3 (dJ (ab 3))))))))))))
theorem iG{A:List (List Int)}{N w M:Nat}(hA:Mx.aJ N w A)(h:∀r∈A,∀x∈r,x.natAbs<=M):∀i j,i<N->j<w->(Mx.g A i j).natAbs<=M:=fun i j hi hj=>by
 have lA:=hA.len;have lr:=hA.row hi;unfold Mx.g;exact h _ (by rw[Mx.a7 (by omega)];exact List.getElem_mem _) _ (getD_mem (by omega))
theorem Je{A:List (List Int)}{N w M:Nat}(hA:Mx.aJ N w A)(h:∀i j,i<N->j<w->(Mx.g A i j).natAbs<=M):∀r∈A,∀x∈r,x.natAbs<=M:=fun r hr x hx=>by
 obtain⟨i,hi,rfl⟩:=List.mem_iff_getElem.mp hr;obtain⟨j,hj,rfl⟩:=List.mem_iff_getElem.mp hx;have:=h i j (by rw[<-hA.len];exact hi) (by rw[<-hA.fN _ hr];exact hj);unfold Mx.g at this;rwa [Mx.a7 hi,Mx.a7 hj]at this
theorem md{α:Type}{tg:gh}{te:DE}{ok:af->Prop}{σc:bR}{st:af}{K:List D->af->Prop}(f h:α->D)(xs:List α)(aI:ok st)(hx:∀x∈xs,∀K',K' (h x) st->∃σ2,tg (f x) σc=some σ2/\te σ2 st K')(k:K (xs.map h) st):dc tg cB te ok σc (xs.map f) [] st K:=by
 refine gT (fun rest acc st'=>∃P R,st'=st/\xs=P++R/\rest=R.map f/\acc=P.map h) ?_ ?_ _ _ _ ⟨[],xs,rfl,rfl,rfl,rfl⟩
 . rintro acc st' ⟨P,R,rfl,e,hr,rfl⟩;have:R=[]:=List.map_eq_nil_iff.mp hr.symm;subst this;rw[List.append_nil]at e;subst e;exact⟨aI,k⟩
 . rintro d rest acc st' ⟨P,R,rfl,e,hr,rfl⟩ next
   cases R with
   |nil=>cases hr
   |cons x R=>
    rw[List.map_cons]at hr;simp only[List.cons.injEq]at hr;obtain⟨rfl,rfl⟩:=hr;obtain⟨σ2,h1,h2⟩:=hx x (by rw[e];simp) (fun y st2=>dc tg cB te ok σc (R.map f) (P.map h++[y]) st2 K) (next (P.map h++[h x]) _ ⟨P++[x],R,rfl,by rw[e];simp,rfl,by simp⟩);exact⟨aI,σ2,h1,h2⟩
theorem Gn{c:Int}:∀u v:List Int,(iW (aH u) (aH v)).map (fun d=>match d with| .tup [.int a,.int b]=>D.int (a+c*b)|_=> .aM)=aH (List.zipWith (fun a b=>a+c*b) u v):=fun u=>by
 induction u with
 |nil=>intro v;rfl
 |cons a u ih=>
  intro v;cases v with
  |nil=>rfl
  |cons b v=>
   have hz:iW (aH (a::u)) (aH (b::v))= .tup [.int a,.int b]::iW (aH u) (aH v):=rfl;rw[hz,List.map_cons,ih v];rfl
theorem xh{A:List (List Int)}{r:List Int}{N i c:Nat}(h:A.length=N):Mx.g (A++[r]) i c=if i<N then Mx.g A i c else if i=N then r.getD c 0 else 0:=by
 unfold Mx.g;by_cases h1:i<N
 . rw[if_pos h1];have:(A++[r]).getD i []=A.getD i []:=by rw[List.getD_eq_getElem?_getD,List.getElem?_append_left (by omega),<-List.getD_eq_getElem?_getD]
   rw[this]
 . rw[if_neg h1];by_cases h2:i=N
   . have:(A++[r]).getD i []=r:=by
      rw[List.getD_eq_getElem?_getD,List.getElem?_append_right (by omega),h2,<-h,Nat.sub_self];rfl
     rw[if_pos h2,this]
   . have:(A++[r]).getD i []=[]:=by
      rw[List.getD_eq_getElem?_getD,List.getElem?_eq_none (by simp;omega)];rfl
     rw[if_neg h2,this];rfl
theorem zO{A T:List (List Int)}{N w M:Nat}(n1:1<=N)(n7:N<=7)(w1:1<=w)(w7:w<=7)(iT:Mx.aJ N w T)(hb:∀i j,i<N->j<w->(Mx.g T i j).natAbs<=M)(hM:M<=2^46)(e:Mx.ff A N w T N w):Ot A N w T:=⟨N,w,iT,n1,w1,by omega,by omega,⟨.inl n7,fun i j hi hj=>Nat.le_trans (hb i j hi hj) hM⟩,e⟩
theorem HD{A:List (List Int)}{N w:Nat}(ds:Ds A N w):Ot A N w (Mx.aX A w):=by
 have n7:=ds.n7;have w7:=ds.w7;refine⟨w,N,Mx.b_ ds.is,ds.w1,ds.n1,by omega,by omega,⟨.inl w7,fun i j hi hj=>?_⟩,(Mx.ff.tr ds.is).symm⟩;rw[Mx.bL ds.is hj hi];exact Nat.le_trans (iG ds.is ds.bd j i hj hi) (by decide)
theorem Ih{A:List (List Int)}{N w i j:Nat}{c:Int}(ds:Ds A N w)(hi:i<N)(hj:j<N)(c0: -3<=c)(c1:c<=3):Ot A N w (A++[List.zipWith (fun a b=>a+c*b) (A.getD i []) (A.getD j [])]):=by
 have n7:=ds.n7;have w7:=ds.w7;have lA:=ds.is.len;have li:=ds.is.row hi;have lj:=ds.is.row hj
 have at1:∀x,x<w->(List.zipWith (fun a b=>a+c*b) (A.getD i []) (A.getD j [])).getD x 0=Mx.g A i x+c*Mx.g A j x:=fun x hx=>by
  rw[Mx.a7 (by rw[List.length_zipWith];omega),List.getElem_zipWith];unfold Mx.g;rw[Mx.a7 (show x<(A.getD i []).length by omega),Mx.a7 (show x<(A.getD j []).length by omega)]
 refine⟨N+1,w,⟨by simp[lA],fun r hr=>?_⟩,by omega,ds.w1,by omega,by omega,⟨.inr w7,fun p x hp hx=>?_⟩,?_⟩
 . rcases List.mem_append.mp hr with h|h
   . exact ds.is.fN r h
   . rw[List.mem_singleton.mp h,List.length_zipWith];omega
 . rw[xh lA];by_cases h1:p<N
   . rw[if_pos h1];exact Nat.le_trans (iG ds.is ds.bd p x h1 hx) (by decide)
   . rw[if_neg h1,if_pos (by omega),at1 x hx];have a1:=iG ds.is ds.bd i x hi hx;have a2:=iG ds.is ds.bd j x hj hx;have a3:(c*Mx.g A j x).natAbs<=3*20:=by rw[Int.natAbs_mul];exact Nat.mul_le_mul (by omega) a2
     have a4:=Int.natAbs_add_le (Mx.g A i x) (c*Mx.g A j x);exact Nat.le_trans (show _<=80 by omega) (by decide)
 . refine Mx.ff.more (σ:=fun i=>i) (fun p hp=>?_) (fun p hp=>by omega) fun p x hp hx=>by rw[xh lA,if_pos hp]
   by_cases h1:p<N
   . exact(Mx.aR.row h1).eq fun x hx=>by rw[xh lA,if_pos h1]
   . exact((Mx.aR.row hi).ya c (Mx.aR.row hj)).eq fun x hx=>by rw[xh lA,if_neg h1,if_pos (by omega),at1 x hx]
theorem Gr{A:List (List Int)}{N w:Nat}(ds:Ds A N w):Ot A N w (List.replicate w 0::A):=by
 have n7:=ds.n7;have w7:=ds.w7;have lA:=ds.is.len
 have z0:∀x,Mx.g (List.replicate w 0::A) 0 x=0:=fun x=>by
  show(List.replicate w (0:Int)).getD x 0=0;rw[List.getD_eq_getElem?_getD,List.getElem?_replicate];split<;>rfl
 have zs:∀i x,Mx.g (List.replicate w 0::A) (i+1) x=Mx.g A i x:=fun i x=>rfl;refine⟨N+1,w,⟨by simp[lA],fun r hr=>?_⟩,by omega,ds.w1,by omega,by omega,⟨.inr w7,fun p x hp hx=>?_⟩,?_⟩
 . rcases List.mem_cons.mp hr with h|h
   . rw[h,List.length_replicate]
   . exact ds.is.fN r h
 . cases p with
   |zero=>rw[z0];exact Nat.zero_le _
   |succ p=>rw[zs];exact Nat.le_trans (iG ds.is ds.bd p x (by omega) hx) (by decide)
 . refine Mx.ff.more (σ:=fun i=>i+1) (fun p hp=>?_) (fun p hp=>by omega) fun p x hp hx=>(zs p x).symm;cases p with
   |zero=>exact Mx.aR.zero fun x _=>z0 x
   |succ p=>exact(Mx.aR.row (show p<N by omega)).eq fun x _=>zs p x
theorem xf{A:List (List Int)}{f:List Int->List Int}{N i c:Nat}(h:A.length=N)(hi:i<N):Mx.g (A.map f) i c=(f (A.getD i [])).getD c 0:=by
 unfold Mx.g;rw[Mx.a7 (l:=A.map f) (by rw[List.length_map];omega),List.getElem_map,Mx.a7 (l:=A) (by omega)]
theorem H_{A:List (List Int)}{N w:Nat}(ds:Ds A N w):Ot A N w (A.map (· ++[0])):=by
 have n7:=ds.n7;have w7:=ds.w7;have lA:=ds.is.len
 have e:∀i x,i<N->x<w->Mx.g (A.map (· ++[0])) i x=Mx.g A i x:=fun i x hi hx=>by
  rw[xf lA hi,List.getD_eq_getElem?_getD,List.getElem?_append_left (by rw[ds.is.row hi];exact hx),<-List.getD_eq_getElem?_getD];rfl
 have e0:∀i,i<N->Mx.g (A.map (· ++[0])) i w=0:=fun i hi=>by
  rw[xf lA hi,List.getD_eq_getElem?_getD,List.getElem?_append_right (by rw[ds.is.row hi];exact Nat.le_refl _),ds.is.row hi,Nat.sub_self];rfl
 have iC:Mx.aJ N (w+1) (A.map (· ++[0])):=⟨by rw[List.length_map,lA],fun r hr=>by
  obtain⟨s,hs,rfl⟩:=List.mem_map.mp hr;simp[ds.is.fN s hs]⟩
 refine⟨N,w+1,iC,ds.n1,by omega,by omega,by omega,⟨.inl n7,fun p x hp hx=>?_⟩,Mx.ff.col ds.is iC e e0⟩;by_cases h1:x<w
 . rw[e p x hp h1];exact Nat.le_trans (iG ds.is ds.bd p x hp h1) (by decide)
 . rw[show x=w by omega,e0 p hp];exact Nat.zero_le _
theorem J3{A:List (List Int)}{N w:Nat}(ds:Ds A N w):Ot A N w (A.reverse.map List.reverse):=by
 have n7:=ds.n7;have w7:=ds.w7;have lA:=ds.is.len
 have e:∀i x,i<N->x<w->Mx.g (A.reverse.map List.reverse) i x=Mx.g A (N-1-i) (w-1-x):=fun i x hi hx=>by
  have r1:A.reverse.getD i []=A.getD (N-1-i) []:=by
   rw[List.getD_eq_getElem?_getD,List.getElem?_reverse (by omega),lA,<-List.getD_eq_getElem?_getD]
  rw[xf (N:=N) (by rw[List.length_reverse,lA]) hi,r1,List.getD_eq_getElem?_getD,List.getElem?_reverse (by rw[ds.is.row (by omega)];exact hx),ds.is.row (by omega),<-List.getD_eq_getElem?_getD];rfl
 have iC:Mx.aJ N w (A.reverse.map List.reverse):=⟨by rw[List.length_map,List.length_reverse,lA],fun r hr=>by
  obtain⟨s,hs,rfl⟩:=List.mem_map.mp hr;rw[List.length_reverse];exact ds.is.fN s (List.mem_reverse.mp hs)⟩
 refine⟨N,w,iC,ds.n1,ds.w1,by omega,by omega,⟨.inl n7,fun p x hp hx=>?_⟩,Mx.ff.rev e⟩;rw[e p x hp hx];exact Nat.le_trans (iG ds.is ds.bd _ _ (by omega) (by omega)) (by decide)
theorem w4:∀ds st K,nN ds st K->ds.length=2/\yE {nx:=fun _ st'=>K .aM st',rt:=K} (bj kW ds) st:=by
 rintro ds st K ⟨n,b,A,N,w,rfl,B,hb,dr,k⟩;refine⟨rfl,?_⟩;have n1:=dr.n1;have n7:=dr.n7;have w1:=dr.w1;have w7:=dr.w7;have lA:=dr.is.len;refine⟨n,b,_,A,N,w,20,rfl,B,by omega,cO,dr.is,n1,by omega,by omega,dr.bd,fun T st1 mx B1 X1=>?_⟩;refine⟨A,N,w,rfl,dr.is,n1,by omega,by omega,?_⟩;refine⟨T,N,w,rfl,mx.is,n1,by omega,by omega,?_⟩;have bT:∀i j,i<w->j<N->(Mx.g (Mx.aX T w) i j).natAbs<=20*8^6:=fun i j hi hj=>by rw[Mx.bL mx.is hj hi];exact iG mx.is mx.bd j i hj hi
 refine⟨n,_,_,Mx.aX T w,w,N,20*8^6,rfl,B1,by omega,cO,Mx.b_ mx.is,w1,by omega,by omega,Je (Mx.b_ mx.is) bT,fun V st2 mv B2 X2=>?_⟩;refine⟨V,w,N,rfl,mv.is,w1,by omega,by omega,?_⟩;have o1:Ot A N w T:=zO n1 n7 w1 w7 mx.is (iG mx.is mx.bd) (by decide) (Mx.ff.same mx.same);have o3:Ot A N w (Mx.aX V N):=zO (M:=20*8^6*8^6) n1 n7 w1 w7 (Mx.b_ mv.is) (fun i j hi hj=>by rw[Mx.bL mv.is hj hi];exact iG mv.is mv.bd j i hj hi) (by decide) ((Mx.ff.same mx.same).trans ((Mx.ff.tr mx.is).symm.trans ((Mx.ff.same mv.same).trans (Mx.ff.tr mv.is).symm)));have hnl:=B2.lt;have XU2:=X1.trans X2;have l12:=XU2.len;refine⟨Nat.le_of_ble_eq_true rfl,?_⟩;have X3:Ext st2 (st2++[Cell.lst [av T,av (Mx.aX A w),av (Mx.aX V N)]]):=Ext.push;have e3:(st2++[Cell.lst [av T,av (Mx.aX A w),av (Mx.aX V N)]])[st2.length]?=some (.lst ([T,Mx.aX A w,Mx.aX V N].map av)):=by simp
 have B3:=B2.cell (X3.same n hnl);have XU3:=XU2.trans (XU.ext X3);have mn:st2.length≠n:=by omega
 have lm:st.length<=st2.length:=l12
 have o:∀M∈[T,Mx.aX A w,Mx.aX V N],Ot A N w M:=fun M hM=>by
  simp only[List.mem_cons,List.not_mem_nil,or_false]at hM;rcases hM with rfl|rfl|rfl
  . exact o1
  . exact HD dr
  . exact o3
 generalize st2.length=m at e3 mn lm;generalize st2++[Cell.lst [av T,av (Mx.aX A w),av (Mx.aX V N)]]=s3 at e3 B3 XU3;clear X3 B2 X2 B1 X1 hnl l12 XU2;have len:∀ {i:Nat},A.length=N:=lA;refine dG rfl ?_;rw[List.length_map,lA];refine⟨n,(N:Int),_,rfl,B3,by omega,by omega,by omega,fun y1 s4 p0 p1 B4 U4=>?_⟩;obtain⟨i,rfl⟩:=Int.eq_ofNat_of_zero_le p0;refine aU rfl (kB (by omega)) ?_;refine dG rfl ?_;rw[List.length_map,lA];refine⟨n,(N:Int),_,rfl,B4,by omega,by omega,by omega,fun y2 s5 q0 q1 B5 U5=>?_⟩;obtain⟨j,rfl⟩:=Int.eq_ofNat_of_zero_le q0;refine aU rfl (kB (by omega)) ?_;refine⟨n,7,_,rfl,B5,by omega,by omega,by omega,fun y3 s6 c0 c1 B6 U6=>?_⟩;refine BF ?_;have hi:i<N:=by omega
 have hj:j<N:=by omega
 have ri:=dr.is.row hi;have rj:=dr.is.row hj;have U36:=(U4.trans U5).trans U6;have e6:s6[m]?=some (.lst ([T,Mx.aX A w,Mx.aX V N].map av)):=(U36.same m mn).trans e3;have XU6:=XU3.trans (XU.upd U36);clear B3 B4 B5 U4 U5 U6 U36 XU3 e3
 have push:∀ {s:af} {Ms:List (List (List Int))} {M:List (List Int)},s[m]?=some (.lst (Ms.map av))->Bx s n (b+64)->XU st n s->(∀M∈Ms,Ot A N w M)->Ot A N w M->(s.set m (.lst (Ms.map av++[av M])))[m]?=some (.lst ((Ms++[M]).map av))/\Bx (s.set m (.lst (Ms.map av++[av M]))) n (b+64)/\XU st n (s.set m (.lst (Ms.map av++[av M])))/\∀M'∈Ms++[M],Ot A N w M':=fun{s Ms M} e B X hM hO=>by
  refine⟨?_,B.cell (List.getElem?_set_ne mn),X.set lm,fun M' h=>?_⟩
  . rw[List.getElem?_set_self (List.getElem?_eq_some_iff.mp e).1,List.map_append];rfl
  . rcases List.mem_append.mp h with h|h
    . exact hM M' h
    . rw[List.mem_singleton.mp h];exact hO
 have B6:=B6.mono (b':=b+64) (by omega);refine q_ (by rfl) e6 ?_;refine uH rfl rfl fun ok aI=>⟨bJ (by rw[pV,List.length_map];omega),?_⟩
 refine comp_map (g:=fun d=>match d with| .tup [.int a,.int c]=> .int (a+(y3-3)*c)|_=> .aM) (aI s6 rfl rfl) _ (fun d hd K' q=>?_) ?_
 . obtain⟨a,c,_,_,rfl⟩:=tQ hd;exact⟨_,rfl,fV (h_ (by omega) (by omega)) (gO q)⟩
 rw[Gn];refine cM rfl ⟨bJ (by show 1<=1000;omega),sr (bJ (by rw[List.length_map];show _+1<=1000;omega)) (pd e6 (by rw[sizeLine_eq];show 3<_;omega) ?_)⟩
 have ea:D.tup (A.map bG++[D.tup (aH (List.zipWith (fun a b=>a+(y3-3)*b) (A.getD i []) (A.getD j [])))])=av (A++[List.zipWith (fun a b=>a+(y3-3)*b) (A.getD i []) (A.getD j [])]):=by
  show _=D.tup ((A++[_]).map bG);rw[List.map_append];rfl
 rw[ea];obtain⟨e7,B7,XU7,o7⟩:=push e6 B6 XU6 o (Ih (c:=y3-3) dr hi hj (by omega) (by omega));generalize s6.set m _=s7 at e7 B7 XU7⊢;refine q_ (by rfl) e7 ?_;refine⟨bJ (by show 1<=1000;omega),?_⟩;refine dG rfl ?_;rw[List.length_map,ri];refine Hw ⟨by omega,by omega,bJ (by show 1*_<=1000;omega)⟩ ?_;rw[Int.toNat_natCast,yN];refine⟨bJ (by show 1<=1000;omega),sr (bJ (by rw[List.length_map];show 1+_<=1000;omega)) (pd e7 (by rw[sizeLine_eq];show 4<_;omega) ?_)⟩;have eb:D.tup ([D.tup (aH (List.replicate w 0))]++A.map bG)=av (List.replicate w 0::A):=rfl;rw[eb];obtain⟨e8,B8,XU8,o8⟩:=push e7 B7 XU7 o7 (Gr dr);generalize s7.set m _=s8 at e8 B8 XU8⊢;refine q_ (by rfl) e8 ?_;refine kq ⟨bJ (by rw[List.length_map];omega),?_⟩;refine md bG (fun r=>bG (r++[0])) A trivial (fun r hr K' z=>⟨_,rfl,?_⟩) ?_
 . refine⟨bJ (by show 1<=1000;omega),sr (bJ (by rw[List.length_map,dr.is.fN r hr];show _+1<=1000;omega)) ?_⟩;have:D.tup (aH r++[D.int 0])=bG (r++[0]):=by rw[ints_app]
   rw[this];exact z
 refine cM rfl (pd e8 (by rw[sizeLine_eq];show 5<_;omega) ?_)
 have ec:D.tup (A.map fun r=>bG (r++[0]))=av (A.map (· ++[0])):=by
  show _=D.tup ((A.map (· ++[0])).map bG);rw[List.map_map];rfl
 rw[ec];obtain⟨e9,B9,XU9,o9⟩:=push e8 B8 XU8 o8 (H_ dr);generalize s8.set m _=s9 at e9 B9 XU9⊢;refine q_ (by rfl) e9 ?_;refine Hb ⟨bJ (by rw[List.length_reverse,List.length_map];omega),?_⟩;rw[<-List.map_reverse];refine md bG (fun r=>bG r.reverse) A.reverse trivial (fun r hr K' z=>⟨_,rfl,?_⟩) ?_
 . have lr:=dr.is.fN r (List.mem_reverse.mp hr);refine Ly (by rw[List.length_map];omega) ?_
   have:D.tup (aH r).reverse=bG r.reverse:=by
    show D.tup (r.map D.int).reverse=D.tup (r.reverse.map D.int);rw[List.map_reverse]
   rw[this];exact z
 refine cM rfl (pd e9 (by rw[sizeLine_eq];show 6<_;omega) ?_)
 have ed:D.tup (A.reverse.map fun r=>bG r.reverse)=av (A.reverse.map List.reverse):=by
  show _=D.tup ((A.reverse.map List.reverse).map bG);rw[List.map_map];rfl
 rw[ed];obtain⟨e10,B10,XU10,o10⟩:=push e9 B9 XU9 o9 (J3 dr);generalize s9.set m _=s10 at e10 B10 XU10⊢;refine IP rfl e10 ?_;exact k _ _ (by show 7<=100;omega) o10 ((B10.cell (List.getElem?_set_ne mn)).mono (by omega)) (XU10.set lm)
abbrev F3:cV:=DB JZ
def xp:List Str:=["_law_script","_law_source_here","_law_rows","_law_numbers","_law_made","_law_by","_law_more"]
def KR:DS:=(aP (cv 1 (aL nR (ae (ab 0) (ae (dC (.int 0)) ak))))
 (aP (cv 2 (aL kg (ae (ab 1) ak)))
 (aP (cv 3 (aE bN (aL jB (ae (ab 2) ak)) (dC (.int 0))))
 (aP (lF (fx (aL nN (ae (ab 1) (ae (ab 2) ak)))) (cj 4) (ki (ef (aE uc (aE bN (aL jB (ae (ab 4) ak)) (dC (.int 0))) (ab 3))) (dJ (dC (.bl false))) j5))
 (aP (cv 5 (aE bN (vL (ae (dC (.int 2)) (ae (oa jK (dC (.int 1))) (ae (oa jK (dC (.int 3))) (ae (dC (.int 7)) (ae (dC (.int 12)) (ae (dC (.int 30)) ak))))))) (aL cA (ae (ab 1) (ae (dC (.int 6)) ak)))))
 (aP (cv 6 (cy c7 (ae (dz (fx (ab 2)) [none,some 5] (cj 0) cB (cy c7 (ae (dz (fx (ab 0)) [none,some 1] (cj 0) cB (aE eW (ab 1) (ab 0))) ak))) ak)))
 (aP (ki (ef (aE uc (aE bN (aL jB (ae (ab 6) ak)) (dC (.int 0))) (cy c7 (ae (dz (fx (ab 3)) [none,some 5] (cj 0) cB (aE eW (cy vm (ae (ab 1) ak)) (ab 0))) ak)))) (dJ (dC (.bl false))) j5)
 (dJ (Bm (aE qZ (cy fm (ae (ab 2) ak)) (dC (.int 4))) (aE mR (aE bN (aL jB (ae (aE fL (ab 6) (ab 2)) ak)) (dC (.int 0))) (ab 3)))))))))))
theorem zT{A B L Lb R Rb A' B' L' Lb' R' Rb':List (List Int)}{N w r N' w' r':Nat}(dv:Dv A B L Lb R Rb N w r)(dv':Dv A' B' L' Lb' R' Rb' N' w' r')(e:Mx.ff A N w A' N' w'):dg B' r'=dg B r:=by
 have h1:Mx.Ch B N w r:=⟨dv.lo,dv.dg,dv.ch⟩
 have h2:Mx.Ch B' N' w' r':=⟨dv'.lo,dv'.dg,dv'.ch⟩
 obtain⟨er,eq⟩:=h1.same h2 fun k d=>(dv.sd.mn k d).symm.trans ((e k d).trans (dv'.sd.mn k d));subst er;unfold dg;exact List.map_congr_left fun q hq=>(eq q (List.mem_range.mp hq)).symm
theorem D5{A B L Lb R Rb A' B' L' Lb' R' Rb':List (List Int)}{N w r r':Nat}{c:Int}(c0:c≠0)(dv:Dv A B L Lb R Rb N w r)(dv':Dv A' B' L' Lb' R' Rb' N w r')(e:∀i j,i<N->j<w->Mx.g A' i j=c*Mx.g A i j):dg B' r'=(dg B r).map fun x=>((c.natAbs:Nat):Int)*x:=by
 have h1:Mx.Ch B N w r:=⟨dv.lo,dv.dg,dv.ch⟩
 have h2:Mx.Ch B' N w r':=⟨dv'.lo,dv'.dg,dv'.ch⟩
 obtain⟨er,eq⟩:=h1.scale h2 (c:=((c.natAbs:Nat):Int)) (by omega) fun k d=>(dv'.sd.mn k d).symm.trans ((Mx.EF c0 e fun d=>(dv.sd.mn k d).trans (h1.mn k d)).trans Mx.Gm);subst er;unfold dg;rw[List.map_map];exact List.map_congr_left fun q hq=>eq q (List.mem_range.mp hq)
theorem pq{n:Nat}{r:List Int}:pl (n+1) (bG r)=true:=by
 unfold pl;exact Gv
theorem LV{i:Nat}(h:i<6):∃c:Int,eQ [D.int 2,D.int (-1),D.int (-3),D.int 7,D.int 12,D.int 30] (i:Int)=some (.int c)/\c≠0/\ -30<=c/\c<=30:=by
 match i,h with
 |0,_=>exact⟨2,rfl,by decide,by decide,by decide⟩
 |1,_=>exact⟨-1,rfl,by decide,by decide,by decide⟩
 |2,_=>exact⟨-3,rfl,by decide,by decide,by decide⟩
 |3,_=>exact⟨7,rfl,by decide,by decide,by decide⟩
 |4,_=>exact⟨12,rfl,by decide,by decide,by decide⟩
 |5,_=>exact⟨30,rfl,by decide,by decide,by decide⟩
theorem xi{C A:List (List Int)}{N i x:Nat}(hC:C.length=N):Mx.g (C++A) i x=if i<N then Mx.g C i x else Mx.g A (i-N) x:=by
 unfold Mx.g;by_cases h1:i<N
 . have:(C++A).getD i []=C.getD i []:=by rw[List.getD_eq_getElem?_getD,List.getElem?_append_left (by omega),<-List.getD_eq_getElem?_getD]
   rw[if_pos h1,this]
 . have:(C++A).getD i []=A.getD (i-N) []:=by rw[List.getD_eq_getElem?_getD,List.getElem?_append_right (by omega),hC,<-List.getD_eq_getElem?_getD]
   rw[if_neg h1,this]
theorem IT:∀ds st K,F3 ds st K->ds.length=1/\KR {nx:=fun _ st'=>K .aM st',rt:=K} (bj xp ds) st:=by
 rintro ds st K ⟨ns,rfl,hl,hst,k⟩;refine⟨rfl,?_⟩;have t0:st[0]?=some (eF false):=by rw[hst];rfl
 clear hst;have l0:=(List.getElem?_eq_some_iff.mp t0).1;refine⟨ns,0,rfl,by omega,hl,fun st1 B1 X1=>?_⟩;refine⟨_,_,rfl,B1,by decide,fun st2 A N w dr B2 X2=>?_⟩;have nz:st.length≠0:=by omega
 have t1:st1[0]?=some (eF false):=(X1.same 0 l0).trans t0;have t2:st2[0]?=some (eF false):=(X2.same 0 (List.getElem?_eq_some_iff.mp t1).1 (Ne.symm nz)).trans t1;have n1:=dr.n1;have n7:=dr.n7;have w1:=dr.w1;have w7:=dr.w7;have lA:=dr.is.len;have sm:Mx.Ge A N w:=⟨.inl n7,fun i j hi hj=>Nat.le_trans (iG dr.is dr.bd i j hi hj) (by decide)⟩
 refine⟨_,A,N,w,false,rfl,fun _=>cO,dr.is,n1,w1,by omega,by omega,sm,t2,fun st3 B L Lb R Rb r dv K3=>aU rfl rfl ?_⟩;obtain⟨f3,t3⟩:=K3.tb;have B3:=B2.cell (K3.fr _ B2.lt nz);refine⟨_,_,A,N,w,rfl,B3,by decide,dr,fun st4 Ms lM oM B4 X4=>?_⟩;have t4:st4[0]?=some (eF f3):=(X4.same 0 (List.getElem?_eq_some_iff.mp t3).1 (Ne.symm nz)).trans t3;refine zZ ?_;refine nA (fun rest σ s=>∃(Ms:List (List (List Int))) (v4:Option D) (f:Bool),rest=Ms.map av/\(∀M∈Ms,Ot A N w M)/\σ=[some (.lst (ns.map .int)),some (.ref st.length),some (av A),some (bG (dg B r)),v4,none,none]/\s[0]?=some (eF f)/\Bx s st.length 10000) ?_ ?_ _ _ _ ⟨Ms,none,f3,rfl,oM,rfl,t4,B4.mono (by decide)⟩
 . clear t4 B4 t3 B3;rintro σ st5 ⟨_,v4,f,_,_,rfl,t5,B5⟩;refine⟨trivial,?_⟩;refine ji (ji ⟨Nat.le_of_ble_eq_true rfl,?_⟩);refine⟨st.length,6,_,rfl,B5,by decide,by decide,by decide,fun y st6 y0 y1 B6 U6=>?_⟩;obtain⟨i,rfl⟩:=Int.eq_ofNat_of_zero_le y0;obtain⟨c,ec,c0,c1,c2⟩:=LV (i:=i) (by omega);refine aU rfl ec ?_;have t6:st6[0]?=some (eF f):=(U6.same 0 (Ne.symm nz)).trans t5;refine kq ⟨bJ (by rw[List.length_map];omega),?_⟩;refine md bG (fun r=>bG (r.map fun x=>c*x)) A trivial (fun r hr K' z=>⟨_,rfl,?_⟩) ?_
   . refine kq ⟨bJ (by rw[List.length_map,dr.is.fN r hr];omega),?_⟩;refine md D.int (fun x=>D.int (c*x)) r trivial (fun x hx K2 z2=>⟨_,rfl,fV (h_ (by omega) (by omega)) z2⟩) (cM rfl ?_)
     have e:bG (r.map fun x=>c*x)= .tup (r.map fun x=>D.int (c*x)):=by
      show D.tup ((r.map fun x=>c*x).map D.int)=_;rw[List.map_map];rfl
     rw[e]at z;exact z
   refine cM rfl ?_
   have eC:D.tup (A.map fun r=>bG (r.map fun x=>c*x))=av (A.map fun r=>r.map fun x=>c*x):=by
    show _=D.tup ((A.map fun r=>r.map fun x=>c*x).map bG);rw[List.map_map];rfl
   rw[eC];have lC:(A.map fun r=>r.map fun x=>c*x).length=N:=by rw[List.length_map,lA]
   have iC:Mx.aJ N w (A.map fun r=>r.map fun x=>c*x):=⟨lC,fun r hr=>by
    obtain⟨s,hs,rfl⟩:=List.mem_map.mp hr;rw[List.length_map];exact dr.is.fN s hs⟩
   have gC:∀i j,i<N->j<w->Mx.g (A.map fun r=>r.map fun x=>c*x) i j=c*Mx.g A i j:=fun i j hi hj=>by
    have hr:=dr.is.row hi;rw[xf lA hi,Mx.a7 (by rw[List.length_map];omega),List.getElem_map];unfold Mx.g;rw[Mx.a7 (l:=A.getD i []) (by omega)]
   have bC:∀i j,i<N->j<w->(Mx.g (A.map fun r=>r.map fun x=>c*x) i j).natAbs<=2^46:=fun i j hi hj=>by
    rw[gC i j hi hj,Int.natAbs_mul];have a1:c.natAbs<=30:=by omega
    exact Nat.le_trans (Nat.mul_le_mul a1 (iG dr.is dr.bd i j hi hj)) (by decide)
   generalize(A.map fun r=>r.map fun x=>c*x)=C at lC iC gC bC⊢;refine⟨_,C,N,w,f,rfl,fun _=>cO,iC,n1,w1,by omega,by omega,⟨.inl n7,bC⟩,t6,fun st7 B' L' Lb' R' Rb' r' dv' K7=>aU rfl rfl ?_⟩;obtain⟨f7,t7⟩:=K7.tb;rw[D5 c0 dv dv' gC];have rN:=dv.lo.rN;refine kq ⟨bJ (by rw[List.length_map,CI];omega),?_⟩;refine md D.int (fun x=>D.int (((c.natAbs:Nat):Int)*x)) (dg B r) trivial (fun x hx K2 z2=>⟨_,rfl,BV (fV (h_ (by omega) (by omega)) z2)⟩) (cM rfl ?_)
   have e:D.tup ((dg B r).map fun x=>D.int (((c.natAbs:Nat):Int)*x))=bG ((dg B r).map fun x=>((c.natAbs:Nat):Int)*x):=by
    show _=D.tup (((dg B r).map fun x=>((c.natAbs:Nat):Int)*x).map D.int);rw[List.map_map];rfl
   rw[e];refine yg pq ?_;refine dG rfl ?_;rw[List.length_map,lA];refine Jl (fun h=>?_) fun h=>?_
   . exact k st7
   . refine sr (bJ (by rw[List.length_map,List.length_map];omega)) ?_
     have e2:D.tup (C.map bG++A.map bG)=av (C++A):=by
      show _=D.tup ((C++A).map bG);rw[List.map_append]
     rw[e2]
     have i2:Mx.aJ (N+N) w (C++A):=⟨by rw[List.length_append,lC,lA],fun r hr=>by
      rcases List.mem_append.mp hr with h|h
      . exact iC.fN r h
      . exact dr.is.fN r h⟩
     refine⟨_,C++A,N+N,w,f7,rfl,fun _=>cO,i2,by omega,w1,by omega,by omega,⟨.inr w7,fun i j hi hj=>?_⟩,t7,fun st8 B2 L2 Lb2 R2 Rb2 r2 dv2 K8=>aU rfl rfl ?_⟩
     . rw[xi lC];by_cases h1:i<N
       . rw[if_pos h1];exact bC i j h1 hj
       . rw[if_neg h1];exact sm.2 (i-N) j (by omega) hj
     . have eq:Mx.ff A N w (C++A) (N+N) w:=Mx.ff.more (σ:=fun i=>N+i) (fun i hi=>by
        by_cases h1:i<N
        . exact(Mx.aR.smul c (Mx.aR.row h1)).eq fun x hx=>by rw[xi lC,if_pos h1,gC i x h1 hx]
        . exact(Mx.aR.row (show i-N<N by omega)).eq fun x hx=>by rw[xi lC,if_neg h1]) (fun i hi=>by omega) fun i j hi hj=>by rw[xi lC,if_neg (by omega),Nat.add_sub_cancel_left]
       rw[zT dv dv2 eq];refine Bu pq pq ?_;rw[p_ 40 _ pq];exact k st8
 . rintro d rest σ st5 ⟨Ms',v4,f,hr,oM',rfl,t5,B5⟩ next
   cases Ms' with
   |nil=>cases hr
   |cons M Ms'=>
    rw[List.map_cons]at hr;simp only[List.cons.injEq]at hr;obtain⟨rfl,rfl⟩:=hr;refine⟨trivial,_,rfl,?_⟩;obtain⟨N',w',iM,a1,a2,a3,a4,a5,a6⟩:=oM' M List.mem_cons_self;refine⟨_,M,N',w',f,rfl,fun _=>cO,iM,a1,a2,a3,a4,a5,t5,fun st6 B' L' Lb' R' Rb' r' dv' K6=>aU rfl rfl ?_⟩;obtain⟨f6,t6⟩:=K6.tb;rw[zT dv dv' a6];refine yg pq ?_;exact next _ _ ⟨Ms',_,f6,rfl,fun M hM=>oM' M (List.mem_cons_of_mem _ hM),rfl,t6,B5.cell (K6.fr _ B5.lt nz)⟩
end Prog
namespace Row
open PySem L2 L3 Prog
open PySem.Spec hiding items?
open PyProof.Rows hiding St
theorem cN:(("tuple":Str))≠"__name__":=by decide+kernel
theorem dH:(("len":Str))≠"__name__":=by decide+kernel
theorem nr:(("list":Str))≠"__name__":=by decide+kernel
theorem C8:(("abs":Str))≠"__name__":=by decide+kernel
theorem IU:(("all":Str))≠"__name__":=by decide+kernel
theorem Kr:(("min":Str))≠"__name__":=by decide+kernel
theorem Ke:(("int":Str))≠"__name__":=by decide+kernel
structure Bl(mg:Str->Option Value):Prop where
 cX:mg "tuple"=none
 xw:mg "zip"=none
 eV:mg "len"=none
 fS:mg "range"=none
 oO:mg "list"=none
 Fj:mg "abs"=none
 DU:mg "sorted"=none
 tE:mg "enumerate"=none
 LN:mg "all"=none
 Mp:mg "min"=none
 LY:mg "int"=none
 uq:mg "reversed"=none
structure Kl(K:PySem.W.Frag)(mg:Str->Option Value):Prop where
 a9:ClsAt K mg "Bench" az
 aN:ClsAt K mg "Sides" aC
 bU:dW K az "body"
 eG:dW K az "turn"
 cq:dW K az "back_columns"
 nL:dW K aC "many"
 fo:dW K aC "wide"
 c9:dW K aC "body"
 kR:dW K aC "left"
 g6:dW K aC "left_back"
 j8:dW K aC "right"
 gG:dW K aC "right_back"
theorem qV:VS (ai jf) oj ["tuple"]:=⟨by decide+kernel⟩
theorem A9:ba oj ["rows"] (ai jf):=⟨rfl,rfl,rfl,by decide+kernel,rfl,by decide+kernel,by decide+kernel⟩
theorem vx:VS (ai lH) sj ["zip"]:=⟨by decide+kernel⟩
theorem D8:ba sj ["row","times","other"] (ai lH):=⟨rfl,rfl,rfl,by decide+kernel,rfl,by decide+kernel,by decide+kernel⟩
theorem eM:VS (ai lu) pK ["zip","added","tuple"]:=⟨by decide+kernel⟩
theorem oi:ba pK ["weights","rows","wide"] (ai lu):=⟨rfl,rfl,rfl,by decide+kernel,rfl,by decide+kernel,by decide+kernel⟩
theorem jl:VS (ai js) og ["len","tuple"]:=⟨by decide+kernel⟩
theorem u_:ba og ["one","other"] (ai js):=⟨rfl,rfl,rfl,by decide+kernel,rfl,by decide+kernel,by decide+kernel⟩
theorem tU:VS (ai kh) pZ ["tuple"]:=⟨by decide+kernel⟩
theorem BP:ba pZ ["rows","place"] (ai kh):=⟨rfl,rfl,rfl,by decide+kernel,rfl,by decide+kernel,by decide+kernel⟩
theorem jX:VS (ai fE) jW ["range","tuple"]:=⟨by decide+kernel⟩
theorem vp:ba jW ["rows","wide"] (ai fE):=⟨rfl,rfl,rfl,by decide+kernel,rfl,by decide+kernel,by decide+kernel⟩
theorem m_:VS (ai iz) m6 ["range","tuple"]:=⟨by decide+kernel⟩
theorem zp:ba m6 ["n","place"] (ai iz):=⟨rfl,rfl,rfl,by decide+kernel,rfl,by decide+kernel,by decide+kernel⟩
theorem lP:VS (ai gY) lR ["range","tuple"]:=⟨by decide+kernel⟩
theorem yL:ba lR ["n"] (ai gY):=⟨rfl,rfl,rfl,by decide+kernel,rfl,by decide+kernel,by decide+kernel⟩
theorem jg:VS (ai d7) gR []:=⟨by decide+kernel⟩
theorem i3:ba gR ["top","bottom"] (ai d7):=⟨rfl,rfl,rfl,by decide+kernel,rfl,by decide+kernel,by decide+kernel⟩
theorem df:VS (ai iS) lO ["list"]:=⟨by decide+kernel⟩
theorem qK:ba lO ["rows","k","other"] (ai iS):=⟨rfl,rfl,rfl,by decide+kernel,rfl,by decide+kernel,by decide+kernel⟩
theorem Cw:VS (ai jj) oy []:=⟨by decide+kernel⟩
theorem Ar:ba oy ["row"] (ai jj):=⟨rfl,rfl,rfl,by decide+kernel,rfl,by decide+kernel,by decide+kernel⟩
theorem bI:VS (ai c6) iq ["len","unit_rows"]:=⟨by decide+kernel⟩
theorem sZ:ba iq ["self","rows"] (ai c6):=⟨rfl,rfl,rfl,by decide+kernel,rfl,by decide+kernel,by decide+kernel⟩
theorem aZ:VS (ai ib) k6 ["added"]:=⟨by decide+kernel⟩
theorem wL:ba k6 ["self","k","times","other"] (ai ib):=⟨rfl,rfl,rfl,by decide+kernel,rfl,by decide+kernel,by decide+kernel⟩
theorem bc:VS (ai fb) iw ["exchanged"]:=⟨by decide+kernel⟩
theorem sX:ba iw ["self","k","other"] (ai fb):=⟨rfl,rfl,rfl,by decide+kernel,rfl,by decide+kernel,by decide+kernel⟩
theorem aQ:VS (ai dO) f_ ["negated"]:=⟨by decide+kernel⟩
theorem pS:ba f_ ["self","k"] (ai dO):=⟨rfl,rfl,rfl,by decide+kernel,rfl,by decide+kernel,by decide+kernel⟩
theorem dh:VS (ai di) gZ ["len","range","sorted"]:=⟨by decide+kernel⟩
theorem mi:ba gZ ["self","top","place"] (ai di):=⟨rfl,rfl,rfl,by decide+kernel,rfl,by decide+kernel,by decide+kernel⟩
theorem ay:VS (ai fR) jx ["len","nearest_quotient"]:=⟨by decide+kernel⟩
theorem gS:ba jx ["self","top","place"] (ai fR):=⟨rfl,rfl,rfl,by decide+kernel,rfl,by decide+kernel,by decide+kernel⟩
theorem bO:VS (ai dQ) gc ["range"]:=⟨by decide+kernel⟩
theorem fM:ba gc ["self","top","place"] (ai dQ):=⟨rfl,rfl,rfl,by decide+kernel,rfl,by decide+kernel,by decide+kernel⟩
theorem a_:VS (ai jy) ni ["Bench","len","range","turned_over","as_rows"]:=⟨by decide+kernel⟩
theorem iN:ba ni ["rows"] (ai jy):=⟨rfl,rfl,rfl,by decide+kernel,rfl,by decide+kernel,by decide+kernel⟩
theorem aF:VS (ai eX) iD ["len","unit_rows"]:=⟨by decide+kernel⟩
theorem sN:ba iD ["self","rows"] (ai eX):=⟨rfl,rfl,rfl,by decide+kernel,rfl,by decide+kernel,by decide+kernel⟩
theorem bD:VS (ai eN) g0 ["product"]:=⟨by decide+kernel⟩
theorem qJ:ba g0 ["self","turn","back"] (ai eN):=⟨rfl,rfl,rfl,by decide+kernel,rfl,by decide+kernel,by decide+kernel⟩
theorem bo:VS (ai d6) gF ["product"]:=⟨by decide+kernel⟩
theorem qx:ba gF ["self","turn","back"] (ai d6):=⟨rfl,rfl,rfl,by decide+kernel,rfl,by decide+kernel,by decide+kernel⟩
theorem dq:VS (ai d9) gB ["standing"]:=⟨by decide+kernel⟩
theorem la:ba gB ["self"] (ai d9):=⟨rfl,rfl,rfl,by decide+kernel,rfl,by decide+kernel,by decide+kernel⟩
theorem aT:VS (ai dk) fA ["turned_over","standing"]:=⟨by decide+kernel⟩
theorem jO:ba fA ["self"] (ai dk):=⟨rfl,rfl,rfl,by decide+kernel,rfl,by decide+kernel,by decide+kernel⟩
theorem gq:VS (ai fG) j6 ["enumerate","all"]:=⟨by decide+kernel⟩
theorem oZ:ba j6 ["rows"] (ai fG):=⟨rfl,rfl,rfl,by decide+kernel,rfl,by decide+kernel,by decide+kernel⟩
theorem e_:VS (ai fQ) jC ["is_diagonal"]:=⟨by decide+kernel⟩
theorem uC:ba jC ["self"] (ai fQ):=⟨rfl,rfl,rfl,by decide+kernel,rfl,by decide+kernel,by decide+kernel⟩
theorem cK:VS (ai eJ) i7 ["unit_rows","as_rows"]:=⟨by decide+kernel⟩
theorem nO:ba i7 ["n","k","place","number"] (ai eJ):=⟨rfl,rfl,rfl,by decide+kernel,rfl,by decide+kernel,by decide+kernel⟩
theorem cQ:VS (ai gn) jU ["unit_rows_but"]:=⟨by decide+kernel⟩
theorem vh:ba jU ["self","k","other"] (ai gn):=⟨rfl,rfl,rfl,by decide+kernel,rfl,by decide+kernel,by decide+kernel⟩
theorem cS:VS (ai fY) kP ["len","min","range","tuple"]:=⟨by decide+kernel⟩
theorem qf:ba kP ["body"] (ai fY):=⟨rfl,rfl,rfl,by decide+kernel,rfl,by decide+kernel,by decide+kernel⟩
theorem a8:VS (ai ju) mT ["Sides","numbers_of","len","range"]:=⟨by decide+kernel⟩
theorem jP:ba mT ["rows"] (ai ju):=⟨rfl,rfl,rfl,by decide+kernel,rfl,by decide+kernel,by decide+kernel⟩
theorem cp:VS (ai h8) kF ["len","int"]:=⟨by decide+kernel⟩
theorem mI:ba kF ["_law_script","_law_k"] (ai h8):=⟨rfl,rfl,rfl,by decide+kernel,rfl,by decide+kernel,by decide+kernel⟩
theorem cu:VS (ai jA) mZ []:=⟨by decide+kernel⟩
theorem lS:ba mZ ["_law_source_here","_law_many"] (ai jA):=⟨rfl,rfl,rfl,by decide+kernel,rfl,by decide+kernel,by decide+kernel⟩
theorem aq:VS (ai dY) kL ["_law_take","range","len","zip","tuple"]:=⟨by decide+kernel⟩
theorem fF:ba kL ["_law_source_here","_law_rows"] (ai dY):=⟨rfl,rfl,rfl,by decide+kernel,rfl,by decide+kernel,by decide+kernel⟩
theorem jv:VS (ai iy) nc ["len","range","tuple"]:=⟨by decide+kernel⟩
theorem zB:ba nc ["_law_rows"] (ai iy):=⟨rfl,rfl,rfl,by decide+kernel,rfl,by decide+kernel,by decide+kernel⟩
theorem aw:VS (ai cz) ip ["_law_take","range","tuple"]:=⟨by decide+kernel⟩
theorem dN:ba ip ["_law_source_here"] (ai cz):=⟨rfl,rfl,rfl,by decide+kernel,rfl,by decide+kernel,by decide+kernel⟩
theorem ao:VS (ai eL) kW ["_law_turned","_law_over","len","_law_take","zip","tuple","reversed"]:=⟨by decide+kernel⟩
theorem gu:ba kW ["_law_source_here","_law_rows"] (ai eL):=⟨rfl,rfl,rfl,by decide+kernel,rfl,by decide+kernel,by decide+kernel⟩
theorem bV:VS (ai lK) xp ["_law_source","_law_small_rows","dividing","_law_others","_law_take","tuple","len"]:=⟨by decide+kernel⟩
theorem nE:ba xp ["_law_script"] (ai lK):=⟨rfl,rfl,rfl,by decide+kernel,rfl,by decide+kernel,by decide+kernel⟩
structure Ev(w:World)(mg:Str->Option Value)(h:Heap):Prop where
 X:(KX w.params).In h
 G:h.Ns mainGlobals mg
section
variable {w:World}{mg:Str->Option Value}{h base:Heap}(e:Ev w mg h)
include e
theorem Bt:Bl mg:=⟨PySem.W.mg_none_of e.X e.G (by kernel_rfl),PySem.W.mg_none_of e.X e.G (by kernel_rfl),PySem.W.mg_none_of e.X e.G (by kernel_rfl),PySem.W.mg_none_of e.X e.G (by kernel_rfl),PySem.W.mg_none_of e.X e.G (by kernel_rfl),PySem.W.mg_none_of e.X e.G (by kernel_rfl),PySem.W.mg_none_of e.X e.G (by kernel_rfl),PySem.W.mg_none_of e.X e.G (by kernel_rfl),PySem.W.mg_none_of e.X e.G (by kernel_rfl),PySem.W.mg_none_of e.X e.G (by kernel_rfl),PySem.W.mg_none_of e.X e.G (by kernel_rfl),PySem.W.mg_none_of e.X e.G (by kernel_rfl)⟩
theorem Qt:Kl (KX w.params) mg:=⟨⟨⟨by kernel_rfl,by kernel_rfl,by kernel_rfl,by kernel_rfl⟩,PySem.W.mg_of e.X e.G (by kernel_rfl),by kernel_rfl,by kernel_rfl⟩,⟨⟨by kernel_rfl,by kernel_rfl,by kernel_rfl,by kernel_rfl⟩,PySem.W.mg_of e.X e.G (by kernel_rfl),by kernel_rfl,by kernel_rfl⟩,Hd.na (by kernel_rfl),Hd.na (by kernel_rfl),Hd.na (by kernel_rfl),Hd.na (by kernel_rfl),Hd.na (by kernel_rfl),Hd.na (by kernel_rfl),Hd.na (by kernel_rfl),Hd.na (by kernel_rfl),Hd.na (by kernel_rfl),Hd.na (by kernel_rfl)⟩
theorem ou:c_ (KX w.params) mg "as_rows" "as_rows" jf ["rows"] 19 (Hd.fd jf "as_rows" "as_rows" i8 18):=Hd.tf e.X e.G (by kernel_rfl) fun _ _ _ _ _ _ _=>rfl
theorem qU:bH PW w (KX w.params) mg base cW 1 19 (Hd.fd jf "as_rows" "as_rows" i8 18) ["rows"] (c8 l7):=by
 have B:=Bt e;have Q:=Qt e;exact cH (N:=oj) (ou e).fn A9 (fun cdv A outer s H E hr=>(aK (cG (eR de (aa (dF (Nc:=["row"]) (bq.look (ai jf) ["rows"] (by decide+kernel)) (gy (qV.nm 0)) (fun _ _ _ _=>(d5 (show(["row"]:List Str).Nodup by decide+kernel) (by first|exact Or.inl rfl|exact Or.inr rfl) (by first|exact .inl rfl|exact .inr rfl))) (fun _ _ _ _=>cC) (fun _ _ _ _=>(eR de (aa cL aj) B.cX rfl cN (by decide+kernel) rfl)) cx) aj) B.cX rfl cN (qV.d 0) (qV.g 0))))) Az
theorem oU:c_ (KX w.params) mg "added" "added" lH ["row","times","other"] 24 (Hd.fd lH "added" "added" i8 23):=Hd.Jq e.X e.G (by kernel_rfl) fun _ _ _ _ _ _ _ _ _=>rfl
theorem sH:bH PW w (KX w.params) mg base cW 1 24 (Hd.fd lH "added" "added" i8 23) ["row","times","other"] (c8 nu):=by
 have B:=Bt e;have Q:=Qt e;exact cH (N:=sj) (oU e).fn D8 (fun cdv A outer s H E hr=>(aK (cG (dF (Nc:=["one","two","times"]) (bq.look (ai lH) ["row","times","other"] (by decide+kernel)) (xj (vx.g 0) B.xw (aa (vx.nm 0) (aa (vx.nm 2) aj))) (fun _ _ _ _=>(su rfl (show(["one","two","times"]:List Str).Nodup by decide+kernel) (by first|exact Or.inl rfl|exact Or.inr rfl) (by first|exact .inl rfl|exact .inr rfl) (by first|exact Or.inl rfl|exact Or.inr rfl) (by first|exact .inl rfl|exact .inr rfl))) (fun _ _ _ _=>cC) (fun _ _ _ _=>(cn gf cL (cn gL cL cL))) rX)))) DW
theorem yb:c_ (KX w.params) mg "sum_by" "sum_by" lu ["weights","rows","wide"] 31 (Hd.fd lu "sum_by" "sum_by" i8 30):=Hd.Jq e.X e.G (by kernel_rfl) fun _ _ _ _ _ _ _ _ _=>rfl
theorem EW:bH PW w (KX w.params) mg base cW 2 31 (Hd.fd lu "sum_by" "sum_by" i8 30) ["weights","rows","wide"] (c8 tT):=by
 have B:=Bt e;have Q:=Qt e
 exact cH (N:=pK) (yb e).fn oi (fun cdv A outer s H E hr=>(au (bK oi.nd (eM.l 3) (cn gL (xl (aa aB aj)) (eM.nm 2)))
  (au (k9 (xj (eM.g 0) B.xw (aa (eM.nm 0) (aa (eM.nm 1) aj))) (su rfl oi.nd (by first|exact Or.inl rfl|exact Or.inr rfl) (by first|exact .inl rfl|exact .inr rfl) (by first|exact Or.inl rfl|exact Or.inr rfl) (by first|exact .inl rfl|exact .inr rfl)) (aK (bK oi.nd (eM.l 3) (bx (oU e) (sH e) (hr.mono (by decide)) (aa (eM.nm 3) (aa (eM.nm 4) (aa (eM.nm 5) aj))) (eM.d 1) (eM.g 1)))))
  (aK (cG (eR de (aa (eM.nm 3) aj) B.cX rfl cN (eM.d 2) (eM.g 2))))))) Cj
theorem jh:c_ (KX w.params) mg "product" "product" js ["one","other"] 36 (Hd.fd js "product" "product" i8 35):=Hd.uv e.X e.G (by kernel_rfl) fun _ _ _ _ _ _ _ _=>rfl
theorem ko:bH PW w (KX w.params) mg base cW 3 36 (Hd.fd js "product" "product" i8 35) ["one","other"] (c8 il):=by
 have B:=Bt e;have Q:=Qt e
 exact cH (N:=og) (jh e).fn u_ (fun cdv A outer s H E hr=>(au (bK u_.nd (jl.l 2) (fv eS (aa (bp (jl.nm 1) aB) aj) B.eV rfl dH (jl.d 0) (jl.g 0)))
  (aK (cG (eR de (aa (dF (Nc:=["weights","other","wide"]) (bq.look (ai js) ["one","other","wide"] (by decide+kernel)) (gy (jl.nm 0)) (fun _ _ _ _=>(d5 (show(["weights","other","wide"]:List Str).Nodup by decide+kernel) (by first|exact Or.inl rfl|exact Or.inr rfl) (by first|exact .inl rfl|exact .inr rfl))) (fun _ _ _ _=>cC) (fun _ _ _ _=>(bx (yb e) (EW e) (hr.mono (by decide)) (aa cL (aa cL (aa cL aj))) (by decide+kernel) rfl)) cx) aj) B.cX rfl cN (jl.d 1) (jl.g 1)))))) AN
theorem zd:c_ (KX w.params) mg "column" "column" kh ["rows","place"] 41 (Hd.fd kh "column" "column" i8 40):=Hd.uv e.X e.G (by kernel_rfl) fun _ _ _ _ _ _ _ _=>rfl
theorem ET:bH PW w (KX w.params) mg base cW 1 41 (Hd.fd kh "column" "column" i8 40) ["rows","place"] (c8 tL):=by
 have B:=Bt e;have Q:=Qt e;exact cH (N:=pZ) (zd e).fn BP (fun cdv A outer s H E hr=>(aK (cG (eR de (aa (dF (Nc:=["row","place"]) (bq.look (ai kh) ["rows","place"] (by decide+kernel)) (gy (tU.nm 0)) (fun _ _ _ _=>(d5 (show(["row","place"]:List Str).Nodup by decide+kernel) (by first|exact Or.inl rfl|exact Or.inr rfl) (by first|exact .inl rfl|exact .inr rfl))) (fun _ _ _ _=>cC) (fun _ _ _ _=>(bp cL cL)) cx) aj) B.cX rfl cN (tU.d 0) (tU.g 0))))) Cr
theorem iI:c_ (KX w.params) mg "turned_over" "turned_over" fE ["rows","wide"] 46 (Hd.fd fE "turned_over" "turned_over" i8 45):=Hd.uv e.X e.G (by kernel_rfl) fun _ _ _ _ _ _ _ _=>rfl
theorem jV:bH PW w (KX w.params) mg base cW 2 46 (Hd.fd fE "turned_over" "turned_over" i8 45) ["rows","wide"] (c8 gj):=by
 have B:=Bt e;have Q:=Qt e;exact cH (N:=jW) (iI e).fn vp (fun cdv A outer s H E hr=>(aK (cG (eR de (aa (dF (Nc:=["place","rows"]) (bq.look (ai fE) ["rows","wide"] (by decide+kernel)) (fW (jX.g 0) B.fS (aa (jX.nm 1) aj)) (fun _ _ _ _=>(d5 (show(["place","rows"]:List Str).Nodup by decide+kernel) (by first|exact Or.inl rfl|exact Or.inr rfl) (by first|exact .inl rfl|exact .inr rfl))) (fun _ _ _ _=>cC) (fun _ _ _ _=>(bx (zd e) (ET e) (hr.mono (by decide)) (aa cL (aa cL aj)) (by decide+kernel) rfl)) cx) aj) B.cX rfl cN (jX.d 1) (jX.g 1))))) vS
theorem uV:c_ (KX w.params) mg "unit_row" "unit_row" iz ["n","place"] 51 (Hd.fd iz "unit_row" "unit_row" i8 50):=Hd.uv e.X e.G (by kernel_rfl) fun _ _ _ _ _ _ _ _=>rfl
theorem AK:bH PW w (KX w.params) mg base cW 1 51 (Hd.fd iz "unit_row" "unit_row" i8 50) ["n","place"] (c8 pR):=by
 have B:=Bt e;have Q:=Qt e;exact cH (N:=m6) (uV e).fn zp (fun cdv A outer s H E hr=>(aK (cG (eR de (aa (dF (Nc:=["k","place"]) (bq.look (ai iz) ["n","place"] (by decide+kernel)) (fW (m_.g 0) B.fS (aa (m_.nm 0) aj)) (fun _ _ _ _=>(d5 (show(["k","place"]:List Str).Nodup by decide+kernel) (by first|exact Or.inl rfl|exact Or.inr rfl) (by first|exact .inl rfl|exact .inr rfl))) (fun _ _ _ _=>cC) (fun _ _ _ _=>(Fh (g7 (rG hr) (dX _) cL cL) aB aB)) cx) aj) B.cX rfl cN (m_.d 1) (m_.g 1))))) zi
theorem fP:c_ (KX w.params) mg "unit_rows" "unit_rows" gY ["n"] 56 (Hd.fd gY "unit_rows" "unit_rows" i8 55):=Hd.tf e.X e.G (by kernel_rfl) fun _ _ _ _ _ _ _=>rfl
theorem gX:bH PW w (KX w.params) mg base cW 2 56 (Hd.fd gY "unit_rows" "unit_rows" i8 55) ["n"] (c8 fg):=by
 have B:=Bt e;have Q:=Qt e;exact cH (N:=lR) (fP e).fn yL (fun cdv A outer s H E hr=>(aK (cG (eR de (aa (dF (Nc:=["place","n"]) (bq.look (ai gY) ["n"] (by decide+kernel)) (fW (lP.g 0) B.fS (aa (lP.nm 0) aj)) (fun _ _ _ _=>(d5 (show(["place","n"]:List Str).Nodup by decide+kernel) (by first|exact Or.inl rfl|exact Or.inr rfl) (by first|exact .inl rfl|exact .inr rfl))) (fun _ _ _ _=>cC) (fun _ _ _ _=>(bx (uV e) (AK e) (hr.mono (by decide)) (aa cL (aa cL aj)) (by decide+kernel) rfl)) cx) aj) B.cX rfl cN (lP.d 1) (lP.g 1))))) xU
theorem mj:c_ (KX w.params) mg "nearest_quotient" "nearest_quotient" d7 ["top","bottom"] 63 (Hd.fd d7 "nearest_quotient" "nearest_quotient" fI 62):=Hd.uv e.X e.G (by kernel_rfl) fun _ _ _ _ _ _ _ _=>rfl
theorem rm:bH PW w (KX w.params) mg base cW 1 63 (Hd.fd d7 "nearest_quotient" "nearest_quotient" fI 62) ["top","bottom"] (c8 jb):=by
 have B:=Bt e;have Q:=Qt e;exact cH (N:=gR) (mj e).fn i3 (fun cdv A outer s H E hr=>(aK (cG (cn (Ad hr rfl i3.gen i3.co) (cn gf (cn gL aB (jg.nm 0)) (jg.nm 1)) (cn gL aB (jg.nm 1)))))) qo
theorem lT:c_ (KX w.params) mg "exchanged" "exchanged" iS ["rows","k","other"] 70 (Hd.fd iS "exchanged" "exchanged" fI 69):=Hd.Jq e.X e.G (by kernel_rfl) fun _ _ _ _ _ _ _ _ _=>rfl
theorem oH:bH PW w (KX w.params) mg base cW 1 70 (Hd.fd iS "exchanged" "exchanged" fI 69) ["rows","k","other"] (c8 jQ):=by
 have B:=Bt e;have Q:=Qt e
 exact cH (N:=lO) (lT e).fn qK (fun cdv A outer s H E hr=>(au (bK qK.nd (df.l 3) (eR zS (aa (df.nm 0) aj) B.oO rfl nr (df.d 0) (df.g 0)))
  (au (fT (bp (df.nm 0) (df.nm 2)) (df.nm 3) (df.nm 1))
  (au (fT (bp (df.nm 0) (df.nm 1)) (df.nm 3) (df.nm 2))
  (aK (cG (df.nm 3))))))) xN
theorem oo:c_ (KX w.params) mg "negated" "negated" jj ["row"] 75 (Hd.fd jj "negated" "negated" fI 74):=Hd.tf e.X e.G (by kernel_rfl) fun _ _ _ _ _ _ _=>rfl
theorem qP:bH PW w (KX w.params) mg base cW 1 75 (Hd.fd jj "negated" "negated" fI 74) ["row"] (c8 mm):=by
 have B:=Bt e;have Q:=Qt e;exact cH (N:=oy) (oo e).fn Ar (fun cdv A outer s H E hr=>(aK (cG (dF (Nc:=["number"]) (bq.look (ai jj) ["row"] (by decide+kernel)) (gy (Cw.nm 0)) (fun _ _ _ _=>(d5 (show(["number"]:List Str).Nodup by decide+kernel) (by first|exact Or.inl rfl|exact Or.inr rfl) (by first|exact .inl rfl|exact .inr rfl))) (fun _ _ _ _=>cC) (fun _ _ _ _=>(kJ cL)) cx)))) Br
theorem ir:MethAt (KX w.params) az "__init__" "Bench.__init__" c6 ["self","rows"] 87 (Hd.fd c6 "__init__" "Bench.__init__" fI 86):=Hd.Jh (by kernel_rfl) fun _ _ _ _ _ _ _ _=>rfl
theorem tM:bH PW w (KX w.params) mg base cW 3 87 (Hd.fd c6 "__init__" "Bench.__init__" fI 86) ["self","rows"] (c8 kc):=by
 have B:=Bt e;have Q:=Qt e
 exact cH (N:=iq) (ir e).fn sZ (fun cdv A outer s H E hr=>(au (dy Q.a9.cl Q.bU (bI.nm 0) (vt (Nc:=["row"]) (bq.look (ai c6) ["self","rows"] (by decide+kernel)) (gy (bI.nm 1)) (fun _ _ _ _=>(d5 (show(["row"]:List Str).Nodup by decide+kernel) (by first|exact Or.inl rfl|exact Or.inr rfl) (by first|exact .inl rfl|exact .inr rfl))) (fun _ _ _ _=>cC) (fun _ _ _ _=>(eR uM (aa cL aj) B.oO rfl nr (by decide+kernel) rfl)) cx))
  (au (dy Q.a9.cl Q.eG (bI.nm 0) (vt (Nc:=["row"]) (bq.look (ai c6) ["self","rows"] (by decide+kernel)) (gy (bx (fP e) (gX e) (hr.mono (by decide)) (aa (fv eS (aa (bI.nm 1) aj) B.eV rfl dH (bI.d 0) (bI.g 0)) aj) (bI.d 1) (bI.g 1))) (fun _ _ _ _=>(d5 (show(["row"]:List Str).Nodup by decide+kernel) (by first|exact Or.inl rfl|exact Or.inr rfl) (by first|exact .inl rfl|exact .inr rfl))) (fun _ _ _ _=>cC) (fun _ _ _ _=>(eR uM (aa cL aj) B.oO rfl nr (by decide+kernel) rfl)) cx))
  (aK (dy Q.a9.cl Q.cq (bI.nm 0) (vt (Nc:=["row"]) (bq.look (ai c6) ["self","rows"] (by decide+kernel)) (gy (bx (fP e) (gX e) (hr.mono (by decide)) (aa (fv eS (aa (bI.nm 1) aj) B.eV rfl dH (bI.d 0) (bI.g 0)) aj) (bI.d 1) (bI.g 1))) (fun _ _ _ _=>(d5 (show(["row"]:List Str).Nodup by decide+kernel) (by first|exact Or.inl rfl|exact Or.inr rfl) (by first|exact .inl rfl|exact .inr rfl))) (fun _ _ _ _=>cC) (fun _ _ _ _=>(eR uM (aa cL aj) B.oO rfl nr (by decide+kernel) rfl)) cx)))))) sY
theorem jc:MethAt (KX w.params) az "take" "Bench.take" ib ["self","k","times","other"] 94 (Hd.fd ib "take" "Bench.take" fI 93):=Hd.Oc (by kernel_rfl) fun _ _ _ _ _ _ _ _ _ _=>rfl
theorem qW:bH PW w (KX w.params) mg base cW 2 94 (Hd.fd ib "take" "Bench.take" fI 93) ["self","k","times","other"] (c8 kE):=by
 have B:=Bt e;have Q:=Qt e
 exact cH (N:=k6) (jc e).fn wL (fun cdv A outer s H E hr=>(au (fT (bx (oU e) (sH e) (hr.mono (by decide)) (aa (bp (bw Q.a9.cl Q.bU (aZ.nm 0)) (aZ.nm 1)) (aa (kJ (aZ.nm 2)) (aa (bp (bw Q.a9.cl Q.bU (aZ.nm 0)) (aZ.nm 3)) aj))) (aZ.d 0) (aZ.g 0)) (bw Q.a9.cl Q.bU (aZ.nm 0)) (aZ.nm 1))
  (au (fT (bx (oU e) (sH e) (hr.mono (by decide)) (aa (bp (bw Q.a9.cl Q.eG (aZ.nm 0)) (aZ.nm 1)) (aa (kJ (aZ.nm 2)) (aa (bp (bw Q.a9.cl Q.eG (aZ.nm 0)) (aZ.nm 3)) aj))) (aZ.d 0) (aZ.g 0)) (bw Q.a9.cl Q.eG (aZ.nm 0)) (aZ.nm 1))
  (aK (fT (bx (oU e) (sH e) (hr.mono (by decide)) (aa (bp (bw Q.a9.cl Q.cq (aZ.nm 0)) (aZ.nm 3)) (aa (aZ.nm 2) (aa (bp (bw Q.a9.cl Q.cq (aZ.nm 0)) (aZ.nm 1)) aj))) (aZ.d 0) (aZ.g 0)) (bw Q.a9.cl Q.cq (aZ.nm 0)) (aZ.nm 3)))))) wQ
theorem j_:MethAt (KX w.params) az "exchange" "Bench.exchange" fb ["self","k","other"] 101 (Hd.fd fb "exchange" "Bench.exchange" fI 100):=Hd.yA (by kernel_rfl) fun _ _ _ _ _ _ _ _ _=>rfl
theorem tY:bH PW w (KX w.params) mg base cW 2 101 (Hd.fd fb "exchange" "Bench.exchange" fI 100) ["self","k","other"] (c8 kb):=by
 have B:=Bt e;have Q:=Qt e
 exact cH (N:=iw) (j_ e).fn sX (fun cdv A outer s H E hr=>(au (dy Q.a9.cl Q.bU (bc.nm 0) (bx (lT e) (oH e) (hr.mono (by decide)) (aa (bw Q.a9.cl Q.bU (bc.nm 0)) (aa (bc.nm 1) (aa (bc.nm 2) aj))) (bc.d 0) (bc.g 0)))
  (au (dy Q.a9.cl Q.eG (bc.nm 0) (bx (lT e) (oH e) (hr.mono (by decide)) (aa (bw Q.a9.cl Q.eG (bc.nm 0)) (aa (bc.nm 1) (aa (bc.nm 2) aj))) (bc.d 0) (bc.g 0)))
  (aK (dy Q.a9.cl Q.cq (bc.nm 0) (bx (lT e) (oH e) (hr.mono (by decide)) (aa (bw Q.a9.cl Q.cq (bc.nm 0)) (aa (bc.nm 1) (aa (bc.nm 2) aj))) (bc.d 0) (bc.g 0))))))) sM
theorem iZ:MethAt (KX w.params) az "change_sign" "Bench.change_sign" dO ["self","k"] 108 (Hd.fd dO "change_sign" "Bench.change_sign" fI 107):=Hd.Jh (by kernel_rfl) fun _ _ _ _ _ _ _ _=>rfl
theorem qr:bH PW w (KX w.params) mg base cW 2 108 (Hd.fd dO "change_sign" "Bench.change_sign" fI 107) ["self","k"] (c8 i5):=by
 have B:=Bt e;have Q:=Qt e
 exact cH (N:=f_) (iZ e).fn pS (fun cdv A outer s H E hr=>(au (fT (bx (oo e) (qP e) (hr.mono (by decide)) (aa (bp (bw Q.a9.cl Q.bU (aQ.nm 0)) (aQ.nm 1)) aj) (aQ.d 0) (aQ.g 0)) (bw Q.a9.cl Q.bU (aQ.nm 0)) (aQ.nm 1))
  (au (fT (bx (oo e) (qP e) (hr.mono (by decide)) (aa (bp (bw Q.a9.cl Q.eG (aQ.nm 0)) (aQ.nm 1)) aj) (aQ.d 0) (aQ.g 0)) (bw Q.a9.cl Q.eG (aQ.nm 0)) (aQ.nm 1))
  (aK (fT (bx (oo e) (qP e) (hr.mono (by decide)) (aa (bp (bw Q.a9.cl Q.cq (aQ.nm 0)) (aQ.nm 1)) aj) (aQ.d 0) (aQ.g 0)) (bw Q.a9.cl Q.cq (aQ.nm 0)) (aQ.nm 1)))))) pY
theorem g5:MethAt (KX w.params) az "live_rows" "Bench.live_rows" di ["self","top","place"] 113 (Hd.fd di "live_rows" "Bench.live_rows" fI 112):=Hd.yA (by kernel_rfl) fun _ _ _ _ _ _ _ _ _=>rfl
theorem mP:bH PW w (KX w.params) mg base cW 3 113 (Hd.fd di "live_rows" "Bench.live_rows" fI 112) ["self","top","place"] (c8 g4):=by
 have B:=Bt e;have Q:=Qt e;have hC:PySem.W.codeHdIn (KX w.params) 112 110=true:=by kernel_rfl
 exact Ib (N:=gZ) (Hd.fc (by kernel_rfl)) mi (fun A outer s H E hr=>(au (GV mi.nd (dh.l 3) (Nc:=["k","self","place"]) (bq.look (ai di) ["self","top","place","live"] (by decide+kernel)) (yf (dh.g 1) B.fS (aa (dh.nm 1) (aa (fv eS (aa (bw Q.a9.cl Q.bU (dh.nm 0)) aj) B.eV rfl dH (dh.d 0) (dh.g 0)) aj))) (fun _ _ _ _=>(d5 (show(["k","self","place"]:List Str).Nodup by decide+kernel) (by first|exact Or.inl rfl|exact Or.inr rfl) (by first|exact .inl rfl|exact .inr rfl))) (fun _ _ _ _=>(Dj (g7 EX (dX _) (bp (bp (bw Q.a9.cl Q.bU cL) cL) cL) aB))) (fun _ _ _ _=>cL) cx)
  (aK (cG (Hf (c0:=112) (nh.look (Nc:=["k","self","place"]) (fr:=[none,some 0,some 2]) (p:="k") (bq.look (ai di) ["self","top","place","live"] (by decide+kernel))) rfl hr rfl hC (fun _ _ _ _=>(fv FA (aa (bp (bp (bw Q.a9.cl Q.bU cL) cL) cL) aj) B.Fj rfl C8 (by decide+kernel) rfl)) (dh.nm 3) (dh.g 2) B.DU))))) rK
theorem lD:MethAt (KX w.params) az "gather" "Bench.gather" fR ["self","top","place"] 120 (Hd.fd fR "gather" "Bench.gather" fI 119):=Hd.yA (by kernel_rfl) fun _ _ _ _ _ _ _ _ _=>rfl
theorem vD:bH PW w (KX w.params) mg base cW 4 120 (Hd.fd fR "gather" "Bench.gather" fI 119) ["self","top","place"] (c8 lJ):=by
 have B:=Bt e;have Q:=Qt e
 exact cH (N:=jx) (lD e).fn gS (fun cdv A outer s H E hr=>(au (bK gS.nd (ay.l 3) (iK (ay.nm 0) Q.a9.cl (g5 e).me (mP e) (hr.mono (by decide)) (g5 e).bd (aa (ay.nm 1) (aa (ay.nm 2) aj))))
  (au (yR (g7 Bb (dX _) (fv eS (aa (ay.nm 3) aj) B.eV rfl dH (ay.d 0) (ay.g 0)) aB) (au (bK gS.nd (ay.l 4) (bp (ay.nm 3) (kJ aB)))
  (au (bK gS.nd (ay.l 5) (bp (ay.nm 3) (kJ aB)))
  (au (dj (iK (ay.nm 0) Q.a9.cl (jc e).me (qW e) (hr.mono (by decide)) (jc e).bd (aa (ay.nm 4) (aa (bx (mj e) (rm e) (hr.mono (by decide)) (aa (bp (bp (bw Q.a9.cl Q.bU (ay.nm 0)) (ay.nm 4)) (ay.nm 2)) (aa (bp (bp (bw Q.a9.cl Q.bU (ay.nm 0)) (ay.nm 5)) (ay.nm 2)) aj)) (ay.d 1) (ay.g 1)) (aa (ay.nm 5) aj)))))
  (aK (bK gS.nd (ay.l 3) (iK (ay.nm 0) Q.a9.cl (g5 e).me (mP e) (hr.mono (by decide)) (g5 e).bd (aa (ay.nm 1) (aa (ay.nm 2) aj)))))))))
  (au (jY (g7 (rG hr) (dX _) (fv eS (aa (ay.nm 3) aj) B.eV rfl dH (ay.d 0) (ay.g 0)) aB) (aK (cG vP)) jR)
  (au (dj (iK (ay.nm 0) Q.a9.cl (j_ e).me (tY e) (hr.mono (by decide)) (j_ e).bd (aa (ay.nm 1) (aa (bp (ay.nm 3) aB) aj))))
  (au (jY (g7 Nd (dX _) (bp (bp (bw Q.a9.cl Q.bU (ay.nm 0)) (ay.nm 1)) (ay.nm 2)) aB) (aK (dj (iK (ay.nm 0) Q.a9.cl (iZ e).me (qr e) (hr.mono (by decide)) (iZ e).bd (aa (ay.nm 1) aj)))) jR)
  (aK (cG vP)))))))) u0
theorem i6:MethAt (KX w.params) az "lower_above" "Bench.lower_above" dQ ["self","top","place"] 127 (Hd.fd dQ "lower_above" "Bench.lower_above" fI 126):=Hd.yA (by kernel_rfl) fun _ _ _ _ _ _ _ _ _=>rfl
theorem qp:bH PW w (KX w.params) mg base cW 3 127 (Hd.fd dQ "lower_above" "Bench.lower_above" fI 126) ["self","top","place"] (c8 iV):=by
 have B:=Bt e;have Q:=Qt e;exact cH (N:=gc) (i6 e).fn fM (fun cdv A outer s H E hr=>(aK (k9 (fW (bO.g 0) B.fS (aa (bO.nm 1) aj)) (d5 fM.nd (by first|exact Or.inl rfl|exact Or.inr rfl) (by first|exact .inl rfl|exact .inr rfl)) (aK (dj (iK (bO.nm 0) Q.a9.cl (jc e).me (qW e) (hr.mono (by decide)) (jc e).bd (aa (bO.nm 3) (aa (cn (Ad hr rfl fM.gen fM.co) (bp (bp (bw Q.a9.cl Q.bU (bO.nm 0)) (bO.nm 3)) (bO.nm 2)) (bp (bp (bw Q.a9.cl Q.bU (bO.nm 0)) (bO.nm 1)) (bO.nm 2))) (aa (bO.nm 1) aj))))))))) pQ
theorem p8:c_ (KX w.params) mg "standing" "standing" jy ["rows"] 141 (Hd.fd jy "standing" "standing" fI 140):=Hd.tf e.X e.G (by kernel_rfl) fun _ _ _ _ _ _ _=>rfl
theorem uK:bH PW w (KX w.params) mg base cW 5 141 (Hd.fd jy "standing" "standing" fI 140) ["rows"] (c8 nj):=by
 have B:=Bt e;have Q:=Qt e
 exact cH (N:=ni) (p8 e).fn iN (fun cdv A outer s H E hr=>(au (bK iN.nd (a_.l 1) (Dq ⟨Q.a9.MP,(ir e).me.at_,(ir e).me.fn,Q.a9.kp⟩ (tM e) (hr.mono (by decide)) (a_.g 0) Q.a9.mg (ir e).bd (aa (a_.nm 0) aj) (a_.d 0)))
  (au (bK iN.nd (a_.l 2) aB)
  (au (k9 (fW (a_.g 2) B.fS (aa (fv eS (aa (bp (a_.nm 0) aB) aj) B.eV rfl dH (a_.d 1) (a_.g 1)) aj)) (d5 iN.nd (by first|exact Or.inl rfl|exact Or.inr rfl) (by first|exact .inl rfl|exact .inr rfl)) (aK (jY (qz (iK (a_.nm 1) Q.a9.cl (lD e).me (vD e) (hr.mono (by decide)) (lD e).bd (aa (a_.nm 2) (aa (a_.nm 3) aj)))) (au (dj (iK (a_.nm 1) Q.a9.cl (i6 e).me (qp e) (hr.mono (by decide)) (i6 e).bd (aa (a_.nm 2) (aa (a_.nm 3) aj))))
  (aK (Kv iN.nd (a_.l 2) aB Ig))) jR)))
  (au (bK iN.nd (a_.l 4) (bx (iI e) (jV e) (hr.mono (by decide)) (aa (bw Q.a9.cl Q.cq (a_.nm 1)) (aa (fv eS (aa (a_.nm 0) aj) B.eV rfl dH (a_.d 1) (a_.g 1)) aj)) (a_.d 3) (a_.g 3)))
  (aK (cG (pH (aa (bx (ou e) (qU e) (hr.mono (by decide)) (aa (GJ (bw Q.a9.cl Q.bU (a_.nm 1)) GY (Gq (a_.nm 2))) aj) (a_.d 4) (a_.g 4)) (aa (bx (ou e) (qU e) (hr.mono (by decide)) (aa (bw Q.a9.cl Q.eG (a_.nm 1)) aj) (a_.d 4) (a_.g 4)) (aa (a_.nm 4) aj))))))))))) zm
theorem iF:MethAt (KX w.params) aC "__init__" "Sides.__init__" eX ["self","rows"] 155 (Hd.fd eX "__init__" "Sides.__init__" fJ 154):=Hd.Jh (by kernel_rfl) fun _ _ _ _ _ _ _ _=>rfl
theorem ue:bH PW w (KX w.params) mg base cW 3 155 (Hd.fd eX "__init__" "Sides.__init__" fJ 154) ["self","rows"] (c8 ke):=by
 have B:=Bt e;have Q:=Qt e
 exact cH (N:=iD) (iF e).fn sN (fun cdv A outer s H E hr=>(au (dy Q.aN.cl Q.nL (aF.nm 0) (fv eS (aa (aF.nm 1) aj) B.eV rfl dH (aF.d 0) (aF.g 0)))
  (au (dy Q.aN.cl Q.fo (aF.nm 0) (fv eS (aa (bp (aF.nm 1) aB) aj) B.eV rfl dH (aF.d 0) (aF.g 0)))
  (au (dy Q.aN.cl Q.c9 (aF.nm 0) (aF.nm 1))
  (au (dy Q.aN.cl Q.kR (aF.nm 0) (bx (fP e) (gX e) (hr.mono (by decide)) (aa (bw Q.aN.cl Q.nL (aF.nm 0)) aj) (aF.d 1) (aF.g 1)))
  (au (dy Q.aN.cl Q.g6 (aF.nm 0) (bx (fP e) (gX e) (hr.mono (by decide)) (aa (bw Q.aN.cl Q.nL (aF.nm 0)) aj) (aF.d 1) (aF.g 1)))
  (au (dy Q.aN.cl Q.j8 (aF.nm 0) (bx (fP e) (gX e) (hr.mono (by decide)) (aa (bw Q.aN.cl Q.fo (aF.nm 0)) aj) (aF.d 1) (aF.g 1)))
  (aK (dy Q.aN.cl Q.gG (aF.nm 0) (bx (fP e) (gX e) (hr.mono (by decide)) (aa (bw Q.aN.cl Q.fo (aF.nm 0)) aj) (aF.d 1) (aF.g 1))))))))))) sV
theorem jI:MethAt (KX w.params) aC "turn_left" "Sides.turn_left" eN ["self","turn","back"] 162 (Hd.fd eN "turn_left" "Sides.turn_left" fJ 161):=Hd.yA (by kernel_rfl) fun _ _ _ _ _ _ _ _ _=>rfl
theorem sP:bH PW w (KX w.params) mg base cW 4 162 (Hd.fd eN "turn_left" "Sides.turn_left" fJ 161) ["self","turn","back"] (c8 jL):=by
 have B:=Bt e;have Q:=Qt e
 exact cH (N:=g0) (jI e).fn qJ (fun cdv A outer s H E hr=>(au (dy Q.aN.cl Q.c9 (bD.nm 0) (bx (jh e) (ko e) (hr.mono (by decide)) (aa (bD.nm 1) (aa (bw Q.aN.cl Q.c9 (bD.nm 0)) aj)) (bD.d 0) (bD.g 0)))
  (au (dy Q.aN.cl Q.kR (bD.nm 0) (bx (jh e) (ko e) (hr.mono (by decide)) (aa (bD.nm 1) (aa (bw Q.aN.cl Q.kR (bD.nm 0)) aj)) (bD.d 0) (bD.g 0)))
  (aK (dy Q.aN.cl Q.g6 (bD.nm 0) (bx (jh e) (ko e) (hr.mono (by decide)) (aa (bw Q.aN.cl Q.g6 (bD.nm 0)) (aa (bD.nm 2) aj)) (bD.d 0) (bD.g 0))))))) rQ
theorem fk:MethAt (KX w.params) aC "turn_right" "Sides.turn_right" d6 ["self","turn","back"] 169 (Hd.fd d6 "turn_right" "Sides.turn_right" fJ 168):=Hd.yA (by kernel_rfl) fun _ _ _ _ _ _ _ _ _=>rfl
theorem l_:bH PW w (KX w.params) mg base cW 4 169 (Hd.fd d6 "turn_right" "Sides.turn_right" fJ 168) ["self","turn","back"] (c8 gQ):=by
 have B:=Bt e;have Q:=Qt e
 exact cH (N:=gF) (fk e).fn qx (fun cdv A outer s H E hr=>(au (dy Q.aN.cl Q.c9 (bo.nm 0) (bx (jh e) (ko e) (hr.mono (by decide)) (aa (bw Q.aN.cl Q.c9 (bo.nm 0)) (aa (bo.nm 1) aj)) (bo.d 0) (bo.g 0)))
  (au (dy Q.aN.cl Q.j8 (bo.nm 0) (bx (jh e) (ko e) (hr.mono (by decide)) (aa (bw Q.aN.cl Q.j8 (bo.nm 0)) (aa (bo.nm 1) aj)) (bo.d 0) (bo.g 0)))
  (aK (dy Q.aN.cl Q.gG (bo.nm 0) (bx (jh e) (ko e) (hr.mono (by decide)) (aa (bo.nm 2) (aa (bw Q.aN.cl Q.gG (bo.nm 0)) aj)) (bo.d 0) (bo.g 0))))))) qv
theorem ft:MethAt (KX w.params) aC "stand_rows" "Sides.stand_rows" d9 ["self"] 176 (Hd.fd d9 "stand_rows" "Sides.stand_rows" fJ 175):=Hd.Ik (by kernel_rfl) fun _ _ _ _ _ _ _=>rfl
theorem lY:bH PW w (KX w.params) mg base cW 6 176 (Hd.fd d9 "stand_rows" "Sides.stand_rows" fJ 175) ["self"] (c8 gE):=by
 have B:=Bt e;have Q:=Qt e
 exact cH (N:=gB) (ft e).fn la (fun cdv A outer s H E hr=>(au (bK la.nd (dq.l 1) (bx (p8 e) (uK e) (hr.mono (by decide)) (aa (bw Q.aN.cl Q.c9 (dq.nm 0)) aj) (dq.d 0) (dq.g 0)))
  (aK (dj (iK (dq.nm 0) Q.aN.cl (jI e).me (sP e) (hr.mono (by decide)) (jI e).bd (aa (bp (dq.nm 1) aB) (aa (bp (dq.nm 1) aB) aj))))))) qw
theorem d8:MethAt (KX w.params) aC "stand_columns" "Sides.stand_columns" dk ["self"] 183 (Hd.fd dk "stand_columns" "Sides.stand_columns" fJ 182):=Hd.Ik (by kernel_rfl) fun _ _ _ _ _ _ _=>rfl
theorem kC:bH PW w (KX w.params) mg base cW 6 183 (Hd.fd dk "stand_columns" "Sides.stand_columns" fJ 182) ["self"] (c8 fy):=by
 have B:=Bt e;have Q:=Qt e
 exact cH (N:=fA) (d8 e).fn jO (fun cdv A outer s H E hr=>(au (bK jO.nd (aT.l 1) (bx (p8 e) (uK e) (hr.mono (by decide)) (aa (bx (iI e) (jV e) (hr.mono (by decide)) (aa (bw Q.aN.cl Q.c9 (aT.nm 0)) (aa (bw Q.aN.cl Q.fo (aT.nm 0)) aj)) (aT.d 0) (aT.g 0)) aj) (aT.d 1) (aT.g 1)))
  (aK (dj (iK (aT.nm 0) Q.aN.cl (fk e).me (l_ e) (hr.mono (by decide)) (fk e).bd (aa (bx (iI e) (jV e) (hr.mono (by decide)) (aa (bp (aT.nm 1) aB) (aa (bw Q.aN.cl Q.fo (aT.nm 0)) aj)) (aT.d 0) (aT.g 0)) (aa (bx (iI e) (jV e) (hr.mono (by decide)) (aa (bp (aT.nm 1) aB) (aa (bw Q.aN.cl Q.fo (aT.nm 0)) aj)) (aT.d 0) (aT.g 0)) aj))))))) oF
theorem qk:c_ (KX w.params) mg "is_diagonal" "is_diagonal" fG ["rows"] 214 (Hd.fd fG "is_diagonal" "is_diagonal" fJ 213):=Hd.tf e.X e.G (by kernel_rfl) fun _ _ _ _ _ _ _=>rfl
theorem wY:bH PW w (KX w.params) mg base cW 1 214 (Hd.fd fG "is_diagonal" "is_diagonal" fJ 213) ["rows"] (c8 mG):=by
 have B:=Bt e;have Q:=Qt e
 exact cH (N:=j6) (qk e).fn oZ (fun cdv A outer s H E hr=>(au (k9 (CO (gq.g 0) B.tE (aa (gq.nm 0) aj)) (su rfl oZ.nd (by first|exact Or.inl rfl|exact Or.inr rfl) (by first|exact .inl rfl|exact .inr rfl) (by first|exact Or.inl rfl|exact Or.inr rfl) (by first|exact .inl rfl|exact .inr rfl)) (aK (jY (xQ (qz (fv (Ma rfl) (aa (dF (Nc:=["place","number","k"]) (bq.look (ai fG) ["rows","k","row"] (by decide+kernel)) (CO (gq.g 0) B.tE (aa (gq.nm 2) aj)) (fun _ _ _ _=>(su rfl (show(["place","number","k"]:List Str).Nodup by decide+kernel) (by first|exact Or.inl rfl|exact Or.inr rfl) (by first|exact .inl rfl|exact .inr rfl) (by first|exact Or.inl rfl|exact Or.inr rfl) (by first|exact .inl rfl|exact .inr rfl))) (fun _ _ _ _=>cC) (fun _ _ _ _=>(Kc (sI (rG hr) (dX _) cL aB) (FG (sI (rG hr) (dX _) cL cL)))) rX) aj) B.LN rfl IU (gq.d 1) (gq.g 1)))) (aK (cG vP)) jR)))
  (aK (cG vP)))) vQ
theorem ia:MethAt (KX w.params) aC "settle" "Sides.settle" fQ ["self"] 190 (Hd.fd fQ "settle" "Sides.settle" fJ 189):=Hd.Ik (by kernel_rfl) fun _ _ _ _ _ _ _=>rfl
theorem o5:bH PW w (KX w.params) mg base cW 7 190 (Hd.fd fQ "settle" "Sides.settle" fJ 189) ["self"] (c8 jD):=by
 have B:=Bt e;have Q:=Qt e
 exact cH (N:=jC) (ia e).fn uC (fun cdv A outer s H E hr=>(au (dj (nB (e_.nm 0) Q.aN.cl (ft e).me (lY e) (hr.mono (by decide)) (ft e).bd))
  (au (dj (nB (e_.nm 0) Q.aN.cl (d8 e).me (kC e) (hr.mono (by decide)) (d8 e).bd))
  (aK (yR (xQ (qz (bx (qk e) (wY e) (hr.mono (by decide)) (aa (bw Q.aN.cl Q.c9 (e_.nm 0)) aj) (e_.d 0) (e_.g 0)))) (au (dj (nB (e_.nm 0) Q.aN.cl (ft e).me (lY e) (hr.mono (by decide)) (ft e).bd))
  (aK (dj (nB (e_.nm 0) Q.aN.cl (d8 e).me (kC e) (hr.mono (by decide)) (d8 e).bd))))))))) um
theorem kO:c_ (KX w.params) mg "unit_rows_but" "unit_rows_but" eJ ["n","k","place","number"] 209 (Hd.fd eJ "unit_rows_but" "unit_rows_but" fJ 208):=Hd.N5 e.X e.G (by kernel_rfl) fun _ _ _ _ _ _ _ _ _ _=>rfl
theorem ot:bH PW w (KX w.params) mg base cW 3 209 (Hd.fd eJ "unit_rows_but" "unit_rows_but" fJ 208) ["n","k","place","number"] (c8 ja):=by
 have B:=Bt e;have Q:=Qt e
 exact cH (N:=i7) (kO e).fn nO (fun cdv A outer s H E hr=>(au (yM nO.nd (cK.l 4) (Nc:=["row"]) (bq.look (ai eJ) ["n","k","place","number","rows"] (by decide+kernel)) (gy (bx (fP e) (gX e) (hr.mono (by decide)) (aa (cK.nm 0) aj) (cK.d 0) (cK.g 0))) (fun _ _ _ _=>(d5 (show(["row"]:List Str).Nodup by decide+kernel) (by first|exact Or.inl rfl|exact Or.inr rfl) (by first|exact .inl rfl|exact .inr rfl))) (fun _ _ _ _=>cC) (fun _ _ _ _=>(eR zS (aa cL aj) B.oO rfl nr (by decide+kernel) rfl)) cx)
  (au (fT (cK.nm 3) (bp (cK.nm 4) (cK.nm 1)) (cK.nm 2))
  (aK (cG (bx (ou e) (qU e) (hr.mono (by decide)) (aa (cK.nm 4) aj) (cK.d 1) (cK.g 1))))))) tO
theorem mK:MethAt (KX w.params) aC "merge" "Sides.merge" gn ["self","k","other"] 197 (Hd.fd gn "merge" "Sides.merge" fJ 196):=Hd.yA (by kernel_rfl) fun _ _ _ _ _ _ _ _ _=>rfl
theorem w6:bH PW w (KX w.params) mg base cW 8 197 (Hd.fd gn "merge" "Sides.merge" fJ 196) ["self","k","other"] (c8 mL):=by
 have B:=Bt e;have Q:=Qt e
 exact cH (N:=jU) (mK e).fn vh (fun cdv A outer s H E hr=>(au (dj (iK (cQ.nm 0) Q.aN.cl (fk e).me (l_ e) (hr.mono (by decide)) (fk e).bd (aa (bx (kO e) (ot e) (hr.mono (by decide)) (aa (bw Q.aN.cl Q.fo (cQ.nm 0)) (aa (cQ.nm 2) (aa (cQ.nm 1) (aa aB aj)))) (cQ.d 0) (cQ.g 0)) (aa (bx (kO e) (ot e) (hr.mono (by decide)) (aa (bw Q.aN.cl Q.fo (cQ.nm 0)) (aa (cQ.nm 2) (aa (cQ.nm 1) (aa (kJ aB) aj)))) (cQ.d 0) (cQ.g 0)) aj))))
  (aK (dj (nB (cQ.nm 0) Q.aN.cl (ia e).me (o5 e) (hr.mono (by decide)) (ia e).bd))))) vT
theorem nY:c_ (KX w.params) mg "numbers_of" "numbers_of" fY ["body"] 219 (Hd.fd fY "numbers_of" "numbers_of" fJ 218):=Hd.tf e.X e.G (by kernel_rfl) fun _ _ _ _ _ _ _=>rfl
theorem qF:bH PW w (KX w.params) mg base cW 1 219 (Hd.fd fY "numbers_of" "numbers_of" fJ 218) ["body"] (c8 kK):=by
 have B:=Bt e;have Q:=Qt e
 exact cH (N:=kP) (nY e).fn qf (fun cdv A outer s H E hr=>(au (bK qf.nd (cS.l 1) (fv (L4 rfl) (aa (fv eS (aa (cS.nm 0) aj) B.eV rfl dH (cS.d 0) (cS.g 0)) (aa (fv eS (aa (bp (cS.nm 0) aB) aj) B.eV rfl dH (cS.d 0) (cS.g 0)) aj)) B.Mp rfl Kr (cS.d 1) (cS.g 1)))
  (aK (cG (eR de (aa (dF (Nc:=["k","body"]) (bq.look (ai fY) ["body","least"] (by decide+kernel)) (fW (cS.g 2) B.fS (aa (cS.nm 1) aj)) (fun _ _ _ _=>(d5 (show(["k","body"]:List Str).Nodup by decide+kernel) (by first|exact Or.inl rfl|exact Or.inr rfl) (by first|exact .inl rfl|exact .inr rfl))) (fun _ _ _ _=>(Dj (g7 EX (dX _) (bp (bp cL cL) cL) aB))) (fun _ _ _ _=>(bp (bp cL cL) cL)) cx) aj) B.cX rfl cN (cS.d 3) (cS.g 3)))))) wU
theorem kT:c_ (KX w.params) mg "dividing" "dividing" ju ["rows"] 226 (Hd.fd ju "dividing" "dividing" fJ 225):=Hd.tf e.X e.G (by kernel_rfl) fun _ _ _ _ _ _ _=>rfl
theorem mW:bH PW w (KX w.params) mg base cW 9 226 (Hd.fd ju "dividing" "dividing" fJ 225) ["rows"] (c8 jB):=by
 have B:=Bt e;have Q:=Qt e
 exact cH (N:=mT) (kT e).fn jP (fun cdv A outer s H E hr=>(au (bK jP.nd (a8.l 1) (Dq ⟨Q.aN.MP,(iF e).me.at_,(iF e).me.fn,Q.aN.kp⟩ (ue e) (hr.mono (by decide)) (a8.g 0) Q.aN.mg (iF e).bd (aa (a8.nm 0) aj) (a8.d 0)))
  (au (dj (nB (a8.nm 1) Q.aN.cl (ia e).me (o5 e) (hr.mono (by decide)) (ia e).bd))
  (au (bK jP.nd (a8.l 2) (fv eS (aa (bx (nY e) (qF e) (hr.mono (by decide)) (aa (bw Q.aN.cl Q.c9 (a8.nm 1)) aj) (a8.d 1) (a8.g 1)) aj) B.eV rfl dH (a8.d 2) (a8.g 2)))
  (au (k9 (fW (a8.g 3) B.fS (aa (a8.nm 2) aj)) (d5 jP.nd (by first|exact Or.inl rfl|exact Or.inr rfl) (by first|exact .inl rfl|exact .inr rfl)) (aK (k9 (yf (a8.g 3) B.fS (aa (cn gf (a8.nm 3) aB) (aa (a8.nm 2) aj))) (d5 jP.nd (by first|exact Or.inl rfl|exact Or.inr rfl) (by first|exact .inl rfl|exact .inr rfl)) (aK (jY (g7 EX (dX _) (cn ow (bp (bp (bw Q.aN.cl Q.c9 (a8.nm 1)) (a8.nm 4)) (a8.nm 4)) (bp (bp (bw Q.aN.cl Q.c9 (a8.nm 1)) (a8.nm 3)) (a8.nm 3))) aB) (aK (dj (iK (a8.nm 1) Q.aN.cl (mK e).me (w6 e) (hr.mono (by decide)) (mK e).bd (aa (a8.nm 3) (aa (a8.nm 4) aj))))) jR)))))
  (aK (cG (pH (aa (bx (nY e) (qF e) (hr.mono (by decide)) (aa (bw Q.aN.cl Q.c9 (a8.nm 1)) aj) (a8.d 1) (a8.g 1)) (aa (bw Q.aN.cl Q.kR (a8.nm 1)) (aa (bw Q.aN.cl Q.g6 (a8.nm 1)) (aa (bw Q.aN.cl Q.j8 (a8.nm 1)) (aa (bw Q.aN.cl Q.gG (a8.nm 1)) aj))))))))))))) zA
theorem qQ:c_ (KX w.params) mg "_law_source" "_law_source" h8 ["_law_script","_law_k"] 233 (Hd.fd h8 "_law_source" "_law_source" jH 232):=Hd.uv e.X e.G (by kernel_rfl) fun _ _ _ _ _ _ _ _=>rfl
theorem xY:bH PW w (KX w.params) mg base cW 1 233 (Hd.fd h8 "_law_source" "_law_source" jH 232) ["_law_script","_law_k"] (c8 nR):=by
 have B:=Bt e;have Q:=Qt e
 exact cH (N:=kF) (qQ e).fn mI (fun cdv A outer s H E hr=>(au (bK mI.nd (cp.l 2) aB)
  (au (jY (g7 Bb (dX _) (fv eS (aa (cp.nm 0) aj) B.eV rfl dH (cp.d 0) (cp.g 0)) aB) (aK (bK mI.nd (cp.l 2) (bp (cp.nm 0) (cn ow (cp.nm 1) (fv eS (aa (cp.nm 0) aj) B.eV rfl dH (cp.d 0) (cp.g 0)))))) jR)
  (aK (cG (Aq (aa (cn gL (cp.nm 2) (eR La (aa (sI NM (dX _) (cp.nm 2) (cn Mr aB aB)) aj) B.LY rfl Ke (cp.d 1) (cp.g 1))) (aa (cp.nm 2) (aa (cn gL aB (cp.nm 1)) aj))))))))) wJ
theorem cJ:c_ (KX w.params) mg "_law_take" "_law_take" jA ["_law_source_here","_law_many"] 240 (Hd.fd jA "_law_take" "_law_take" jH 239):=Hd.uv e.X e.G (by kernel_rfl) fun _ _ _ _ _ _ _ _=>rfl
theorem cP:bH PW w (KX w.params) mg base cW 1 240 (Hd.fd jA "_law_take" "_law_take" jH 239) ["_law_source_here","_law_many"] (c8 cA):=by
 have B:=Bt e;have Q:=Qt e
 exact cH (N:=mZ) (cJ e).fn lS (fun cdv A outer s H E hr=>(au (jY (g7 Bb (dX _) (bp (cu.nm 0) aB) aB) (au (bK lS.nd (cu.l 2) (cn ow (bp (cu.nm 0) aB) (cu.nm 1)))
  (au (fT (cn Dl (bp (cu.nm 0) aB) (cu.nm 1)) (cu.nm 0) aB)
  (aK (cG (cu.nm 2))))) jR)
  (au (fT (cn gf (bp (cu.nm 0) aB) aB) (cu.nm 0) aB)
  (au (bK lS.nd (cu.l 3) (cn ow (cn gL (cn gf (cn gf (cn ow (bp (cu.nm 0) aB) aB) (cn gL aB (bp (cu.nm 0) aB))) aB) aB) aB))
  (au (bK lS.nd (cu.l 3) (cn gf (cn ow (cn gL (cu.nm 3) (cu.nm 3)) aB) (cn gL aB (bp (cu.nm 0) aB))))
  (aK (cG (cn ow (cn Dl (cn ow (cn gL (cu.nm 3) aB) aB) aB) (cu.nm 1))))))))) zt
theorem nS:c_ (KX w.params) mg "_law_turned" "_law_turned" dY ["_law_source_here","_law_rows"] 245 (Hd.fd dY "_law_turned" "_law_turned" jH 244):=Hd.uv e.X e.G (by kernel_rfl) fun _ _ _ _ _ _ _ _=>rfl
theorem rM:bH PW w (KX w.params) mg base cW 2 245 (Hd.fd dY "_law_turned" "_law_turned" jH 244) ["_law_source_here","_law_rows"] (c8 k_):=by
 have B:=Bt e;have Q:=Qt e
 exact cH (N:=kL) (nS e).fn fF (fun cdv A outer s H E hr=>(au (yM fF.nd (aq.l 2) (Nc:=["_law_row"]) (bq.look (ai dY) ["_law_source_here","_law_rows","_law_made","_law_k","_law_i","_law_j","_law_how","_law_by"] (by decide+kernel)) (gy (aq.nm 1)) (fun _ _ _ _=>(d5 (show(["_law_row"]:List Str).Nodup by decide+kernel) (by first|exact Or.inl rfl|exact Or.inr rfl) (by first|exact .inl rfl|exact .inr rfl))) (fun _ _ _ _=>cC) (fun _ _ _ _=>(eR uM (aa cL aj) B.oO rfl nr (by decide+kernel) rfl)) cx)
  (au (k9 (fW (aq.g 1) B.fS (aa (bx (cJ e) (cP e) (hr.mono (by decide)) (aa (aq.nm 0) (aa aB aj)) (aq.d 0) (aq.g 0)) aj)) (d5 fF.nd (by first|exact Or.inl rfl|exact Or.inr rfl) (by first|exact .inl rfl|exact .inr rfl)) (au (bK fF.nd (aq.l 4) (bx (cJ e) (cP e) (hr.mono (by decide)) (aa (aq.nm 0) (aa (fv eS (aa (aq.nm 2) aj) B.eV rfl dH (aq.d 2) (aq.g 2)) aj)) (aq.d 0) (aq.g 0)))
  (au (bK fF.nd (aq.l 5) (bx (cJ e) (cP e) (hr.mono (by decide)) (aa (aq.nm 0) (aa (fv eS (aa (aq.nm 2) aj) B.eV rfl dH (aq.d 2) (aq.g 2)) aj)) (aq.d 0) (aq.g 0)))
  (au (bK fF.nd (aq.l 6) (bx (cJ e) (cP e) (hr.mono (by decide)) (aa (aq.nm 0) (aa aB aj)) (aq.d 0) (aq.g 0)))
  (aK (jY (g7 (rG hr) (dX _) (aq.nm 4) (aq.nm 5)) (aK (wd (dF (Nc:=["_law_one"]) (bq.look (ai dY) ["_law_source_here","_law_rows","_law_made","_law_k","_law_i","_law_j","_law_how","_law_by"] (by decide+kernel)) (gy (bp (aq.nm 2) (aq.nm 4))) (fun _ _ _ _=>(d5 (show(["_law_one"]:List Str).Nodup by decide+kernel) (by first|exact Or.inl rfl|exact Or.inr rfl) (by first|exact .inl rfl|exact .inr rfl))) (fun _ _ _ _=>cC) (fun _ _ _ _=>(kJ cL)) cx) (aq.nm 2) (aq.nm 4))) (aK (jY (g7 (rG hr) (dX _) (aq.nm 6) aB) (aK (HM (aq.nm 2) (aq.nm 4) (aq.nm 2) (aq.nm 5) (pH (aa (bp (aq.nm 2) (aq.nm 5)) (aa (bp (aq.nm 2) (aq.nm 4)) aj))))) (au (bK fF.nd (aq.l 7) (bp (xl (aa aB (aa (kJ aB) (aa aB (aa (kJ aB) aj))))) (bx (cJ e) (cP e) (hr.mono (by decide)) (aa (aq.nm 0) (aa aB aj)) (aq.d 0) (aq.g 0))))
  (aK (wd (dF (Nc:=["_law_one","_law_other","_law_by"]) (bq.look (ai dY) ["_law_source_here","_law_rows","_law_made","_law_k","_law_i","_law_j","_law_how","_law_by"] (by decide+kernel)) (xj (aq.g 3) B.xw (aa (bp (aq.nm 2) (aq.nm 4)) (aa (bp (aq.nm 2) (aq.nm 5)) aj))) (fun _ _ _ _=>(su rfl (show(["_law_one","_law_other","_law_by"]:List Str).Nodup by decide+kernel) (by first|exact Or.inl rfl|exact Or.inr rfl) (by first|exact .inl rfl|exact .inr rfl) (by first|exact Or.inl rfl|exact Or.inr rfl) (by first|exact .inl rfl|exact .inr rfl))) (fun _ _ _ _=>cC) (fun _ _ _ _=>(cn gf cL (cn gL cL cL))) rX) (aq.nm 2) (aq.nm 4))))))))))))
  (aK (cG (eR de (aa (dF (Nc:=["_law_row"]) (bq.look (ai dY) ["_law_source_here","_law_rows","_law_made","_law_k","_law_i","_law_j","_law_how","_law_by"] (by decide+kernel)) (gy (aq.nm 2)) (fun _ _ _ _=>(d5 (show(["_law_row"]:List Str).Nodup by decide+kernel) (by first|exact Or.inl rfl|exact Or.inr rfl) (by first|exact .inl rfl|exact .inr rfl))) (fun _ _ _ _=>cC) (fun _ _ _ _=>(eR de (aa cL aj) B.cX rfl cN (by decide+kernel) rfl)) cx) aj) B.cX rfl cN (aq.d 4) (aq.g 4))))))) wM
theorem mV:c_ (KX w.params) mg "_law_over" "_law_over" iy ["_law_rows"] 250 (Hd.fd iy "_law_over" "_law_over" jH 249):=Hd.tf e.X e.G (by kernel_rfl) fun _ _ _ _ _ _ _=>rfl
theorem pF:bH PW w (KX w.params) mg base cW 1 250 (Hd.fd iy "_law_over" "_law_over" jH 249) ["_law_rows"] (c8 kM):=by
 have B:=Bt e;have Q:=Qt e;exact cH (N:=nc) (mV e).fn zB (fun cdv A outer s H E hr=>(aK (cG (eR de (aa (dF (Nc:=["_law_k","_law_rows"]) (bq.look (ai iy) ["_law_rows"] (by decide+kernel)) (fW (jv.g 1) B.fS (aa (fv eS (aa (bp (jv.nm 0) aB) aj) B.eV rfl dH (jv.d 0) (jv.g 0)) aj)) (fun _ _ _ _=>(d5 (show(["_law_k","_law_rows"]:List Str).Nodup by decide+kernel) (by first|exact Or.inl rfl|exact Or.inr rfl) (by first|exact .inl rfl|exact .inr rfl))) (fun _ _ _ _=>cC) (fun _ _ _ _=>(eR de (aa (dF (Nc:=["_law_row","_law_k"]) (bq.FY (by decide+kernel)) (gy cL) (fun _ _ _ _=>(d5 (show(["_law_row","_law_k"]:List Str).Nodup by decide+kernel) (by first|exact Or.inl rfl|exact Or.inr rfl) (by first|exact .inl rfl|exact .inr rfl))) (fun _ _ _ _=>cC) (fun _ _ _ _=>(bp cL cL)) cx) aj) B.cX rfl cN (by decide+kernel) rfl)) cx) aj) B.cX rfl cN (jv.d 2) (jv.g 2))))) zy
theorem nQ:c_ (KX w.params) mg "_law_small_rows" "_law_small_rows" cz ["_law_source_here"] 255 (Hd.fd cz "_law_small_rows" "_law_small_rows" jH 254):=Hd.tf e.X e.G (by kernel_rfl) fun _ _ _ _ _ _ _=>rfl
theorem tZ:bH PW w (KX w.params) mg base cW 2 255 (Hd.fd cz "_law_small_rows" "_law_small_rows" jH 254) ["_law_source_here"] (c8 kg):=by
 have B:=Bt e;have Q:=Qt e
 exact cH (N:=ip) (nQ e).fn dN (fun cdv A outer s H E hr=>(au (bK dN.nd (aw.l 1) (sI (rG hr) (dX _) (bx (cJ e) (cP e) (hr.mono (by decide)) (aa (aw.nm 0) (aa aB aj)) (aw.d 0) (aw.g 0)) aB))
  (au (CJ dN.nd (by decide) (show(ai cz).names.lookup ("_law_many":Str)=some .local by decide+kernel) (show(ai cz).names.lookup ("_law_wide":Str)=some .local by decide+kernel) (aa (cn gf aB (bx (cJ e) (cP e) (hr.mono (by decide)) (aa (aw.nm 0) (aa aB aj)) (aw.d 0) (aw.g 0))) (aa (cn gf aB (bx (cJ e) (cP e) (hr.mono (by decide)) (aa (aw.nm 0) (aa aB aj)) (aw.d 0) (aw.g 0))) aj)))
  (au (jY (qz (aw.nm 1)) (aK (CJ dN.nd (by decide) (show(ai cz).names.lookup ("_law_many":Str)=some .local by decide+kernel) (show(ai cz).names.lookup ("_law_wide":Str)=some .local by decide+kernel) (aa (cn gf aB (bx (cJ e) (cP e) (hr.mono (by decide)) (aa (aw.nm 0) (aa aB aj)) (aw.d 0) (aw.g 0))) (aa (cn gf aB (bx (cJ e) (cP e) (hr.mono (by decide)) (aa (aw.nm 0) (aa aB aj)) (aw.d 0) (aw.g 0))) aj)))) jR)
  (au (bK dN.nd (aw.l 4) (Aq aj))
  (au (k9 (fW (aw.g 1) B.fS (aa (aw.nm 2) aj)) (d5 dN.nd (by first|exact Or.inl rfl|exact Or.inr rfl) (by first|exact .inl rfl|exact .inr rfl)) (au (bK dN.nd (aw.l 6) (Fh (xQ (qz (aw.nm 1))) (bp (xl (aa aB (aa aB (aa aB (aa aB aj))))) (bx (cJ e) (cP e) (hr.mono (by decide)) (aa (aw.nm 0) (aa aB aj)) (aw.d 0) (aw.g 0))) aB))
  (aK (dj (mz (aw.nm 4) (eR de (aa (dF (Nc:=["_law_j","_law_source_here","_law_size"]) (bq.look (ai cz) ["_law_source_here","_law_great","_law_many","_law_wide","_law_rows","_law_k","_law_size"] (by decide+kernel)) (fW (aw.g 1) B.fS (aa (aw.nm 3) aj)) (fun _ _ _ _=>(d5 (show(["_law_j","_law_source_here","_law_size"]:List Str).Nodup by decide+kernel) (by first|exact Or.inl rfl|exact Or.inr rfl) (by first|exact .inl rfl|exact .inr rfl))) (fun _ _ _ _=>cC) (fun _ _ _ _=>(cn FO (bx (cJ e) (cP e) (hr.mono (by decide)) (aa cL (aa (cn gf (cn gL aB cL) aB) aj)) (by decide+kernel) rfl) cL)) cx) aj) B.cX rfl cN (aw.d 2) (aw.g 2)))))))
  (aK (cG (eR de (aa (aw.nm 4) aj) B.cX rfl cN (aw.d 2) (aw.g 2)))))))))) sO
theorem qI:c_ (KX w.params) mg "_law_others" "_law_others" eL ["_law_source_here","_law_rows"] 260 (Hd.fd eL "_law_others" "_law_others" jH 259):=Hd.uv e.X e.G (by kernel_rfl) fun _ _ _ _ _ _ _ _=>rfl
theorem zg:bH PW w (KX w.params) mg base cW 3 260 (Hd.fd eL "_law_others" "_law_others" jH 259) ["_law_source_here","_law_rows"] (c8 nN):=by
 have B:=Bt e;have Q:=Qt e
 exact cH (N:=kW) (qI e).fn gu (fun cdv A outer s H E hr=>(au (bK gu.nd (ao.l 2) (bx (nS e) (rM e) (hr.mono (by decide)) (aa (ao.nm 0) (aa (ao.nm 1) aj)) (ao.d 0) (ao.g 0)))
  (au (bK gu.nd (ao.l 3) (Aq (aa (ao.nm 2) (aa (bx (mV e) (pF e) (hr.mono (by decide)) (aa (ao.nm 1) aj) (ao.d 1) (ao.g 1)) (aa (bx (mV e) (pF e) (hr.mono (by decide)) (aa (bx (nS e) (rM e) (hr.mono (by decide)) (aa (ao.nm 0) (aa (bx (mV e) (pF e) (hr.mono (by decide)) (aa (ao.nm 2) aj) (ao.d 1) (ao.g 1)) aj)) (ao.d 0) (ao.g 0)) aj) (ao.d 1) (ao.g 1)) aj)))))
  (au (bK gu.nd (ao.l 4) (bp (ao.nm 1) (bx (cJ e) (cP e) (hr.mono (by decide)) (aa (ao.nm 0) (aa (fv eS (aa (ao.nm 1) aj) B.eV rfl dH (ao.d 2) (ao.g 2)) aj)) (ao.d 3) (ao.g 3))))
  (au (bK gu.nd (ao.l 5) (bp (ao.nm 1) (bx (cJ e) (cP e) (hr.mono (by decide)) (aa (ao.nm 0) (aa (fv eS (aa (ao.nm 1) aj) B.eV rfl dH (ao.d 2) (ao.g 2)) aj)) (ao.d 3) (ao.g 3))))
  (au (bK gu.nd (ao.l 6) (cn FO (bx (cJ e) (cP e) (hr.mono (by decide)) (aa (ao.nm 0) (aa aB aj)) (ao.d 3) (ao.g 3)) aB))
  (au (dj (mz (ao.nm 3) (cn gf (ao.nm 1) (pH (aa (eR de (aa (dF (Nc:=["_law_a","_law_b","_law_many"]) (bq.look (ai eL) ["_law_source_here","_law_rows","_law_turned_here","_law_made","_law_one","_law_other","_law_many"] (by decide+kernel)) (xj (ao.g 4) B.xw (aa (ao.nm 4) (aa (ao.nm 5) aj))) (fun _ _ _ _=>(su rfl (show(["_law_a","_law_b","_law_many"]:List Str).Nodup by decide+kernel) (by first|exact Or.inl rfl|exact Or.inr rfl) (by first|exact .inl rfl|exact .inr rfl) (by first|exact Or.inl rfl|exact Or.inr rfl) (by first|exact .inl rfl|exact .inr rfl))) (fun _ _ _ _=>cC) (fun _ _ _ _=>(cn gf cL (cn gL cL cL))) rX) aj) B.cX rfl cN (ao.d 5) (ao.g 5)) aj)))))
  (au (dj (mz (ao.nm 3) (cn gf (pH (aa (cn gL (pH (aa aB aj)) (fv eS (aa (ao.nm 4) aj) B.eV rfl dH (ao.d 2) (ao.g 2))) aj)) (ao.nm 1))))
  (au (dj (mz (ao.nm 3) (eR de (aa (dF (Nc:=["_law_row"]) (bq.look (ai eL) ["_law_source_here","_law_rows","_law_turned_here","_law_made","_law_one","_law_other","_law_many"] (by decide+kernel)) (gy (ao.nm 1)) (fun _ _ _ _=>(d5 (show(["_law_row"]:List Str).Nodup by decide+kernel) (by first|exact Or.inl rfl|exact Or.inr rfl) (by first|exact .inl rfl|exact .inr rfl))) (fun _ _ _ _=>cC) (fun _ _ _ _=>(cn gf cL (pH (aa aB aj)))) cx) aj) B.cX rfl cN (ao.d 5) (ao.g 5))))
  (au (dj (mz (ao.nm 3) (eR de (aa (dF (Nc:=["_law_row"]) (bq.look (ai eL) ["_law_source_here","_law_rows","_law_turned_here","_law_made","_law_one","_law_other","_law_many"] (by decide+kernel)) (JQ (ao.g 6) B.uq (aa (ao.nm 1) aj)) (fun _ _ _ _=>(d5 (show(["_law_row"]:List Str).Nodup by decide+kernel) (by first|exact Or.inl rfl|exact Or.inr rfl) (by first|exact .inl rfl|exact .inr rfl))) (fun _ _ _ _=>cC) (fun _ _ _ _=>(Nn rfl B.cX rfl B.uq (aa cL aj))) cx) aj) B.cX rfl cN (ao.d 5) (ao.g 5))))
  (aK (Ir (cG (ao.nm 3)))))))))))))) w4
theorem KN:c_ (KX w.params) mg "law" "law" lK ["_law_script"] 265 (Hd.fd lK "law" "law" jH 264):=Hd.tf e.X e.G (by kernel_rfl) fun _ _ _ _ _ _ _=>rfl
theorem Mf:bH PW w (KX w.params) mg base cW 10 265 (Hd.fd lK "law" "law" jH 264) ["_law_script"] (c8 F3):=by
 have B:=Bt e;have Q:=Qt e
 exact cH (N:=xp) (KN e).fn nE (fun cdv A outer s H E hr=>(au (bK nE.nd (bV.l 1) (bx (qQ e) (xY e) (hr.mono (by decide)) (aa (bV.nm 0) (aa aB aj)) (bV.d 0) (bV.g 0)))
  (au (bK nE.nd (bV.l 2) (bx (nQ e) (tZ e) (hr.mono (by decide)) (aa (bV.nm 1) aj) (bV.d 1) (bV.g 1)))
  (au (bK nE.nd (bV.l 3) (bp (bx (kT e) (mW e) (hr.mono (by decide)) (aa (bV.nm 2) aj) (bV.d 2) (bV.g 2)) aB))
  (au (k9 (gy (bx (qI e) (zg e) (hr.mono (by decide)) (aa (bV.nm 1) (aa (bV.nm 2) aj)) (bV.d 3) (bV.g 3))) (d5 nE.nd (by first|exact Or.inl rfl|exact Or.inr rfl) (by first|exact .inl rfl|exact .inr rfl)) (aK (jY (g7 (Fd hr) (dX _) (bp (bx (kT e) (mW e) (hr.mono (by decide)) (aa (bV.nm 4) aj) (bV.d 2) (bV.g 2)) aB) (bV.nm 3)) (aK (cG vP)) jR)))
  (au (bK nE.nd (bV.l 5) (bp (xl (aa aB (aa (kJ aB) (aa (kJ aB) (aa aB (aa aB (aa aB aj))))))) (bx (cJ e) (cP e) (hr.mono (by decide)) (aa (bV.nm 1) (aa aB aj)) (bV.d 4) (bV.g 4))))
  (au (bK nE.nd (bV.l 6) (eR de (aa (dF (Nc:=["_law_row","_law_by"]) (bq.look (ai lK) ["_law_script","_law_source_here","_law_rows","_law_numbers","_law_made","_law_by","_law_more"] (by decide+kernel)) (gy (bV.nm 2)) (fun _ _ _ _=>(d5 (show(["_law_row","_law_by"]:List Str).Nodup by decide+kernel) (by first|exact Or.inl rfl|exact Or.inr rfl) (by first|exact .inl rfl|exact .inr rfl))) (fun _ _ _ _=>cC) (fun _ _ _ _=>(eR de (aa (dF (Nc:=["_law_one","_law_by"]) (bq.FY (by decide+kernel)) (gy cL) (fun _ _ _ _=>(d5 (show(["_law_one","_law_by"]:List Str).Nodup by decide+kernel) (by first|exact Or.inl rfl|exact Or.inr rfl) (by first|exact .inl rfl|exact .inr rfl))) (fun _ _ _ _=>cC) (fun _ _ _ _=>(cn gL cL cL)) cx) aj) B.cX rfl cN (by decide+kernel) rfl)) cx) aj) B.cX rfl cN (bV.d 5) (bV.g 5)))
  (au (jY (g7 (Fd hr) (dX _) (bp (bx (kT e) (mW e) (hr.mono (by decide)) (aa (bV.nm 6) aj) (bV.d 2) (bV.g 2)) aB) (eR de (aa (dF (Nc:=["_law_number","_law_by"]) (bq.look (ai lK) ["_law_script","_law_source_here","_law_rows","_law_numbers","_law_made","_law_by","_law_more"] (by decide+kernel)) (gy (bV.nm 3)) (fun _ _ _ _=>(d5 (show(["_law_number","_law_by"]:List Str).Nodup by decide+kernel) (by first|exact Or.inl rfl|exact Or.inr rfl) (by first|exact .inl rfl|exact .inr rfl))) (fun _ _ _ _=>cC) (fun _ _ _ _=>(cn gL (fv FA (aa cL aj) B.Fj rfl C8 (by decide+kernel) rfl) cL)) cx) aj) B.cX rfl cN (bV.d 5) (bV.g 5))) (aK (cG vP)) jR)
  (aK (cG (Kc (sI Bb (dX _) (fv eS (aa (bV.nm 2) aj) B.eV rfl dH (bV.d 6) (bV.g 6)) aB) (FG (sI (rG hr) (dX _) (bp (bx (kT e) (mW e) (hr.mono (by decide)) (aa (cn gf (bV.nm 6) (bV.nm 2)) aj) (bV.d 2) (bV.g 2)) aB) (bV.nm 3)))))))))))))) IT
end
def dL:DefRec:=match lK with
 | .FunctionDef n a b _ _ _ sc _ _ pos=>⟨n,a,b,sc,pos⟩
 |_=>⟨"",L2.kv (.Pass ⟨0,0,0,0⟩),[],L2.ai (.Pass ⟨0,0,0,0⟩),⟨0,0,0,0⟩⟩
theorem D0:PySem.Challenge.rw_latticeworks_k23_whole_numbers_stay.wellSaid=true:=by decide+kernel
end Row
open PySem PySem.W PyProof.Rows
set_option maxRecDepth 100000 in
set_option maxHeartbeats 0 in
theorem PySem.Challenge.cw_latticeworks_k23_whole_numbers_stay_holds : PySem.Challenge.rw_latticeworks_k23_whole_numbers_stay.Holds := by
 refine PySem.W.holds_law Row.D0 fun D0=>?_;refine PySem.W.holds_open (r:=PySem.Challenge.rw_latticeworks_k23_whole_numbers_stay.row) (q:=PySem.W.view Row.PW [1,2,3,4,5,6,7,8,10,11,12,13,14,16,17,18,19,20,22,23,24,25,26,27,28]) (loose:=[]) (Xt:=fun _=>true) (XP:=fun _ _=>True) (YP:=(PySem.W.kmHook Row.KX Row.KA (fun _=>rfl) [110]).says) (d:=Row.dL) (kwd:=[]) Row.left ((PySem.W.kmHook Row.KX Row.KA (fun _=>rfl) [110]).of) ((PySem.W.kmHook Row.KX Row.KA (fun _=>rfl) [110]).keeps) (fun _ _=>trivial) (fun _ _ _ _ _=>trivial) (by kernel_rfl) (by kernel_rfl) (by kernel_rfl) (fun s _=>PySem.W.recFacts_of (R:=[]) rfl) (by kernel_rfl) D0 (by decide+kernel) ⟨rfl,rfl,rfl,rfl,rfl,by decide+kernel⟩ ?hw ?hc;case hw=>w_witness2
 refine L2.Lh (n:=63) (k:=10) (x:="_law_script") (ts:=[(112,110)]) (K:=Row.KX) (sp:=fun w=>L3.Ce (Row.KX w.params) [(112,110)]) rfl (by decide) (by kernel_rfl) ⟨rfl,by decide,by decide⟩ (by kernel_rfl) rfl (fun w h Y=>⟨PySem.W.km_in_of Y,⟨(fun q hq=>by rcases List.mem_cons.mp hq with rfl|hq;kernel_rfl;cases hq),(fun q hq=>by rcases List.mem_cons.mp hq with rfl|hq;kernel_rfl;cases hq),fun q hq=>PySem.W.km_tabs_of Y _ (List.mem_map_of_mem (f:=Prod.snd) hq)⟩⟩) ?F fun _ _ a ns hl hE=>⟨a,ns,rfl,hE,hl,fun _=>rfl⟩
 intro w mg fa h X G hmg;have e2:=hmg.symm.trans (PySem.W.mg_of (v:= .ref 265) X G (by kernel_rfl));cases e2;exact⟨Hd.fd Row.lK "law" "law" Row.jH 264,fun s v=> .of_eq rfl,fun base _ _=>(Row.Mf ⟨X,G⟩).imp fun vs H Q E h=>L3.CK (tl:=[(110,⟨56,32,56,66⟩,"Bench.live_rows.<locals>.<lambda>")]) (by kernel_rfl) rfl (by decide) h⟩
