import PyProof.Rows.All
import Wide.All
import OpenK.AllK
import Wide.FinOn
import Lean
import PyProof.EqAt
import PyProof.EqKinds
import PyProof.TupleCall
import PyProof.NeKinds
import KE.KUnpack
import KE.KTryDeep
import PyProof.ExcBaseAll.ValueError
import KE.KIsAll
import PyProof.ExcAttrAll.ValueError
import PySem.Challenge.RW_latticeworks_k32_rows_that_are_no_steps
set_option Elab.async false
set_option linter.all false
set_option maxRecDepth 100000
namespace L2
open PySem PySem.Spec PyProof.Rows
abbrev Key:=Sum Int Str
def Ce:Key->Value->Bool
 | .inl k,v=>Value.isInt k v
 | .inr x,v=>Value.isStrOf x v
def Ir(w:World):Key->Int
 | .inl k=>hashInt k
 | .inr x=>hashStr w x
theorem cS:∀ {k:Key} {v:Value},Ce k v=true->(∃i t,k=Sum.inl i/\v=Value.int i t)\/(∃x t,k=Sum.inr x/\v=Value.str x t)
 | .inl i,v,h=>by
   obtain⟨t,e⟩:=Value.isInt_shape (k:=i) (v:=v) h;exact .inl ⟨i,t,rfl,e⟩
 | .inr x,v,h=>by
   obtain⟨t,e⟩:=Value.isStrOf_shape (x:=x) (v:=v) h;exact .inr ⟨x,t,rfl,e⟩
theorem Eg(a b:Int):decide ((Sum.inl a:Key)=Sum.inl b)=(a==b):=by
 by_cases e:a=b
 . subst e;simp
 . have h:¬(Sum.inl a:Key)=Sum.inl b:=fun q=>e (Sum.inl.inj q);rw[decide_eq_false h];exact(beq_eq_false_iff_ne.mpr e).symm
theorem EU(a b:Str):decide ((Sum.inr a:Key)=Sum.inr b)=decide (a=b):=by
 by_cases e:a=b
 . subst e;simp
 . have h:¬(Sum.inr a:Key)=Sum.inr b:=fun q=>e (Sum.inr.inj q);rw[decide_eq_false h,decide_eq_false e]
theorem EO(a:Int)(b:Str):decide ((Sum.inl a:Key)=Sum.inr b)=false:=decide_eq_false (fun q=>nomatch q)
theorem FA(a:Str)(b:Int):decide ((Sum.inr a:Key)=Sum.inl b)=false:=decide_eq_false (fun q=>nomatch q)
def wq(prog:Program)(w:World):PySem.KeyKind prog w Key where
 is:=Ce
 hash:=Ir w
 inj:=fun v a b ha hb=>by
  rcases cS ha with⟨i,t,rfl,rfl⟩|⟨x,t,rfl,rfl⟩
  . rcases cS hb with⟨j,u,rfl,e⟩|⟨y,u,rfl,e⟩
    . injection e with e1 _;rw[e1]
    . exact nomatch e
  . rcases cS hb with⟨j,u,rfl,e⟩|⟨y,u,rfl,e⟩
    . exact nomatch e
    . injection e with e1 _;rw[e1]
 byValue:=fun k v h=>by
  rcases cS h with⟨i,t,rfl,rfl⟩|⟨x,t,rfl,rfl⟩<;>rfl
 pyHash:=fun hv h=>by
  rcases cS hv with⟨i,t,rfl,rfl⟩|⟨x,t,rfl,rfl⟩
  . exact wpAny_pyHash_int h
  . exact wpAny_pyHash_str h
 eqBool:=fun hu hv h=>by
  rcases cS hu with⟨i,t,rfl,rfl⟩|⟨x,t,rfl,rfl⟩
  . rcases cS hv with⟨j,u,rfl,rfl⟩|⟨y,u,rfl,rfl⟩
    . rw[Eg]at h;exact wpAny_eqBool_int h
    . rw[EO]at h;exact SeqAt.EqAt.int_str i t y u _ _ _ _ h
  . rcases cS hv with⟨j,u,rfl,rfl⟩|⟨y,u,rfl,rfl⟩
    . rw[FA]at h;exact SeqAt.EqAt.str_int x t j u _ _ _ _ h
    . rw[EU]at h;exact wpAny_eqBool_str h
 «strs» :=fun k x t v h=>by
  rcases cS h with⟨i,u,rfl,e⟩|⟨y,u,rfl,e⟩
  . exact nomatch e
  . injection e with e1 _;subst e1;cases v<;>rfl
inductive V where
 |ay|bl (b:Bool)|int (i:Int)|str (x:Str)|pQ (b:Array UInt8)|pU (b:UInt64)|ref (a:Addr)|ty (n:String)
 deriving DecidableEq
def RelV:V->Value->Prop
 | .ay,u=>u=Value.none
 | .bl b,u=>u=Value.bool b
 | .int i,u=>∃t,u=Value.int i t
 | .str x,u=>∃t,u=Value.str x t
 | .pQ b,u=>∃t,u=Value.bytes b t
 | .pU b,u=>∃t,u=Value.float b t
 | .ref a,u=>u=Value.ref a
 | .ty n,u=>u=Value.type n
abbrev Vals:List V->List Value->Prop:=Paired RelV
theorem Vals.length{xs:List V}{us:List Value}(r:Vals xs us):xs.length=us.length:=Paired.length r
theorem Vals.get:∀ {xs:List V} {us:List Value} {i:Nat} {x:V},Vals xs us->xs[i]?=some x->∃u,us[i]?=some u/\RelV x u
 |_,_,_,_,.nil,e=>by simp at e
 |_,_,0,_,.cons r _,e=>by simp at e;subst e;exact⟨_,rfl,r⟩
 |_,_,i+1,x,.cons _ t,e=>by
  obtain⟨u,h1,h2⟩:=Vals.get (i:=i) (x:=x) t (by simpa using e);exact⟨u,by simpa using h1,h2⟩
theorem Vals.set{x:V}{u:Value}(r:RelV x u):∀ {xs:List V} {us:List Value} (i:Nat),Vals xs us->Vals (xs.set i x) (us.set i u)
 |_,_,_,.nil=> .nil
 |_,_,0,.cons _ t=> .cons r t
 |_,_,i+1,.cons q t=> .cons q (Vals.set r i t)
theorem Vals.append:∀ {xs ys:List V} {us ws:List Value},Vals xs us->Vals ys ws->Vals (xs++ys) (us++ws)
 |_,_,_,_,.nil,s=>s
 |_,_,_,_,.cons r t,s=> .cons r (Vals.append t s)
theorem Vals.take:∀ {xs:List V} {us:List Value} (n:Nat),Vals xs us->Vals (xs.take n) (us.take n)
 |_,_,0,_=> .nil
 |_,_,_+1,.nil=> .nil
 |_,_,n+1,.cons r t=> .cons r (Vals.take n t)
theorem Vals.drop:∀ {xs:List V} {us:List Value} (n:Nat),Vals xs us->Vals (xs.drop n) (us.drop n)
 |_,_,0,r=>r
 |_,_,_+1,.nil=> .nil
 |_,_,n+1,.cons _ t=>Vals.drop n t
def xH:Option V->Option Value->Prop
 |some v,some u=>RelV v u
 |none,none=>True
 |_,_=>False
def KV{κ:Type}:List (κ×V)->List (κ×Value)->Prop:=Paired fun(p:κ×V) (q:κ×Value)=>p.1=q.1/\RelV p.2 q.2
def kV:Key->V
 | .inl i=> .int i
 | .inr x=> .str x
inductive HO where
 |lst (xs:List V)
 |tup (xs:List V)
 |dK (kvs:List (Key×V))|dT (kvs:List (List Key×V))
 |set (S:Int->Bool) (n:Nat)
 |ins (C dx:Addr) (fs:List (Str×V))
 |own (x:Addr)
 |xd (fs:List (Str×V))
 |met (f x:Addr)
 |B9 (lo hi:Int)
 |dM (o:Obj) (u:HO)
 |jf (ps:Array Value)
 |ext (φ:Heap->Prop)
abbrev Hp:=Addr->Option HO
def upd(H:Hp)(a:Addr)(o:HO):Hp:=fun b=>if b=a then some o else H b
theorem aD{H:Hp}{a:Addr}{o:HO}:upd H a o a=some o:=by unfold upd;rw[if_pos rfl]
theorem aq{H:Hp}{a b:Addr}{o:HO}(h:b≠a):upd H a o b=H b:=by unfold upd;rw[if_neg h]
theorem Cw{H:Hp}{a:Addr}{o u:HO}:upd (upd H a o) a u=upd H a u:=by
 funext b;unfold upd;split<;>rfl
theorem cT{H:Hp}{a b:Addr}{o:HO}(h:H a=some o)(h':H b=none):a≠b:=by
 intro e;subst e;rw[h]at h';cases h'
section
variable (P:Program)(w:World)
def cn(H:Hp)(h:Heap)(a:Addr):HO->Prop
 | .lst xs=>xs.length<=sizeLine/\∃(aj:List Value) (n:Nat),Vals xs aj/\h.get? a=some {cls:= .type "list",data:= .seq aj.toArray n}
 | .tup xs=>xs.length<=sizeLine/\∃aj:List Value,Vals xs aj/\IsTup h a aj.toArray
 | .dK kvs=>kvs.length<=sizeLine/\(a==sysModules)=false/\∃vs,KV kvs vs/\h.DictOf (wq P w) a vs
 | .dT kvs=>kvs.length<=sizeLine/\(a==sysModules)=false/\∃xs:List (List Key×Addr×Value),
    Paired (fun(p:List Key×V) (q:List Key×Addr×Value)=>p.1=q.1/\H q.2.1=some (.tup (p.1.map kV))/\RelV p.2 q.2.2) kvs xs/\
    ∃o es ep,h.get? a=some o/\o.ExactDict/\o.data= .dict es ep/\es.toList=xs.map (entryOfKey (tupleKind (wq P w)))/\(xs.map (·.1)).Nodup
 | .set S n=>h.SetOf (intKind P w) a S n
 | .ins C dx fs=>H dx=some (.own a)/\fs.length<=1000/\dx≠a/\h.get? a=some (PySem.W.instObj C dx)/\
    ∃mA,h.Ns1 dx mA/\(∀f,xH (fs.lookup f) (mA f))/\PySem.Within mA (fs.map (·.1))
 | .own _=>∃o,h.get? a=some o
 | .xd fs=>∃mA,h.Ns1 a mA/\∀f,xH (fs.lookup f) (mA f)
 | .B9 lo hi=>∃t u v,h.get? a=some {cls:= .type "range",data:= .fields #[.int lo t,.int hi u,.int 1 v]}
 | .dM o u=>h.get? a=some o/\cn H h a u
 | .jf ps=>h.get? a=some {cls:= .none,data:= .fields ps}
 | .met f x=>h.get? a=some (PySem.W.methodObj (.ref f) (.ref x))
 | .ext φ=>φ h/\(∃o,h.get? a=some o)/\∀h1 h2:Heap,φ h1->(∀o,h1.get? a=some o->h2.get? a=some o)->φ h2
def dE(H:Hp)(h:Heap):Prop:=∀a o,H a=some o->cn P w H h a o
end
section
variable {P:Program}{w:World}{H H':Hp}{h h':Heap}{a:Addr}{o:HO}
theorem cn.lt(x:cn P w H h a o):a<h.objs.size:=by
 cases o with
 |lst xs=>obtain⟨_,_,_,_,e⟩:=x;exact Heap.lt_size e
 |tup xs=>obtain⟨_,_,_,p⟩:=x;exact p.lt
 |dK kvs=>obtain⟨_,_,_,_,o,_,_,e,_⟩:=x;exact Heap.lt_size e
 |dT kvs=>obtain⟨_,_,_,_,o,_,_,e,_⟩:=x;exact Heap.lt_size e
 |set S n=>obtain⟨o,_,_,_,e,_⟩:=x;exact Heap.lt_size e
 |ins C dx fs=>obtain⟨_,_,_,e,_⟩:=x;exact Heap.lt_size e
 |own y=>obtain⟨_,e⟩:=x;exact Heap.lt_size e
 |xd fs=>obtain⟨_,⟨_,_,_,e,_⟩,_⟩:=x;exact Heap.lt_size e
 |B9 lo hi=>obtain⟨_,_,_,e⟩:=x;exact Heap.lt_size e
 |dM ob u=>obtain⟨e,_⟩:=x;exact Heap.lt_size e
 |jf ps=>exact Heap.lt_size (show h.get? a=some _ from x)
 |met f y=>exact Heap.lt_size (show h.get? a=some _ from x)
 |ext φ=>obtain⟨_,⟨_,e⟩,_⟩:=x;exact Heap.lt_size e
theorem Paired.zV{α β:Type}{F G:α->β->Prop}:∀ {l₁:List α} {l₂:List β},Paired F l₁ l₂->(∀a b,F a b->G a b)->Paired G l₁ l₂
 |_,_,.nil,_=> .nil
 |_,_,.cons r t,f=> .cons (f _ _ r) (Paired.zV t f)
theorem cn.kE(x:cn P w H h a o)(k:∀b u,(b=a\/H b=some (.own a))->h.get? b=some u->h'.get? b=some u)
 (ho:∀b,H b=some (.own a)->H' b=some (.own a)) (ht:∀b xs,H b=some (.tup xs)->H' b=some (.tup xs)):cn P w H' h' a o:=by
 induction o with
 |lst xs=>obtain⟨z,aj,n,r,e⟩:=x;exact⟨z,aj,n,r,k _ _ (.inl rfl) e⟩
 |tup xs=>obtain⟨z,aj,r,ob,e,c⟩:=x;exact⟨z,aj,r,ob,k _ _ (.inl rfl) e,c⟩
 |dK kvs=>obtain⟨z,y,vs,r,ob,es,ep,e,c⟩:=x;exact⟨z,y,vs,r,ob,es,ep,k _ _ (.inl rfl) e,c⟩
 |dT kvs=>
  obtain⟨z,y,xs,r,ob,es,ep,e,c⟩:=x;exact⟨z,y,xs,Paired.zV r fun p q z=>⟨z.1,ht _ _ z.2.1,z.2.2⟩,ob,es,ep,k _ _ (.inl rfl) e,c⟩
 |set S n=>obtain⟨ob,es,ep,t,e,c⟩:=x;exact⟨ob,es,ep,t,k _ _ (.inl rfl) e,c⟩
 |ins C dx fs=>
  obtain⟨d,z,ne,e,mA,⟨od,es,ep,e2,c⟩,r⟩:=x;exact⟨ho _ d,z,ne,k _ _ (.inl rfl) e,mA,⟨od,es,ep,k _ _ (.inr d) e2,c⟩,r⟩
 |own y=>obtain⟨ob,e⟩:=x;exact⟨ob,k _ _ (.inl rfl) e⟩
 |xd fs=>obtain⟨mA,⟨od,es,ep,e,c⟩,r⟩:=x;exact⟨mA,⟨od,es,ep,k _ _ (.inl rfl) e,c⟩,r⟩
 |B9 lo hi=>obtain⟨t,u,v,e⟩:=x;exact⟨t,u,v,k _ _ (.inl rfl) e⟩
 |dM ob u ih=>obtain⟨e,q⟩:=x;exact⟨k _ _ (.inl rfl) e,ih q⟩
 |jf ps=>
  have e:h.get? a=some {cls:= .none,data:= .fields ps}:=x;show h'.get? a=some {cls:= .none,data:= .fields ps};exact k a _ (.inl rfl) e
 |met f y=>
  have e:h.get? a=some (PySem.W.methodObj (.ref f) (.ref y)):=x;show h'.get? a=some (PySem.W.methodObj (.ref f) (.ref y));exact k a _ (.inl rfl) e
 |ext φ=>obtain⟨p,⟨o,e⟩,st⟩:=x;exact⟨st _ _ p fun o q=>k _ _ (.inl rfl) q,⟨o,k _ _ (.inl rfl) e⟩,st⟩
theorem dE.lt(x:dE P w H h)(e:H a=some o):a<h.objs.size:=(x a o e).lt
theorem dE.fresh(x:dE P w H h)(e:h.objs.size<=a):H a=none:=by
 cases q:H a with
 |none=>rfl
 |some u=>exact absurd (Nat.lt_of_lt_of_le (x.lt q) e) (Nat.lt_irrefl _)
theorem dE.kept(x:dE P w H h)(k:∀b u,h.get? b=some u->h'.get? b=some u):dE P w H h':=fun a o e=>
 (x a o e).kE (fun b u _ q=>k b u q) (fun _ q=>q) fun _ _ q=>q
theorem dE.laid(x:dE P w H h)(k:∀b u,h.get? b=some u->h'.get? b=some u)(hp:h.objs.size<=a)(new:cn P w (upd H a o) h' a o):dE P w (upd H a o) h':=fun b u e=>by
 have hn:=x.fresh hp;by_cases hb:b=a
 . subst hb;rw[aD]at e;cases e;exact new
 . rw[aq hb]at e;exact(x b u e).kE (fun c v _ q=>k c v q) (fun c q=>by rw[aq (cT q hn)];exact q) fun c xs q=>by rw[aq (cT q hn)];exact q
end
def Rd(H:Hp)(a:Addr)(u:HO):Prop:=H a=some u\/∃o,H a=some (.dM o u)
theorem Rd.of{H:Hp}{a:Addr}{u:HO}(h:H a=some u):Rd H a u:= .inl h
theorem Rd.ok{P:Program}{w:World}{H:Hp}{h:Heap}{a:Addr}{u:HO}(r:Rd H a u)(x:dE P w H h):cn P w H h a u:=by
 rcases r with r|⟨o,r⟩
 . exact x a u r
 . obtain⟨_,q⟩:=x a _ r;exact q
def BP:Option HO->Prop
 |some (.lst _)=>True
 |some (.dK _)=>True
 |some (.dT _)=>True
 |some (.set _ _)=>True
 |some (.ins _ _ _)=>True
 |some (.ext _)=>True
 |_=>False
section
variable {P:Program}{w:World}{H:Hp}{h h':Heap}{x e:Addr}{o':HO}
theorem dE.write(ok:dE P w H h)(mu:BP (H x))(he:e=x\/H e=some (.own x))(k:∀b u,b≠e->h.get? b=some u->h'.get? b=some u)(heo:∃u,h'.get? e=some u)
 (new:cn P w (upd H x o') h' x o'):dE P w (upd H x o') h':=fun b u q=>by
 have nown:∀c y,H c=some (.own y)->c≠x:=fun c y r z=>by subst z;rw[r]at mu;exact mu
 have ntup:∀c xs,H c=some (.tup xs)->c≠x:=fun c xs r z=>by subst z;rw[r]at mu;exact mu
 by_cases hb:b=x
 . subst hb;rw[aD]at q;cases q;exact new
 . rw[aq hb]at q;by_cases hbe:b=e
   . have q':H b=some (.own x):=by
      rcases he with z|z
      . exact absurd (hbe.trans z) hb
      . rw[hbe];exact z
     rw[q]at q';cases q';obtain⟨v,hv⟩:=heo;exact⟨v,by rw[hbe];exact hv⟩
   . refine(ok b u q).kE (fun c v hc r=>k c v ?_ r) (fun c r=>by rw[aq (nown c b r)];exact r) fun c xs r=>by rw[aq (ntup c xs r)];exact r
     rcases hc with rfl|hc
     . exact hbe
     . rintro rfl;rcases he with z|z
       . exact nown c b hc z
       . rw[hc]at z;cases z;exact hb rfl
end
structure Un(fs ex:List Addr)(H H':Hp)(h h':Heap):Prop where
 keep:∀b o,h.get? b=some o->H b=none->b∉fs->b∉ex->h'.get? b=some o
 slot:∀b o,h.get? b=some o->H b=none->b∈fs->b∉ex->∃sl,h'.get? b=some {o with slots:=sl}
 free:∀b o,h.get? b=some o->H b=none->b∉ex->H' b=none
 there:∀b o,h.get? b=some o->b∉ex->∃o',h'.get? b=some o'
 iI:∀b xs,H b=some (.tup xs)->H' b=some (.tup xs)
 gZ:∀b o u,H b=some (.dM o u)->H' b=some (.dM o u)
 gT:∀b ps,H b=some (.jf ps)->∃more,H' b=some (.jf (ps++more))
section
variable {fs fs' ex ex':List Addr}{H H1 H2:Hp}{h h1 h2 h':Heap}{a x e:Addr}{o:HO}
theorem Un.any(u:Un fs ex H H1 h h1){b:Addr}{ob:Obj}(q:h.get? b=some ob)(n:H b=none)(hx:b∉ex):∃sl,h1.get? b=some {ob with slots:=sl}:=by
 by_cases hb:b∈fs
 . exact u.slot b ob q n hb hx
 . exact⟨ob.slots,u.keep b ob q n hb hx⟩
theorem Un.kept(k:∀b u,h.get? b=some u->h'.get? b=some u):Un fs ex H H h h':=
 ⟨fun b ob q _ _ _=>k b ob q,fun b ob q _ _ _=>⟨ob.slots,k b ob q⟩,fun _ _ _ n _=>n,fun b ob q _=>⟨ob,k b ob q⟩,fun _ _ q=>q,fun _ _ _ q=>q,fun _ ps q=>⟨#[],by rw[q];simp⟩⟩
theorem Un.refl:Un fs ex H H h h:=Un.kept fun _ _ q=>q
theorem Un.laid(k:∀b u,h.get? b=some u->h'.get? b=some u)(hp:h.objs.size<=a)(hn:H a=none):Un fs ex H (upd H a o) h h' where
 keep:=fun b u q _ _ _=>k b u q
 slot:=fun b u q _ _ _=>⟨u.slots,k b u q⟩
 free:=fun b u q n _=>by rw[aq (Nat.ne_of_lt (Nat.lt_of_lt_of_le (Heap.lt_size q) hp))];exact n
 there:=fun b u q _=>⟨u,k b u q⟩
 iI:=fun b xs q=>by rw[aq (cT q hn)];exact q
 gZ:=fun b u xs q=>by rw[aq (cT q hn)];exact q
 gT:=fun b ps q=>⟨#[],by rw[aq (cT q hn),q];simp⟩
theorem Un.write(mu:BP (H x))(he:e=x\/H e=some (.own x))(k:∀b u,b≠e->h.get? b=some u->h'.get? b=some u)(heo:∃u,h'.get? e=some u):Un fs ex H (upd H x o) h h':=by
 have hx:∀b,H b=none->b≠x:=fun b n z=>by subst z;rw[n]at mu;exact mu
 have hb:∀b,H b=none->b≠e:=fun b n z=>by
  subst z;rcases he with r|r
  . exact hx b n r
  . rw[n]at r;cases r
 have hm:∀b u,H b=some u->¬BP (some u)->b≠x:=fun b u q nm z=>by subst z;rw[q]at mu;exact nm mu
 refine⟨fun b u q n _ _=>k b u (hb b n) q,fun b u q n _ _=>⟨u.slots,k b u (hb b n) q⟩,fun b u q n _=>by rw[aq (hx b n)];exact n,fun b u q _=>?_,
  fun b xs q=>by rw[aq (hm b _ q fun z=>z)];exact q,fun b u xs q=>by rw[aq (hm b _ q fun z=>z)];exact q,fun b ps q=>⟨#[],by rw[aq (hm b _ q fun z=>z),q];simp⟩⟩
 by_cases hbe:b=e
 . subst hbe;exact heo
 . exact⟨u,k b u hbe q⟩
end
def BK(h:Heap)(H:Hp):List Addr:=(List.range h.objs.size).filter fun a=>(H a).isSome
def kG(h:Heap)(H:Hp):Heap:=PySem.W.hideAll h (BK h H)
theorem yR(h:Heap)(H:Hp):(kG h H).objs.size=h.objs.size:=PySem.W.hideAll_size _ _
theorem lI{h:Heap}{H:Hp}{b:Addr}{o:Obj}(e:h.get? b=some o)(n:H b=none):(kG h H).get? b=some o:=
 PySem.W.hideAll_get _ e fun hm=>by
  have q:(H b).isSome=true:=(List.mem_filter.mp hm).2;rw[n]at q;simp at q
theorem DW{h:Heap}{H:Hp}{b:Addr}{o:Obj}(e:(kG h H).get? b=some o):h.get? b=some o/\H b=none:=by
 have e':h.get? b=some o:=PySem.W.of_hideAll (BK h H) e;refine⟨e',?_⟩;cases q:H b with
 |none=>rfl
 |some x=>
  have hm:b∈BK h H:=List.mem_filter.mpr ⟨List.mem_range.mpr (Heap.lt_size e'),by simp[q]⟩;have z:(kG h H).get? b=none:=PySem.W.hideAll_none (BK h H) hm;rw[z]at e;cases e
def Cr(g h:Heap)(L:Addr):List (Addr×Obj):=(List.range h.objs.size).filterMap fun a=>if a=L\/(g.get? a).isSome=true then none else(h.get? a).map fun o=>(a,o)
def rest(g h:Heap)(L d:Addr):List (Addr×Obj):=(Cr g h L).filter fun p=>decide (p.1≠d)
structure Mod(K:PySem.W.Frag)(mg:Str->Option Value)(base:Heap):Prop where
 t_:K.In base
 glob:base.Ns mainGlobals mg
 blt:∃mb,base.Ns builtinsNs mb/\∀x:Str,x≠"__name__"->mb x=bootBuiltins x
 nolimit:base.NoLimit
 seer:base.NoSeer
 bmain:∃bm ob,mg "__builtins__"=some (.ref bm)/\bm≠builtinsNs/\base.get? bm=some ob/\ob.cls= .type "module"/\ob.dict=some builtinsNs/\ob.data= .plain
structure Cx where
 prog:Program
 w:World
 K:PySem.W.Frag
 mg:Str->Option Value
 base:Heap
 A:Around
 N:List Str
 s₀:Shared
 H₀:Hp
 env:Env
 outer:List Env
 stack:List Env
 ex:List Addr
 fn:Str->Bool
 calm:Bool
 pn:List (Addr×Obj)
 xe:Value->Shared->Prop
def di(l:List Env):List Addr:=l.filterMap (·.frame)
abbrev Cx.fs(X:Cx):List Addr:=di X.outer
def pF(sc:Scope)(x:Str):Prop:=sc.names.lookup x=some .local\/sc.names.lookup x=some .cell\/sc.names.lookup x=some .free
def Loc(sc:Scope)(x:Str):Prop:=sc.names.lookup x=some .local\/sc.names.lookup x=some .cell
def Look(env:Env)(h:Heap)(m:Str->Option Value)(x:Str)(u:Value):Prop:=
 (env.kindOf x=some .local/\m x=some u)\/((env.kindOf x=some .cell\/env.kindOf x=some .free)/\∃c,env.cells.lookup x=some c/\h.IsCell c (some u))
structure Cx.Ok(X:Cx):Prop where
 mod:Mod X.K X.mg X.base
 kind:X.env.scope.kind= .function
 glob:X.env.globals=mainGlobals
 blt:X.env.builtins=builtinsNs
 above:X.s₀.heap.objs.size<=X.env.locals
 inj:∀x y c,X.env.cells.lookup x=some c->X.env.cells.lookup y=some c->x=y
 has:∀x,(X.env.kindOf x=some .cell\/X.env.kindOf x=some .free)->∃c,X.env.cells.lookup x=some c
 ui:∀x c,X.fn x=true->X.env.cells.lookup x=some c->X.s₀.heap.objs.size<=c
 hd:X.calm=true->X.A.handled=none
 frames:X.A.frames=some X.stack
 wy:X.stack=X.outer\/(X.stack=X.env::X.outer/\X.env.frame=some X.env.locals)
 y9:∀b∈X.ex,b≠X.env.locals/\∀x c,X.env.cells.lookup x=some c->c≠b
 bs:∀b o,X.base.get? b=some o->X.s₀.heap.get? b=some o/\X.H₀ b=none
 oG:X.base.objs.size<=X.s₀.heap.objs.size
 pq:∀b o,X.base.get? b=some o->b∉X.ex
 oU:∀b∈X.ex,b∉X.fs
 fX:X.s₀.heap.FunFrames X.base X.outer
 mX:∀b∈X.fs,X.H₀ b=none
 gt:X.prog.given.tree=none
structure Inv(X:Cx)(pins:List (Addr×Obj))(σ:List (Option V))(H:Hp)(s:Shared):Prop where
 ok:X.Ok
 os:s.os=X.s₀.os
 bare:AllBare s.gens
 base:Un X.fs X.ex X.H₀ H X.s₀.heap s.heap
 loc:∃m,s.heap.Ns X.env.locals m/\∀(i:Nat) (x:Str) (v:V),X.N[i]?=some x->σ[i]?=some (some v)->pF X.env.scope x->∃u,RelV v u/\Look X.env s.heap m x u
 cell:∀x c,X.env.cells.lookup x=some c->∃v,s.heap.IsCell c v
 free:H X.env.locals=none
 ft:∀x c,X.env.cells.lookup x=some c->H c=none
 pin:∀p∈X.pn++pins,s.heap.get? p.1=some p.2/\H p.1=none/\p.1≠X.env.locals/\p.1∉X.fs/\∀v,p.2.data≠ .cell v
 aw:dE X.prog X.w H s.heap
 len:σ.length=X.N.length
section
variable {X:Cx}{pins:List (Addr×Obj)}{σ:List (Option V)}{H H':Hp}{s:Shared}{h':Heap}
theorem Cx.Ok.IC(ok:X.Ok){b:Addr}{o:Obj}(e:X.base.get? b=some o):b∉X.fs:=fun hb=>by
 have:=(ok.fX.mem hb).1;rw[e]at this;cases this
theorem Inv.bs(I:Inv X pins σ H s):∀b o,X.base.get? b=some o->s.heap.get? b=some o/\H b=none:=fun b o e=>
 ⟨I.base.keep b o (I.ok.bs b o e).1 (I.ok.bs b o e).2 (I.ok.IC e) (I.ok.pq b o e),I.base.free b o (I.ok.bs b o e).1 (I.ok.bs b o e).2 (I.ok.pq b o e)⟩
theorem Inv.bk(I:Inv X pins σ H s):∀b o,X.base.get? b=some o->s.heap.get? b=some o:=fun b o e=>(I.bs b o e).1
theorem Inv.mod(I:Inv X pins σ H s):Mod X.K X.mg X.base:=I.ok.mod
theorem Inv.dG(I:Inv X pins σ H s):X.K.In s.heap:=I.ok.mod.t_.keeps I.bk
theorem Inv.lt(I:Inv X pins σ H s):X.env.locals<s.heap.objs.size:=let⟨_,hn,_⟩:=I.loc;hn.lt
theorem Inv.sz(I:Inv X pins σ H s):X.s₀.heap.objs.size<=s.heap.objs.size:=Nat.le_trans I.ok.above (Nat.le_of_lt I.lt)
theorem Inv.IP(I:Inv X pins σ H s){a:Addr}(h:s.heap.objs.size<=a):a∉X.fs:=fun hb=>by
 obtain⟨_,o,ho,_⟩:=I.ok.fX.mem hb;exact absurd (Nat.lt_of_lt_of_le (Heap.lt_size ho) (Nat.le_trans I.sz h)) (Nat.lt_irrefl _)
theorem Inv.ni(I:Inv X pins σ H s):∀x c,X.env.cells.lookup x=some c->c≠X.env.locals:=fun x c e z=>by
 obtain⟨v,o,ho,hd⟩:=I.cell x c e;obtain⟨m,⟨o',es,ep,ho',hd',_⟩,_⟩:=I.loc;rw[z,ho']at ho;cases ho;rw[hd']at hd;cases hd
theorem Inv.fX(I:Inv X pins σ H s):s.heap.FunFrames X.base X.outer:=by
 have all:∀(l:List Env),(∀b∈di l,b∈X.fs)->X.s₀.heap.FunFrames X.base l->s.heap.FunFrames X.base l:=by
  intro l;induction l with
  |nil=>intro _ _;trivial
  |cons env r ih=>
   intro hs hl;obtain⟨hk,⟨L,o,hf,hn,ho,hd⟩,hr⟩:=hl;have hL:L∈X.fs:=hs L (by unfold di;rw[List.filterMap_cons,hf];exact List.mem_cons_self);obtain⟨sl,e⟩:=I.base.slot L o ho (I.ok.mX L hL) hL fun z=>I.ok.oU L z hL;exact⟨hk,⟨L,_,hf,hn,e,hd⟩,ih (fun b hb=>hs b (by unfold di;rw[List.filterMap_cons,hf];exact List.mem_cons_of_mem _ hb)) hr⟩
 exact all X.outer (fun _ hb=>hb) I.ok.fX
theorem Inv.stack(I:Inv X pins σ H s):s.heap.FunFrames X.base X.stack:=by
 rcases I.ok.wy with e|⟨e,hf⟩
 . rw[e];exact I.fX
 . rw[e];obtain⟨m,hn,_⟩:=I.loc;refine .cons (by rw[I.ok.kind];decide) hf hn ?_ I.fX;exact Heap.get?_none_of_le (Nat.le_trans I.ok.oG I.ok.above)
theorem Inv.ua(I:Inv X pins σ H s):∀b∈di X.stack,b∈X.env.locals::X.fs:=fun b hb=>by
 rcases I.ok.wy with e|⟨e,hf⟩
 . rw[e]at hb;exact List.mem_cons_of_mem _ hb
 . rw[e]at hb;unfold di at hb;rw[List.filterMap_cons,hf]at hb;exact hb
theorem Inv.kP(I:Inv X pins σ H s):∀b∈di X.stack,H b=none:=fun b hb=>by
 rcases List.mem_cons.mp (I.ua b hb)with e|hb
 . rw[e];exact I.free
 . obtain⟨_,o,ho,_⟩:=I.ok.fX.mem hb;exact I.base.free b o ho (I.ok.mX b hb) fun z=>I.ok.oU b z hb
theorem Inv.step{g':Array GenState}{t':Nat}{d':Drawn}{ch:List Addr}(I:Inv X pins σ H s)
 (hch:∀b∈ch,(b∈X.ex\/X.s₀.heap.objs.size<=b)/\b≠X.env.locals/\(∀x c,X.env.cells.lookup x=some c->c≠b)/\∀p∈X.pn++pins,p.1≠b)
 (keep:∀b o,b≠X.env.locals->b∉X.fs->b∉ch->s.heap.get? b=some o->H b=none->h'.get? b=some o)
 (slot:∀b o,b≠X.env.locals->b∈X.fs->b∉ch->s.heap.get? b=some o->H b=none->∃sl,h'.get? b=some {o with slots:=sl}) (free:∀b o,b∉ch->s.heap.get? b=some o->H b=none->H' b=none)
 (there:∀b o,b∉ch->s.heap.get? b=some o->∃o',h'.get? b=some o')
 (iI:∀b xs,H b=some (.tup xs)->H' b=some (.tup xs)) (gZ:∀b o u,H b=some (.dM o u)->H' b=some (.dM o u)) (gT:∀b ps,H b=some (.jf ps)->∃more,H' b=some (.jf (ps++more)))
 (ns:∀m,s.heap.Ns X.env.locals m->h'.Ns X.env.locals m) (aw:dE X.prog X.w H' h') (hg:AllBare g'):
 Inv X pins σ H' {s with heap:=h',gens:=g',drawn:=d',toks:=t'}:=by
 have neL:∀b o,X.s₀.heap.get? b=some o->b≠X.env.locals:=fun b o e=>Nat.ne_of_lt (Nat.lt_of_lt_of_le (Heap.lt_size e) I.ok.above)
 have neC:∀b o,X.s₀.heap.get? b=some o->b∉X.ex->b∉ch:=fun b o e hx hb=>by
  rcases(hch b hb).1 with z|z
  . exact hx z
  . exact absurd (Nat.lt_of_lt_of_le (Heap.lt_size e) z) (Nat.lt_irrefl _)
 have cellK:∀x c,X.env.cells.lookup x=some c->∀v,s.heap.IsCell c v->h'.IsCell c v:=fun x c e v ⟨o,ho,hd⟩=>by
  have nch:c∉ch:=fun z=>(hch c z).2.2.1 x c e rfl;by_cases hc:c∈X.fs
  . obtain⟨sl,q⟩:=slot c o (I.ni x c e) hc nch ho (I.ft x c e);exact⟨_,q,hd⟩
  . exact⟨o,keep c o (I.ni x c e) hc nch ho (I.ft x c e),hd⟩
 refine⟨I.ok,I.os,hg,⟨fun b o e n hb hx=>?_,fun b o e n hb hx=>?_,fun b o e n hx=>?_,fun b o e hx=>?_,fun b xs e=>iI b xs (I.base.iI b xs e),fun b o xs e=>gZ b o xs (I.base.gZ b o xs e),fun b ps e=>?_⟩,?_,fun x c e=>?_,?_,fun x c e=>?_,fun p hp=>?_,aw,I.len⟩
 . exact keep b o (neL b o e) hb (neC b o e hx) (I.base.keep b o e n hb hx) (I.base.free b o e n hx)
 . obtain⟨sl,e1⟩:=I.base.slot b o e n hb hx;obtain⟨sl',e2⟩:=slot b _ (neL b o e) hb (neC b o e hx) e1 (I.base.free b o e n hx);exact⟨sl',e2⟩
 . obtain⟨o',e1⟩:=I.base.there b o e hx;exact free b o' (neC b o e hx) e1 (I.base.free b o e n hx)
 . obtain⟨o',e1⟩:=I.base.there b o e hx;exact there b o' (neC b o e hx) e1
 . obtain⟨m1,e1⟩:=I.base.gT b ps e;obtain⟨m2,e2⟩:=gT b _ e1;exact⟨m1++m2,by rw[e2,Array.append_assoc]⟩
 . obtain⟨m,hn,hl⟩:=I.loc;refine⟨m,ns m hn,fun i x v e1 e2 e3=>?_⟩;obtain⟨u,r,l⟩:=hl i x v e1 e2 e3;refine⟨u,r,?_⟩;rcases l with l|⟨k,c,e,z⟩
   . exact .inl l
   . exact .inr ⟨k,c,e,cellK x c e _ z⟩
 . obtain⟨v,z⟩:=I.cell x c e;exact⟨v,cellK x c e v z⟩
 . obtain⟨m,⟨o,_,_,ho,_⟩,_⟩:=I.loc;exact free _ o (fun z=>(hch _ z).2.1 rfl) ho I.free
 . obtain⟨v,o,ho,hd⟩:=I.cell x c e;exact free c o (fun z=>(hch c z).2.2.1 x c e rfl) ho (I.ft x c e)
 . obtain⟨e,n,ne,nf,d⟩:=I.pin p hp;have nch:p.1∉ch:=fun z=>(hch p.1 z).2.2.2 p hp rfl;exact⟨keep p.1 p.2 ne nf nch e n,free p.1 p.2 nch e n,ne,nf,d⟩
theorem Inv.un{t':Nat}(I:Inv X pins σ H s)(u:Un X.fs [] H H' s.heap h')(aw:dE X.prog X.w H' h'):Inv X pins σ H' {s with heap:=h',toks:=t'}:=by
 obtain⟨m,⟨o,es,ep,ho,r⟩,_⟩:=id I.loc;obtain⟨sl,hL⟩:=u.any ho I.free (by simp)
 exact I.step (g':=s.gens) (d':=s.drawn) (ch:=[]) (fun _ z=>nomatch z) (fun b o _ hb _ e n=>u.keep b o e n hb (by simp)) (fun b o _ hb _ e n=>u.slot b o e n hb (by simp)) (fun b o _ e n=>u.free b o e n (by simp)) (fun b o _ e=>u.there b o e (by simp)) u.iI u.gZ u.gT (fun m' hm=>by
  obtain⟨o',es',ep',ho',r'⟩:=hm;rw[ho]at ho';cases ho';exact⟨_,es',ep',hL,r'⟩) aw I.bare
theorem Inv.call{g':Array GenState}{t':Nat}{d':Drawn}{ch:List Addr}(I:Inv X pins σ H s)(u:Un (di X.stack) ch H H' s.heap h')(aw:dE X.prog X.w H' h')(hg:AllBare g')
 (hch:∀b∈ch,(b∈X.ex\/X.s₀.heap.objs.size<=b)/\b≠X.env.locals/\(∀x c,X.env.cells.lookup x=some c->c≠b)/\∀p∈X.pn++pins,p.1≠b):
 Inv X pins σ H' {s with heap:=h',gens:=g',drawn:=d',toks:=t'}:=by
 obtain⟨m,⟨o,es,ep,ho,r⟩,_⟩:=id I.loc;obtain⟨sl,hL⟩:=u.any ho I.free fun z=>(hch _ z).2.1 rfl
 exact I.step (ch:=ch) hch (fun b o hL hb hc e n=>u.keep b o e n (fun z=>(List.mem_cons.mp (I.ua b z)).elim hL hb) hc) (fun b o _ _ hc e n=>u.any e n hc) (fun b o hc e n=>u.free b o e n hc) (fun b o hc e=>u.there b o e hc) u.iI u.gZ u.gT (fun m' hm=>by
  obtain⟨o',es',ep',ho',r'⟩:=hm;rw[ho]at ho';cases ho';exact⟨_,es',ep',hL,r'⟩) aw hg
theorem Inv.turned{t':Nat}{it:Addr}(I:Inv X pins σ H s)(k:∀b o,b≠it->s.heap.get? b=some o->h'.get? b=some o)(hn:H it=none)(hL:it≠X.env.locals)
 (h1:it∈X.ex\/X.s₀.heap.objs.size<=it) (h2:∀x c,X.env.cells.lookup x=some c->c≠it) (h3:∀p∈X.pn++pins,p.1≠it):Inv X pins σ H {s with heap:=h',toks:=t'}:=by
 have nit:∀b u,H b=some u->b≠it:=fun b u e z=>by rw[z,hn]at e;cases e
 refine I.step (g':=s.gens) (d':=s.drawn) (ch:=[it]) (fun b hb=>?_) (fun b o _ _ hc e _=>k b o (fun z=>hc (by simp[z])) e) (fun b o _ _ hc e _=>⟨o.slots,k b o (fun z=>hc (by simp[z])) e⟩) (fun _ _ _ _ n=>n)
  (fun b o hc e=>⟨o,k b o (fun z=>hc (by simp[z])) e⟩) (fun _ _ e=>e) (fun _ _ _ e=>e) (fun b ps e=>⟨#[],by rw[e];simp⟩) (fun m hm=>?_) (fun b u e=>?_) I.bare
 . have e:b=it:=by simpa using hb
   subst e;exact⟨h1,hL,h2,h3⟩
 . obtain⟨o,es,ep,ho,r⟩:=hm;exact⟨o,es,ep,k _ o (Ne.symm hL) ho,r⟩
 . refine(I.aw b u e).kE (fun c v hc q=>k c v ?_ q) (fun _ q=>q) fun _ _ q=>q;rcases hc with z|z
   . rw[z];exact nit b u e
   . exact nit c _ z
theorem Inv.tok(I:Inv X pins σ H s)(t:Nat):Inv X pins σ H {s with toks:=t}:=I.un (h':=s.heap) (t':=t) Un.refl I.aw
theorem Inv.kept{t':Nat}(I:Inv X pins σ H s)(k:∀b u,s.heap.get? b=some u->h'.get? b=some u):Inv X pins σ H {s with heap:=h',toks:=t'}:=I.un (Un.kept k) (I.aw.kept k)
theorem Inv.laid{a:Addr}{o:HO}{t':Nat}(I:Inv X pins σ H s)(k:∀b u,s.heap.get? b=some u->h'.get? b=some u)(hp:s.heap.objs.size<=a)(new:cn X.prog X.w (upd H a o) h' a o):
 Inv X pins σ (upd H a o) {s with heap:=h',toks:=t'}:=I.un (Un.laid k hp (I.aw.fresh hp)) (I.aw.laid k hp new)
theorem Inv.write{x e:Addr}{o:HO}{t':Nat}(I:Inv X pins σ H s)(mu:BP (H x))(he:e=x\/H e=some (.own x))(k:∀b u,b≠e->s.heap.get? b=some u->h'.get? b=some u)(heo:∃u,h'.get? e=some u)
 (new:cn X.prog X.w (upd H x o) h' x o):Inv X pins σ (upd H x o) {s with heap:=h',toks:=t'}:=I.un (Un.write mu he k heo) (I.aw.write mu he k heo new)
theorem Inv.vU{pins':List (Addr×Obj)}(I:Inv X pins σ H s)(h:∀p∈pins',s.heap.get? p.1=some p.2/\H p.1=none/\p.1≠X.env.locals/\p.1∉X.fs/\∀v,p.2.data≠ .cell v):Inv X pins' σ H s:=
 ⟨I.ok,I.os,I.bare,I.base,I.loc,I.cell,I.free,I.ft,fun p hp=>(List.mem_append.mp hp).elim (fun z=>I.pin p (List.mem_append_left _ z)) (h p),I.aw,I.len⟩
theorem oS{N:List Str}(hN:N.Nodup){i j:Nat}{x:Str}(a:N[i]?=some x)(b:N[j]?=some x):i=j:=by
 obtain⟨h1,e1⟩:=List.getElem?_eq_some_iff.mp a;obtain⟨h2,e2⟩:=List.getElem?_eq_some_iff.mp b;exact(List.getElem_inj hN).mp (e1.trans e2.symm)
theorem sv{M:Model}{A:Around}{E:Value->Shared->Prop}{i:Nat}{x:Str}{v:V}{u:Value}{Q:Unit->Shared->Prop}(I:Inv X pins σ H s)(hN:X.N.Nodup)(hi:X.N[i]?=some x)(hx:Loc X.env.scope x)(r:RelV v u)
 (h:∀s',Inv X pins (σ.set i (some v)) H s'->(∃a,Heap.SameBut a s.heap s'.heap/\(a=X.env.locals\/X.env.cells.lookup x=some a))->Q () s') (hf:X.fn x=true\/X.env.scope.names.lookup x=some .local:=by first|exact .inl rfl|exact .inr rfl|assumption):wpAny M A (storeName X.env x u) Q E s:=by
 obtain⟨m,hn,hl⟩:=id I.loc;have hcls:(X.env.scope.kind== .class||(X.env.scope.kind== .module&&X.env.locals != X.env.globals))=false:=by rw[I.ok.kind];rfl
 have hiσ:i<σ.length:=by rw[I.len];exact(List.getElem?_eq_some_iff.mp hi).1
 have ni:=I.ni
 have tracked:∀ {a:Addr} {h':Heap},(∃o,s.heap.get? a=some o/\H a=none)->Heap.SameBut a s.heap h'->dE X.prog X.w H h':=fun{a h'} ha hs b ob e=>by
  obtain⟨_,_,hfree⟩:=ha;refine(I.aw b ob e).kE (fun c w' hc q=>(hs.2 c ?_).trans q) (fun _ q=>q) fun _ _ q=>q;rintro rfl;rcases hc with rfl|hc
  . rw[hfree]at e;cases e
  . rw[hfree]at hc;cases hc
 rcases hx with hk|hk
 . refine wpAny_storeName_local hk hn (fun h' hn' hs=>?_) hcls;obtain⟨oL,_,_,hoL,_⟩:=id hn;refine h _ ⟨I.ok,I.os,I.bare,⟨fun b o e n hb hx=>?_,fun b o e n hb hx=>?_,I.base.free,fun b o e hx=>?_,I.base.iI,I.base.gZ,I.base.gT⟩,⟨_,hn',fun j y v' e1 e2 e3=>?_⟩,fun y c e=>?_,I.free,I.ft,fun p hp=>?_,tracked ⟨oL,hoL,I.free⟩ hs,by simpa using I.len⟩ ⟨_,hs,.inl rfl⟩
   . exact(hs.2 b (Nat.ne_of_lt (Nat.lt_of_lt_of_le (Heap.lt_size e) I.ok.above))).trans (I.base.keep b o e n hb hx)
   . obtain⟨sl,e1⟩:=I.base.slot b o e n hb hx;exact⟨sl,(hs.2 b (Nat.ne_of_lt (Nat.lt_of_lt_of_le (Heap.lt_size e) I.ok.above))).trans e1⟩
   . obtain⟨o',e1⟩:=I.base.there b o e hx;exact⟨o',(hs.2 b (Nat.ne_of_lt (Nat.lt_of_lt_of_le (Heap.lt_size e) I.ok.above))).trans e1⟩
   . by_cases hj:j=i
     . subst hj;rw[hi]at e1;cases e1;rw[List.getElem?_set_self hiσ]at e2;cases e2;exact⟨u,r,.inl ⟨hk,by simp⟩⟩
     . rw[List.getElem?_set_ne (Ne.symm hj)]at e2;obtain⟨u',r',q⟩:=hl j y v' e1 e2 e3;refine⟨u',r',?_⟩;rcases q with⟨k,e⟩|⟨k,c,e,z⟩
       . refine .inl ⟨k,?_⟩;have:y≠x:=fun e=>hj (oS hN e1 (e▸hi));simp[this,e]
       . exact .inr ⟨k,c,e,z.sameBut hs (ni y c e)⟩
   . obtain⟨w',z⟩:=I.cell y c e;exact⟨w',z.sameBut hs (ni y c e)⟩
   . obtain⟨e,n,ne,nf,d⟩:=I.pin p hp;exact⟨(hs.2 p.1 ne).trans e,n,ne,nf,d⟩
 . have hfn:X.fn x=true:=by
    rcases hf with z|z
    . exact z
    . rw[z]at hk;cases hk
   obtain⟨c,hc⟩:=I.ok.has x (.inl hk);obtain⟨w',z⟩:=I.cell x c hc;refine wpAny_storeName_cell I.ok.kind hk hc z (fun h' hc' hs=>?_);obtain⟨oc,hoc,hocd⟩:=id z;refine h {s with heap:=h'} ⟨I.ok,I.os,I.bare,⟨fun b o e n hb hx=>?_,fun b o e n hb hx=>?_,I.base.free,fun b o e hx=>?_,I.base.iI,I.base.gZ,I.base.gT⟩,⟨m,hn.sameBut hs (Ne.symm (ni x c hc)),fun j y v' e1 e2 e3=>?_⟩,fun y c' e=>?_,I.free,I.ft,fun p hp=>?_,tracked ⟨oc,hoc,I.ft x c hc⟩ hs,by simpa using I.len⟩ ⟨c,hs,.inr hc⟩
   . exact(hs.2 b (Nat.ne_of_lt (Nat.lt_of_lt_of_le (Heap.lt_size e) (I.ok.ui x c hfn hc)))).trans (I.base.keep b o e n hb hx)
   . obtain⟨sl,e1⟩:=I.base.slot b o e n hb hx;exact⟨sl,(hs.2 b (Nat.ne_of_lt (Nat.lt_of_lt_of_le (Heap.lt_size e) (I.ok.ui x c hfn hc)))).trans e1⟩
   . obtain⟨o',e1⟩:=I.base.there b o e hx;exact⟨o',(hs.2 b (Nat.ne_of_lt (Nat.lt_of_lt_of_le (Heap.lt_size e) (I.ok.ui x c hfn hc)))).trans e1⟩
   . by_cases hj:j=i
     . subst hj;rw[hi]at e1;cases e1;rw[List.getElem?_set_self hiσ]at e2;cases e2;exact⟨u,r,.inr ⟨.inl hk,c,hc,hc'⟩⟩
     . rw[List.getElem?_set_ne (Ne.symm hj)]at e2;obtain⟨u',r',q⟩:=hl j y v' e1 e2 e3;refine⟨u',r',?_⟩;rcases q with q|⟨k,c',e,z'⟩
       . exact .inl q
       . refine .inr ⟨k,c',e,z'.sameBut hs ?_⟩;rintro rfl;exact hj (oS hN e1 (I.ok.inj _ _ _ e hc▸hi))
   . by_cases hcc:c'=c
     . subst hcc;exact⟨_,hc'⟩
     . obtain⟨w2,z2⟩:=I.cell y c' e;exact⟨w2,z2.sameBut hs hcc⟩
   . obtain⟨e,n,ne,nf,d⟩:=I.pin p hp;refine⟨(hs.2 p.1 ?_).trans e,n,ne,nf,d⟩;intro q;rw[q,hoc]at e;have q':oc=p.2:=Option.some.inj e;exact d w' (by rw[<-q'];exact hocd)
theorem pe{M:Model}{A:Around}{E:Value->Shared->Prop}{i:Nat}{x:Str}{v:V}{u:Value}{Q:Unit->Shared->Prop}(I:Inv X pins σ H s)(hN:X.N.Nodup)(hi:X.N[i]?=some x)(hx:Loc X.env.scope x)(r:RelV v u)
 (h:∀s',Inv X pins (σ.set i (some v)) H s'->Q () s') (hf:X.fn x=true\/X.env.scope.names.lookup x=some .local:=by first|exact .inl rfl|exact .inr rfl|assumption):wpAny M A (storeName X.env x u) Q E s:=
 sv I hN hi hx r (fun s' I' _=>h s' I') hf
theorem Inv.qi{s':Shared}{ch:List Addr}(I:Inv X pins σ H s)(ho:s'.os=s.os)(u:Un (di X.stack) ch H H' s.heap s'.heap)(aw:dE X.prog X.w H' s'.heap)(hg:AllBare s'.gens)
 (hch:∀b∈ch,(b∈X.ex\/X.s₀.heap.objs.size<=b)/\b≠X.env.locals/\(∀x c,X.env.cells.lookup x=some c->c≠b)/\∀p∈X.pn++pins,p.1≠b):Inv X pins σ H' s':=by
 obtain⟨h',g',d',t',o'⟩:=s';have e:o'=s.os:=ho;subst e;exact I.call (g':=g') (t':=t') (d':=d') u aw hg hch
end
abbrev XK:=Value->Option Addr->Hp->Prop
abbrev St:=List (Option V)
abbrev VK:=V->Hp->Prop
abbrev TE:=St->Hp->VK->Prop
abbrev TT:=St->Hp->(Bool->Hp->Prop)->Prop
abbrev TA:=St->Hp->(List V->Hp->Prop)->Prop
structure Ends where
 nx:St->Hp->Prop
 rt:VK
 bk:St->Hp->Prop:=fun _ _=>False
 ct:St->Hp->Prop:=fun _ _=>False
abbrev TS:=Ends->St->Hp->Prop
def EP(X:Cx)(pins:List (Addr×Obj))(σ:St)(Q:VK)(u:Value)(s':Shared):Prop:=∃v H',Inv X pins σ H' s'/\RelV v u/\Q v H'
def TP(X:Cx)(pins:List (Addr×Obj))(σ:St)(Q:Bool->Hp->Prop)(b:Bool)(s':Shared):Prop:=∃H',Inv X pins σ H' s'/\Q b H'
def AP(X:Cx)(pins:List (Addr×Obj))(σ:St)(Q:List V->Hp->Prop)(us:List Value)(s':Shared):Prop:=∃vs H',Inv X pins σ H' s'/\Vals vs us/\Q vs H'
def SP(X:Cx)(pins:List (Addr×Obj))(D:Ends)(f:Flow)(s':Shared):Prop:=
 match f with
 | .next=>∃σ' H',Inv X pins σ' H' s'/\D.nx σ' H'
 | .brk=>∃σ' H',Inv X pins σ' H' s'/\D.bk σ' H'
 | .cont=>∃σ' H',Inv X pins σ' H' s'/\D.ct σ' H'
 | .ret u=>∃v σ' H',Inv X pins σ' H' s'/\RelV v u/\D.rt v H'
def PE(X:Cx)(e:Expr)(t:TE):Prop:=
 ∀(pins:List (Addr×Obj)) (s:Shared) (σ:St) (H:Hp) (Q:VK),Inv X pins σ H s->t σ H Q->wpAny (model X.prog X.w) X.A (eval e X.env) (EP X pins σ Q) X.xe s
def PT(X:Cx)(e:Expr)(t:TT):Prop:=
 ∀(pins:List (Addr×Obj)) (s:Shared) (σ:St) (H:Hp) (Q:Bool->Hp->Prop),Inv X pins σ H s->t σ H Q->wpAny (model X.prog X.w) X.A (isTrue e X.env (eval e X.env)) (TP X pins σ Q) X.xe s
def PW(X:Cx)(e:Expr)(t:TT):Prop:=
 ∀(whole:Sem Value) (pins:List (Addr×Obj)) (s:Shared) (σ:St) (H:Hp) (Q:Bool->Hp->Prop),Inv X pins σ H s->t σ H Q->wpAny (model X.prog X.w) X.A (isTrue e X.env whole) (TP X pins σ Q) X.xe s
theorem PW.pt{X:Cx}{e:Expr}{t:TT}(h:PW X e t):PT X e t:=h _
def PA(X:Cx)(es:List Expr)(t:TA):Prop:=
 ∀(pos:Pos) (pins:List (Addr×Obj)) (s:Shared) (σ:St) (H:Hp) (Q:List V->Hp->Prop),Inv X pins σ H s->t σ H Q->wpAny (model X.prog X.w) X.A (spliced (backTo pos (starEach es X.env))) (AP X pins σ Q) X.xe s
def PS(X:Cx)(st:Stmt)(t:TS):Prop:=
 ∀(pins:List (Addr×Obj)) (s:Shared) (σ:St) (H:Hp) (D:Ends),Inv X pins σ H s->t D σ H->wpAny (model X.prog X.w) X.A (exec st X.env) (SP X pins D) X.xe s
def cM(X:Cx)(st:List Stmt)(t:TS):Prop:=
 ∀(pins:List (Addr×Obj)) (s:Shared) (σ:St) (H:Hp) (D:Ends),Inv X pins σ H s->t D σ H->wpAny (model X.prog X.w) X.A (execs st X.env) (SP X pins D) X.xe s
theorem bj{α:Type}{t:Sem α}{Q Q':α->Shared->Prop}{M:Model}{A:Around}{E:Value->Shared->Prop}{s:Shared}(h:wpAny M A t Q E s)(hQ:∀a s,Q a s->Q' a s):wpAny M A t Q' E s:=wpAny_mono h hQ fun _ _ x=>x
section
variable {X:Cx}
def kF(i:Nat):TE:=fun σ H Q=>∃v,σ[i]?=some (some v)/\Q v H
def tC(v:V):TE:=fun _ H Q=>Q v H
theorem qo{i:Nat}{x:Str}{pos:Pos}(hN:X.N[i]?=some x)(hv:pF X.env.scope x)(hd:(x==("__debug__":Str))=false:=by decide)(hcd:(x==("__classdict__":Str))=false:=by decide):PE X (.Name x pos) (kF i):=by
 intro pins s σ H Q I h;obtain⟨v,e,h⟩:=h;obtain⟨m,hn,hl⟩:=I.loc;obtain⟨u,r,l⟩:=hl i x v hN e hv;have fin:EP X pins σ Q u s:=⟨v,H,I,r,h⟩
 rcases l with⟨hk,hm⟩|⟨hk,c,hc,hcell⟩
 . exact wpAny_Name (wpAny_loadName_local I.ok.kind hk hn hm fin) hd
 . rcases hk with hk|hk
   . exact wpAny_Name (wpAny_loadName_cell I.ok.kind hk hc hcell fin) hd
   . exact wpAny_Name (wpAny_loadName_free I.ok.kind hk hc hcell fin hcd) hd
theorem Ew{i j pos}:PE X (.Constant (.int i) j pos) (tC (.int i)):=fun _ _ _ H _ I h=>wpAny_Constant_int ⟨.int i,H,I.tok _,⟨_,rfl⟩,h⟩
theorem tm{b j pos}:PE X (.Constant (.bool b) j pos) (tC (.bl b)):=fun _ _ _ H _ I h=>Constant_bool ⟨.bl b,H,I,rfl,h⟩
theorem zD{j pos}:PE X (.Constant .none j pos) (tC .ay):=fun _ _ _ H _ I h=>Constant_none ⟨.ay,H,I,rfl,h⟩
theorem Et{x j pos}:PE X (.Constant (.str x) j pos) (tC (.str x)):=fun _ _ _ H _ I h=>Calls.Constant_str ⟨.str x,H,I.tok _,⟨_,rfl⟩,h⟩
def Gl(X:Cx)(x:Str):Prop:=X.env.kindOf x=some .globalImplicit
theorem iE{E:Value->Shared->Prop}{pins:List (Addr×Obj)}{s:Shared}{σ:St}{H:Hp}{x:Str}{u:Value}{pos:Pos}{Q:Value->Shared->Prop}(I:Inv X pins σ H s)(hg:Gl X x)(hm:X.mg x=some u)(h:Q u s)
 (hd:(x==("__debug__":Str))=false:=by decide):wpAny (model X.prog X.w) X.A (eval (.Name x pos) X.env) Q E s:=
 Calls.Name_function_global I.ok.kind hg (Calls.loadGlobal_global (by rw[I.ok.glob];exact I.mod.glob.keeps I.bk) hm h) hd
theorem jQ{E:Value->Shared->Prop}{pins:List (Addr×Obj)}{s:Shared}{σ:St}{H:Hp}{x:Str}{u:Value}{pos:Pos}{Q:Value->Shared->Prop}(I:Inv X pins σ H s)(hg:Gl X x)(hm:X.mg x=none)(hv:bootBuiltins x=some u)(h:Q u s)
 (hn:x≠"__name__":=by decide) (hd:(x==("__debug__":Str))=false:=by decide):wpAny (model X.prog X.w) X.A (eval (.Name x pos) X.env) Q E s:=by
 obtain⟨mb,h1,h2⟩:=I.mod.blt;exact Calls.Name_function_global I.ok.kind hg (Calls.loadGlobal_builtin (by rw[I.ok.glob];exact I.mod.glob.keeps I.bk) hm (by rw[I.ok.blt];exact h1.keeps I.bk) ((h2 x hn).trans hv) h) hd
theorem jA{x:Str}{v:V}{u:Value}{pos:Pos}(hg:Gl X x)(hm:X.mg x=some u)(r:RelV v u)(hd:(x==("__debug__":Str))=false:=by decide):PE X (.Name x pos) (tC v):=
 fun _ _ _ H _ I h=>iE I hg hm ⟨v,H,I,r,h⟩ hd
theorem vS{x:Str}{v:V}{u:Value}{pos:Pos}(hg:Gl X x)(hm:X.mg x=none)(hv:bootBuiltins x=some u)(r:RelV v u)(hn:x≠"__name__":=by decide)(hd:(x==("__debug__":Str))=false:=by decide):PE X (.Name x pos) (tC v):=
 fun _ _ _ H _ I h=>jQ I hg hm hv ⟨v,H,I,r,h⟩ hn hd
variable {a b:Expr}{ta tb:TE}{pos:Pos}
def tB(t:TE):TT:=fun σ H Q=>t σ H fun x H1=>∃c,x= .bl c/\Q c H1
theorem mC{e:Expr}{t:TE}(h:PE X e t)(he:∀whole,isTrue e X.env whole=(do let v <-whole;standAt e.pos;holding [v] (truthy v)):=by intro _;rfl):PT X e (tB t):=by
 intro pins s σ H Q I hw;refine isTrue_plain (bj (h pins s σ H _ I hw) fun v s1 ⟨x,H1,I1,r1,q1⟩=>?_) (he _);obtain⟨d,rfl,q⟩:=q1;cases r1;exact wpAny_truthy_bool ⟨H1,I1,q⟩
variable {tA tB':TT}{rest:List Expr}
def Ef(t u:TT):TT:=fun σ H Q=>t σ H fun c H1=>if c=true then u σ H1 Q else Q false H1
def B1(t u:TT):TT:=fun σ H Q=>t σ H fun c H1=>if c=true then Q true H1 else u σ H1 Q
def xB(t:TT):TT:=fun σ H Q=>t σ H fun c H1=>Q (!c) H1
theorem pw_and1(ha:PT X a tA):PW X (.BoolOp .And [a] pos) tA:=by
 intro wh pins s σ H Q I h;refine isTrue_and (bj (ha pins s σ H Q I h) fun c s1 e=>?_);cases c with
 |true=>exact isTrue_and_nil e
 |false=>exact e
theorem pw_or1(ha:PT X a tA):PW X (.BoolOp .Or [a] pos) tA:=by
 intro wh pins s σ H Q I h;refine isTrue_or (bj (ha pins s σ H Q I h) fun c s1 e=>?_);cases c with
 |false=>exact isTrue_or_nil e
 |true=>exact e
theorem pw_and(ha:PT X a tA)(hb:PW X (.BoolOp .And (b::rest) pos) tB'):PW X (.BoolOp .And (a::b::rest) pos) (Ef tA tB'):=by
 intro wh pins s σ H Q I h;refine isTrue_and (bj (ha pins s σ H _ I h) fun c s1 ⟨H1,I1,q1⟩=>?_);cases c with
 |true=>exact hb wh pins s1 σ H1 Q I1 q1
 |false=>exact⟨H1,I1,q1⟩
theorem pw_or(ha:PT X a tA)(hb:PW X (.BoolOp .Or (b::rest) pos) tB'):PW X (.BoolOp .Or (a::b::rest) pos) (B1 tA tB'):=by
 intro wh pins s σ H Q I h;refine isTrue_or (bj (ha pins s σ H _ I h) fun c s1 ⟨H1,I1,q1⟩=>?_);cases c with
 |true=>exact⟨H1,I1,q1⟩
 |false=>exact hb wh pins s1 σ H1 Q I1 q1
theorem mP(ha:PT X a tA):PT X (.UnaryOp .Not a pos) (xB tA):=by
 intro pins s σ H Q I h;exact isTrue_not (ha pins s σ H (fun c H1=>Q (!c) H1) I h)
def GL(ta tb:TE):TE:=fun σ H Q=>ta σ H fun x H1=>∃c,x= .bl c/\if c=true then tb σ H1 Q else Q (.bl false) H1
def IJ(ta tb:TE):TE:=fun σ H Q=>ta σ H fun x H1=>∃c,x= .bl c/\if c=true then Q (.bl true) H1 else tb σ H1 Q
def Bw(ta:TE):TE:=fun σ H Q=>ta σ H fun x H1=>∃c,x= .bl c/\Q (.bl (!c)) H1
theorem Fh{op}{t:TE}(h:PE X a t):PE X (.BoolOp op [a] pos) t:=fun pins s σ H Q I hw=>BoolOp_one (h pins s σ H Q I hw)
theorem Ea(ha:PE X a ta)(hb:PE X (.BoolOp .And (b::rest) pos) tb):PE X (.BoolOp .And (a::b::rest) pos) (GL ta tb):=by
 intro pins s σ H Q I h;refine BoolOp_and (bj (ha pins s σ H _ I h) fun v s1 ⟨x,H1,I1,r1,q1⟩=>?_);obtain⟨c,rfl,q1⟩:=q1;cases r1;refine wpAny_truthy_bool ?_;cases c with
 |true=>exact hb pins s1 σ H1 Q I1 q1
 |false=>exact⟨.bl false,H1,I1,rfl,q1⟩
theorem Hf(ha:PE X a ta)(hb:PE X (.BoolOp .Or (b::rest) pos) tb):PE X (.BoolOp .Or (a::b::rest) pos) (IJ ta tb):=by
 intro pins s σ H Q I h;refine BoolOp_or (bj (ha pins s σ H _ I h) fun v s1 ⟨x,H1,I1,r1,q1⟩=>?_);obtain⟨c,rfl,q1⟩:=q1;cases r1;refine wpAny_truthy_bool ?_;cases c with
 |false=>exact hb pins s1 σ H1 Q I1 q1
 |true=>exact⟨.bl true,H1,I1,rfl,q1⟩
theorem zq(ha:PE X a ta):PE X (.UnaryOp .Not a pos) (Bw ta):=by
 intro pins s σ H Q I h;refine UnaryOp_ (bj (ha pins s σ H _ I h) fun v s1 ⟨x,H1,I1,r1,q1⟩=>?_);obtain⟨c,rfl,q1⟩:=q1;cases r1;exact not_of (wpAny_truthy_bool ⟨.bl (!c),H1,I1,rfl,q1⟩)
def IY(t:TT)(ta tb:TE):TE:=fun σ H Q=>t σ H fun c H1=>if c=true then ta σ H1 Q else tb σ H1 Q
theorem z_{c:Expr}(hc:PT X c tA)(ha:PE X a ta)(hb:PE X b tb):PE X (.IfExp c a b pos) (IY tA ta tb):=by
 intro pins s σ H Q I h;refine wpAny_IfExp (bj (hc pins s σ H _ I h) fun d s1 ⟨H1,I1,q1⟩=>?_);cases d with
 |true=>exact ha pins s1 σ H1 Q I1 q1
 |false=>exact hb pins s1 σ H1 Q I1 q1
end
def i8(K:PySem.W.Frag)(H:Hp)(a:Addr)(xs:List V):Prop:=
 Rd H a (.lst xs)\/
  ∃(o:Obj) (aj:Array Value) (n:Nat),K.lookup a=some o/\o.cls= .type "list"/\o.dict=none/\o.data= .seq aj n/\aj.size<=sizeLine/\Vals xs aj.toList
def fm(K:PySem.W.Frag)(H:Hp)(a:Addr)(xs:List V):Prop:=
 Rd H a (.tup xs)\/
  ∃(o:Obj) (aj:Array Value) (n:Nat),K.lookup a=some o/\o.cls= .type "tuple"/\o.data= .seq aj n/\aj.size<=sizeLine/\Vals xs aj.toList
def Io:Value->Option V
 | .none=>some .ay
 | .bool b=>some (.bl b)
 | .int i _=>some (.int i)
 | .str x _=>some (.str x)
 | .bytes b _=>some (.pQ b)
 | .float b _=>some (.pU b)
 | .ref a=>some (.ref a)
 | .type n=>some (.ty n)
 |_=>none
theorem RelV.abs{x:V}{u:Value}(r:RelV x u):Io u=some x:=by
 cases x with
 |ay=>cases r;rfl
 |bl _=>cases r;rfl
 |int _=>obtain⟨t,rfl⟩:=r;rfl
 |str _=>obtain⟨t,rfl⟩:=r;rfl
 |pQ _=>obtain⟨t,rfl⟩:=r;rfl
 |pU _=>obtain⟨t,rfl⟩:=r;rfl
 |ref _=>cases r;rfl
 |ty _=>cases r;rfl
theorem RelV.inj{x y:V}{u:Value}(r:RelV x u)(q:RelV y u):x=y:=Option.some.inj (r.abs.symm.trans q.abs)
theorem Vals.inj:∀ {xs ys:List V} {us:List Value},Vals xs us->Vals ys us->xs=ys
 |_,_,_,.nil,.nil=>rfl
 |_,_,_,.cons r t,.cons r' t'=>by rw[r.inj r',Vals.inj t t']
section
variable {X:Cx}{pins:List (Addr×Obj)}{σ:St}{H:Hp}{s:Shared}{a:Addr}{xs ys:List V}
theorem i8.of{K:PySem.W.Frag}(h:H a=some (.lst xs)):i8 K H a xs:= .inl (.inl h)
theorem fm.of{K:PySem.W.Frag}(h:H a=some (.tup xs)):fm K H a xs:= .inl (.inl h)
theorem Inv.list(I:Inv X pins σ H s)(h:i8 X.K H a xs):∃aj:List Value,Vals xs aj/\PlainL s.heap a aj.toArray/\xs.length<=sizeLine:=by
 rcases h with h|⟨o,aj,n,hk,hc,hd,hs,hz,r⟩
 . obtain⟨z,aj,n,r,e⟩:=h.ok I.aw;exact⟨aj,r,⟨_,n,e,rfl,rfl,rfl⟩,z⟩
 . refine⟨aj.toList,r,⟨o,n,I.dG a o hk,hc,hd,by simpa using hs⟩,?_⟩;have e:=r.length;simp only[Array.length_toList]at e;omega
theorem Inv.tuple(I:Inv X pins σ H s)(h:fm X.K H a xs):∃aj:List Value,Vals xs aj/\IsTup s.heap a aj.toArray/\xs.length<=sizeLine:=by
 rcases h with h|⟨o,aj,n,hk,hc,hs,hz,r⟩
 . obtain⟨z,aj,r,p⟩:=h.ok I.aw;exact⟨aj,r,p,z⟩
 . refine⟨aj.toList,r,⟨o,I.dG a o hk,hc,n,by simpa using hs⟩,?_⟩;have e:=r.length;simp only[Array.length_toList]at e;omega
theorem Inv.t5(I:Inv X pins σ H s)(h:i8 X.K H a xs)(h':i8 X.K H a ys):xs=ys:=by
 obtain⟨aj,r,⟨o,n,e,_,_,d⟩,_⟩:=I.list h;obtain⟨its',r',⟨o',n',e',_,_,d'⟩,_⟩:=I.list h';rw[e]at e';cases e';rw[d]at d';injection d' with d1 _;have:aj=its':=by simpa using congrArg Array.toList d1
 subst this;exact r.inj r'
theorem Inv.rX(I:Inv X pins σ H s)(h:fm X.K H a xs)(h':fm X.K H a ys):xs=ys:=by
 obtain⟨aj,r,⟨o,e,_,n,d⟩,_⟩:=I.tuple h;obtain⟨its',r',⟨o',e',_,n',d'⟩,_⟩:=I.tuple h';rw[e]at e';cases e';rw[d]at d';injection d' with d1 _;have:aj=its':=by simpa using congrArg Array.toList d1
 subst this;exact r.inj r'
end
abbrev Cx.fW(X:Cx)(E:Value->Shared->Prop):Cx:={X with xe:=E}
abbrev Cx.cx(X:Cx):Cx:=X.fW fun _ _=>False
theorem Cx.Ok.fW{X:Cx}(ok:X.Ok)(E:Value->Shared->Prop):(X.fW E).Ok:=
 ⟨ok.mod,ok.kind,ok.glob,ok.blt,ok.above,ok.inj,ok.has,ok.ui,ok.hd,ok.frames,ok.wy,ok.y9,ok.bs,ok.oG,ok.pq,ok.oU,ok.fX,ok.mX,ok.gt⟩
theorem Cx.Ok.cL{X:Cx}{E:Value->Shared->Prop}(ok:(X.fW E).Ok):X.Ok:=
 ⟨ok.mod,ok.kind,ok.glob,ok.blt,ok.above,ok.inj,ok.has,ok.ui,ok.hd,ok.frames,ok.wy,ok.y9,ok.bs,ok.oG,ok.pq,ok.oU,ok.fX,ok.mX,ok.gt⟩
section
variable {X:Cx}{pins:List (Addr×Obj)}{σ:St}{H:Hp}{s:Shared}{E:Value->Shared->Prop}
theorem Inv.fW(I:Inv X pins σ H s)(E:Value->Shared->Prop):Inv (X.fW E) pins σ H s:=⟨I.ok.fW E,I.os,I.bare,I.base,I.loc,I.cell,I.free,I.ft,I.pin,I.aw,I.len⟩
theorem Inv.cL(I:Inv (X.fW E) pins σ H s):Inv X pins σ H s:=⟨I.ok.cL,I.os,I.bare,I.base,I.loc,I.cell,I.free,I.ft,I.pin,I.aw,I.len⟩
theorem SP.cL{D:Ends}{f:Flow}{s':Shared}(h:SP (X.fW E) pins D f s'):SP X pins D f s':=by
 cases f with
 |next=>obtain⟨σ',H',I,q⟩:=h;exact⟨σ',H',I.cL,q⟩
 |brk=>obtain⟨σ',H',I,q⟩:=h;exact⟨σ',H',I.cL,q⟩
 |cont=>obtain⟨σ',H',I,q⟩:=h;exact⟨σ',H',I.cL,q⟩
 |ret u=>obtain⟨v,σ',H',I,r,q⟩:=h;exact⟨v,σ',H',I.cL,r,q⟩
theorem PT.cx{e:Expr}{t:TT}(h:PT X.cx e t):PT X e t:=fun pins s σ H Q I hw=>
 wpAny_mono (h pins s σ H Q (I.fW _) hw) (fun _ _ ⟨H',I',q⟩=>⟨H',I'.cL,q⟩) fun _ _ z=>False.elim z
theorem cM.cx{st:List Stmt}{t:TS}(h:cM X.cx st t):cM X st t:=fun pins s σ H D I hw=>
 wpAny_mono (h pins s σ H D (I.fW _) hw) (fun _ _ q=>q.cL) fun _ _ z=>False.elim z
end
section
variable {X:Cx}{st:Stmt}{rest:List Stmt}{t u:TS}{e:Expr}{te:TE}{pos:Pos}
def xq:TS:=fun D σ H=>D.nx σ H
def xJ(t u:TS):TS:=fun D σ H=>t {D with nx:=u D} σ H
theorem rA:cM X [] xq:=fun _ _ σ H _ I h=>wpAny_execs_nil ⟨σ,H,I,h⟩
theorem jU(h1:PS X st t)(h2:cM X rest u):cM X (st::rest) (xJ t u):=by
 intro pins s σ H D I h;refine wpAny_execs_cons (bj (h1 pins s σ H {D with nx:=u D} I h) fun f s1 q=>?_);cases f with
 |next=>
  obtain⟨σ',H',I',q⟩:=q;exact h2 pins s1 σ' H' D I' q
 |ret v=>exact q
 |brk=>exact q
 |cont=>exact q
theorem jE(h1:PS X st t):cM X [st] t:=by
 intro pins s σ H D I h;refine wpAny_execs_cons (bj (h1 pins s σ H D I h) fun f s1 q=>?_);cases f with
 |next=>exact wpAny_execs_nil q
 |ret v=>exact q
 |brk=>exact q
 |cont=>exact q
theorem Inv.quiet{pins:List (Addr×Obj)}{σ:St}{H:Hp}{s:Shared}(I:Inv X pins σ H s):interactive X.env=false:=by simp[interactive,I.ok.kind]
def G0(te:TE):TS:=fun D σ H=>te σ H fun _ H1=>D.nx σ H1
theorem CU(he:PE X e te)(hs:swapsWith e none pos.line X.env=pure false:=by rfl):PS X (.Expr e pos) (G0 te):=by
 intro pins s σ H D I h;exact wpAny_Expr_any (bj (he pins s σ H _ I h) fun v s1 ⟨x,H1,I1,r1,q1⟩=>⟨σ,H1,I1,q1⟩) I.quiet hs
def ur(te:TE):TS:=fun D σ H=>te σ H D.rt
theorem mS(he:PE X e te):PS X (.Return (some e) pos) (ur te):=by
 intro pins s σ H D I h;exact wpAny_Return_some (bj (he pins s σ H _ I h) fun v s1 ⟨x,H1,I1,r1,q1⟩=>⟨x,σ,H1,I1,r1,q1⟩)
def Bd(c:TT)(t u:TS):TS:=fun D σ H=>c σ H fun b H1=>if b=true then t D σ H1 else u D σ H1
theorem tx{c:Expr}{a b:List Stmt}{tc:TT}(hc:PT X c tc)(ha:cM X a t)(hb:cM X b u):PS X (.If c a b pos) (Bd tc t u):=by
 intro pins s σ H D I h;refine wpAny_If (bj (hc pins s σ H _ I h) fun d s1 ⟨H1,I1,q1⟩=>?_);cases d with
 |true=>exact ha pins s1 σ H1 D I1 q1
 |false=>exact hb pins s1 σ H1 D I1 q1
end
abbrev TG:=V->St->Hp->(St->Hp->Prop)->Prop
abbrev uT:=List V->St->Hp->(St->Hp->Prop)->Prop
def PG(X:Cx)(target:Expr)(t:TG):Prop:=
 ∀(pins:List (Addr×Obj)) (s:Shared) (σ:St) (H:Hp) (v:V) (u:Value) (Q:St->Hp->Prop),Inv X pins σ H s->RelV v u->t v σ H Q->
  wpAny (model X.prog X.w) X.A (assign target X.env u) (fun _ s'=>∃σ' H',Inv X pins σ' H' s'/\Q σ' H') X.xe s
def B8(X:Cx)(ts:List Expr)(t:uT):Prop:=
 ∀(pins:List (Addr×Obj)) (s:Shared) (σ:St) (H:Hp) (vs:List V) (us:List Value) (Q:St->Hp->Prop),Inv X pins σ H s->Vals vs us->t vs σ H Q->
  wpAny (model X.prog X.w) X.A (assignInOrder ((assignEach ts X.env).map (·.2)) us) (fun _ s'=>∃σ' H',Inv X pins σ' H' s'/\Q σ' H') X.xe s
abbrev Ah:=V->V->V->Hp->(Hp->Prop)->Prop
def D_(X:Cx)(t:Ah):Prop:=
 ∀(pins:List (Addr×Obj)) (s:Shared) (σ:St) (H:Hp) (o i v:V) (ov iv u:Value) (Q:Hp->Prop),Inv X pins σ H s->RelV o ov->RelV i iv->RelV v u->t o i v H Q->
  wpAny (model X.prog X.w) X.A (setItem ov iv u) (fun _ s'=>∃H',Inv X pins σ H' s'/\Q H') X.xe s
section
variable {X:Cx}{pos:Pos}
def eR(i:Nat):TG:=fun v σ H Q=>Q (σ.set i (some v)) H
theorem ik{i:Nat}{x:Str}(hN:X.N.Nodup)(hi:X.N[i]?=some x)(hx:Loc X.env.scope x)(hf:X.fn x=true\/X.env.scope.names.lookup x=some .local:=by first|exact .inl rfl|exact .inr rfl|assumption):PG X (.Name x pos) (eR i):=by
 intro pins s σ H v u Q I r h;exact wpAny_assign_Name (pe I hN hi hx r (fun s' I'=>⟨_,H,I',h⟩) hf)
def Au:uT:=fun vs σ H Q=>vs=[]/\Q σ H
def nV(t:TG)(u:uT):uT:=fun vs σ H Q=>∃v r,vs=v::r/\t v σ H fun σ' H'=>u r σ' H' Q
theorem vF:B8 X [] Au:=by
 intro pins s σ H vs us Q I r h;obtain⟨e,h⟩:=h;subst e;cases r;exact assignInOrder_nil ⟨σ,H,I,h⟩
theorem jW{e:Expr}{es:List Expr}{t:TG}{u:uT}(h1:PG X e t)(h2:B8 X es u)
 (hs:(assignEach (e::es) X.env).map (·.2)=assign e X.env::(assignEach es X.env).map (·.2):=by rfl):B8 X (e::es) (nV t u):=by
 intro pins s σ H vs us Q I r h;obtain⟨v,vr,e1,h⟩:=h;subst e1;cases r with
 |cons r rr=>
  rw[hs];refine assignInOrder_cons (bj (h1 pins s σ H _ _ _ I r h) fun _ s1 ⟨σ1,H1,I1,q1⟩=>?_);exact h2 pins s1 σ1 H1 _ _ Q I1 rr q1
def AU(K:PySem.W.Frag)(n:Nat)(t:uT):TG:=fun v σ H Q=>∃a xs,v= .ref a/\fm K H a xs/\xs.length=n/\t xs σ H Q
theorem zL{es:List Expr}{k:Nat}{t:uT}{n:Nat}(hc:X.calm=true)(h:B8 X es t)
 (hn:(assignEach es X.env).length=n:=by rfl) (hst:(assignEach es X.env).findIdx? (·.1)=none:=by rfl):PG X (.Tuple es k pos) (AU X.K n t):=by
 intro pins s σ H v u Q I r hw;obtain⟨a,xs,e1,hq,hl,hw⟩:=hw;subst e1;cases r;obtain⟨aj,rv,ht,hz⟩:=I.tuple hq;refine assign_Tuple_tuple (I.ok.hd hc) ht (by simp[hn,<-hl,rv.length]) hst fun h' hx=>?_;have I1:Inv X pins σ H {s with heap:=h'}:=I.kept (t':=s.toks) fun b o e=>hx b o (Nat.ne_of_lt (Heap.lt_size e)) e;exact h pins _ σ H xs _ Q I1 (by simpa using rv) hw
def wR(to ti:TE)(t:Ah):TG:=fun v σ H Q=>to σ H fun o H1=>ti σ H1 fun i H2=>t o i v H2 fun H3=>Q σ H3
theorem FE{o i:Expr}{to ti:TE}{t:Ah}(ho:PE X o to)(hi:PE X i ti)(hs:D_ X t)
 (ha:∀v,assign (.Subscript o i pos) X.env v=(do
   let ov <-holding [v] (eval o X.env)
   let iv <-holding [v,ov] (eval i X.env)
   standAt pos
   holding [v,ov,iv] (setItem ov iv v)
   release [v,ov,iv] []):=by intro _;rfl):PG X (.Subscript o i pos) (wR to ti t):=by
 intro pins s σ H v u Q I r h;rw[ha];refine wpAny_bind (wpAny_holding (bj (ho pins s σ H _ I h) fun ov s1 ⟨x,H1,I1,r1,q1⟩=>?_));refine wpAny_bind (wpAny_holding (bj (hi pins s1 σ H1 _ I1 q1) fun iv s2 ⟨y,H2,I2,r2,q2⟩=>?_));refine wpAny_bind (wpAny_standAt (wpAny_bind (wpAny_holding (bj (hs pins s2 σ H2 x y v ov iv u _ I2 r1 r2 r q2) fun _ s3 ⟨H3,I3,q3⟩=>?_))));exact wpAny_release ⟨σ,H3,I3,q3⟩
def jS(te:TE)(g:TG):TS:=fun D σ H=>te σ H fun x H1=>g x σ H1 D.nx
theorem vb{tg e:Expr}{te:TE}{g:TG}(he:PE X e te)(hg:PG X tg g)(hs:swapsWithSole [tg] e pos.line X.env=pure false:=by rfl)(hw:swappedStores [tg] e X.env=pure none:=by rfl)
 (h1:(assignEach [tg] X.env).map (·.2)=[assign tg X.env]:=by rfl):PS X (.Assign [tg] e pos) (jS te g):=by
 intro pins s σ H D I h;refine wpAny_Assign_stores (bj (he pins s σ H _ I h) fun v s1 ⟨x,H1,I1,r1,q1⟩=>?_) hs hw;rw[h1];exact bj (hg pins s1 σ H1 x v _ I1 r1 q1) fun _ s2 q=>q
theorem pZ{i:Nat}{x:Str}{e:Expr}{te:TE}{pos':Pos}(hN:X.N.Nodup)(hi:X.N[i]?=some x)(hx:Loc X.env.scope x)(he:PE X e te)(hs:swapsWith e (some (.Name x pos')) pos.line X.env=pure false:=by rfl)(hf:X.fn x=true\/X.env.scope.names.lookup x=some .local:=by first|exact .inl rfl|exact .inr rfl|assumption):
 PS X (.Assign [.Name x pos'] e pos) (jS te (eR i)):=by
 intro pins s σ H D I h;refine wpAny_Assign_Name (bj (he pins s σ H _ I h) fun v s1 ⟨y,H1,I1,r1,q1⟩=>?_) hs;exact pe I1 hN hi hx r1 (fun s2 I2=>⟨_,H1,I2,q1⟩) hf
end
structure It where
 go:Nat->Hp->Prop
 kh:Nat->Hp->V->Hp->Prop
 stop:Nat->Hp->Prop
def iq(X:Cx)(pins:List (Addr×Obj))(H:Hp)(b:Addr):Prop:=
 H b=none/\b≠X.env.locals/\b∉X.fs/\(b∈X.ex\/X.s₀.heap.objs.size<=b)/\(∀x c,X.env.cells.lookup x=some c->c≠b)/\∀p∈X.pn++pins,p.1≠b
theorem Inv.oR{X:Cx}{pins:List (Addr×Obj)}{σ:St}{H H':Hp}{s:Shared}{b:Addr}(I:Inv X pins σ H s)(hb:s.heap.objs.size<=b)(hn:H' b=none):iq X pins H' b:=by
 refine⟨hn,Nat.ne_of_gt (Nat.lt_of_lt_of_le I.lt hb),I.IP hb,.inr (Nat.le_trans I.sz hb),fun x c e z=>?_,fun p hp z=>?_⟩
 . obtain⟨v,q⟩:=I.cell x c e;exact absurd (Nat.lt_of_lt_of_le q.lt (by rw[z];exact hb)) (Nat.lt_irrefl _)
 . exact absurd (Nat.lt_of_lt_of_le (Heap.lt_size (I.pin p hp).1) (by rw[z];exact hb)) (Nat.lt_irrefl _)
structure Turn(P:Program)(w:World)(K:PySem.W.Frag)(tg:Expr)(J:It)(fp:List Addr)(it:Addr)(tn:Nat->Heap->Prop):Prop where
 mem:it∈fp
 obj:∀i h,tn i h->∀b∈fp,∃o,h.get? b=some o/\∀v,o.data≠ .cell v
 keep:∀i h h',tn i h->(∀b∈fp,∀o,h.get? b=some o->h'.get? b=some o)->tn i h'
 item:∀(X:Cx),X.prog=P->X.w=w->X.K=K->X.calm=true->∀(i:Nat) (pins:List (Addr×Obj)) (s:Shared) (σ:St) (H:Hp) (E:Value->Shared->Prop),Inv X pins σ H s->(∀b∈fp,iq X pins H b)->tn i s.heap->J.go i H->
  wpAny (model P w) X.A (pyNext (.ref it)) (fun r s1=>∃u,r=some u/\
   wpAny (model P w) X.A (letOwnedTupleGo tg (.ref it) u) (fun _ s2=>∃x H',Inv X pins σ H' s2/\RelV x u/\J.kh i H x H'/\tn (i+1) s2.heap/\∀b∈fp,H' b=none) E s1) E s
 done:∀(X:Cx),X.prog=P->X.w=w->X.K=K->X.calm=true->∀(i:Nat) (pins:List (Addr×Obj)) (s:Shared) (σ:St) (H:Hp) (E:Value->Shared->Prop),Inv X pins σ H s->(∀b∈fp,iq X pins H b)->tn i s.heap->J.stop i H->
  wpAny (model P w) X.A (pyNext (.ref it)) (fun r s1=>r=none/\Inv X pins σ H s1) E s
 self:∀(A:Around) (i:Nat) (s:Shared) (Q:Value->Shared->Prop) (E:Value->Shared->Prop),tn i s.heap->Q (.ref it) s->wpAny (model P w) A (pyIter (.ref it)) Q E s
abbrev TI:=St->Hp->(It->Hp->Prop)->Prop
def Cg(X:Cx)(pins:List (Addr×Obj))(σ:St)(tg:Expr)(R:It->Hp->Prop)(itv:Value)(s2:Shared):Prop:=
 ∃(it:Addr) (fp:List Addr) (tn:Nat->Heap->Prop) (J:It) (H':Hp),itv= .ref it/\Inv X pins σ H' s2/\Turn X.prog X.w X.K tg J fp it tn/\tn 0 s2.heap/\(∀b∈fp,iq X pins H' b)/\R J H'
def PI(X:Cx)(tg iter:Expr)(wi:TI):Prop:=
 ∀(pins:List (Addr×Obj)) (s:Shared) (σ:St) (H:Hp) (R:It->Hp->Prop),Inv X pins σ H s->wi σ H R->
  wpAny (model X.prog X.w) X.A (eval iter X.env) (fun v s1=>wpAny (model X.prog X.w) X.A (pyIter v) (Cg X pins σ tg R) X.xe s1) X.xe s
theorem xh{M:Model}{A:Around}{E:Value->Shared->Prop}{s:Shared}{tg:Expr}{it:Addr}{u:Value}{o:Obj}{n:String}{vs:Array Value}{Q:Unit->Shared->Prop}(ho:s.heap.get? it=some o)(hc:o.cls= .type n)(hd:o.data= .fields vs)
 (hn: ["enumerate","zip","dict_itemiterator","dict_reverseitemiterator","odict_iterator","itertools.zip_longest","itertools.pairwise"].contains n=false) (hQ:Q () s):wpAny M A (letOwnedTupleGo tg (.ref it) u) Q E s:=by
 unfold letOwnedTupleGo
 cases tg<;>first
  |exact wpAny_pure hQ
  |(cases u<;>first
     |exact wpAny_pure hQ
     |(refine wpAny_bind (wpAny_load ho ?_)
       rw[hc,hd];show wpAny M A (if(["enumerate","zip","dict_itemiterator","dict_reverseitemiterator","odict_iterator","itertools.zip_longest","itertools.pairwise"].contains n&&vs[0]?==some (rawInt _))=true then _ else _) Q E s;rw[if_neg (by intro h;rw[hn,Bool.false_and]at h;cases h)];exact wpAny_pure hQ))
def E4(K:PySem.W.Frag)(a:Addr):It:=
 ⟨fun i H=>∃xs x,i8 K H a xs/\xs[i]?=some x,fun i H x H'=>H'=H/\∀xs,i8 K H a xs->xs[i]?=some x,fun i H=>∃xs,i8 K H a xs/\xs.length<=i⟩
def Bq(K:PySem.W.Frag)(a:Addr):It:=
 ⟨fun i H=>∃xs x,fm K H a xs/\xs[i]?=some x,fun i H x H'=>H'=H/\∀xs,fm K H a xs->xs[i]?=some x,fun i H=>∃xs,fm K H a xs/\xs.length<=i⟩
def se(lo:Int)(n:Nat):It:=⟨fun i _=>i<n,fun i H x H'=>H'=H/\x= .int (lo+i),fun i _=>n<=i⟩
theorem zf{P:Program}{w:World}{K:PySem.W.Frag}{tg:Expr}(a it:Addr):Turn P w K tg (E4 K a) [it] it (fun i h=>h.IsListIter it a i) where
 mem:=by simp
 obj:=fun i h st b hb=>by
  have e:b=it:=by simpa using hb
  subst e;obtain⟨o,e,c,d⟩:=st;exact⟨o,e,fun v z=>by rw[d]at z;cases z⟩
 keep:=fun i h h' st k=>st.at fun o e=>k it (by simp) o e
 item:=by
  intro X hP hw hK hc i pins s σ H E I hf st hg;subst hP hw hK;obtain⟨xs,x,hq,hx⟩:=hg;obtain⟨aj,rv,p,hz⟩:=I.list hq;obtain⟨u,hu,ru⟩:=rv.get hx;obtain⟨f0,f1,f2,f3,f4,f5⟩:=hf it (by simp);refine wpAny_pyNext_list_item st p.isList (x:=u) (by simpa using hu) fun h' st' sb=>?_;have I1:Inv X pins σ H {s with heap:=h'}:=I.turned (t':=s.toks) (fun b o hb e=>(sb.2 b hb).trans e) f0 f1 f3 f4 f5;obtain⟨o,e,c,d⟩:=id st';exact⟨u,rfl,xh (s:={s with heap:=h'}) e c d (by decide) ⟨x,H,I1,ru,⟨rfl,fun ys hy=>by rw[I.t5 hy hq];exact hx⟩,st',fun b hb=>(hf b hb).1⟩⟩
 done:=by
  intro X hP hw hK hc i pins s σ H E I hf st hg;subst hP hw hK;obtain⟨xs,hq,hx⟩:=hg;obtain⟨aj,rv,p,hz⟩:=I.list hq;obtain⟨f0,f1,f2,f3,f4,f5⟩:=hf it (by simp);have hl:=rv.length;exact wpAny_pyNext_list_end (I.ok.hd hc) st p.isList (by simp;omega) fun h' eb=>⟨rfl,I.turned (t':=s.toks) (fun b o hb e=>eb b o hb e) f0 f1 f3 f4 f5⟩
 self:=fun _ _ _ _ _ st h=>wpAny_pyIter_listiter st h
theorem qg{P:Program}{w:World}{K:PySem.W.Frag}{tg:Expr}(a it:Addr):Turn P w K tg (Bq K a) [it] it (fun i h=>h.IsTupleIter it a i) where
 mem:=by simp
 obj:=fun i h st b hb=>by
  have e:b=it:=by simpa using hb
  subst e;obtain⟨o,e,c,d⟩:=st;exact⟨o,e,fun v z=>by rw[d]at z;cases z⟩
 keep:=fun i h h' st k=>st.at fun o e=>k it (by simp) o e
 item:=by
  intro X hP hw hK hc i pins s σ H E I hf st hg;subst hP hw hK;obtain⟨xs,x,hq,hx⟩:=hg;obtain⟨aj,rv,p,hz⟩:=I.tuple hq;obtain⟨u,hu,ru⟩:=rv.get hx;obtain⟨f0,f1,f2,f3,f4,f5⟩:=hf it (by simp);refine wpAny_pyNext_tuple_item st (show s.heap.IsTuple a aj.toArray from p) (x:=u) (by simpa using hu) fun h' st' sb=>?_;have I1:Inv X pins σ H {s with heap:=h'}:=I.turned (t':=s.toks) (fun b o hb e=>(sb.2 b hb).trans e) f0 f1 f3 f4 f5;obtain⟨o,e,c,d⟩:=id st';exact⟨u,rfl,xh (s:={s with heap:=h'}) e c d (by decide) ⟨x,H,I1,ru,⟨rfl,fun ys hy=>by rw[I.rX hy hq];exact hx⟩,st',fun b hb=>(hf b hb).1⟩⟩
 done:=by
  intro X hP hw hK hc i pins s σ H E I hf st hg;subst hP hw hK;obtain⟨xs,hq,hx⟩:=hg;obtain⟨aj,rv,p,hz⟩:=I.tuple hq;obtain⟨f0,f1,f2,f3,f4,f5⟩:=hf it (by simp);have hl:=rv.length;exact wpAny_pyNext_tuple_end (I.ok.hd hc) st (show s.heap.IsTuple a aj.toArray from p) (by simp;omega) fun h' eb=>⟨rfl,I.turned (t':=s.toks) (fun b o hb e=>eb b o hb e) f0 f1 f3 f4 f5⟩
 self:=fun _ _ _ _ _ st h=>wpAny_pyIter_tupleiter st h
theorem xg{P:Program}{w:World}{K:PySem.W.Frag}{tg:Expr}(it:Addr)(lo:Int)(n:Nat):Turn P w K tg (se lo n) [it] it (fun i h=>IsRangeIter h it (lo+(i:Nat)*1) ((n:Int)-(i:Nat)) 1) where
 mem:=by simp
 obj:=fun i h st b hb=>by
  have e:b=it:=by simpa using hb
  subst e
  exact⟨_,st,fun v z=>by
   have z':Data.fields _=Data.cell v:=z;cases z'⟩
 keep:=fun i h h' st k=>k it (by simp) _ st
 item:=by
  intro X hP hw hK hc i pins s σ H E I hf st hg;subst hP hw hK;obtain⟨f0,f1,f2,f3,f4,f5⟩:=hf it (by simp);have W:=Walks.range (prog:=X.prog) (w:=X.w) (I.ok.hd hc) it lo 1 n;refine W.item i s _ _ hg st fun v h' tk hv st' kk=>?_;obtain⟨t,rfl⟩:=hv;have I1:Inv X pins σ H {s with heap:=h',toks:=tk}:=I.turned (fun b o hb e=>kk b o (by simpa using hb) e) f0 f1 f3 f4 f5;refine⟨_,rfl,xh (s:={s with heap:=h',toks:=tk}) (n:="range_iterator") st' rfl rfl (by decide) ⟨.int (lo+i),H,I1,⟨t,?_⟩,⟨rfl,rfl⟩,st',fun b hb=>(hf b hb).1⟩⟩;rw[Int.mul_one]
 done:=by
  intro X hP hw hK hc i pins s σ H E I hf st hg;subst hP hw hK;obtain⟨f0,f1,f2,f3,f4,f5⟩:=hf it (by simp);exact wpAny_pyNext_range_end (I.ok.hd hc) st (by have:n<=i:=hg;omega) fun h' eb=>⟨rfl,I.turned (t':=s.toks) (fun b o hb e=>eb b o hb e) f0 f1 f3 f4 f5⟩
 self:=fun _ _ _ _ _ st h=>wpAny_pyIter_rangeiter st h
section
variable {X:Cx}{tg:Expr}
def FU(K:PySem.W.Frag)(tl:TE):TI:=fun σ H R=>tl σ H fun x H1=>∃a,x= .ref a/\(∃xs,fm K H1 a xs)/\R (Bq K a) H1
theorem Ez{l:Expr}{tl:TE}(hl:PE X l tl):PI X tg l (FU X.K tl):=by
 intro pins s σ H R I h;refine bj (hl pins s σ H _ I h) fun v s1 ⟨x,H1,I1,r1,q1⟩=>?_;obtain⟨a,e,⟨xs,hq⟩,q⟩:=q1;subst e;cases r1;obtain⟨aj,rv,p,hz⟩:=I1.tuple hq;refine wpAny_pyIter_tuple (show s1.heap.IsTuple a aj.toArray from p) ?_;refine⟨s1.heap.objs.size,[s1.heap.objs.size],_,_,H1,rfl,I1.kept (t':=s1.toks) fun b o e=>Heap.get?_push_of_some _ e,qg a _,⟨_,Heap.get?_push_size _ rfl,rfl,rfl⟩,fun b hb=>?_,q⟩;have e:b=s1.heap.objs.size:=by simpa using hb
 subst e;exact I1.oR (Nat.le_refl _) (I1.aw.fresh (Nat.le_refl _))
theorem uE{pins:List (Addr×Obj)}{σ:St}{H:Hp}{s:Shared}{R:It->Hp->Prop}{E:Value->Shared->Prop}{lo hi:Int}{t u v:Tok}{tk:Nat}(I:Inv X pins σ H s)(h1: -(2^62)<=lo)(h2:lo<2^62)(h3: -(2^62)<=hi)(h4:hi<2^62)
 (q:R (se lo (hi-lo).toNat) H):wpAny (model X.prog X.w) X.A (pyIter (.ref s.heap.objs.size)) (Cg X pins σ tg R) E {s with heap:=s.heap.push {cls:= .type "range",data:= .fields #[.int lo t,.int hi u,.int 1 v]},toks:=tk}:=by
 refine wpAny_pyIter_range (IsRange.new ..) (small_one h1 h2 h3 h4) ?_;have I1:Inv X pins σ H {s with heap:=s.heap.push {cls:= .type "range",data:= .fields #[.int lo t,.int hi u,.int 1 v]},toks:=tk}:=I.kept fun b o e=>Heap.get?_push_of_some _ e
 refine⟨(s.heap.push {cls:= .type "range",data:= .fields #[.int lo t,.int hi u,.int 1 v]}).objs.size,[(s.heap.push {cls:= .type "range",data:= .fields #[.int lo t,.int hi u,.int 1 v]}).objs.size],_,_,H,rfl,
  I1.kept (t':=tk) fun b o e=>Heap.get?_push_of_some _ e,xg _ lo (hi-lo).toNat,?_,fun b hb=>?_,q⟩
 . have e1:lo+((0:Nat):Int)*1=lo:=by simp
   have e2:(((hi-lo).toNat:Nat):Int)-((0:Nat):Int)=Builtin.Range.rangeSize lo hi 1:=by rw[rangeSize_one];split<;>omega
   show IsRangeIter _ _ (lo+((0:Nat):Int)*1) ((((hi-lo).toNat:Nat):Int)-((0:Nat):Int)) 1;rw[e1,e2];exact Heap.get?_push_size _ rfl
 . have e:b=(s.heap.push {cls:= .type "range",data:= .fields #[.int lo t,.int hi u,.int 1 v]}).objs.size:=by simpa using hb
   subst e;exact I1.oR (Nat.le_refl _) (I1.aw.fresh (Nat.le_refl _))
def wN(ta:TA):TI:=fun σ H R=>ta σ H fun vs H1=>∃j:Int,vs=[.int j]/\ -(2^62)<=j/\j<2^62/\R (se 0 j.toNat) H1
def w9(ta:TA):TI:=fun σ H R=>ta σ H fun vs H1=>∃i j:Int,vs=[.int i,.int j]/\(-(2^62)<=i/\i<2^62/\ -(2^62)<=j/\j<2^62)/\R (se i (j-i).toNat) H1
theorem yD{a:Expr}{ta:TA}{p pos:Pos}(hg:Gl X "range")(hm:X.mg "range"=none)(ha:PA X [a] ta)(hs:starEach [a] X.env=[(false,eval a X.env)]:=by rfl):PI X tg (.Call (.Name "range" p) [a] [] pos) (wN ta):=by
 intro pins s σ H R I h;refine Call_ (jQ I hg hm boot_range (PyProof.Rows.callWith_type1 (bj (ha pos pins s σ H _ I h) fun us s1 ⟨vs,H1,I1,r1,q1⟩=>?_) hs rfl));obtain⟨j,e,q1,q2,q⟩:=q1;subst e;cases r1 with
 |cons r rr=>
  cases rr;obtain⟨t,rfl⟩:=r;exact call_range_1 (uE I1 (by omega) (by omega) q1 q2 (by simpa using q))
theorem ym{a b:Expr}{ta:TA}{p pos:Pos}(hg:Gl X "range")(hm:X.mg "range"=none)(ha:PA X [a,b] ta)(hs:starEach [a,b] X.env=[(false,eval a X.env),(false,eval b X.env)]:=by rfl)(hs2:starEach [b] X.env=[(false,eval b X.env)]:=by rfl):
 PI X tg (.Call (.Name "range" p) [a,b] [] pos) (w9 ta):=by
 intro pins s σ H R I h;refine Call_ (jQ I hg hm boot_range (PyProof.Rows.callWith_type1 (bj (ha pos pins s σ H _ I h) fun us s1 ⟨vs,H1,I1,r1,q1⟩=>?_) (by rw[hs,hs2]) (by rw[hs2];rfl)));obtain⟨i,j,e,⟨q1,q2,q3,q4⟩,q⟩:=q1;subst e;cases r1 with
 |cons r rr=>
  cases rr with
  |cons r' rr=>
   cases rr;obtain⟨t,rfl⟩:=r;obtain⟨t',rfl⟩:=r';exact call_range_2 (uE I1 q1 q2 q3 q4 q)
def AR(wi:TI)(g:TG)(tb:TS):TS:=fun D σ H=>wi σ H fun J H1=>∃W:Nat->Nat->St->Hp->Prop,(∃m,W 0 m σ H1)/\∀i m σ H,W i m σ H->
 (J.stop i H/\D.nx σ H)\/(J.go i H/\∃N:St->Hp->Prop,(∀σ' H',N σ' H'->∃m',m'<m/\W (i+1) m' σ' H')/\∀x H',J.kh i H x H'->g x σ H' fun σ2 H2=>tb {D with nx:=N,ct:=N,bk:=D.nx} σ2 H2)
def nj(fp:List Addr)(h:Heap):List (Addr×Obj):=fp.filterMap fun b=>(h.get? b).map fun o=>(b,o)
theorem jl{fp:List Addr}{h:Heap}{b:Addr}{o:Obj}(hb:b∈fp)(e:h.get? b=some o):(b,o)∈nj fp h:=List.mem_filterMap.mpr ⟨b,hb,by rw[e];rfl⟩
theorem zk{fp:List Addr}{h:Heap}{p:Addr×Obj}(hp:p∈nj fp h):p.1∈fp/\h.get? p.1=some p.2:=by
 obtain⟨b,hb,e⟩:=List.mem_filterMap.mp hp;cases q:h.get? b with
 |none=>rw[q]at e;cases e
 |some o=>
  rw[q]at e;have e':(b,o)=p:=Option.some.inj e;subst e';exact⟨hb,q⟩
theorem Inv.pinned{pins:List (Addr×Obj)}{σ:St}{H:Hp}{s:Shared}{fp:List Addr}(I:Inv X pins σ H s)(hf:∀b∈fp,iq X pins H b)(ho:∀b∈fp,∃o,s.heap.get? b=some o/\∀v,o.data≠ .cell v):Inv X (pins++nj fp s.heap) σ H s:=
 I.vU fun p hp=>(List.mem_append.mp hp).elim (fun z=>I.pin p (List.mem_append_right _ z)) fun z=>by
  obtain⟨hb,e⟩:=zk z;obtain⟨f0,f1,f2,_⟩:=hf p.1 hb;obtain⟨o,e',d⟩:=ho p.1 hb;rw[e]at e';cases e';exact⟨e,f0,f1,f2,d⟩
theorem Inv.lV{pins pl:List (Addr×Obj)}{σ:St}{H:Hp}{s:Shared}(I:Inv X (pins++pl) σ H s):Inv X pins σ H s:=I.vU fun p hp=>I.pin p (List.mem_append_right _ (List.mem_append_left _ hp))
theorem uR{iter:Expr}{body:List Stmt}{wi:TI}{g:TG}{tb:TS}{pos:Pos}(hp:PassesOwn (model X.prog X.w) X.A X.env X.xe)(hc:X.calm=true)(hi:PI X tg iter wi)(hg:PG X tg g)(hb:cM X body tb)
 (hs:∀x,foldedSetIterable iter X.env x=pure x:=by intro _;rfl):PS X (.For tg iter body [] pos) (AR wi g tb):=by
 intro pins s σ H D I h;refine wpAny_For (bj (hi pins s σ H _ I h) fun v s1 h1=>bj h1 fun itv s2 h2=>?_) hs;obtain⟨it,fp,tn,J,H2,e,I2,T,st2,f2,W,⟨m0,w0⟩,turn⟩:=h2;subst e;have stat:∀ {H':Hp},(∀b∈fp,H' b=none)->∀b∈fp,iq X pins H' b:=fun hn b hb=>⟨hn b hb,(f2 b hb).2⟩
 refine codeAny_forLoop_any (fun n s'=>∃i σ' H',Inv X pins σ' H' s'/\tn i s'.heap/\(∀b∈fp,H' b=none)/\W i n σ' H') ?_ m0 ⟨0,σ,H2,I2,st2,fun b hb=>(f2 b hb).1,w0⟩;rintro n s3 ⟨i,σ3,H3,I3,st3,fr3,w3⟩;rcases turn i n σ3 H3 w3 with⟨stop,qn⟩|⟨go,N,hN,step⟩
 . refine wpAny_passesOwn hp (bj (T.done X rfl rfl rfl hc i pins s3 σ3 H3 X.xe I3 (stat fr3) st3 stop) fun r s4 ⟨hr,I4⟩=>?_);subst hr;exact wpAny_execs_nil ⟨σ3,H3,I4,qn⟩
 . refine wpAny_passesOwn hp (bj (T.item X rfl rfl rfl hc i pins s3 σ3 H3 X.xe I3 (stat fr3) st3 go) fun r s4 ⟨u,hr,h4⟩=>?_);subst hr;refine wpAny_passesOwn hp (bj h4 fun _ s5 ⟨x,H5,I5,r5,y5,st5,fr5⟩=>?_);have I5':=I5.pinned (stat fr5) (T.obj _ _ st5);refine wpAny_passesOwn hp (bj (hg _ s5 σ3 H5 x u _ I5' r5 (step x H5 y5)) fun _ s6 ⟨σ6,H6,I6,q6⟩=>?_);refine wpAny_passesOwn hp (bj (hb _ s6 σ6 H6 _ I6 q6) fun f s7 q7=>?_)
   have again:∀ {σ7:St} {H7:Hp},Inv X (pins++nj fp s5.heap) σ7 H7 s7->N σ7 H7->∃m,m<n/\∃i σ' H',Inv X pins σ' H' s7/\tn i s7.heap/\(∀b∈fp,H' b=none)/\W i m σ' H':=fun{σ7 H7} I7 n7=>by
    obtain⟨m',hm,w7⟩:=hN σ7 H7 n7;refine⟨m',hm,i+1,σ7,H7,I7.lV,T.keep _ _ _ st5 fun b hb o e=>(I7.pin (b,o) (List.mem_append_right _ (List.mem_append_right _ (jl hb e)))).1,fun b hb=>?_,w7⟩;obtain⟨o,e,d⟩:=T.obj _ _ st5 b hb;exact(I7.pin (b,o) (List.mem_append_right _ (List.mem_append_right _ (jl hb e)))).2.1
   cases f with
   |next=>obtain⟨σ7,H7,I7,n7⟩:=q7;exact again I7 n7
   |cont=>obtain⟨σ7,H7,I7,n7⟩:=q7;exact again I7 n7
   |brk=>obtain⟨σ7,H7,I7,q7⟩:=q7;exact⟨σ7,H7,I7.lV,q7⟩
   |ret v=>obtain⟨x7,σ7,H7,I7,r7,q7⟩:=q7;exact⟨x7,σ7,H7,I7.lV,r7,q7⟩
end
theorem sC{lo:Int}{n:Nat}{g:TG}{tb:TS}{D:Ends}{σ:St}{H:Hp}(Pv:Nat->St->Hp->Prop)(h0:Pv 0 σ H)
 (hs:∀i σ H,i<n->Pv i σ H->g (.int (lo+i)) σ H fun σ2 H2=>tb {D with nx:=Pv (i+1),ct:=Pv (i+1),bk:=D.nx} σ2 H2) (hd:∀σ H,Pv n σ H->D.nx σ H):
 ∃W:Nat->Nat->St->Hp->Prop,(∃m,W 0 m σ H)/\∀i m σ H,W i m σ H->
  ((se lo n).stop i H/\D.nx σ H)\/((se lo n).go i H/\∃N:St->Hp->Prop,(∀σ' H',N σ' H'->∃m',m'<m/\W (i+1) m' σ' H')/\∀x H',(se lo n).kh i H x H'->g x σ H' fun σ2 H2=>tb {D with nx:=N,ct:=N,bk:=D.nx} σ2 H2):=by
 refine⟨fun i m σ H=>m=n-i/\i<=n/\Pv i σ H,⟨n,by simp,Nat.zero_le _,h0⟩,?_⟩;rintro i m σ H ⟨rfl,hi,p⟩;by_cases hlt:i<n
 . refine .inr ⟨hlt,Pv (i+1),fun σ' H' p'=>⟨n-(i+1),by omega,rfl,hlt,p'⟩,fun x H' y=>?_⟩;obtain⟨e,y⟩:=y;subst e y;exact hs i σ _ hlt p
 . have e:i=n:=by omega
   subst e;exact .inl ⟨Nat.le_refl _,hd σ H p⟩
abbrev R2:=V->V->Hp->VK->Prop
def bq(X:Cx)(f:Value->Value->Sem Value)(r:R2):Prop:=
 ∀(pins:List (Addr×Obj)) (s:Shared) (σ:St) (H:Hp) (x y:V) (v u:Value) (Q:VK),Inv X pins σ H s->RelV x v->RelV y u->r x y H Q->
  wpAny (model X.prog X.w) X.A (f v u) (EP X pins σ Q) X.xe s
def vR(X:Cx)(f:Value->Sem Value)(r:V->Hp->VK->Prop):Prop:=
 ∀(pins:List (Addr×Obj)) (s:Shared) (σ:St) (H:Hp) (x:V) (v:Value) (Q:VK),Inv X pins σ H s->RelV x v->r x H Q->
  wpAny (model X.prog X.w) X.A (f v) (EP X pins σ Q) X.xe s
def aU(X:Cx)(f:Value)(r:List V->Hp->VK->Prop):Prop:=
 ∀(pins:List (Addr×Obj)) (s:Shared) (σ:St) (H:Hp) (xs:List V) (us:List Value) (Q:VK),Inv X pins σ H s->Vals xs us->r xs H Q->
  wpAny (model X.prog X.w) X.A (call f us) (EP X pins σ Q) X.xe s
def yr(r:R2)(ta tb:TE):TE:=fun σ H Q=>ta σ H fun x H1=>tb σ H1 fun y H2=>r x y H2 Q
def HK(r:V->Hp->VK->Prop)(ta:TE):TE:=fun σ H Q=>ta σ H fun x H1=>r x H1 Q
def rI(C:Int->Int->Prop)(g:Int->Int->V):R2:=fun x y H Q=>∃i j,x= .int i/\y= .int j/\C i j/\Q (g i j) H
def tP(g:Int->Int->V):R2:=fun x y H Q=>∃i j,x= .int i/\y= .int j/\Q (g i j) H
def rU(g:Int->V):V->Hp->VK->Prop:=fun x H Q=>∃i,x= .int i/\Q (g i) H
section
variable {X:Cx}{a b c:Expr}{ta tb tc:TE}{pos:Pos}
theorem Bc(ha:PE X a ta)(hb:PE X b tb){pins:List (Addr×Obj)}{s:Shared}{σ:St}{H:Hp}{R:V->V->Hp->Prop}(I:Inv X pins σ H s)
 (h:ta σ H fun x H1=>tb σ H1 fun y H2=>R x y H2) {Q:Value->Shared->Prop} {f:Value->Value->Sem Value}
 (hf:∀v u s2 x y H2,Inv X pins σ H2 s2->RelV x v->RelV y u->R x y H2->wpAny (model X.prog X.w) X.A (f v u) Q X.xe s2):
 wpAny (model X.prog X.w) X.A (eval a X.env) (fun v s₁=>wpAny (model X.prog X.w) X.A (eval b X.env) (fun u s₂=>wpAny (model X.prog X.w) X.A (f v u) Q X.xe s₂) X.xe s₁) X.xe s:=by
 refine bj (ha pins s σ H _ I h) fun v s1 ⟨x,H1,I1,r1,q1⟩=>?_;refine bj (hb pins s1 σ H1 _ I1 q1) fun u s2 ⟨y,H2,I2,r2,q2⟩=>?_;exact hf v u s2 x y H2 I2 r1 r2 q2
theorem Gx{op:Operator}{r:R2}(ho:bq X (binaryOp op) r)(ha:PE X a ta)(hb:PE X b tb):PE X (.BinOp a op b pos) (yr r ta tb):=by
 intro pins s σ H Q I h;exact wpAny_BinOp (Bc ha hb I h fun v u s2 x y H2 I2 rx ry q=>ho pins s2 σ H2 x y v u Q I2 rx ry q)
theorem F6{op:UnaryOp}{r:V->Hp->VK->Prop}(ho:vR X (unaryOp op) r)(ha:PE X a ta):PE X (.UnaryOp op a pos) (HK r ta):=by
 intro pins s σ H Q I h;exact UnaryOp_ (bj (ha pins s σ H _ I h) fun v s1 ⟨x,H1,I1,r1,q1⟩=>ho pins s1 σ H1 x v Q I1 r1 q1)
theorem BW{f:Value->Value->Sem Value}{C:Int->Int->Prop}{g:Int->Int->Int}
 (rule:∀(i j:Int) (t u:Tok) (s:Shared) (Q:Value->Shared->Prop) (E:Value->Shared->Prop),C i j->Q (.int (g i j) s.toks) {s with toks:=s.toks+1}->wpAny (model X.prog X.w) X.A (f (.int i t) (.int j u)) Q E s):
 bq X f (rI C fun i j=> .int (g i j)):=by
 intro pins s σ H x y v u Q I rx ry h;obtain⟨i,j,rfl,rfl,hc,q⟩:=h;obtain⟨t,rfl⟩:=rx;obtain⟨t',rfl⟩:=ry;exact rule i j t t' s _ _ hc ⟨.int (g i j),H,I.tok _,⟨_,rfl⟩,q⟩
theorem D2{f:Value->Value->Sem Value}{g:Int->Int->Int}
 (rule:∀(i j:Int) (t u:Tok) (s:Shared) (Q:Value->Shared->Prop) (E:Value->Shared->Prop),Q (.int (g i j) s.toks) {s with toks:=s.toks+1}->wpAny (model X.prog X.w) X.A (f (.int i t) (.int j u)) Q E s):
 bq X f (tP fun i j=> .int (g i j)):=by
 intro pins s σ H x y v u Q I rx ry h;obtain⟨i,j,rfl,rfl,q⟩:=h;obtain⟨t,rfl⟩:=rx;obtain⟨t',rfl⟩:=ry;exact rule i j t t' s _ _ ⟨.int (g i j),H,I.tok _,⟨_,rfl⟩,q⟩
theorem EH{f:Value->Value->Sem Value}{g:Int->Int->Bool}
 (rule:∀(i j:Int) (t u:Tok) (s:Shared) (Q:Value->Shared->Prop) (E:Value->Shared->Prop),Q (.bool (g i j)) s->wpAny (model X.prog X.w) X.A (f (.int i t) (.int j u)) Q E s):
 bq X f (tP fun i j=> .bl (g i j)):=by
 intro pins s σ H x y v u Q I rx ry h;obtain⟨i,j,rfl,rfl,q⟩:=h;obtain⟨t,rfl⟩:=rx;obtain⟨t',rfl⟩:=ry;exact rule i j t t' s _ _ ⟨.bl (g i j),H,I,rfl,q⟩
def A4(i j:Int):Prop:=0<=j/\j<=1000000/\i.natAbs<2^64
theorem EV:bq X (binaryOp .Add) (tP fun i j=> .int (i+j)):=D2 fun _ _ _ _ _ _ _ q=>add_int q
theorem FI:bq X (binaryOp .Sub) (tP fun i j=> .int (i-j)):=D2 fun _ _ _ _ _ _ _ q=>sub_int q
theorem Dy:bq X (binaryOp .Mod) (rI (fun _ j=>j≠0) fun i j=> .int (i.fmod j)):=BW fun _ _ _ _ _ _ _ hc q=>mod_int' hc q
theorem FF:bq X (binaryOp .Pow) (rI A4 fun i j=> .int (i^j.toNat)):=BW fun _ _ _ _ _ _ _ hc q=>pow_int_small hc.1 hc.2.1 hc.2.2 q
theorem Jo{f:Value->Sem Value}{g:Int->Int}
 (rule:∀(i:Int) (t:Tok) (s:Shared) (Q:Value->Shared->Prop) (E:Value->Shared->Prop),Q (.int (g i) s.toks) {s with toks:=s.toks+1}->wpAny (model X.prog X.w) X.A (f (.int i t)) Q E s):
 vR X f (rU fun i=> .int (g i)):=by
 intro pins s σ H x v Q I rx h;obtain⟨i,rfl,q⟩:=h;obtain⟨t,rfl⟩:=rx;exact rule i t s _ _ ⟨.int (g i),H,I.tok _,⟨_,rfl⟩,q⟩
theorem FK:vR X (unaryOp .USub) (rU fun i=> .int (-i)):=Jo fun _ _ _ _ _ q=>neg_int q
end
def IM:V->V->Bool
 | .ay,.ay=>true| .ay,.int _=>true| .int _,.ay=>true| .ay,.bl _=>true| .bl _,.ay=>true| .ay,.str _=>true| .str _,.ay=>true
 | .int _,.int _=>true| .bl _,.bl _=>true| .str _,.str _=>true| .pQ _,.pQ _=>true
 | .int _,.str _=>true| .str _,.int _=>true| .bl _,.str _=>true| .str _,.bl _=>true
 |_,_=>false
def Jg:R2:=fun x y H Q=>IM x y=true/\Q (.bl (!decide (x=y))) H
theorem DL{i j:Int}:decide (V.int i=V.int j)=(i==j):=by
 rw[Bool.eq_iff_iff];simp
theorem ET{i j:Bool}:decide (V.bl i=V.bl j)=(i==j):=by
 rw[Bool.eq_iff_iff];simp
theorem Dg{i j:Str}:decide (V.str i=V.str j)=(i==j):=by
 rw[Bool.eq_iff_iff];simp
theorem CO{i j:Array UInt8}:decide (V.pQ i=V.pQ j)=(i.toList==j.toList):=by
 rw[Bool.eq_iff_iff];cases i;cases j;simp
section
variable {X:Cx}{a b c:Expr}{ta tb tc:TE}{pos:Pos}
theorem dj{pins:List (Addr×Obj)}{σ:St}{H:Hp}{s:Shared}{Q:VK}{k k':Bool}(I:Inv X pins σ H s)(q:Q (.bl k) H)(e:k=k'):EP X pins σ Q (.bool k') s:=by
 subst e;exact⟨.bl k,H,I,rfl,q⟩
theorem F4:bq X (compareOp .NotEq) Jg:=by
 intro pins s σ H x y v u Q I rx ry h;obtain⟨hs,q⟩:=h;cases x with
 |ay=>
  cases rx;cases y with
  |ay=>cases ry;exact PySem.EqNone.ne_none_none (dj I q (by simp))
  |bl j=>cases ry;exact PySem.EqNone.ne_none_bool (dj I q (by simp))
  |int j=>obtain⟨t',rfl⟩:=ry;exact PySem.EqNone.ne_none_int (dj I q (by simp))
  |str j=>obtain⟨t',rfl⟩:=ry;exact PySem.EqNone.ne_none_str (dj I q (by simp))
  |_=>exact absurd (show false=true from hs) Bool.false_ne_true
 |bl i=>
  cases rx;cases y with
  |ay=>cases ry;exact PySem.EqNone.ne_bool_none (dj I q (by simp))
  |bl j=>cases ry;exact ne_bool (dj I q (congrArg not ET))
  |str j=>obtain⟨t',rfl⟩:=ry;exact PySem.EqMixed.ne_bool_str (dj I q (by simp))
  |_=>exact absurd (show false=true from hs) Bool.false_ne_true
 |int i=>
  obtain⟨t,rfl⟩:=rx;cases y with
  |ay=>cases ry;exact PySem.EqNone.ne_int_none (dj I q (by simp))
  |int j=>obtain⟨t',rfl⟩:=ry;exact ne_int (dj I q (congrArg not DL))
  |str j=>obtain⟨t',rfl⟩:=ry;exact PySem.EqMixed.ne_int_str (dj I q (by simp))
  |_=>exact absurd (show false=true from hs) Bool.false_ne_true
 |str i=>
  obtain⟨t,rfl⟩:=rx;cases y with
  |ay=>cases ry;exact PySem.EqNone.ne_str_none (dj I q (by simp))
  |bl j=>cases ry;exact PySem.EqMixed.ne_str_bool (dj I q (by simp))
  |int j=>obtain⟨t',rfl⟩:=ry;exact PySem.EqMixed.ne_str_int (dj I q (by simp))
  |str j=>obtain⟨t',rfl⟩:=ry;exact ne_str (dj I q (congrArg not Dg))
  |_=>exact absurd (show false=true from hs) Bool.false_ne_true
 |pQ i=>
  obtain⟨t,rfl⟩:=rx;cases y with
  |pQ j=>obtain⟨t',rfl⟩:=ry;exact PySem.W.ne_bytes (dj I q (congrArg not CO))
  |_=>exact absurd (show false=true from hs) Bool.false_ne_true
 |_=>cases y<;>exact absurd (show false=true from hs) Bool.false_ne_true
theorem Gf:bq X (compareOp .Lt) (tP fun i j=> .bl (decide (i<j))):=EH fun _ _ _ _ _ _ _ q=>lt_int q
theorem Hu:bq X (compareOp .GtE) (tP fun i j=> .bl (decide (j<=i))):=EH fun _ _ _ _ _ _ _ q=>ge_int q
theorem CP:bq X (compareOp .IsNot) (fun x y H Q=>y= .ay/\Q (.bl (!decide (x= .ay))) H):=by
 intro pins s σ H x y v u Q I rx ry h;obtain⟨rfl,q⟩:=h;cases ry;refine isnot_none_gen (dj I q ?_)
 cases x<;>first
  |(cases rx;rfl)
  |(obtain⟨t,rfl⟩:=rx;rfl)
theorem cp(b:Expr){op:CmpOp}(h:op≠ .In:=by decide)(h2:op≠ .NotIn:=by decide):behindInMarks op b=false:=by
 have e1:(op==CmpOp.In)=false:=by cases op<;>first|rfl|exact absurd rfl h
 have e2:(op==CmpOp.NotIn)=false:=by cases op<;>first|rfl|exact absurd rfl h2
 cases b<;>simp[behindInMarks,e1,e2]
theorem Dw{op:CmpOp}{r:R2}(ho:bq X (compareOp op) r)(ha:PE X a ta)(hb:PE X b tb)(hm:behindInMarks op b=false):PE X (.Compare a [op] [b] pos) (yr r ta tb):=by
 intro pins s σ H Q I h;exact wpAny_Compare1 (Bc ha hb I h fun v u s2 x y H2 I2 rx ry q=>ho pins s2 σ H2 x y v u Q I2 rx ry q) hm
def Gn(t:TE):TT:=fun σ H Q=>t σ H fun x H'=>∃k,x= .bl k/\Q k H'
theorem C3{op:CmpOp}{r:R2}(ho:bq X (compareOp op) r)(ha:PE X a ta)(hb:PE X b tb)(hm:behindInMarks op b=false):PT X (.Compare a [op] [b] pos) (Gn (yr r ta tb)):=by
 intro pins s σ H Q I h
 refine wpAny_isTrue_Compare1 (bj (ha pins s σ H _ I h) fun v s1 ⟨x,H1,I1,r1,q1⟩=>bj (hb pins s1 σ H1 _ I1 q1) fun u s2 ⟨y,H2,I2,r2,q2⟩=>
  bj (ho pins s2 σ H2 x y v u _ I2 r1 r2 q2) fun c s3 ⟨z,H3,I3,r3,k,e,q3⟩=>?_) hm
 subst e;cases r3;exact wpAny_truthy_bool ⟨H3,I3,q3⟩
theorem m6:(sizeLine:Nat)<2^63:=by rw[sizeLine_eq];decide
theorem xG:bq X (binaryOp .Add) (fun x y H Q=>∃i j,x= .str i/\y= .str j/\i.length+j.length<=sizeLine/\Q (.str (i++j)) H):=by
 intro pins s σ H x y v u Q I rx ry h;obtain⟨i,j,rfl,rfl,hz,q⟩:=h;obtain⟨t,rfl⟩:=rx;obtain⟨t',rfl⟩:=ry;exact add_str (fun t' tk=>⟨.str (i++j),H,I.tok _,⟨_,rfl⟩,q⟩) hz
theorem vals1{x:V}{us:List Value}(r:Vals [x] us):∃u,us=[u]/\RelV x u:=by
 cases r with
 |cons r1 r2=>cases r2;exact⟨_,rfl,r1⟩
theorem vals2{x y:V}{us:List Value}(r:Vals [x,y] us):∃u w',us=[u,w']/\RelV x u/\RelV y w':=by
 cases r with
 |cons r1 r2=>
  cases r2 with
  |cons r3 r4=>cases r4;exact⟨_,_,rfl,r1,r3⟩
theorem AI:aU X (.builtin "abs") (fun xs H Q=>∃i,xs=[.int i]/\Q (.int (if i<0 then-i else i)) H):=by
 intro pins s σ H xs us Q I r h;obtain⟨i,rfl,q⟩:=h;obtain⟨u,rfl,t,rfl⟩:=vals1 r;exact call_abs_int fun u tk=>⟨.int (if i<0 then-i else i),H,I.tok _,⟨_,rfl⟩,q⟩
theorem yi(hc:X.calm=true):aU X (.builtin "max") (fun xs H Q=>∃i j,xs=[.int i,.int j]/\Q (.int (if j>i then j else i)) H):=by
 intro pins s σ H xs us Q I r h;obtain⟨i,j,rfl,q⟩:=h;obtain⟨u,w',rfl,⟨t,rfl⟩,⟨t',rfl⟩⟩:=vals2 r;refine max_two_ints (I.ok.hd hc) fun h' tk k=>⟨_,H,I.kept k,?_,q⟩
 by_cases hj:j>i
 . rw[if_pos hj,if_pos hj];exact⟨_,rfl⟩
 . rw[if_neg hj,if_neg hj];exact⟨_,rfl⟩
theorem zQ(hc:X.calm=true):aU X (.builtin "min") (fun xs H Q=>∃i j,xs=[.int i,.int j]/\Q (.int (if j<i then j else i)) H):=by
 intro pins s σ H xs us Q I r h;obtain⟨i,j,rfl,q⟩:=h;obtain⟨u,w',rfl,⟨t,rfl⟩,⟨t',rfl⟩⟩:=vals2 r;refine min_two_ints (I.ok.hd hc) fun h' tk k=>⟨_,H,I.kept k,?_,q⟩
 by_cases hj:j<i
 . rw[if_pos hj,if_pos hj];exact⟨_,rfl⟩
 . rw[if_neg hj,if_neg hj];exact⟨_,rfl⟩
theorem zG:aU X (.type "int") (fun xs H Q=>(∃i,xs=[.int i]/\Q (.int i) H)\/∃k,xs=[.bl k]/\Q (.int (if k then 1 else 0)) H):=by
 intro pins s σ H xs us Q I r h;rcases h with⟨i,rfl,q⟩|⟨k,rfl,q⟩
 . obtain⟨u,rfl,t,rfl⟩:=vals1 r;exact call_int_int ⟨.int i,H,I,⟨_,rfl⟩,q⟩
 . obtain⟨u,rfl,r1⟩:=vals1 r;cases r1;exact call_int_bool ⟨.int (if k then 1 else 0),H,I.tok _,⟨_,rfl⟩,q⟩
end
structure uo(h:Heap)(x dx C:Addr)(mA:Str->Option Value):Prop where
 obj:h.get? x=some (PySem.W.instObj C dx)
 ns:h.Ns1 dx mA
 ne:dx≠x
theorem zP{h:Heap}{dx:Addr}{mA:Str->Option Value}(n:h.Ns1 dx mA):∃od,h.get? dx=some od/\∀name,PySem.W.lookIn name od=some (mA name):=by
 obtain⟨o,es,ep,ho,hd,hk,_,hm⟩:=n;refine⟨o,ho,fun name=>?_⟩;have e:=hm name;unfold nsFind findBy at e;rw[<-Array.find?_toList]at e;unfold PySem.W.lookIn;rw[hd];dsimp only;split
 . rename_i y q;rw[q]at e;exact congrArg some e
 . rename_i q;rw[q]at e
   have a:es.toList.any (·.refKey)=false:=by
    rw[List.any_eq_false];intro y hy;obtain⟨z,t,hkey⟩:=hk y (Array.mem_toList_iff.mp hy);simp[DictEntry.refKey,hkey]
   have a':¬es.toList.any (·.refKey)=true:=by rw[a];exact Bool.false_ne_true
   rw[if_neg a'];exact congrArg some e
theorem uo.look{h:Heap}{x dx C:Addr}{mA:Str->Option Value}(I:uo h x dx C mA):∃od,PySem.W.InstAt h x (PySem.W.instObj C dx) C (some od)/\∀name,PySem.W.lookIn name od=some (mA name):=
 let⟨od,ho,hl⟩:=zP I.ns
 ⟨od,⟨I.obj,rfl,rfl,ho⟩,hl⟩
section
variable {prog:Program}{w:World}{A:Around}{E:Value->Shared->Prop}{s:Shared}{K:PySem.W.Frag}{x dx C f:Addr}{mA:Str->Option Value}{name:Str}{v:Value}
theorem Dv{ns:List Str}{Q:Unit->Shared->Prop}(X:K.In s.heap)(I:uo s.heap x dx C mA)
 (hs:PySem.W.findIn K (.ref C) "__setattr__"=some (some (.builtin "object.__setattr__"))) (hp:PySem.W.plainOver K C=true) (ht:PySem.W.takerIn K C name=some none) (hh:PySem.W.hasDictIn K C=true)
 (hw:PySem.Within mA ns) (hsz:ns.length<=sizeLine)
 (h:∀h',uo h' x dx C (fun y=>if y=name then some v else mA y)->Heap.SameBut dx s.heap h'->Q () {s with heap:=h',toks:=s.toks+2}):
 wpAny (model prog w) A (setAttr (.ref x) name v) Q E s:=by
 obtain⟨od,J,hl⟩:=I.look;refine PySem.W.set_plain X J hs (PySem.W.osa_open (s:={s with toks:=s.toks+1}) (r:=none) X J hp ht fun b=>?_);obtain⟨cd,hc,hd'⟩:=PySem.W.any_some hh;have hx:s.heap.get? x=some ⟨.ref C,some dx,.plain,#[]⟩:=I.obj;refine wpAny_bind (wpAny_pure (wpAny_bind (wpAny_bind (wpAny_loadPart hx (wpAny_bind (PySem.W.Looks.here (s:={s with toks:=s.toks+1}) (PySem.W.looks_clsIn X hc) ?_))))));rw[hd'];refine wpAny_pure (a:=some dx) (wpAny_bind (wpAny_pure (wpAny_bind ?_)));refine wpAny_nsSet1 (s:={s with toks:=s.toks+1}) I.ns fun h' hn2 hs2=>?_;obtain⟨oD,esD,epD,hoD,hdD,hcD⟩:=hn2.count (PySem.Within.cons name v hw);refine wpAny_bind (wpAny_lookBehind hoD (by rw[hdD];exact pastItsLine_dict (Nat.le_trans hcD (by rw[List.length_cons];omega))) ?_);exact wpAny_pure (h _ ⟨(hs2.2 _ (Ne.symm I.ne)).trans I.obj,hn2,I.ne⟩ hs2)
theorem A9{R:Result->Shared->Prop}{vs:List Value}{kw:List (Str×Value)}(X:K.In s.heap)(hm:PySem.W.makesIn K C=true)
 (hi:PySem.W.findIn K (.ref C) "__init__"=some (some (.ref f))) (hf:PySem.W.typeIn K (.ref f)=some (.type "function"))
 (h:codeAny (model prog w) (A.under (.builtin "type.__call__" ⟨.ref C::vs,kw⟩)) (.call (.ref f) ⟨.ref (s.heap.objs.size+1)::vs,kw⟩) (PySem.W.InitBack (s.heap.objs.size+1) R)
   {s with heap:=(s.heap.push PySem.W.emptyDict).push (PySem.W.instObj C s.heap.objs.size)}):
 codeAny (model prog w) A (.call (.ref C) ⟨vs,kw⟩) R s:=by
 obtain⟨hh,g,d,t,os⟩:=s;exact PySem.W.make_core (PySem.W.makes_of X hm) (PySem.W.looks_findIn X hi) (fun self=>PySem.W.bind_fn X self hf) (.inl rfl) h
end
def eG(f:Str)(v:V):List (Str×V)->List (Str×V)
 | []=>[(f,v)]
 |(g,x)::r=>if g=f then(g,v)::r else(g,x)::eG f v r
theorem ow(f g:Str)(v:V):∀fs:List (Str×V),(eG f v fs).lookup g=if g=f then some v else fs.lookup g
 | []=>by
   show List.lookup g [(f,v)]=_;by_cases h:g=f
   . have hb:(g==f)=true:=beq_iff_eq.mpr h;simp only[List.lookup,hb,if_pos h]
   . have hb:(g==f)=false:=beq_eq_false_iff_ne.mpr h;simp only[List.lookup,hb,if_neg h]
 |(k,x)::r=>by
  have ih:=ow f g v r;rw[show eG f v ((k,x)::r)=(if k=f then(k,v)::r else(k,x)::eG f v r)from rfl];by_cases hk:k=f
  . rw[if_pos hk];by_cases h:g=k
    . have hb:(g==k)=true:=beq_iff_eq.mpr h;simp only[List.lookup,hb,if_pos (h.trans hk)]
    . have hb:(g==k)=false:=beq_eq_false_iff_ne.mpr h;simp only[List.lookup,hb,if_neg (fun e:g=f=>h (e.trans hk.symm))]
  . rw[if_neg hk];by_cases h:g=k
    . have hb:(g==k)=true:=beq_iff_eq.mpr h;simp only[List.lookup,hb,if_neg (fun e:g=f=>hk (h.symm.trans e))]
    . have hb:(g==k)=false:=beq_eq_false_iff_ne.mpr h;simp only[List.lookup,hb];exact ih
theorem ng(f:Str)(v:V):∀fs:List (Str×V),f∈(eG f v fs).map (·.1)/\∀g,g∈fs.map (·.1)->g∈(eG f v fs).map (·.1)
 | []=>⟨by simp[eG],fun g h=>by simp at h⟩
 |(k,x)::r=>by
  obtain⟨i1,i2⟩:=ng f v r;rw[show eG f v ((k,x)::r)=(if k=f then(k,v)::r else(k,x)::eG f v r)from rfl];by_cases hk:k=f
  . rw[if_pos hk];subst hk;exact⟨by simp,fun g h=>by simpa using h⟩
  . rw[if_neg hk];refine⟨?_,fun g h=>?_⟩
    . rw[List.map_cons];exact List.mem_cons_of_mem _ i1
    . rw[List.map_cons]at h⊢;rcases List.mem_cons.mp h with e|e
      . exact List.mem_cons.mpr (.inl e)
      . exact List.mem_cons_of_mem _ (i2 g e)
theorem oN(f:Str)(v:V):∀fs:List (Str×V),(eG f v fs).length<=fs.length+1
 | []=>by simp[eG]
 |(k,x)::r=>by
  have ih:=oN f v r;rw[show eG f v ((k,x)::r)=(if k=f then(k,v)::r else(k,x)::eG f v r)from rfl];by_cases hk:k=f
  . rw[if_pos hk,List.length_cons,List.length_cons];omega
  . rw[if_neg hk,List.length_cons,List.length_cons];omega
section
variable {P:Program}{w:World}{H H':Hp}{h h':Heap}{a C dx:Addr}{fs fs':List (Str×V)}
theorem nX(aw:dE P w H h)(e:H a=some (.ins C dx fs)):∃mA,uo h a dx C mA/\(∀f,xH (fs.lookup f) (mA f))/\PySem.Within mA (fs.map (·.1))/\fs.length<=1000/\H dx=some (.own a):=by
 obtain⟨d,z,ne,ob,mA,n,r,q⟩:=(show cn P w H h a (.ins C dx fs)from aw a _ e)
 exact⟨mA,⟨ob,n,ne⟩,r,q,z,d⟩
end
structure rM(K:PySem.W.Frag)(C:Addr):Prop where
 pg:PySem.W.plainGet K C Str.empty=true
 hd:PySem.W.hasDictIn K C=true
 po:PySem.W.plainOver K C=true
 sa:PySem.W.findIn K (.ref C) "__setattr__"=some (some (.builtin "object.__setattr__"))
theorem rM.get{K:PySem.W.Frag}{C:Addr}(c:rM K C)(f:Str):PySem.W.plainGet K C f=true:=c.pg
def fD(K:PySem.W.Frag)(C:Addr)(f:Str):Prop:=PySem.W.findIn K (.ref C) f=some none
theorem fD.GU{K:PySem.W.Frag}{C:Addr}{f:Str}(n:fD K C f):PySem.W.takerIn K C f=some none:=by
 unfold PySem.W.takerIn;rw[show PySem.W.findIn K (.ref C) f=some none from n];rfl
structure Meth(K:PySem.W.Frag)(C:Addr)(m:Str)(f:Addr):Prop where
 at_:PySem.W.findIn K (.ref C) m=some (some (.ref f))
 fn:PySem.W.isFn K (.ref f)=true
 kp:PySem.W.keepIn K (.ref f)=true
section
variable {X:Cx}{pins:List (Addr×Obj)}{σ:St}{H:Hp}{s:Shared}{a C dx:Addr}{fs:List (Str×V)}{f:Str}{v:V}{A:Around}{E:Value->Shared->Prop}
theorem xk{y:V}{u:Value}{Q:Unit->Shared->Prop}(I:Inv X pins σ H s)(e:H a=some (.ins C dx fs))(c:rM X.K C)(n:fD X.K C f)(hl:fs.length<1000)(ry:RelV y u)
 (h:∀s',Inv X pins σ (upd H a (.ins C dx (eG f y fs))) s'->Q () s'):wpAny (model X.prog X.w) A (setAttr (.ref a) f u) Q E s:=by
 obtain⟨mA,O,r,wi,_,ho⟩:=nX I.aw e;have hz:(fs.map (·.1)).length<=sizeLine:=by rw[List.length_map,sizeLine_eq];omega
 refine Dv I.dG O c.sa c.po n.GU c.hd wi hz fun h' O' sb=>h _ ?_;have hd:∃o,h'.get? dx=some o:=let⟨o,_,_,e',_⟩:=O'.ns;⟨o,e'⟩
 refine I.write (x:=a) (e:=dx) (by rw[e];exact True.intro) (.inr ho) (fun b q hb z=>(sb.2 b hb).trans z) hd ?_;refine⟨by rw[aq O.ne];exact ho,?_,O.ne,O'.obj,_,O'.ns,fun g=>?_,fun g hg=>?_⟩
 . have:=oN f y fs;omega
 . show xH ((eG f y fs).lookup g) (if g=f then some u else mA g);rw[ow];by_cases q:g=f
   . rw[if_pos q,if_pos q];exact ry
   . rw[if_neg q,if_neg q];exact r g
 . by_cases q:g=f
   . rw[q];exact(ng f y fs).1
   . refine(ng f y fs).2 g (wi g fun z=>hg ?_);show(if g=f then some u else mA g)=none;rw[if_neg q];exact z
theorem Inv.made(I:Inv X pins σ H s):Inv X pins σ (upd (upd H s.heap.objs.size (.own (s.heap.objs.size+1))) (s.heap.objs.size+1) (.ins C s.heap.objs.size []))
 {s with heap:=(s.heap.push PySem.W.emptyDict).push (PySem.W.instObj C s.heap.objs.size)}:=by
 have e1:(s.heap.push PySem.W.emptyDict).get? s.heap.objs.size=some PySem.W.emptyDict:=Heap.get?_push_size s.heap rfl
 have e2:((s.heap.push PySem.W.emptyDict).push (PySem.W.instObj C s.heap.objs.size)).get? (s.heap.objs.size+1)=some (PySem.W.instObj C s.heap.objs.size):=by
  have:=Heap.get?_push_size (s.heap.push PySem.W.emptyDict) (o:=PySem.W.instObj C s.heap.objs.size) rfl;rwa [Heap.size_push]at this
 have e3:(s.heap.push PySem.W.emptyDict).Ns s.heap.objs.size (fun _=>none):=⟨PySem.W.emptyDict,#[],_,e1,rfl,(fun e he=>absurd he (by simp)),fun _=>rfl⟩
 have I1:=I.laid (a:=s.heap.objs.size) (o:= .own (s.heap.objs.size+1)) (h':=s.heap.push PySem.W.emptyDict) (t':=s.toks) (fun b u q=>Heap.get?_push_of_some _ q) (Nat.le_refl _) ⟨_,e1⟩;refine I1.laid (a:=s.heap.objs.size+1) (o:= .ins C s.heap.objs.size []) (t':=s.toks) (fun b u q=>Heap.get?_push_of_some _ q) (Nat.le_of_eq (Heap.size_push _ _)) ?_;have ne:s.heap.objs.size≠s.heap.objs.size+1:=Nat.ne_of_lt (Nat.lt_succ_self _);refine⟨by rw[aq ne,aD],Nat.zero_le _,ne,e2,fun _=>none,(Heap.Ns1.of_empty e3).at fun o q=>Heap.get?_push_of_some _ q,fun _=>True.intro,fun y hy=>absurd rfl hy⟩
end
def Ii(K:PySem.W.Frag)(ta tv:TE)(f:Str):TS:=fun D σ H=>tv σ H fun y H1=>ta σ H1 fun x H2=>∃a C dx fs,x= .ref a/\H2 a=some (.ins C dx fs)/\rM K C/\fD K C f/\fs.length<1000/\
 D.nx σ (upd H2 a (.ins C dx (eG f y fs)))
section
variable {X:Cx}{o e value:Expr}{f:Str}{pos pos' tpos:Pos}{ta tv:TE}
theorem FO(ha:PE X o ta)(hv:PE X value tv)(hs:swapsWith value (some (.Attribute o f pos')) pos.line X.env=pure false):PS X (.Assign [.Attribute o f pos'] value pos) (Ii X.K ta tv f):=by
 intro pins s σ H D I h;refine plainObj_wpAny_Assign_Attribute (bj (hv pins s σ H _ I h) fun u s1 ⟨y,H1,I1,ry,q⟩=>bj (ha pins s1 σ H1 _ I1 q) fun ov s2 ⟨x,H2,I2,rx,a,C,dx,fs,ex,ea,c,n,l,q2⟩=>?_) hs;subst ex;obtain rfl:ov=Value.ref a:=rx;exact xk I2 ea c n l ry fun s3 I3=>⟨σ,_,I3,q2⟩
end
section
variable {X:Cx}{pins:List (Addr×Obj)}{σ:St}{H:Hp}{s:Shared}{A:Around}{E:Value->Shared->Prop}{Q:Value->Shared->Prop}{c:Value}{b:Bool}
inductive fZ(K:PySem.W.Frag)(H:Hp):V->Value->Prop where
 |ay:fZ K H .ay (.type "NoneType")
 |bl (x:Bool):fZ K H (.bl x) (.type "bool")
 |int (i:Int):fZ K H (.int i) (.type "int")
 |str (x:Str):fZ K H (.str x) (.type "str")
 |pU (x:UInt64):fZ K H (.pU x) (.type "float")
 |lst {a:Addr} {xs:List V} (e:H a=some (.lst xs)):fZ K H (.ref a) (.type "list")
 |dM {a:Addr} {o:Obj} {xs:List V} (e:H a=some (.dM o (.lst xs))):fZ K H (.ref a) (.type "list")
 |tup {a:Addr} {xs:List V} (e:H a=some (.tup xs)):fZ K H (.ref a) (.type "tuple")
 |dK {a:Addr} {kvs:List (Key×V)} (e:H a=some (.dK kvs)):fZ K H (.ref a) (.type "dict")
 |dT {a:Addr} {kvs:List (List Key×V)} (e:H a=some (.dT kvs)):fZ K H (.ref a) (.type "dict")
 |ins {a C dx:Addr} {fs:List (Str×V)} (e:H a=some (.ins C dx fs)) (cl:rM K C) (ha:PySem.W.findIn K (.ref C) "__class__"=some (some (.builtin "object.__class__")))
   (hn:PySem.W.specialIn K (.builtin "object.__class__") "__get__"=some (some (.builtin "getset_descriptor.__get__"))) (htk:PySem.W.takesIn K (.builtin "object.__class__")=some true)
   (hm:PySem.W.mroIn K C (.type "object")=some true):fZ K H (.ref a) (.ref C)
theorem zi{x:V}{u t:Value}(I:Inv X pins σ H s)(rx:RelV x u)(ty:fZ X.K H x t)(e:PySem.W.kitOne X.K t c=some b)(h:∀tk,Q (.bool b) {s with toks:=tk}):
 wpAny (model X.prog X.w) A (call (.builtin "isinstance") [u,c]) Q E s:=by
 cases ty with
 |ay=>cases (show u=Value.none from rx);exact PySem.W.kia_one PySem.W.kitx_none I.dG True.intro e (fun z=>nomatch z) h
 |bl y=>cases (show u=Value.bool y from rx);exact PySem.W.kia_one PySem.W.kitx_bool I.dG True.intro e (fun z=>nomatch z) h
 |int i=>obtain⟨t,q⟩:=(show∃t,u=Value.int i t from rx);cases q;exact PySem.W.kia_one PySem.W.kitx_int I.dG True.intro e (fun z=>nomatch z) h
 |str y=>obtain⟨t,q⟩:=(show∃t,u=Value.str y t from rx);cases q;exact PySem.W.kia_one PySem.W.kitx_str I.dG True.intro e (fun z=>nomatch z) h
 |pU y=>obtain⟨t,q⟩:=(show∃t,u=Value.float y t from rx);cases q;exact PySem.W.kia_one PySem.W.kitx_float I.dG True.intro e (fun z=>nomatch z) h
 | @lst a xs ea=>
   cases (show u=Value.ref a from rx);obtain⟨_,_,n,_,h1⟩:=(show cn X.prog X.w H s.heap a (.lst xs)from I.aw a _ ea)
   exact PySem.W.kia_one PySem.W.kitx_list I.dG ⟨_,h1,rfl⟩ e (fun z=>nomatch z) h
 | @dM a ob xs ea=>
   cases (show u=Value.ref a from rx);obtain⟨_,_,_,n,_,h1⟩:=(show cn X.prog X.w H s.heap a (.dM ob (.lst xs))from I.aw a _ ea)
   exact PySem.W.kia_one PySem.W.kitx_list I.dG ⟨_,h1,rfl⟩ e (fun z=>nomatch z) h
 | @tup a xs ea=>
   cases (show u=Value.ref a from rx);obtain⟨_,_,_,p⟩:=(show cn X.prog X.w H s.heap a (.tup xs)from I.aw a _ ea)
   obtain⟨o,h1,h2,_⟩:=p;exact PySem.W.kia_one PySem.W.kitx_tuple I.dG ⟨o,h1,h2⟩ e (fun z=>nomatch z) h
 | @dK a kvs ea=>
   cases (show u=Value.ref a from rx);obtain⟨_,_,vs,_,p⟩:=(show cn X.prog X.w H s.heap a (.dK kvs)from I.aw a _ ea)
   obtain⟨o,es,ep,h1,h2,_⟩:=p;exact PySem.W.kia_one PySem.W.kitx_dict I.dG ⟨o,h1,h2.1⟩ e (fun z=>nomatch z) h
 | @dT a kvs ea=>
   cases (show u=Value.ref a from rx);obtain⟨_,_,xs,_,o,es,ep,h1,h2,_⟩:=(show cn X.prog X.w H s.heap a (.dT kvs)from I.aw a _ ea)
   exact PySem.W.kia_one PySem.W.kitx_dict I.dG ⟨o,h1,h2.1⟩ e (fun z=>nomatch z) h
 | @ins a C dx fs ea cl ha hn htk hm=>
   cases (show u=Value.ref a from rx);obtain⟨mA,O,_⟩:=nX I.aw ea;obtain⟨od,J,_⟩:=O.look;exact PySem.W.kia_one (PySem.W.kitx_own (cl.get _) cl.hd ha hn htk hm) I.dG J e (fun z=>nomatch z) h
end
structure bw(k:Nat)(A:Around):Prop where
 hd:A.handled=none
 dp:A.depth+3*k+105<recursionLimit
 un:A.units+16*k+200<cLine
theorem bw.mono{j k:Nat}{A:Around}(r:bw k A)(h:j<=k):bw j A:=⟨r.hd,by have:=r.dp;omega,by have:=r.un;omega⟩
theorem bw.deeper{k:Nat}{A:Around}(r:bw (k+1) A)(env:Env):bw k (A.deeper env):=
 ⟨r.hd,by have:=r.dp;show A.depth+1+3*k+105<_;omega,by have:=r.un;show A.units+3+16*k+200<_;omega⟩
theorem wX{A:Around}{C:Addr}{us:List Value}{kw:List (Str×Value)}:(A.under (.builtin "type.__call__" ⟨.ref C::us,kw⟩)).depth=A.depth+1:=by
 first|rfl|simp[Around.under,Code.weight,Code.isCreation,Code.isGuard,Code.isCaller,Code.frames,Code.isFrame,guardIds]
theorem xf{A:Around}{C:Addr}{us:List Value}{kw:List (Str×Value)}:(A.under (.builtin "type.__call__" ⟨.ref C::us,kw⟩)).units=A.units+1:=by
 first|rfl|simp[Around.under,Code.cUnits,Code.frames,Code.isFrame]
theorem bw.make{k:Nat}{A:Around}(r:bw (k+1) A)(C:Addr)(us:List Value)(kw:List (Str×Value)):bw k (A.under (.builtin "type.__call__" ⟨.ref C::us,kw⟩)):=
 ⟨r.hd,by have:=r.dp;rw[wX];omega,by have:=r.un;rw[xf];omega⟩
theorem bw.depth{k:Nat}{A:Around}(r:bw k A):A.depth<recursionLimit:=by have:=r.dp;omega
theorem bw.units{k:Nat}{A:Around}(r:bw k A):A.units+64<cLine:=by have:=r.un;omega
def mR:TA:=fun _ H Q=>Q [] H
def eV(ta:TE)(tr:TA):TA:=fun σ H Q=>ta σ H fun x H1=>tr σ H1 fun xs H2=>Q (x::xs) H2
section
variable {X:Cx}{e:Expr}{es:List Expr}{te:TE}{t:TA}{pos:Pos}
theorem gW:PA X [] mR:=fun _ _ _ _ H Q I h=>Calls.spliced_nil ⟨[],H,I,.nil,h⟩
theorem cv(ha:PE X e te)(hr:PA X es t)(hs:starEach (e::es) X.env=(false,eval e X.env)::starEach es X.env:=by rfl):PA X (e::es) (eV te t):=by
 intro pos pins s σ H Q I h;rw[hs];show wpAny _ _ (spliced ((false,eval e X.env)::backTo pos (starEach es X.env))) _ _ s;refine Calls.spliced_cons (bj (ha pins s σ H _ I h) fun u s1 ⟨x,H1,I1,r1,q1⟩=>?_);exact bj (hr pos pins s1 σ H1 _ I1 q1) fun us s2 ⟨xs,H2,I2,r2,q2⟩=>⟨x::xs,H2,I2,.cons r1 r2,q2⟩
def AS(t:TA):TE:=fun σ H Q=>t σ H fun xs H1=>xs.length<=sizeLine/\∀p,H1 p=none->Q (.ref p) (upd H1 p (.tup xs))
def Iu(t:TA):TE:=fun σ H Q=>t σ H fun xs H1=>xs.length<=sizeLine/\∀p,H1 p=none->Q (.ref p) (upd H1 p (.lst xs))
theorem u0{x1}(h:PA X es t):PE X (.Tuple es x1 pos) (AS t):=by
 intro pins s σ H Q I hq;refine wpAny_Tuple_spliced (bj (h pos pins s σ H _ I hq) fun us s1 ⟨xs,H1,I1,r,z,q⟩=>⟨by rw[<-r.length];exact z,?_⟩);have hf:H1 s1.heap.objs.size=none:=I1.aw.fresh (Nat.le_refl _);refine⟨.ref s1.heap.objs.size,upd H1 s1.heap.objs.size (.tup xs),I1.laid (t':=s1.toks) (fun b u e=>Heap.get?_push_of_some _ e) (Nat.le_refl _) ?_,rfl,q _ hf⟩;exact⟨z,us,r,⟨_,Heap.get?_push_size _ rfl,rfl,_,rfl⟩⟩
theorem zg(h:PA X es t):PE X (.List es pos) (Iu t):=by
 intro pins s σ H Q I hq;refine wpAny_List_spliced (bj (h pos pins s σ H _ I hq) fun us s1 ⟨xs,H1,I1,r,z,q⟩=>⟨by rw[<-r.length];exact z,?_⟩);have hf:H1 s1.heap.objs.size=none:=I1.aw.fresh (Nat.le_refl _);refine⟨.ref s1.heap.objs.size,upd H1 s1.heap.objs.size (.lst xs),I1.laid (t':=s1.toks) (fun b u e=>Heap.get?_push_of_some _ e) (Nat.le_refl _) ?_,rfl,q _ hf⟩;exact⟨z,us,0,r,Heap.get?_push_size _ rfl⟩
end
abbrev Sp:=List V->Hp->VK->XK->Prop
abbrev jL:=List Env->Hp->Shared->XK->Value->Shared->Prop
structure o8(P:Program)(w:World)(K:PySem.W.Frag)(mg:Str->Option Value)(base:Heap)(A:Around)(outer:List Env)(s:Shared)(H:Hp):Prop where
 frames:A.frames=some outer
 mod:Mod K mg base
 bs:∀b o,base.get? b=some o->s.heap.get? b=some o/\H b=none
 oG:base.objs.size<=s.heap.objs.size
 fX:s.heap.FunFrames base outer
 mX:∀b∈di outer,H b=none
 aw:dE P w H s.heap
 bare:AllBare s.gens
 gt:P.given.tree=none
def CE(outer:List Env)(P:Program)(w:World)(H:Hp)(s:Shared)(Q:VK)(u:Value)(s':Shared):Prop:=
 ∃v H',s'.os=s.os/\AllBare s'.gens/\Un (di outer) [] H H' s.heap s'.heap/\dE P w H' s'.heap/\RelV v u/\Q v H'
def CR(CX:jL)(outer:List Env)(P:Program)(w:World)(H:Hp)(s:Shared)(Q:VK)(E:XK)(r:Result)(s':Shared):Prop:=
 match r with
 | .ok (.ret u)=>CE outer P w H s Q u s'
 | .ok _=>False
 | .error e=>CX outer H s E e s'
structure aK(P:Program)(w:World)(K:PySem.W.Frag)(mg:Str->Option Value)(base:Heap)(CX:jL)(k:Nat)(f:Addr)(fd:FuncData)(ps:List Str)(sp:Sp):Prop where
 len:∀vs H Q E,sp vs H Q E->vs.length=ps.length
 run:∀(A:Around) (outer:List Env) (s:Shared) (H:Hp) (args:Args) (us:List Value) (vs:List V) (Q:VK) (E:XK),bw k A->o8 P w K mg base A outer s H->BindsTo s fd args (ps.zip us)->Vals vs us->sp vs H Q E->
  codeAny (model P w) A (.call (.ref f) args) (CR CX outer P w H s Q E) s
theorem aK.imp{P:Program}{w:World}{K:PySem.W.Frag}{mg:Str->Option Value}{base:Heap}{CX:jL}{k:Nat}{f:Addr}{fd:FuncData}{ps:List Str}{sp sp':Sp}(F:aK P w K mg base CX k f fd ps sp)
 (h:∀vs H Q E,sp' vs H Q E->sp vs H Q E):aK P w K mg base CX k f fd ps sp':=
 ⟨fun vs H Q E q=>F.len vs H Q E (h _ _ _ _ q),fun A outer s H args us vs Q E hr he hb hv hs=>F.run A outer s H args us vs Q E hr he hb hv (h _ _ _ _ hs)⟩
theorem o8.make{P:Program}{w:World}{K:PySem.W.Frag}{mg:Str->Option Value}{base:Heap}{A:Around}{outer:List Env}{s:Shared}{H:Hp}(e:o8 P w K mg base A outer s H)(C:Addr)(us:List Value)(kw:List (Str×Value)):
 o8 P w K mg base (A.under (.builtin "type.__call__" ⟨.ref C::us,kw⟩)) outer s H:=⟨by first|exact e.frames|(simpa[Around.under,Code.envs,Code.isFrame,pushEnvs]using e.frames),e.mod,e.bs,e.oG,e.fX,e.mX,e.aw,e.bare,e.gt⟩
section
variable {X:Cx}{pins:List (Addr×Obj)}{σ:St}{H:Hp}{s s':Shared}
theorem Inv.Bg(I:Inv X pins σ H s):o8 X.prog X.w X.K X.mg X.base X.A X.stack s H:=
 ⟨I.ok.frames,I.ok.mod,I.bs,Nat.le_trans I.ok.oG I.sz,I.stack,I.kP,I.aw,I.bare,I.ok.gt⟩
theorem Inv.after{Q:VK}{u:Value}(I:Inv X pins σ H s)(h:CE X.stack X.prog X.w H s Q u s'):EP X pins σ Q u s':=by
 obtain⟨v,H',os,bare,un,aw,r,q⟩:=h;obtain⟨hh,g,d,t,os'⟩:=s';obtain rfl:os'=s.os:=os;exact⟨v,H',I.call (h':=hh) (g':=g) (d':=d) (t':=t) (ch:=[]) un aw bare (fun b z=>absurd z (by simp)),r,q⟩
end
def lC(sp:Sp)(dvs:List V)(E:XK)(t:TA):TE:=fun σ H Q=>t σ H fun vs H1=>sp (vs++dvs) H1 Q E
def By(C:Addr)(sp:Sp)(dvs:List V)(E:XK)(t:TA):TE:=fun σ H Q=>t σ H fun vs H1=>∀x dx,H1 x=none->H1 dx=none->dx≠x->
 sp (.ref x::(vs++dvs)) (upd (upd H1 dx (.own x)) x (.ins C dx [])) (fun v H2=>v= .ay/\Q (.ref x) H2) E
def Binds(K:PySem.W.Frag)(fd:FuncData)(ps:List Str)(ds:List Value):Prop:=
 ∀(s:Shared) (us:List Value),K.In s.heap->(us++ds).length=ps.length->BindsTo s fd ⟨us,[]⟩ (ps.zip (us++ds))
theorem Binds.all{K:PySem.W.Frag}{fd:FuncData}{ps:List Str}(h:∀us:List Value,us.length=ps.length->bindArgs fd ⟨us,[]⟩=pure (ps.zip us)):Binds K fd ps []:=fun s us _ hl=>by
 rw[List.append_nil]at hl⊢;exact .of_eq (h us hl)
def Passes(CX:jL)(X:Cx)(E:XK):Prop:=∀(pins:List (Addr×Obj)) (σ:St) (H:Hp) (s:Shared) (e:Value) (s':Shared),Inv X pins σ H s->CX X.stack H s E e s'->X.xe e s'
section
variable {X:Cx}{CX:jL}{k:Nat}{f C:Addr}{fd:FuncData}{ps:List Str}{sp:Sp}{dvs:List V}{ds:List Value}{E:XK}{x m:Str}{p pos apos:Pos}{e o:Expr}{es:List Expr}{ta:TE}{t:TA}
theorem FN{pins:List (Addr×Obj)}{σ:St}{H:Hp}{s:Shared}{Q:VK}{us:List Value}{vs:List V}(F:aK X.prog X.w X.K X.mg X.base CX k f fd ps sp)(hr:bw k X.A)(hb:Binds X.K fd ps ds)(hd:Vals dvs ds)(hx:Passes CX X E)
 (I:Inv X pins σ H s) (r:Vals vs us) (h:sp (vs++dvs) H Q E):wpAny (model X.prog X.w) X.A (call (.ref f) us) (EP X pins σ Q) X.xe s:=by
 have r2:Vals (vs++dvs) (us++ds):=r.append hd;have hl:(us++ds).length=ps.length:=by rw[<-r2.length];exact F.len _ _ _ _ h
 refine wpAny_call (codeAny_mono (F.run X.A X.stack s H ⟨us,[]⟩ (us++ds) (vs++dvs) Q E hr I.Bg (hb s us I.dG hl) r2 h) fun r s' hq=>?_);cases r with
 |error e=>exact hx pins σ H s e s' I hq
 |ok fl=>
  cases fl with
  |ret u=>exact I.after hq
  |next=>exact False.elim hq
  |brk=>exact False.elim hq
  |cont=>exact False.elim hq
theorem kR(F:aK X.prog X.w X.K X.mg X.base CX k f fd ps sp)(hr:bw k X.A)(hg:Gl X x)(hm:X.mg x=some (.ref f))(hk:PySem.W.keepIn X.K (.ref f)=true)(hb:Binds X.K fd ps ds)(hd:Vals dvs ds)(hx:Passes CX X E)
 (ha:PA X (e::es) t) (hdb:(x==("__debug__":Str))=false:=by decide) (he:starEach (e::es) X.env=(false,eval e X.env)::starEach es X.env:=by rfl) (hpl:(backTo pos (starEach es X.env)).any (·.1)=false:=by rfl):
 PE X (.Call (.Name x p) (e::es) [] pos) (lC sp dvs E t):=by
 intro pins s σ H Q I h;refine wpAny_Call_Name_kw (iE I hg hm ?_ hdb);refine PySem.W.callWith_K (h₀:=X.base) I.ok.mod.t_ hk (bj (ha pos pins s σ H _ I h) fun us s1 ⟨vs,H1,I1,r,q⟩=>⟨I1.dG,?_⟩) he hpl;exact FN F hr hb hd hx I1 r q
structure Mk(K:PySem.W.Frag)(C f:Addr):Prop where
 makes:PySem.W.makesIn K C=true
 init:PySem.W.findIn K (.ref C) "__init__"=some (some (.ref f))
 fn:PySem.W.isFn K (.ref f)=true
 kp:PySem.W.keepIn K (.ref C)=true
theorem Bh{pins:List (Addr×Obj)}{σ:St}{H:Hp}{s:Shared}{Q:VK}{us:List Value}{vs:List V}(M:Mk X.K C f)(F:aK X.prog X.w X.K X.mg X.base CX k f fd ps sp)(hr:bw (k+1) X.A)(hb:Binds X.K fd ps ds)(hd:Vals dvs ds)
 (hx:Passes CX X E) (I:Inv X pins σ H s) (r:Vals vs us)
 (h:∀x dx,H x=none->H dx=none->dx≠x->sp (.ref x::(vs++dvs)) (upd (upd H dx (.own x)) x (.ins C dx [])) (fun v H2=>v= .ay/\Q (.ref x) H2) E):
 wpAny (model X.prog X.w) X.A (call (.ref C) us) (EP X pins σ Q) X.xe s:=by
 have hq:=h (s.heap.objs.size+1) s.heap.objs.size (I.aw.fresh (Nat.le_succ _)) (I.aw.fresh (Nat.le_refl _)) (Nat.ne_of_lt (Nat.lt_succ_self _));have I2:=Inv.made (C:=C) I;have r2:Vals (V.ref (s.heap.objs.size+1)::(vs++dvs)) (Value.ref (s.heap.objs.size+1)::(us++ds)):= .cons rfl (r.append hd)
 have hl:(Value.ref (s.heap.objs.size+1)::us++ds).length=ps.length:=by
  have e:=r2.length;rw[F.len _ _ _ _ hq]at e;exact e.symm
 refine wpAny_call (A9 (f:=f) I.dG M.makes M.init (beq_iff_eq.mp M.fn) (codeAny_mono (F.run _ X.stack _ _ ⟨Value.ref (s.heap.objs.size+1)::us,[]⟩ (Value.ref (s.heap.objs.size+1)::(us++ds)) _ _ E (hr.make C us [])
  (I2.Bg.make C us []) (hb _ (Value.ref (s.heap.objs.size+1)::us) I2.dG hl) r2 hq) fun r s' hq'=>?_))
 cases r with
 |error e=>exact hx pins σ _ _ e s' I2 hq'
 |ok fl=>
  cases fl with
  |ret u=>
   obtain⟨v,H',I3,rv,ev,q3⟩:=I2.after hq';subst ev;exact⟨rv,⟨V.ref (s.heap.objs.size+1),H',I3,rfl,q3⟩⟩
  |next=>exact False.elim hq'
  |brk=>exact False.elim hq'
  |cont=>exact False.elim hq'
theorem wF(M:Mk X.K C f)(F:aK X.prog X.w X.K X.mg X.base CX k f fd ps sp)(hr:bw (k+1) X.A)(hg:Gl X x)(hm:X.mg x=some (.ref C))(hb:Binds X.K fd ps ds)(hd:Vals dvs ds)(hx:Passes CX X E)
 (ha:PA X (e::es) t) (hdb:(x==("__debug__":Str))=false:=by decide) (he:starEach (e::es) X.env=(false,eval e X.env)::starEach es X.env:=by rfl) (hpl:(backTo pos (starEach es X.env)).any (·.1)=false:=by rfl):
 PE X (.Call (.Name x p) (e::es) [] pos) (By C sp dvs E t):=by
 intro pins s σ H Q I h;refine wpAny_Call_Name_kw (iE I hg hm ?_ hdb);refine PySem.W.callWith_K (h₀:=X.base) I.ok.mod.t_ M.kp (bj (ha pos pins s σ H _ I h) fun us s1 ⟨vs,H1,I1,r,q⟩=>⟨I1.dG,?_⟩) he hpl;exact Bh M F hr hb hd hx I1 r q
end
section
variable {X:Cx}{CX:jL}{k:Nat}{f C:Addr}{fd:FuncData}{ps ks:List Str}{sp:Sp}{E:XK}{x m:Str}{p pos apos kpos:Pos}{e o:Expr}{es:List Expr}{kws:List Keyword}{te ta:TE}{t tk:TA}{nm:Option Str}
variable {g:List Value->List Value->List Value}{gV:List V->List V->List V}
end
structure aG(N P:List Str)(sc:Scope):Prop where
 kind:sc.kind= .function
 co:sc.isCoroutine=false
 gen:sc.isGenerator=false
 nd:N.Nodup
 pre:N.take P.length=P
 par:∀x∈P,sc.names.lookup x=some .local\/sc.names.lookup x=some .cell
 EA:∀y∈sc.names,y.2≠ .free
theorem sq{kindOf:Str->Option NameKind}{x:Str}:∀ {binds:List (Str×Value)} {m:Str->Option Value},(∀v,(x,v)∉binds)->bindL kindOf binds m x=m x
 | [],_,_=>rfl
 |(n,v)::r,m,h=>by
  unfold bindL;rw[sq fun w hw=>h w (List.mem_cons_of_mem _ hw)];split
  . have:x≠n:=by rintro rfl;exact h v List.mem_cons_self
    simp[this]
  . rfl
theorem sA{kindOf:Str->Option NameKind}{x:Str}:∀ {binds:List (Str×Value)} {m:Str->Option Value},(∀v,(x,v)∉binds)->bindC kindOf binds m x=m x
 | [],_,_=>rfl
 |(n,v)::r,m,h=>by
  unfold bindC;rw[sA fun w hw=>h w (List.mem_cons_of_mem _ hw)];split
  . rfl
  . have:x≠n:=by rintro rfl;exact h v List.mem_cons_self
    simp[this]
theorem sh{kindOf:Str->Option NameKind}{x:Str}{v:Value}:∀ {P:List Str} {vs:List Value} {i:Nat} {m:Str->Option Value},P.Nodup->P[i]?=some x->vs[i]?=some v->kindOf x=some .local->
 bindL kindOf (P.zip vs) m x=some v
 | [],_,_,_,_,h,_,_=>by simp at h
 |_::_,[],_,_,_,_,h,_=>by simp at h
 |p::P,w::vs,0,m,nd,h1,h2,hk=>by
  simp at h1 h2;subst h1;subst h2;show bindL kindOf ((p,w)::P.zip vs) m p=_;unfold bindL;rw[sq fun v hv=>(List.nodup_cons.mp nd).1 (List.of_mem_zip hv).1,if_pos hk];simp
 |p::P,w::vs,i+1,m,nd,h1,h2,hk=>by
  show bindL kindOf ((p,w)::P.zip vs) m x=_;unfold bindL;exact sh (i:=i) (List.nodup_cons.mp nd).2 (by simpa using h1) (by simpa using h2) hk
theorem sd{kindOf:Str->Option NameKind}{x:Str}{v:Value}:∀ {P:List Str} {vs:List Value} {i:Nat} {m:Str->Option Value},P.Nodup->P[i]?=some x->vs[i]?=some v->kindOf x≠some .local->
 bindC kindOf (P.zip vs) m x=some v
 | [],_,_,_,_,h,_,_=>by simp at h
 |_::_,[],_,_,_,_,h,_=>by simp at h
 |p::P,w::vs,0,m,nd,h1,h2,hk=>by
  simp at h1 h2;subst h1;subst h2;show bindC kindOf ((p,w)::P.zip vs) m p=_;unfold bindC;rw[sA fun v hv=>(List.nodup_cons.mp nd).1 (List.of_mem_zip hv).1,if_neg hk];simp
 |p::P,w::vs,i+1,m,nd,h1,h2,hk=>by
  show bindC kindOf ((p,w)::P.zip vs) m x=_;unfold bindC;exact sd (i:=i) (List.nodup_cons.mp nd).2 (by simpa using h1) (by simpa using h2) hk
def start(N:List Str)(vs:List V):St:=vs.map some++List.replicate (N.length-vs.length) none
def bx(CX:jL)(P:Program)(w:World)(K:PySem.W.Frag)(mg:Str->Option Value)(base:Heap)(N:List Str)(qual:Str)(scope:Scope)(f:Addr)(cd:Value)(A:Around)(outer:List Env)(s:Shared)(H:Hp)(E:XK):Cx where
 prog:=P
 w:=w
 K:=K
 mg:=mg
 base:=base
 A:=A.deeper (envOfC qual scope s.heap.objs.size f cd)
 N:=N
 s₀:=s
 H₀:=H
 env:=envOfC qual scope s.heap.objs.size f cd
 outer:=outer
 stack:=envOfC qual scope s.heap.objs.size f cd::outer
 ex:=[]
 calm:=true
 fn:=fun _=>true
 pn:=[]
 xe:=fun e s'=>wpAny (model P w) (A.deeper (envOfC qual scope s.heap.objs.size f cd)) (leaving (envOfC qual scope s.heap.objs.size f cd) e) (fun _ s''=>CX outer H s E e s'') (fun e' s''=>CX outer H s E e' s'') s'
theorem uD{sc:Scope}{n:Nat}{x:Str}(h:sc.names.lookup x=some .cell):∃c,(cellsFrom n sc.names []).lookup x=some c:=by
 have q:=PySem.W.cellsFrom_some sc.names n [] (.inl h);exact Option.isSome_iff_exists.mp q
theorem zM{CX:jL}{P:Program}{w:World}{K:PySem.W.Frag}{mg:Str->Option Value}{base:Heap}{N ps:List Str}{qual:Str}{scope:Scope}{f:Addr}{cd:Value}{A:Around}{outer:List Env}{s s1:Shared}{H:Hp}{E:XK}{us:List Value}{vs:List V}
 (S:aG N ps scope) (hd:A.handled=none) (e0:o8 P w K mg base A outer s H) (hl:vs.length=ps.length) (r:Vals vs us)
 (x:InCallC s s.heap.objs.size (bindL (envOfC qual scope s.heap.objs.size f cd).kindOf (ps.zip us) fun _=>none) (cellsFrom (s.heap.objs.size+1) scope.names []) (bindC (envOfC qual scope s.heap.objs.size f cd).kindOf (ps.zip us) fun _=>none) s1):
 Inv (bx CX P w K mg base N qual scope f cd A outer s H E) [] (start N vs) H s1:=by
 have hpl:ps.length<=N.length:=by have:=congrArg List.length S.pre;rw[List.length_take]at this;omega
 obtain⟨h1,tk,rfl,hk⟩:=x.done;have noA:∀b:Addr,b∉(bx CX P w K mg base N qual scope f cd A outer s H E).ex:=fun b z=>absurd (show b∈([]:List Addr)from z) (by simp)
 refine⟨⟨e0.mod,S.kind,rfl,rfl,Nat.le_refl _,fun y z c h1 h2=>?_,fun y hy=>?_,fun y c _ h=>?_,fun _=>hd,Around.frames_deeper e0.frames,.inr ⟨rfl,rfl⟩,fun b z=>absurd z (noA b),e0.bs,e0.oG,fun b _ _=>noA b,fun b z=>absurd z (noA b),e0.fX,e0.mX,e0.gt⟩,
  rfl,e0.bare,Un.kept hk,⟨_,x.toInCall.ns,fun i y v h1 h2 h3=>?_⟩,fun y c h=>⟨_,x.cell y c h⟩,e0.aw.fresh (Nat.le_refl _),fun y c h=>?_,fun p hp=>absurd (show p∈([]:List (Addr×Obj))from hp) (by simp),e0.aw.kept hk,?_⟩
 . exact name_of_addr x.apart (PySem.mem_of_lookup h1) (PySem.mem_of_lookup h2)
 . have hy:scope.names.lookup y=some .cell\/scope.names.lookup y=some .free:=hy;rcases hy with hy|hy
   . exact uD hy
   . exact absurd rfl (S.EA _ (PySem.mem_of_lookup hy))
 . exact Nat.le_of_lt (x.above y c (PySem.mem_of_lookup h))
 . have hi:i<vs.length:=by
    unfold start at h2;by_cases hi:i<vs.length
    . exact hi
    . rw[List.getElem?_append_right (by simpa using hi)]at h2;rw[List.getElem?_replicate]at h2;split at h2<;>cases h2
   have ha:vs[i]?=some v:=by
    unfold start at h2;rw[List.getElem?_append_left (by simpa using hi),List.getElem?_map]at h2;cases e:vs[i]? with
    |none=>rw[e]at h2;cases h2
    |some a=>rw[e]at h2;cases h2;rfl
   obtain⟨u,hu,rv⟩:=r.get ha
   have hp:ps[i]?=some y:=by
    rw[<-S.pre,List.getElem?_take_of_lt (by omega)];exact h1
   have ndP:ps.Nodup:=by rw[<-S.pre];exact S.nd.sublist (List.take_sublist _ _)
   refine⟨u,rv,?_⟩;rcases S.par y (List.mem_of_getElem? hp)with k|k
   . exact .inl ⟨k,sh ndP hp hu k⟩
   . obtain⟨c,e⟩:=uD (n:=s.heap.objs.size+1) k;refine .inr ⟨.inl k,c,e,?_⟩;have q:=x.cell y c e;rw[sd ndP hp hu (by show scope.names.lookup y≠_;rw[k];decide)]at q;exact q
 . exact e0.aw.fresh (Nat.le_of_lt (x.above y c (PySem.mem_of_lookup h)))
 . unfold start;show _=N.length;rw[List.length_append,List.length_map,List.length_replicate];omega
theorem BV{CX:jL}{P:Program}{w:World}{K:PySem.W.Frag}{mg:Str->Option Value}{base:Heap}{k:Nat}{f:Addr}{name qual:Str}{params:Arguments}{body:List Stmt}{scope:Scope}{dV kV doc pm cdv ct oc:Value}{an od:Option Addr}
 {osl:Array (Option Value)} {N ps:List Str} {sp:Sp} (lk:K.lookup f=some ⟨oc,od,.func (PySem.W.fnOf name qual params body scope dV kV doc pm an cdv ct),osl⟩) (hcd:PySem.W.codeIn K cdv qual=true) (S:aG N ps scope)
 (len:∀vs H Q E,sp vs H Q E->vs.length=ps.length)
 (hbody:∀(A:Around) (outer:List Env) (s:Shared) (H:Hp) (vs:List V) (Q:VK) (E:XK),bw k (A.deeper (envOfC qual scope s.heap.objs.size f cdv))->sp vs H Q E->
   ∃t,cM (bx CX P w K mg base N qual scope f cdv A outer s H E) body t/\t {nx:=fun _ H'=>Q .ay H',rt:=Q} (start N vs) H):
 aK P w K mg base CX (k+1) f (PySem.W.fnOf name qual params body scope dV kV doc pm an cdv ct) ps sp:=by
 refine⟨len,fun A outer s H args us vs Q E hr e0 hb r hsp=>?_⟩;have hl:=len _ _ _ _ hsp;have KX:K.In s.heap:=e0.mod.t_.keeps fun b o e=>(e0.bs b o e).1;have lim:s.heap.NoLimit:=e0.mod.nolimit.keeps fun b o e=>(e0.bs b o e).1
 have hkind:∀y∈ps.zip us,scope.names.lookup y.1=some .local\/(scope.names.lookup y.1=some .cell/\((cellsFrom (s.heap.objs.size+1) scope.names []).lookup y.1).isSome=true):=fun⟨n,v⟩ hy=>by
  rcases S.par n (List.of_mem_zip hy).1 with q|q
  . exact .inl q
  . exact .inr ⟨q,PySem.W.cellsFrom_some _ _ _ (.inl q)⟩
 refine codeAny_call_function hr.depth (KX _ _ lk) rfl S.co S.gen rfl (PySem.W.codeRec_of KX hcd) (hb _ _ _ _ ?_);refine wpAny_newFunctionEnv_cells S.kind hkind fun env he s1 x=>?_;subst he;refine⟨lim.keeps x.toInCall.keep,codeAny_func ?_⟩;obtain⟨t,ht,hq⟩:=hbody A outer s H vs Q E (hr.deeper _) hsp;have I:Inv (bx CX P w K mg base N qual scope f cdv A outer s H E) [] (start N vs) H s1:=zM S hr.hd e0 hl r x;refine wpAny_mono (ht [] s1 (start N vs) H _ I hq) (fun fl s' hs=>?_) fun e s' hs=>hs
 have fin:∀ {σ':St} {H':Hp} {v:V} {u:Value},Inv (bx CX P w K mg base N qual scope f cdv A outer s H E) [] σ' H' s'->RelV v u->Q v H'->CE outer P w H s Q u s':=
  fun{σ' H' v u} J rv q=>⟨v,H',J.os,J.bare,J.base,J.aw,rv,q⟩
 cases fl with
 |ret u=>
  obtain⟨v,σ',H',J,rv,q⟩:=hs;exact fin J rv q
 |next=>
  obtain⟨σ',H',J,q⟩:=hs;exact fin (v:=V.ay) (u:=Value.none) J rfl q
 |brk=>
  obtain⟨_,_,_,q⟩:=hs;exact False.elim q
 |cont=>
  obtain⟨_,_,_,q⟩:=hs;exact False.elim q
section
variable {X:Cx}{x:Str}{p pos:Pos}{e:Expr}{es:List Expr}{t:TA}{id T:String}{r:List V->Hp->VK->Prop}
def vG(r:List V->Hp->VK->Prop)(t:TA):TE:=fun σ H Q=>t σ H fun vs H1=>r vs H1 Q
theorem lJ(hc:aU X (.builtin id) r)(hg:Gl X x)(hm:X.mg x=none)(hv:bootBuiltins x=some (.builtin id))(ha:PA X (e::es) t)(hn:x≠"__name__":=by decide)(hdb:(x==("__debug__":Str))=false:=by decide)
 (he:starEach (e::es) X.env=(false,eval e X.env)::starEach es X.env:=by rfl) (hpl:(backTo pos (starEach es X.env)).any (·.1)=false:=by rfl):PE X (.Call (.Name x p) (e::es) [] pos) (vG r t):=by
 intro pins s σ H Q I h;refine wpAny_Call_Name_kw (jQ I hg hm hv ?_ hn hdb);exact PyProof.Rows.callWith_builtin1 (bj (ha pos pins s σ H _ I h) fun us s1 ⟨vs,H1,I1,r1,q1⟩=>hc pins s1 σ H1 vs us Q I1 r1 q1) he hpl
theorem yo(hc:aU X (.type T) r)(hg:Gl X x)(hm:X.mg x=none)(hv:bootBuiltins x=some (.type T))(ha:PA X (e::es) t)(hn:x≠"__name__":=by decide)(hdb:(x==("__debug__":Str))=false:=by decide)
 (he:starEach (e::es) X.env=(false,eval e X.env)::starEach es X.env:=by rfl) (hpl:(backTo pos (starEach es X.env)).any (·.1)=false:=by rfl):PE X (.Call (.Name x p) (e::es) [] pos) (vG r t):=by
 intro pins s σ H Q I h;refine wpAny_Call_Name_kw (jQ I hg hm hv ?_ hn hdb);exact PyProof.Rows.callWith_type1 (bj (ha pos pins s σ H _ I h) fun us s1 ⟨vs,H1,I1,r1,q1⟩=>hc pins s1 σ H1 vs us Q I1 r1 q1) he hpl
end
end L2
namespace HT
open PySem PyProof.Rows
section
open PySem.SeqAt
open PySem.AutoSeq1 (wpAny_loadPart')
open PySem.MeetsSeq PySem.MeetsSeq2 PySem.MeetsSeq3
end
section
variable {prog:Program}{w:World}{A:Around}{E:Value->Shared->Prop}{s:Shared}
theorem Dp{t b:Addr}{vs ws:List Value}{Q:Value->Shared->Prop}(ht:IsTup s.heap t vs.toArray)(hb:IsTup s.heap b ws.toArray)(hv:vs≠ [])
 (h1:ws=[]->Q (.ref t) s) (h2:ws≠ []->Q (.ref s.heap.objs.size) {s with heap:=s.heap.push {cls:= .type "tuple",data:= .seq (vs++ws).toArray}})
 (hsz:vs.length+ws.length<=sizeLine):wpAny (model prog w) A (binaryOp .Add (.ref t) (.ref b)) Q E s:=by
 obtain⟨⟨cls,dd,data,sl⟩,ho,hc,n,hd⟩:=id ht;obtain⟨⟨cls2,dd2,data2,sl2⟩,ho2,hc2,n2,hd2⟩:=id hb;simp only at hc hd hc2 hd2;subst hc hd hc2 hd2;have e:vs.toArray++ws.toArray=(vs++ws).toArray:=by simp
 by_cases hw:ws=[]
 . exact concat_meets ⟨_,ho,rfl⟩ ⟨_,ho2,rfl⟩ noFill_tuple_add seq_tuple_add PySem.F.slot_tuple_add PySem.F.entry_tuple_add (PySem.F.args_tuple_add_2 _ _)
    (tuple_addW1 t b vs.toArray ws.toArray n n2 dd dd2 sl sl2 (by simpa using hv) (by simp[hw])) ⟨ho,ho2,h1 hw⟩
 . refine concat_meets ⟨_,ho,rfl⟩ ⟨_,ho2,rfl⟩ noFill_tuple_add seq_tuple_add PySem.F.slot_tuple_add PySem.F.entry_tuple_add (PySem.F.args_tuple_add_2 _ _)
    (tuple_addW2 t b vs.toArray ws.toArray n n2 dd dd2 sl sl2 (by simpa using hv) (by simpa using hw) (by rw[List.size_toArray,List.size_toArray];exact hsz)) ⟨ho,ho2,?_⟩
   rw[e];exact h2 hw
def aZ(n d:Nat):Option Int->Nat
 |none=>d
 |some v=>if v<0 then(v+(n:Int)).toNat else min v.toNat n
theorem pf(n d:Nat):aZ n d none=d:=rfl
theorem vY(n d k:Nat):aZ n d (some (k:Int))=min k n:=by
 show(if(k:Int)<0 then((k:Int)+(n:Int)).toNat else min (k:Int).toNat n)=min k n;rw[if_neg (by omega),Int.toNat_natCast]
theorem EL(n d:Nat)(hd:d<=n)(o:Option Int):aZ n d o<=n:=by
 cases o with
 |none=>exact hd
 |some v=>
  show(if v<0 then(v+(n:Int)).toNat else min v.toNat n)<=n;by_cases hv:v<0
  . rw[if_pos hv];omega
  . rw[if_neg hv];exact Nat.min_le_right _ _
theorem rF(v:Int)(n d:Nat):(if v<0 then max (v+(n:Int)) 0 else min v (n:Int))=((aZ n d (some v):Nat):Int):=by
 show(if v<0 then max (v+(n:Int)) 0 else min v (n:Int))=(((if v<0 then(v+(n:Int)).toNat else min v.toNat n):Nat):Int)
 by_cases hv:v<0
 . simp only[if_pos hv];omega
 . simp only[if_neg hv];omega
theorem xC(lo hi:Option Int)(n:Nat):Builtin.Slice.sliceAdjust lo hi 1 (n:Int)=(((aZ n 0 lo:Nat):Int),((aZ n n hi:Nat):Int)):=by
 have h1:¬((1:Int)<0):=by omega
 unfold Builtin.Slice.sliceAdjust;simp only[h1,if_false];refine Prod.ext ?_ ?_
 . cases lo with
   |none=>rfl
   |some v=>exact rF v n 0
 . cases hi with
   |none=>rfl
   |some v=>exact rF v n n
theorem xw(i j:Nat):Builtin.Slice.slicePlaces (i:Int) (j:Int) 1=j-i:=by
 unfold Builtin.Slice.slicePlaces;have h1:(1:Int)>0:=by omega
 simp only[h1,if_true,Int.ediv_one];split<;>omega
theorem qx{v:Value}{o:Option Int}{Q:Option Int->Shared->Prop}(p:IsPart v o)(h:Q o s):wpAny (model prog w) A (Builtin.Slice.slicePartIndex v) Q E s:=by
 cases p with
 |none=>exact slicePart_none h
 |int i t=>exact slicePart_int h
theorem jM{sl:Addr}{vl vu:Value}{lo hi:Option Int}{n:Nat}{Q:Int×Int×Nat->Shared->Prop}(hs:s.heap.IsSliceOf sl vl vu .none)(pl:IsPart vl lo)(pu:IsPart vu hi)
 (h:Q (((aZ n 0 lo:Nat):Int),1,aZ n n hi-aZ n 0 lo) s):wpAny (model prog w) A (Builtin.Slice.sliceApplied (.ref sl) (pure (n:Int))) Q E s:=by
 obtain⟨os,hos,hcs,hds⟩:=id hs;unfold Builtin.Slice.sliceApplied Builtin.Slice.sliceFields;refine wpAny_bind (wpAny_bind (wpAny_field hos hds (x:=vl) rfl (wpAny_bind (wpAny_field hos hds (x:=vu) rfl (wpAny_bind (wpAny_field hos hds (x:= .none) rfl (wpAny_pure ?_)))))));refine wpAny_bind (slicePart_none ?_);show wpAny _ _ (if((1:Int)==0)=true then _ else _) _ _ s;rw[if_neg (by decide)];refine wpAny_bind (qx pl (wpAny_bind (qx pu (wpAny_bind (wpAny_pure ?_)))));show wpAny _ _ (match Builtin.Slice.sliceAdjust lo hi 1 (n:Int)with|(lo,hi)=>pure (lo,(1:Int),Builtin.Slice.slicePlaces lo hi 1)) _ _ s;rw[xC lo hi n];show wpAny _ _ (pure (((aZ n 0 lo:Nat):Int),(1:Int),Builtin.Slice.slicePlaces ((aZ n 0 lo:Nat):Int) ((aZ n n hi:Nat):Int) 1)) _ _ s;rw[xw];exact wpAny_pure h
theorem An(xs:Array Value)(i k:Nat):((List.range k).filterMap fun(m:Nat)=>xs[((i:Int)+(m:Int)*1).toNat]?).toArray=((xs.toList.drop i).take k).toArray:=by
 have e:(fun(m:Nat)=>xs[((i:Int)+(m:Int)*1).toNat]?)=fun m=>xs[i+m]?:=by
  funext m;have:((i:Int)+(m:Int)*1).toNat=i+m:=by omega
  rw[this]
 rw[e];have:=pick_run xs i k;rw[List.filterMap_map]at this;have e2:((fun x=>xs[x]?)∘fun x=>i+x)=fun m=>xs[i+m]?:=rfl;rw[e2]at this;rw[this]
theorem ot{t sl:Addr}{items:Array Value}{vl vu:Value}{lo hi:Option Int}{Q:Value->Shared->Prop}(ht:IsTup s.heap t items)(hs:s.heap.IsSliceOf sl vl vu .none)(pl:IsPart vl lo)(pu:IsPart vu hi)
 (hw:¬(aZ items.size 0 lo=0/\aZ items.size items.size hi=items.size))
 (h:Q (.ref s.heap.objs.size) {s with heap:=s.heap.push {cls:= .type "tuple",data:= .seq ((items.toList.drop (aZ items.size 0 lo)).take (aZ items.size items.size hi-aZ items.size 0 lo)).toArray}})
 (hsz:items.size<=sizeLine):wpAny (model prog w) A (getItem (.ref t) (.ref sl)) Q E s:=by
 have htake:sizeOk (.seq ((items.toList.drop (aZ items.size 0 lo)).take (aZ items.size items.size hi-aZ items.size 0 lo)).toArray):=by
  show((items.toList.drop (aZ items.size 0 lo)).take (aZ items.size items.size hi-aZ items.size 0 lo)).toArray.size<=sizeLine;rw[List.size_toArray,List.length_take,List.length_drop,Array.length_toList];omega
 have hj:aZ items.size items.size hi<=items.size:=EL _ _ (Nat.le_refl _) hi;obtain⟨os,hos,hcs,hds⟩:=id hs;have hTs:s.TypeIs (.ref sl) "slice":=⟨os,hos,hcs⟩
 unfold getItem;try with_reducible refine wpAny_holding ?_
 first|refine wpAny_bind (wpAny_pure ?_)|skip
 refine wpAny_bind (wpAny_sequenceKey ht.typeIs (by decide) ?_)
 refine wpAny_bind (wpAny_callSpecial?_slot (name:=Str.ofString "__getitem__") ht.typeIs PyProof.Rows.slot_tuple_getitem
  (wpAny_call_entry PyProof.Rows.slot_tuple_getitem ht.typeIs entry_tuple_getitem ?_ (args_tuple_getitem _ _)))
 show wpAny _ _ (Builtin.Tuple.tupleItemsOf (.ref t) >>= _) _ _ s;refine wpAny_bind (tupleItemsOf_ ht ?_);refine wpAny_bind (wpAny_typeOf hTs ?_);rw[if_pos (by decide)];refine wpAny_bind (jM hs pl pu ?_)
 have hno:¬((((aZ items.size 0 lo:Nat):Int)==0&&(1:Int)==1&&(aZ items.size items.size hi-aZ items.size 0 lo)==items.size)=true):=by
  intro q;rw[Bool.and_eq_true,Bool.and_eq_true]at q;have q1:((aZ items.size 0 lo:Nat):Int)=0:=eq_of_beq q.1.1;have q2:aZ items.size items.size hi-aZ items.size 0 lo=items.size:=eq_of_beq q.2;exact hw ⟨by omega,by omega⟩
 show wpAny _ _ (if(((aZ items.size 0 lo:Nat):Int)==0&&(1:Int)==1&&(aZ items.size items.size hi-aZ items.size 0 lo)==items.size)=true then _ else _) _ _ s;rw[if_neg hno,An]
 first
  |exact wpAny_bind (m:=Builtin.Tuple.tupleExact _) (wpAny_newObj_type (wpAny_pure ⟨_,rfl,wpAny_pure h⟩) htake)
  |exact wpAny_bind (m:=Builtin.Tuple.tupleExact _) (wpAny_newObj_type (wpAny_bind (wpAny_pure (wpAny_pure ⟨_,rfl,wpAny_pure h⟩))) htake)
  |exact wpAny_bind (wpAny_bind (m:=Builtin.Tuple.tupleExact _) (wpAny_newObj_type (wpAny_pure (wpAny_pure ⟨_,rfl,wpAny_pure h⟩)) htake))
  |exact wpAny_bind (wpAny_bind (m:=Builtin.Tuple.tupleExact _) (wpAny_newObj_type (wpAny_pure ⟨_,rfl,wpAny_pure h⟩) htake))
end
end HT
namespace L2
open PySem PySem.Spec PyProof.Rows
abbrev TO:=St->Hp->(Option Int->Hp->Prop)->Prop
def PO(X:Cx)(e:Option Expr)(t:TO):Prop:=
 ∀(pins:List (Addr×Obj)) (s:Shared) (σ:St) (H:Hp) (Q:Option Int->Hp->Prop),Inv X pins σ H s->t σ H Q->
  wpAny (model X.prog X.w) X.A (evalPart e X.env) (fun u s'=>∃o H',Inv X pins σ H' s'/\IsPart u o/\Q o H') X.xe s
def CW:TO:=fun _ H Q=>Q none H
def GX(t:TE):TO:=fun σ H Q=>t σ H fun x H1=>∃i,x= .int i/\Q (some i) H1
section
variable {X:Cx}{e:Expr}{te:TE}{lo hi:Option Expr}{tl th:TO}{pos p2:Pos}
theorem Di:PO X none CW:=by
 intro pins s σ H Q I h;rw[evalPart_none];exact wpAny_pure ⟨none,H,I,.none,h⟩
theorem CQ(h:PE X e te):PO X (some e) (GX te):=by
 intro pins s σ H Q I hw;rw[evalPart_some];refine bj (h pins s σ H _ I hw) fun u s1 ⟨x,H1,I1,r1,q1⟩=>?_;obtain⟨i,rfl,q⟩:=q1;obtain⟨t,rfl⟩:=r1;exact⟨some i,H1,I1,.int i t,q⟩
def zd(X:Cx)(r:V->Option Int->Option Int->Hp->VK->Prop):Prop:=
 ∀(pins:List (Addr×Obj)) (s:Shared) (σ:St) (H:Hp) (x:V) (v vl vu:Value) (lo hi:Option Int) (sl:Addr) (Q:VK),Inv X pins σ H s->RelV x v->s.heap.IsSliceOf sl vl vu .none->IsPart vl lo->IsPart vu hi->r x lo hi H Q->
  ∃T id,typeLookup (.type T) "__getitem__"=pure (some (.builtin id))/\s.TypeIs v T/\wpAny (model X.prog X.w) X.A (getItem v (.ref sl)) (EP X pins σ Q) X.xe s
def IU(r:V->Option Int->Option Int->Hp->VK->Prop)(te:TE)(tl th:TO):TE:=fun σ H Q=>te σ H fun x H1=>tl σ H1 fun l H2=>th σ H2 fun u H3=>r x l u H3 Q
theorem As{r:V->Option Int->Option Int->Hp->VK->Prop}(hr:zd X r)(he:PE X e te)(hl:PO X lo tl)(hu:PO X hi th):PE X (.Subscript e (.Slice lo hi none p2) pos) (IU r te tl th):=by
 intro pins s σ H Q I h;refine Subscript_ (bj (he pins s σ H _ I h) fun v s1 ⟨x,H1,I1,r1,q1⟩=>?_);refine wpAny_Slice (bj (hl pins s1 σ H1 _ I1 q1) fun vl s2 ⟨l,H2,I2,pl,q2⟩=>bj (hu pins s2 σ H2 _ I2 q2) fun vu s3 ⟨u,H3,I3,pu,q3⟩=>?_);rw[evalPart_none];refine wpAny_pure ?_;have I4:Inv X pins σ H3 {s3 with heap:=s3.heap.push {cls:= .type "slice",data:= .fields #[vl,vu,.none]}}:=I3.kept (t':=s3.toks) fun b ob q=>Heap.get?_push_of_some _ q;obtain⟨T,id,hT,ht,hg⟩:=hr pins {s3 with heap:=s3.heap.push {cls:= .type "slice",data:= .fields #[vl,vu,.none]}} σ H3 x v vl vu l u s3.heap.objs.size Q I4 r1 (Heap.IsSliceOf.new ..) pl pu q3;show wpAny (model X.prog X.w) X.A (subscriptTail e (.Slice lo hi none p2) v (.ref s3.heap.objs.size)) (EP X pins σ Q) X.xe {s3 with heap:=s3.heap.push {cls:= .type "slice",data:= .fields #[vl,vu,.none]}};exact tail_any (ops:=[.ref s3.heap.objs.size,v]) ht hT hg (by with_unfolding_all rfl)
def lj(xs:List V)(lo hi:Option Int):List V:=(xs.drop (HT.aZ xs.length 0 lo)).take (HT.aZ xs.length xs.length hi-HT.aZ xs.length 0 lo)
theorem oC(xs:List V)(lo hi:Option Int):(lj xs lo hi).length<=xs.length:=by
 unfold lj;rw[List.length_take,List.length_drop];omega
def Il(K:PySem.W.Frag):V->Option Int->Option Int->Hp->VK->Prop:=fun x lo hi H Q=>∃a xs,x= .ref a/\fm K H a xs/\
 ¬(HT.aZ xs.length 0 lo=0/\HT.aZ xs.length xs.length hi=xs.length)/\∀p,H p=none->Q (.ref p) (upd H p (.tup (lj xs lo hi)))
theorem Fq:zd X (Il X.K):=by
 intro pins s σ H x v vl vu lo hi sl Q I rx hs pl pu h;obtain⟨a,xs,rfl,hx,hw,q⟩:=h;cases rx;obtain⟨aj,r,ht,hz⟩:=I.tuple hx;have hlen:aj.toArray.size=xs.length:=by rw[List.size_toArray];exact r.length.symm
 refine⟨"tuple",_,PyProof.Rows.slot_tuple_getitem.lookup,ht.typeIs,?_⟩;refine HT.ot ht hs pl pu (by rw[hlen];exact hw) ?_ (by rw[hlen];exact hz);rw[hlen];refine⟨.ref s.heap.objs.size,_,I.laid (t':=s.toks) (o:= .tup (lj xs lo hi)) (fun b ob q=>Heap.get?_push_of_some _ q) (Nat.le_refl _) ?_,rfl,q _ (I.aw.fresh (Nat.le_refl _))⟩;exact⟨Nat.le_trans (oC xs lo hi) hz,_,(r.drop (HT.aZ xs.length 0 lo)).take (HT.aZ xs.length xs.length hi-HT.aZ xs.length 0 lo),IsTup.new _ _⟩
def GR(K:PySem.W.Frag):R2:=fun x y H Q=>∃a b xs ys,x= .ref a/\y= .ref b/\fm K H a xs/\fm K H b ys/\xs≠ []/\xs.length+ys.length<=sizeLine/\
 (ys=[]->Q (.ref a) H)/\(ys≠ []->∀p,H p=none->Q (.ref p) (upd H p (.tup (xs++ys))))
theorem Vals.nN{xs:List V}{us:List Value}(r:Vals xs us):us=[]↔xs=[]:=by
 cases r with
 |nil=>simp
 |cons _ _=>simp
theorem Dh:bq X (binaryOp .Add) (GR X.K):=by
 intro pins s σ H x y v u Q I rx ry h;obtain⟨a,b,xs,ys,rfl,rfl,ha,hb,hx,hz,q1,q2⟩:=h;cases rx;cases ry;obtain⟨aj,r1,p1,_⟩:=I.tuple ha;obtain⟨its2,r2,p2,_⟩:=I.tuple hb;refine HT.Dp p1 p2 (fun z=>hx (r1.nN.mp z)) (fun z=>⟨.ref a,H,I,rfl,q1 (r2.nN.mp z)⟩) (fun z=>?_) (by rw[<-r1.length,<-r2.length];exact hz);refine⟨.ref s.heap.objs.size,_,I.laid (t':=s.toks) (o:= .tup (xs++ys)) (fun b ob q=>Heap.get?_push_of_some _ q) (Nat.le_refl _) ?_,rfl,q2 (fun w=>z (r2.nN.mpr w)) _ (I.aw.fresh (Nat.le_refl _))⟩;exact⟨by rw[List.length_append];exact hz,_,r1.append r2,IsTup.new _ _⟩
end
def km(n:Nat)(i:Int):Option Nat:=if 0<=i then(if i<n then some i.toNat else none)else if-(n:Int)<=i then some (i+n).toNat else none
def dY{α:Type}(xs:List α)(i:Int):Option α:=(km xs.length i).bind fun j=>xs[j]?
theorem wx{n:Nat}{i:Int}{j:Nat}(h:km n i=some j):seqIndex? i n=some j/\j<n/\ -(n:Int)<=i/\i<n:=by
 unfold km at h;by_cases h0:0<=i
 . rw[if_pos h0]at h;by_cases h1:i<n
   . rw[if_pos h1]at h;have e:i.toNat=j:=Option.some.inj h;exact⟨by rw[seqIndex_of h0 h1,e],by omega,by omega,h1⟩
   . rw[if_neg h1]at h;cases h
 . rw[if_neg h0]at h;by_cases h1: -(n:Int)<=i
   . rw[if_pos h1]at h;have e:(i+n).toNat=j:=Option.some.inj h;exact⟨by rw[seqIndex_neg (by omega) h1,e],by omega,h1,by omega⟩
   . rw[if_neg h1]at h;cases h
theorem rG{α:Type}{xs:List α}{i:Int}{v:α}(h:dY xs i=some v):∃j,seqIndex? i xs.length=some j/\xs[j]?=some v/\j<xs.length/\ -(xs.length:Int)<=i/\i<xs.length:=by
 unfold dY at h;cases e:km xs.length i with
 |none=>rw[e]at h;cases h
 |some j=>
  rw[e]at h;obtain⟨h1,h2,h3,h4⟩:=wx e;exact⟨j,h1,h,h2,h3,h4⟩
theorem kQ{α:Type}{xs:List α}{j:Nat}{v:α}(h:xs[j]?=some v):dY xs (j:Int)=some v:=by
 have hj:j<xs.length:=(List.getElem?_eq_some_iff.mp h).1
 have e:km xs.length (j:Int)=some j:=by
  unfold km;rw[if_pos (by omega),if_pos (by omega)];simp
 unfold dY;rw[e];exact h
theorem AA{α:Type}(xs:List α)(v:α):dY (xs++[v]) (-1)=some v:=by
 have hl:(xs++[v]).length=xs.length+1:=by simp
 have e:km (xs++[v]).length (-1)=some xs.length:=by
  unfold km;rw[hl,if_neg (by decide),if_pos (by omega)];congr 1;omega
 unfold dY;rw[e];show(xs++[v])[xs.length]?=some v;simp
def nI(b:Expr):Prop:=∀o i,subscripted b false o i=operate [o,i] (getItem o i)
def Cc(X:Cx)(r:R2):Prop:=
 ∀(value slice:Expr) (pins:List (Addr×Obj)) (s:Shared) (σ:St) (H:Hp) (x y:V) (v u:Value) (Q:VK),Inv X pins σ H s->RelV x v->RelV y u->r x y H Q->
  subscripted slice false v u=operate [v,u] (getItem v u)->wpAny (model X.prog X.w) X.A (subscriptTail value slice v u) (EP X pins σ Q) X.xe s
def HL(X:Cx)(id:String)(r:V->List V->Hp->VK->Prop):Prop:=
 ∀(pins:List (Addr×Obj)) (s:Shared) (σ:St) (H:Hp) (x:V) (xs:List V) (v:Value) (us:List Value) (Q:VK),Inv X pins σ H s->RelV x v->Vals xs us->r x xs H Q->
  wpAny (model X.prog X.w) X.A (call (.builtin id) (v::us)) (EP X pins σ Q) X.xe s
section
variable {X:Cx}{a b:Expr}{ta tb:TE}{pos:Pos}
theorem Gq{r:R2}(hr:Cc X r)(ha:PE X a ta)(hb:PE X b tb)(hs:nI b):PE X (.Subscript a b pos) (yr r ta tb):=by
 intro pins s σ H Q I h;exact Subscript_ (Bc ha hb I h fun v u s2 x y H2 I2 rx ry q=>hr a b pins s2 σ H2 x y v u Q I2 rx ry q (hs _ _))
def Ie(K:PySem.W.Frag):R2:=fun x y H Q=>∃p xs i v,x= .ref p/\y= .int i/\i8 K H p xs/\dY xs i=some v/\Q v H
def Ic(K:PySem.W.Frag):R2:=fun x y H Q=>∃p xs i v,x= .ref p/\y= .int i/\fm K H p xs/\dY xs i=some v/\Q v H
theorem vE:Cc X (Ie X.K):=by
 intro value slice pins s σ H x y v u Q I rx ry h hs;obtain⟨p,xs,i,z,rfl,rfl,hq,he,q⟩:=h;cases rx;obtain⟨t,rfl⟩:=ry;obtain⟨aj,r,pl,hz⟩:=I.list hq;obtain⟨j,h1,h2,h3,h4,h5⟩:=rG he;obtain⟨w,ew,rw'⟩:=r.get h2;have hl:=r.length;have hn:=m6;have fin:EP X pins σ Q w s:=⟨z,H,I,rw',q⟩
 by_cases h0:0<=i
 . have hj:i.toNat=j:=by
    rw[seqIndex_of h0 h5]at h1;exact Option.some.inj h1
   exact item_listR pl.isList h0 (by omega) (by rw[hj];simpa using ew) fin hs
 . have hj:(i+(aj.toArray.size:Int)).toNat=j:=by
    rw[seqIndex_neg (by omega) h4]at h1;rw[List.size_toArray,<-hl];exact Option.some.inj h1
   exact subscriptTail_builtinR (x:=w) pl.isList.typeIs slot_list_getitem.lookup
    (wpAny_getItem_list_neg (Q:=fun r s'=>r=w/\EP X pins σ Q r s') pl.isList (by omega) (by rw[List.size_toArray]<;>omega) (by omega) (by rw[hj];simpa using ew) ⟨rfl,fin⟩) hs
theorem E9:Cc X (Ic X.K):=by
 intro value slice pins s σ H x y v u Q I rx ry h hs;obtain⟨p,xs,i,z,rfl,rfl,hq,he,q⟩:=h;cases rx;obtain⟨t,rfl⟩:=ry;obtain⟨aj,r,pl,hz⟩:=I.tuple hq;obtain⟨j,h1,h2,h3,h4,h5⟩:=rG he;obtain⟨w,ew,rw'⟩:=r.get h2;have hl:=r.length;have hn:=m6;have fin:EP X pins σ Q w s:=⟨z,H,I,rw',q⟩
 exact subscriptTail_builtinR (x:=w) pl.typeIs slot_tuple_getitem.lookup
  (getItem_tuple (j:=j) (Q:=fun r s'=>r=w/\EP X pins σ Q r s') pl (by omega) (by omega) (by rw[List.size_toArray,<-hl];exact h1) (by simpa using ew) ⟨rfl,fin⟩) hs
theorem xQ(aj:List Value)(n j:Nat)(u:Value):Obj.mapSeq (·.setIfInBounds j u) {cls:= .type "list",data:= .seq aj.toArray n}= {cls:= .type "list",data:= .seq (aj.set j u).toArray n}:=by
 simp[Obj.mapSeq]
theorem Inv.lst{pins:List (Addr×Obj)}{σ:St}{H:Hp}{s:Shared}{p:Addr}{xs:List V}(I:Inv X pins σ H s)(h:H p=some (.lst xs)):
 ∃(aj:List Value) (n:Nat),Vals xs aj/\s.heap.get? p=some {cls:= .type "list",data:= .seq aj.toArray n}/\xs.length<=sizeLine:=by
 obtain⟨z,aj,n,r,e⟩:=I.aw p _ h;exact⟨aj,n,r,e,z⟩
theorem Inv.E_{pins:List (Addr×Obj)}{σ:St}{H:Hp}{s:Shared}{p:Addr}{xs ys:List V}{aj its':List Value}{n n':Nat}{f:Obj->Obj}(I:Inv X pins σ H s)(h:H p=some (.lst xs))
 (ho:s.heap.get? p=some {cls:= .type "list",data:= .seq aj.toArray n}) (hf:f {cls:= .type "list",data:= .seq aj.toArray n}= {cls:= .type "list",data:= .seq its'.toArray n'}) (r:Vals ys its') (hz:ys.length<=sizeLine) (t:Nat):
 Inv X pins σ (upd H p (.lst ys)) {s with heap:=s.heap.update p f,toks:=t}:=by
 have e:(s.heap.update p f).get? p=some {cls:= .type "list",data:= .seq its'.toArray n'}:=by
  rw[Heap.get?_update_self f ho (by rw[hf]<;>rfl),hf]
 refine I.write (x:=p) (e:=p) (by rw[h];trivial) (.inl rfl) (fun b u hb q=>(Heap.get?_update_other _ _ (Ne.symm hb)).trans q) ⟨_,e⟩ ?_;exact⟨hz,its',n',r,e⟩
def tG:V->V->V->Hp->(Hp->Prop)->Prop:=fun o i v H Q=>∃p xs k j,o= .ref p/\i= .int k/\H p=some (.lst xs)/\km xs.length k=some j/\Q (upd H p (.lst (xs.set j v)))
theorem set_list:D_ X tG:=by
 intro pins s σ H o i v ov iv u Q I ro ri rv h;obtain⟨p,xs,k,j,rfl,rfl,hp,hj,q⟩:=h;cases ro;obtain⟨t,rfl⟩:=ri;obtain⟨aj,n,r,ho,hz⟩:=I.lst hp;obtain⟨h1,h2,h3,h4⟩:=wx hj;have hl:=r.length;have hn:=m6
 have I':Inv X pins σ (upd H p (.lst (xs.set j v))) {s with heap:=s.heap.update p (Obj.mapSeq (·.setIfInBounds j u))}:=
  I.E_ hp ho (xQ aj n j u) (r.set rv j) (by rw[List.length_set];exact hz) s.toks
 by_cases h0:0<=k
 . have hk:k.toNat=j:=by
    rw[seqIndex_of h0 h4]at h1;exact Option.some.inj h1
   exact PySem.W.ki_setAt ho h0 (by omega) (by rw[List.size_toArray,<-hl];exact h4) (by rw[hk];exact⟨_,I',q⟩)
 . have hk:(k+(aj.toArray.size:Int)).toNat=j:=by
    rw[seqIndex_neg (by omega) h3]at h1;rw[List.size_toArray,<-hl];exact Option.some.inj h1
   exact PySem.W.ki_setBack ho (by omega) (by rw[List.size_toArray,<-hl];exact h3) (by omega) (by rw[hk];exact⟨_,I',q⟩)
theorem tV(lo hi:Option Int)(n:Nat):(sliceBounds lo hi none n).1=((HT.aZ n 0 lo:Nat):Int)/\(sliceBounds lo hi none n).2.1=((HT.aZ n n hi:Nat):Int)/\(sliceBounds lo hi none n).2.2=1:=by
 refine⟨?_,?_,rfl⟩
 . cases lo with
   |none=>simp[sliceBounds,HT.aZ]
   |some i=>
    simp only[sliceBounds,HT.aZ,Option.getD_none,show(1:Int)>0 by decide,if_true];by_cases h:i<0
    . simp only[h,if_true]<;>omega
    . simp only[h,if_false]<;>omega
 . cases hi with
   |none=>simp[sliceBounds,HT.aZ]
   |some i=>
    simp only[sliceBounds,HT.aZ,Option.getD_none,show(1:Int)>0 by decide,if_true];by_cases h:i<0
    . simp only[h,if_true]<;>omega
    . simp only[h,if_false]<;>omega
theorem sV(aj:List Value)(lo hi:Option Int):slicePick aj.toArray lo hi none=((aj.drop (HT.aZ aj.length 0 lo)).take (HT.aZ aj.length aj.length hi-HT.aZ aj.length 0 lo)).toArray:=by
 obtain⟨h1,h2,h3⟩:=tV lo hi aj.toArray.size;unfold slicePick;rw[h1,h2,h3];simp only[sliceRange_one,pick_run,List.size_toArray]<;>rfl
def Iy(K:PySem.W.Frag):V->Option Int->Option Int->Hp->VK->Prop:=fun x lo hi H Q=>∃a xs,x= .ref a/\i8 K H a xs/\∀p,H p=none->Q (.ref p) (upd H p (.lst (lj xs lo hi)))
theorem wC:zd X (Iy X.K):=by
 intro pins s σ H x v vl vu lo hi sl Q I rx hs pl pu h;obtain⟨a,xs,rfl,hx,q⟩:=h;cases rx;obtain⟨aj,r,ht,hz⟩:=I.list hx;have hlen:=r.length;refine⟨"list",_,slot_list_getitem.lookup,ht.isList.typeIs,?_⟩;refine wpAny_getItem_list_slice ht.isList hs pl pu .none (by simp) ?_ (by rw[List.size_toArray]<;>omega);rw[sV,<-hlen];refine⟨.ref s.heap.objs.size,_,I.laid (t':=s.toks) (o:= .lst (lj xs lo hi)) (fun b ob q=>Heap.get?_push_of_some _ q) (Nat.le_refl _) ?_,rfl,q _ (I.aw.fresh (Nat.le_refl _))⟩;exact⟨Nat.le_trans (oC xs lo hi) hz,_,0,(r.drop (HT.aZ xs.length 0 lo)).take (HT.aZ xs.length xs.length hi-HT.aZ xs.length 0 lo),Heap.get?_push_size _ rfl⟩
theorem tR:aU X (.builtin "len") (fun xs H Q=>∃p ys,xs=[.ref p]/\(i8 X.K H p ys\/fm X.K H p ys)/\Q (.int ys.length) H):=by
 intro pins s σ H xs us Q I r h;obtain⟨p,ys,rfl,hq,q⟩:=h;obtain⟨u,rfl,rx⟩:=vals1 r;cases rx;have hn:=m6;rcases hq with hq|hq
 . obtain⟨aj,r',pl,hz⟩:=I.list hq;have hlen:=r'.length;exact Calls.call_len_list pl.isList (by simp only[List.size_toArray]<;>omega) ⟨.int ys.length,H,I.tok _,⟨s.toks+1,by rw[List.size_toArray,hlen]⟩,q⟩
 . obtain⟨aj,r',pl,hz⟩:=I.tuple hq;have hlen:=r'.length;exact len_tuple pl (by simp only[List.size_toArray]<;>omega) ⟨.int ys.length,H,I.tok _,⟨s.toks+1,by rw[List.size_toArray,hlen]⟩,q⟩
theorem uN:aU X (.builtin "len") (fun xs H Q=>∃z,xs=[.str z]/\z.length<=sizeLine/\Q (.int z.length) H):=by
 intro pins s σ H xs us Q I r h;obtain⟨z,rfl,hz,q⟩:=h;obtain⟨u,rfl,t,rfl⟩:=vals1 r;have hn:=m6;exact len_str (by omega) ⟨.int z.length,H,I.tok _,⟨_,rfl⟩,q⟩
theorem uX:aU X (.type "list") (fun xs H Q=>∃p ys,xs=[.ref p]/\(i8 X.K H p ys\/fm X.K H p ys)/\∀l,H l=none->Q (.ref l) (upd H l (.lst ys))):=by
 intro pins s σ H xs us Q I r h;obtain⟨p,ys,rfl,hq,q⟩:=h;obtain⟨u,rfl,rx⟩:=vals1 r;cases rx
 have fin:∀(aj:List Value),Vals ys aj->ys.length<=sizeLine->∀(h':Heap) (c':Nat),(∀b o',s.heap.get? b=some o'->h'.get? b=some o')->
  h'.get? s.heap.objs.size=some {cls:= .type "list",dict:=none,data:= .seq aj.toArray c',slots:= #[]}->EP X pins σ Q (.ref s.heap.objs.size) {s with heap:=h'}:=fun aj r' hz h' c' kp e=>
  ⟨.ref s.heap.objs.size,_,I.laid (t':=s.toks) kp (Nat.le_refl _) (show cn X.prog X.w _ h' _ (.lst ys)from⟨hz,aj,c',r',e⟩),rfl,q _ (I.aw.fresh (Nat.le_refl _))⟩
 rcases hq with hq|hq
 . obtain⟨aj,r',pl,hz⟩:=I.list hq;have hlen:=r'.length;obtain⟨o,ho,hc,n,hd⟩:=pl.isList;exact call_list_seq p (.inl rfl) ho hc hd (fun h' c' kp e=>fin aj r' hz h' c' kp e) (by simp only[List.size_toArray]<;>omega)
 . obtain⟨aj,r',pl,hz⟩:=I.tuple hq;have hlen:=r'.length;obtain⟨o,ho,hc,n,hd⟩:=pl;exact call_list_seq p (.inr rfl) ho hc hd (fun h' c' kp e=>fin aj r' hz h' c' kp e) (by simp only[List.size_toArray]<;>omega)
theorem sS:aU X (.type "tuple") (fun xs H Q=>∃p ys,xs=[.ref p]/\((i8 X.K H p ys/\∀l,H l=none->Q (.ref l) (upd H l (.tup ys)))\/(fm X.K H p ys/\Q (.ref p) H))):=by
 intro pins s σ H xs us Q I r h;obtain⟨p,ys,rfl,h⟩:=h;obtain⟨u,rfl,rx⟩:=vals1 r;cases rx;rcases h with⟨hq,q⟩|⟨hq,q⟩
 . obtain⟨aj,r',pl,hz⟩:=I.list hq;have hlen:=r'.length;refine call_tuple_list pl.isList (fun h' kp=>?_) (by simp only[List.size_toArray]<;>omega);have I1:Inv X pins σ H {s with heap:=h'}:=I.kept (t':=s.toks) kp
   have I2:Inv X pins σ (upd H h'.objs.size (.tup ys)) {s with heap:=h'.push {cls:= .type "tuple",data:= .seq aj.toArray}}:=
    I1.laid (t':=s.toks) (fun b o e=>Heap.get?_push_of_some _ e) (Nat.le_refl _) (show cn X.prog X.w _ _ _ (.tup ys)from⟨hz,aj,r',IsTup.new _ _⟩)
   exact⟨.ref h'.objs.size,_,I2,rfl,q _ (I1.aw.fresh (Nat.le_refl _))⟩
 . obtain⟨aj,r',pl,hz⟩:=I.tuple hq;exact call_tuple_same pl ⟨.ref p,H,I,rfl,q⟩
def HB(K:PySem.W.Frag)(T:String)(x:V)(H:Hp):Prop:=match x with
 | .str _=>T="str"
 | .int _=>T="int"
 | .ref p=>(T="list"/\∃xs,i8 K H p xs)\/(T="tuple"/\∃o,K.lookup p=some o/\o.cls= .type "tuple"/\o.dict=none)\/
    (T="dict"/\((∃kvs,H p=some (.dK kvs))\/∃kvs,H p=some (.dT kvs)))\/(T="set"/\∃S n,H p=some (.set S n))
 |_=>False
theorem E5{pins:List (Addr×Obj)}{σ:St}{H:Hp}{s:Shared}{T:String}{x:V}{v:Value}(I:Inv X pins σ H s)(r:RelV x v)(ty:HB X.K T x H):
 s.TypeIs v T/\∀a,v= .ref a->∃ob,s.heap.get? a=some ob/\ob.dict=none:=by
 cases x with
 |str z=>
  obtain⟨t,rfl⟩:=r;cases (show T="str" from ty);exact⟨typeIs_str s z t,fun _ e=>nomatch e⟩
 |int i=>
  obtain⟨t,rfl⟩:=r;cases (show T="int" from ty);exact⟨typeIs_int s i t,fun _ e=>nomatch e⟩
 |ref p=>
  cases r;rcases ty with⟨rfl,xs,hq⟩|⟨rfl,o,hk,hc,hd⟩|⟨rfl,hk⟩|⟨rfl,S,n,hk⟩
  . obtain⟨aj,_,pl,_⟩:=I.list hq;refine⟨pl.isList.typeIs,fun a e=>?_⟩;cases e;obtain⟨o,n,e,c,hd,_⟩:=pl;exact⟨o,e,hd⟩
  . refine⟨⟨o,I.dG p o hk,hc⟩,fun a e=>?_⟩;cases e;exact⟨o,I.dG _ o hk,hd⟩
  . have z:∃o,s.heap.get? p=some o/\o.ExactDict:=by
     rcases hk with⟨kvs,hk⟩|⟨kvs,hk⟩
     . obtain⟨_,_,_,_,o,_,_,e,ex,_⟩:=I.aw p _ hk;exact⟨o,e,ex⟩
     . obtain⟨_,_,_,_,o,_,_,e,ex,_⟩:=I.aw p _ hk;exact⟨o,e,ex⟩
    obtain⟨o,e,ex⟩:=z;refine⟨⟨o,e,ex.1⟩,fun a e2=>?_⟩;cases e2;exact⟨o,e,ex.2.1⟩
  . obtain⟨o,_,_,_,e,ex,_⟩:=I.aw p _ hk;refine⟨⟨o,e,ex.1⟩,fun a e2=>?_⟩;cases e2;exact⟨o,e,ex.2.1⟩
 |_=>exact False.elim ty
def HA(K:PySem.W.Frag)(T:String)(r:V->List V->Hp->VK->Prop)(to:TE)(t:TA):TE:=fun σ H Q=>to σ H fun x H1=>HB K T x H1/\t σ H1 fun xs H2=>r x xs H2 Q
variable {o e:Expr}{es:List Expr}{to:TE}{t:TA}{name:Str}{apos cpos:Pos}{T id:String}{r:V->List V->Hp->VK->Prop}
theorem Hm(pa:PlainAttrs T)(slot:Slot T name id)(hty:typeOf (.builtin id)=pure (.type "method_descriptor"))(hm:HL X id r)(ho:PE X o to)(ha:PA X (e::es) t)
 (hbase:attributeBase o name X.env (eval o X.env)=eval o X.env:=by rfl)
 (hfew:((backTo cpos (starEach (e::es) X.env)).all (fun x=> !x.1)&&(backToKw cpos (keywordEach [] X.env)).all (fun x=>x.1.isSome)
   &&decide ((e::es).length+([]:List Keyword).length+(if([]:List Keyword).isEmpty then 0 else 1)<30))=true:=by rfl)
 (hline:(apos.endLine==cpos.line)=true:=by rfl) (hs:starEach (e::es) X.env=(false,eval e X.env)::starEach es X.env:=by rfl) (hplain:(backTo cpos (starEach es X.env)).any (·.1)=false:=by rfl):
 PE X (.Call (.Attribute o name apos) (e::es) [] cpos) (HA X.K T r to t):=by
 intro pins s σ H Q I h;refine wpAny_Call_method_late hbase hfew hline rfl (bj (ho pins s σ H _ I h) fun v s1 ⟨x,H1,I1,r1,ty,q1⟩=>?_);obtain⟨h1,h2⟩:=E5 I1 r1 ty;refine⟨T,id,pa,slot,hty,h1,h2,?_⟩;have hA:=ha cpos pins s1 σ H1 _ I1 q1;rw[hs]at hA⊢;refine Calls.callWith_builtin (by show(false||(backTo cpos (starEach es X.env)).any (·.1))=false;rw[hplain]<;>rfl) (Calls.evalArgs_plain ?_);exact bj hA fun us s2 ⟨vs,H2,I2,r2,q2⟩=>hm pins s2 σ H2 x vs v us Q I2 r1 r2 q2
/-xs.append(e),list.index on a module's tuple .. are HL facts of 06m-/
end
def Jj(X:Cx)(id:String)(r:V->List V->Hp->VK->Prop):Prop:=
 ∀(pins:List (Addr×Obj)) (s:Shared) (σ:St) (H:Hp) (x:V) (xs:List V) (v:Value) (us:List Value) (Q:VK),Inv X pins σ H s->RelV x v->Vals xs us->r x xs H Q->
  wpAny (model X.prog X.w) X.A (call (.builtin id) (v::us)) (EP X pins σ Q) X.xe s
theorem Vals.one:∀ {x:V} {us:List Value},Vals [x] us->∃u,us=[u]/\RelV x u
 |_,_,.cons r .nil=>⟨_,rfl,r⟩
theorem Vals.rep{xs:List V}{us:List Value}(h:Vals xs us):∀k:Nat,Vals (List.replicate k xs).flatten (List.replicate k us).flatten
 |0=> .nil
 |k+1=>by
  rw[List.replicate_succ,List.replicate_succ,List.flatten_cons,List.flatten_cons];exact Vals.append h (Vals.rep h k)
theorem foldl_rep(aj:List Value):∀(k:Nat) (acc:List Value),
 List.foldl (fun x1 x2=>x1++x2) acc.toArray (List.replicate k aj.toArray)=(acc++(List.replicate k aj).flatten).toArray
 |0,acc=>by simp
 |k+1,acc=>by
  have e:acc.toArray++aj.toArray=(acc++aj).toArray:=by simp
  have e2:(acc++aj)++(List.replicate k aj).flatten=acc++(List.replicate (k+1) aj).flatten:=by
   rw[List.replicate_succ,List.flatten_cons,List.append_assoc]
  rw[<-e2,<-foldl_rep aj k (acc++aj),<-e,List.replicate_succ,List.foldl_cons]
section
variable {X:Cx}{pins:List (Addr×Obj)}{σ:St}{H:Hp}{s:Shared}{l b:Addr}{xs ys zs:List V}
theorem Inv.Ia{aj its':List Value}{n:Nat}{f:Array Value->Array Value}{t':Nat}(I:Inv X pins σ H s)(hH:H l=some (.lst xs))
 (e:s.heap.get? l=some {cls:= .type "list",data:= .seq aj.toArray n}) (hf:f aj.toArray=its'.toArray) (hv:Vals ys its') (hz:ys.length<=sizeLine):
 Inv X pins σ (upd H l (.lst ys)) {s with heap:=s.heap.update l (Obj.mapSeq f),toks:=t'}:=by
 have q:=PySem.IsL.update e f;rw[hf]at q;refine I.write (x:=l) (e:=l) (by rw[hH];exact trivial) (.inl rfl) (fun b' u hb hu=>(Heap.get?_update_other s.heap (Obj.mapSeq f) (Ne.symm hb)).trans hu) ⟨_,q⟩ ?_;exact⟨hz,its',_,hv,q⟩
theorem Inv.Bj{aj:List Value}{t':Nat}(I:Inv X pins σ H s)(hv:Vals ys aj)(hz:ys.length<=sizeLine):
 Inv X pins σ (upd H s.heap.objs.size (.lst ys)) {s with heap:=s.heap.push {cls:= .type "list",data:= .seq aj.toArray},toks:=t'}:=
 I.laid (fun _ _ q=>Heap.get?_push_of_some _ q) (Nat.le_refl _) ⟨hz,aj,0,hv,Heap.get?_push_size _ rfl⟩
theorem Inv.fresh(I:Inv X pins σ H s):H s.heap.objs.size=none:=I.aw.fresh (Nat.le_refl _)
theorem Inv.IA(I:Inv X pins σ H s)(hH:H l=some (.lst xs)):xs.length<=sizeLine/\∃(aj:List Value) (n:Nat),Vals xs aj/\xs.length=aj.length/\s.heap.get? l=some {cls:= .type "list",data:= .seq aj.toArray n}:=by
 obtain⟨z,aj,n,r,e⟩:=I.aw l _ hH;exact⟨z,aj,n,r,r.length,e⟩
theorem Al{n:Nat}(h:n<=sizeLine):Builtin.List.listTooLong n=false:=by
 unfold Builtin.List.listTooLong;exact decide_eq_false (by omega)
end
section
variable {X:Cx}
def vP:V->List V->Hp->VK->Prop:=fun x vs H Q=>∃l xs y,x= .ref l/\vs=[y]/\H l=some (.lst xs)/\xs.length<sizeLine/\Q .ay (upd H l (.lst (xs++[y])))
theorem sF:Jj X "list.append" vP:=by
 intro pins s σ H x vs v us Q I rx rv h;obtain⟨l,xs,y,rfl,rfl,hH,hz,q⟩:=h;cases rx;obtain⟨u,rfl,ru⟩:=rv.one;obtain⟨z,aj,n,r,hl,e⟩:=I.IA hH;refine call_meets F.slot_list_append ⟨_,e,rfl⟩ F.entry_list_append (F.args_list_append_2 _ _) (PySem.list_append l aj.toArray n u (by rw[List.size_toArray];omega)) ⟨e,?_⟩;refine⟨.ay,_,I.Ia (its':=aj++[u]) hH e (by simp) (r.append (.cons ru .nil)) ?_,rfl,q⟩;rw[List.length_append,List.length_singleton];omega
theorem len_rep{α:Type}(xs:List α)(k:Nat):(List.replicate k xs).flatten.length=k*xs.length:=by
 induction k with
 |zero=>simp
 |succ k ih=>rw[List.replicate_succ,List.flatten_cons,List.length_append,ih,Nat.succ_mul,Nat.add_comm]
end
section
variable {prog:Program}{w:World}{A:Around}{E:Value->Shared->Prop}{s:Shared}
set_option maxRecDepth 100000 in
end
section
variable {X:Cx}
end
end L2
namespace Att
open PySem PySem.W PySem.Calls PyProof.Rows
theorem pC{P:Params}{h:Heap}:∀(ns:List Int) (vs:List Value),WellAll P h vs (ns.map WData.int)->IntsAre vs ns:=by
 intro ns;induction ns with
 |nil=>
  intro vs w;rw[List.map_nil]at w;cases w;exact .nil
 |cons n ns ih=>
  intro vs w;rw[List.map_cons]at w;cases w with
  |cons a b=>
   cases a;exact .cons _ _ (ih _ b)
theorem yZ{l:OpenLaw}{n:Nat}(hn:l.most=some n){P:Params}{h:Heap}{args:List WData}{vals:List Value}
 (hpre:l.row.toRowW.claim.pre args=true) (hwl:WellAll P h vals args):
 ∃a vs ns,vals=[Value.ref a]/\args=[WData.list (ns.map WData.int)]/\h.get? a=some {cls:= .type "list",data:= .seq vs.toArray}/\IntsAre vs ns/\ns.length<=n:=by
 have hsh:WShape.hasAll [] args [.list .int]=true:=(pre_splitW hpre).1;have hc:l.pre.holds [] {args:=args}=true:=(pre_splitW hpre).2;obtain⟨d,r,rfl,h1,h2⟩:=hasAllW_cons hsh;obtain rfl:=hasAllW_nil h2;obtain⟨xs,rfl,h3⟩:=hasW_list h1;obtain⟨ns,rfl⟩:=items_int h3
 have hlen:ns.length<=n:=by
  unfold OpenLaw.pre at hc
  have h4:(WTm.not (.lt (.lit (.int (n:Int))) (.len (.arg 0)))).holds [] {args:=[.list (ns.map .int)]}=true:=by
   have h4:=(holds_andW hc).1;rw[hn]at h4;exact h4
  have h5:=condW_of h4 (w_not (w_lt w_lit (w_len_list (w_arg rfl))));rw[List.length_map]at h5;refine Nat.le_of_not_lt fun q=>?_;have q':(n:Int)<((ns.length:Nat):Int):=by omega
  first
   |(rw[decide_eq_true q']at h5;exact absurd h5 (by decide))
   |(simp at h5;omega)
 cases hwl with
 |cons w1 w2=>
  cases w2;cases w1 with
  |list ho hall=>exact⟨_,_,ns,rfl,rfl,ho,pC ns _ hall,hlen⟩
theorem yK(l:OpenLaw)(args:List WData):l.row.toRowW.claim.post args (.bool true) args=true:=
 postW_of (r:=l.row.toRowW) (X:=(true==true))
  (show WShape.has [] (.bool true) .bool=true by first|rfl|decide|simp[WShape.has,WShape.arms,WShape.armsAll])
  (show(WTm.eq .res (.lit (.bool true))).value [] {args:=args,res:=some (.bool true),after:=args}=some (.bool (true==true))from w_eq_bool (w_res rfl) w_lit) rfl
theorem vd{l:OpenLaw}{n:Nat}{q:Program}{loose:List Str}{XP:(Str->Option Value)->Heap->Prop}{YP:World->Heap->Prop}{d:DefRec}
 (hn:l.most=some n) (hdf:d.params.defaults=[])
 (call:∀(w:World) (s₀ s₁:Shared) (mg mb:Str->Option Value) (fa:Addr) (o:Obj) (pm cd doc:Value) (a:Addr) (vs:List Value) (ns:List Int),
   Ground q loose [] XP w s₀ mg mb s₁.heap->YP w s₁.heap->
   s₁.heap.get? fa=some o->o.data= .func (docDef d.name d.params d.body d.scope pm cd doc)->s₁.heap.CodeRec cd d.name->mg d.name=some (.ref fa)->
   s₁.heap.get? a=some {cls:= .type "list",data:= .seq vs.toArray}->IntsAre vs ns->ns.length<=n->s₁.gens= #[]->
   codeAny (model l.prog w) callerA (.call (.ref fa) ⟨[.ref a],[]⟩) (fun r s'=>r= .ok (.ret (.bool true))/\OldK s₁.heap s'.heap/\s'.os=s₁.os/\AllBare s'.gens) s₁):
 WalkO q loose XP YP l.row.toRowW d [] (fun f vs=>PySem.call f vs):=by
 intro w s₀ s₁ mg mb G Y fa o pm cd doc dV kV ho hd hcd hD hmg hg args vals as hpre hlay hrd hwl hlo;obtain rfl:dV= .none:=Dflts.none hD hdf;obtain rfl:kV= .none:=Dflts.noKw hD;obtain⟨a,vs,ns,rfl,rfl,hobj,hints,hlen⟩:=yZ hn hpre hwl;refine enter_call (codeAny_mono (call w s₀ s₁ mg mb fa o pm cd doc a vs ns G Y ho (fd_plain hd) hcd hmg hobj hints hlen hg) fun r s' hq=>?_);obtain⟨rfl,h2,h3,h4⟩:=hq;exact⟨.inl ⟨.bool true,.bool true,[],rfl,fun _=>rfl,.bool true,yK l _,fun _=>⟨List.Pairwise.nil,fun _ hm=>(nomatch hm)⟩⟩,h2,h3,h4⟩
section
variable {prog:Program}{w:World}{A:Around}{E:Value->Shared->Prop}{s:Shared}{K:Frag}
end
end Att
namespace L2
open PySem PySem.Spec PyProof.Rows
theorem kb:∀ {vs:List Value} {ns:List Int},IntsAre vs ns->Vals (ns.map V.int) vs
 |_,_,.nil=> .nil
 |_,_,.cons n t h=> .cons ⟨t,rfl⟩ (kb h)
end L2
/-THE LAST THEOREM (shape;LID,My.*are yours):
 My.Adr:a structure of the addresses that your layer names (classes,functions);My.Txt K t:a structure (Prop) of the equations over K;
 My.txt_mk:{K} {implicit addresses ..} (e1:nsIn K mainGlobals "law"=some (some (.ref f))) (e2:K.lookup f=some ⟨oc,od,.func (fnOf "law" "law" params body scope dV kV doc pm an cdv ct),sl⟩) (e3:codeIn K cdv "law"=true) .. :∃t,My.Txt K t
set_option maxRecDepth 100000 in
set_option maxHeartbeats 0 in
(the tactic k_is has no namespace:write k_is)-/
namespace L2
open PySem PySem.Spec PyProof.Rows
def inClass(s:Stmt)(j:Nat):Stmt:=match s with
 | .ClassDef _ _ _ body _ _ _ _ _ _ _=>body.getD j (.Pass ⟨0,0,0,0⟩)
 |_=> .Pass ⟨0,0,0,0⟩
def hV(s:Stmt):Arguments:=match s with
 | .FunctionDef _ a _ _ _ _ _ _ _ _=>a
 |_=>{posonlyargs:=[],args:=[],vararg:=none,kwonlyargs:=[],kw_defaults:=[],kwarg:=none,defaults:=[]}
def eN(s:Stmt):List Stmt:=match s with
 | .FunctionDef _ _ b _ _ _ _ _ _ _=>b
 |_=>[]
def ai(s:Stmt):Scope:=match s with
 | .FunctionDef _ _ _ _ _ _ sc _ _ _=>sc
 |_=>{kind:= .function,names:=[],isGenerator:=false,isCoroutine:=false}
abbrev b_:jL:=fun _ _ _ _ _ _=>False
abbrev E0:XK:=fun _ _ _=>False
theorem s_{X:Cx}:Passes b_ X E0:=fun _ _ _ _ _ _ _ h=>h.elim
structure i_(K:PySem.W.Frag)(x qual:Str)(st:Stmt)(f:Addr)(fd:FuncData):Prop where
 ex:∃(oc:Value) (od:Option Addr) (kV doc pm:Value) (an:Option Addr) (cdv ct:Value) (osl:Array (Option Value)),
  fd=PySem.W.fnOf x qual (hV st) (eN st) (ai st) .none kV doc pm an cdv ct/\K.lookup f=some ⟨oc,od,.func fd,osl⟩/\PySem.W.codeIn K cdv qual=true
 kp:PySem.W.keepIn K (.ref f)=true
section
variable {P:Program}{w:World}{K:PySem.W.Frag}{mg:Str->Option Value}{base:Heap}
theorem i_.ok{x qual:Str}{st:Stmt}{f:Addr}{fd:FuncData}{N ps:List Str}{k:Nat}{sp:Sp}(F:i_ K x qual st f fd)(S:aG N ps (ai st))(len:∀vs H Q E,sp vs H Q E->vs.length=ps.length)
 (hbody:∀(cdv:Value) (A:Around) (outer:List Env) (s:Shared) (H:Hp) (vs:List V) (Q:VK) (E:XK),bw k (A.deeper (envOfC qual (ai st) s.heap.objs.size f cdv))->sp vs H Q E->
   ∃t,cM (bx b_ P w K mg base N qual (ai st) f cdv A outer s H E).cx (eN st) t/\t {nx:=fun _ H'=>Q .ay H',rt:=Q} (start N vs) H):aK P w K mg base b_ (k+1) f fd ps sp:=by
 obtain⟨oc,od,kV,doc,pm,an,cdv,ct,osl,rfl,lk,hcd⟩:=F.ex;refine BV lk hcd S len fun A outer s H vs Q E hr hsp=>?_;obtain⟨t,h,q⟩:=hbody cdv A outer s H vs Q E hr hsp;exact⟨t,h.cx,q⟩
theorem i_.binds{x qual:Str}{st:Stmt}{f:Addr}{fd:FuncData}{ps:List Str}(F:i_ K x qual st f fd)
 (h:∀(kV doc pm:Value) (an:Option Addr) (cdv ct:Value) (us:List Value),us.length=ps.length->bindArgs (PySem.W.fnOf x qual (hV st) (eN st) (ai st) .none kV doc pm an cdv ct) ⟨us,[]⟩=pure (ps.zip us)):Binds K fd ps []:=by
 obtain⟨oc,od,kV,doc,pm,an,cdv,ct,osl,rfl,lk,hcd⟩:=F.ex;exact .all (h kV doc pm an cdv ct)
theorem zE{x qual:Str}{st:Stmt}{f:Addr}{oc:Value}{od an:Option Addr}{osl:Array (Option Value)}{kV doc pm cdv ct:Value}(l:K.lookup f=some ⟨oc,od,.func (PySem.W.fnOf x qual (hV st) (eN st) (ai st) .none kV doc pm an cdv ct),osl⟩)
 (c:PySem.W.codeIn K cdv qual=true) (k:PySem.W.keepIn K (.ref f)=true):i_ K x qual st f (PySem.W.fnOf x qual (hV st) (eN st) (ai st) .none kV doc pm an cdv ct):=⟨⟨oc,od,kV,doc,pm,an,cdv,ct,osl,rfl,l,c⟩,k⟩
end
section
variable {X:Cx}
theorem pv(i:Nat){x:Str}{pos:Pos}(hN:X.N[i]?=some x:=by rfl)(hv:pF X.env.scope x:=by first|exact Or.inl rfl|exact Or.inr (Or.inl rfl)|exact Or.inr (Or.inr rfl))(hd:(x==("__debug__":Str))=false:=by decide)
 (hcd:(x==("__classdict__":Str))=false:=by decide):PE X (.Name x pos) (kF i):=qo hN hv hd hcd
end
theorem ia{A B:Prop}(h:A):if true=true then A else B:=by
 rw[if_pos rfl];exact h
def Am(H H':Hp):Prop:=∀b o,H b=some o->H' b=some o
end L2
set_option maxHeartbeats 4000000
namespace Hd
open PySem PySem.W PySem.Calls PyProof.Rows
noncomputable def bt (P:Params):BT:=(.node (boot_o_0 P) (.node (boot_o_1 P) (.node (boot_o_3 P) (.node (boot_o_7 P) .nil .nil) .nil) (.node (boot_o_5 P) (.node (boot_o_9 P) .nil .nil) .nil)) (.node (boot_o_2 P) (.node (boot_o_4 P) (.node (boot_o_8 P) .nil .nil) .nil) (.node (boot_o_6 P) (.node (boot_o_10 P) .nil .nil) .nil)))
theorem FR(P:Params):absHeap (bt P) 11 (boot_heap P).life=boot_heap P:=by kernel_rfl
noncomputable def run (p:Program) (w:World) (n:Nat) (ann:Option Value):Nat->SharedT->Thread->Option SharedT
 |0,_,_=>none
 |k+1,s,t=>match through t with
  |true=>some s
  |false=>match Fast.tw6613529449190102663 n ann t with
   |false=>none
   |true=>match Fast.tw10156331382660048174 (Fast.tw11892475500146522536 Fast.tw14364793385576792824) p w s t with
    |some (s',t')=>run p w n ann k s' t'
    |none=>none
theorem yB{p:Program}{w:World}{n:Nat}{ann:Option Value}:∀ {k:Nat} {s s':SharedT} {t:Thread},run p w n ann k s t=some s'->topRun treeTable p w n ann k s.abs t=some s'.abs
 |0,_,_,_,h=>by cases h
 |k+1,s,s',t,h=>by
  unfold run at h;unfold topRun;cases he:through t with
  |true=>rw[he]at h;cases h;rfl
  |false=>
   rw[he]at h;rw[<-Fast.te6613529449190102663,<-Fast.te10156331382660048174,<-Fast.te11892475500146522536,<-Fast.te14364793385576792824]at h;cases hk:stepOk n ann t with
   |false=>simp only[hk]at h;cases h
   |true=>
    simp only[hk]at h;cases hs:stepT (denote treeTable) p w s t with
    |none=>rw[hs]at h;cases h
    |some r=>obtain⟨s2,t2⟩:=r;rw[hs]at h;rw[stepT_spec hs];exact yB h
noncomputable def b0 (w:World) (os:OsState):SharedT:=⟨bt w.params,11,(boot_heap w.params).life,⟨[]⟩,boot_drawn,boot_toks,os⟩
theorem ED(w:World)(os:OsState):(b0 w os).abs=⟨boot_heap w.params,⟨[]⟩,boot_drawn,boot_toks,os⟩:=by
 unfold b0 SharedT.abs;dsimp only;rw[FR]
theorem left{p q:Program}{loose:List Str}{α:Type}{Yf:Shared->α}{Ya:World->α}{N:Nat}
 (e:opening p=plainProg p.main.scope.names) (f:∀s,fenceModules? p s=some s) (hN:Nat.ble 600 N=true)
 (h:∀(w:World) (os:OsState),(run p w 11 (some (.ref 6)) N (b0 w os) (topStub p)).bind (fun s=>match staticsOk (importedModules p.main.body) (boot_heap w.params) s.abs.heap&&namesBound p s.abs.heap&&gensDone s.abs&&laidKept (boot_heap w.params) s.abs.heap with
   |true=>some (Fast.tw4187177175401517315 q loose (importedModules p.main.body) (fun _=>true) true s.abs,Yf s.abs)
   |false=>none)=some (openGood q loose,Ya w)):LeftO p q loose (fun _=>true) Yf Ya N:=fun w=>by
 obtain⟨⟨hp,gs,d,k,os⟩,e1,e2⟩:=Option.map_eq_some_iff.mp (boot_open e hN f w);obtain⟨rfl,rfl,rfl,rfl⟩:hp=boot_heap w.params/\gs=⟨[]⟩/\d=boot_drawn/\k=boot_toks:=by simpa using e2
 obtain⟨s,r1,r2⟩:=Option.bind_eq_some_iff.mp (h w os);have r3:=yB r1;rw[ED]at r3;rw[<-Fast.te4187177175401517315]at r2;unfold openEnds;rw[e1];show(topFrom treeTable p w N _).map _=_;unfold topFrom;rw[show((boot_heap w.params).isNs mainGlobals&&(⟨[]⟩:Array GenState).size==0)=true from by kernel_rfl];dsimp only;rw[show(boot_heap w.params).objs.size=11 from by kernel_rfl,show(boot_heap w.params).nsMap mainGlobals "__annotations__"=some (.ref 6)from by kernel_rfl,r3];show((match staticsOk (importedModules p.main.body) (boot_heap w.params) s.abs.heap&&namesBound p s.abs.heap&&gensDone s.abs&&laidKept (boot_heap w.params) s.abs.heap with|true=>some s.abs|false=>none):Option Shared).map _=_;cases z:(staticsOk (importedModules p.main.body) (boot_heap w.params) s.abs.heap&&namesBound p s.abs.heap&&gensDone s.abs&&laidKept (boot_heap w.params) s.abs.heap)with
 |false=>rw[z]at r2;cases r2
 |true=>rw[z]at r2;exact r2
abbrev e(x:Str)(t:Nat)(v:Value):Str×Nat×Value:=(x,t,v)
abbrev k(a:Addr)(o:Obj):Addr×Obj:=(a,o)
def no(P:Params)(n:Nat)(l:List (Str×Nat×Value)):Obj:=⟨.type "dict",none,.dict (l.map fun e=>⟨PyData.keyHash P e.1,.str e.1 e.2.1,e.2.2⟩).toArray n,#[]⟩
def fd(st:Stmt)(x q:Str)(pm:Value)(c:Addr):FuncData:=fnOf x q (L2.hV st) (L2.eN st) (L2.ai st) .none .none .none pm none (.ref c) .none
def fq(st:Stmt)(x q:Str)(pm:Value)(c:Addr):Obj:=⟨.type "function",none,.func (fd st x q pm c),#[]⟩
def co(x q:Str)(t:Nat)(line argc:Int)(a b:Addr)(u v:Value)(d:Addr)(i:Int)(z:Nat):Obj:=⟨.type "code",none,.fields #[.str x t,.str q (t+1),.str "/claim/cut.py" (t+2),.int line 0,.int argc 0,.int 0 0,.int 0 0,.int 3 0,.ref a,.bool true,.int 181 0,.ref b,.none,u,v,.ref d,.int i 0,.int line 0,.str "/claim/cut.py" z],#[]⟩
end Hd
namespace Row
open PySem L2
open PySem.Spec hiding items?
open PyProof.Rows hiding St
def top(i:Nat):Stmt:=PySem.Challenge.pw_latticeworks_k32_rows_that_are_no_steps.main.body.getD i (.Pass ⟨0,0,0,0⟩)
abbrev PW:Program:=PySem.Challenge.pw_latticeworks_k32_rows_that_are_no_steps
abbrev ff:Stmt:=top 7
abbrev fh:Stmt:=top 8
abbrev dw:Stmt:=top 9
abbrev c9:Stmt:=top 10
abbrev fG:Stmt:=top 18
abbrev g6:Stmt:=top 19
abbrev g7:Stmt:=top 20
abbrev fy:Stmt:=top 21
abbrev e8:Stmt:=top 24
abbrev d4:Stmt:=top 25
abbrev lZ:Stmt:=top 26
abbrev fE:Stmt:=top 27
abbrev fU:Stmt:=top 28
abbrev eK:Stmt:=top 29
abbrev eE:Stmt:=top 30
abbrev gD:Stmt:=top 32
abbrev gF:Stmt:=top 33
abbrev fN:Stmt:=top 34
abbrev hU:Stmt:=top 37
abbrev bM:Stmt:=inClass (top 41) 0
abbrev fM:Stmt:=top 45
abbrev cE:Stmt:=inClass (top 46) 0
abbrev jC:Stmt:=top 47
abbrev dR:Stmt:=top 48
abbrev iF:Stmt:=top 50
abbrev fK:Stmt:=top 51
abbrev e_:Stmt:=top 52
abbrev eO:Stmt:=top 53
abbrev eZ:Stmt:=top 54
abbrev eX:Stmt:=top 55
abbrev bN:Stmt:=top 56
abbrev dS:Stmt:=top 57
abbrev iU:Stmt:=top 58
def ma:Value:=(.str "latticeworks.kinds" 271)
def df:Value:=(.str "latticeworks.rows" 347)
def mf:Value:=(.str "latticeworks.shares" 444)
def Ff:Value:=(.str "latticeworks.standing" 500)
def mq:Value:=(.str "latticeworks.short" 603)
def el:Value:=(.str "law_latticeworks_k32_rows_that_are_no_steps" 729)
def KX(P:Params):PySem.W.Frag:=[Hd.k 3 (Hd.no P 60 [Hd.e "__name__" 165 (.str "law_latticeworks_k32_rows_that_are_no_steps" 729),Hd.e "__doc__" 166 .none,Hd.e "__package__" 167 .none,Hd.e "__loader__" 168 (.builtin "__main__.__loader__#opaque"),Hd.e "__spec__" 169 .none,Hd.e "__annotations__" 170 (.ref 6),Hd.e "__builtins__" 171 (.ref 4),Hd.e "__file__" 173 (.str "/claim/cut.py" 172),Hd.e "__cached__" 174 .none,Hd.e "_wall" 193 (.ref 21),Hd.e "LatticeError" 213 (.ref 31),Hd.e "NoSteps" 229 (.ref 44),Hd.e "TooMany" 245 (.ref 56),Hd.e "NoSheet" 270 (.ref 75),Hd.e "is_number" 279 (.ref 84),Hd.e "is_listed" 286 (.ref 91),Hd.e "is_listed_of" 294 (.ref 98),Hd.e "are_numbers" 300 (.ref 103),Hd.e "common" 313 (.ref 110),Hd.e "part" 322 (.ref 117),Hd.e "minus" 330 (.ref 124),Hd.e "times" 338 (.ref 131),Hd.e "before" 346 (.ref 138),Hd.e "as_rows" 354 (.ref 143),Hd.e "added" 360 (.ref 148),Hd.e "sum_by" 372 (.ref 155),Hd.e "product" 378 (.ref 160),Hd.e "column" 384 (.ref 165),Hd.e "turned_over" 390 (.ref 170),Hd.e "unit_row" 396 (.ref 175),Hd.e "unit_rows" 402 (.ref 180),Hd.e "dot" 408 (.ref 185),Hd.e "is_rows" 414 (.ref 190),Hd.e "are_back" 423 (.ref 197),Hd.e "is_turn_of" 432 (.ref 204),Hd.e "are_turned" 443 (.ref 211),Hd.e "cleared" 459 (.ref 218),Hd.e "line_of" 471 (.ref 225),Hd.e "table_of" 481 (.ref 232),Hd.e "squares_in" 487 (.ref 237),Hd.e "shares_in" 493 (.ref 242),Hd.e "shares" 499 (.ref 247),Hd.e "nearest_quotient" 509 (.ref 254),Hd.e "exchanged" 519 (.ref 261),Hd.e "Bench" 602 (.ref 318),Hd.e "is_half_at_most" 611 (.ref 329),Hd.e "falls_too_far" 620 (.ref 336),Hd.e "is_short" 626 (.ref 341),Hd.e "Stairs" 711 (.ref 393),Hd.e "short" 720 (.ref 404),Hd.e "shows_short" 728 (.ref 411),Hd.e "_law_at" 738 (.ref 418),Hd.e "_law_left" 750 (.ref 425),Hd.e "_law_digit" 759 (.ref 432),Hd.e "_law_number" 768 (.ref 439),Hd.e "_law_rows" 774 (.ref 444),Hd.e "_law_unit" 780 (.ref 449),Hd.e "_law_no_steps" 786 (.ref 454),Hd.e "_law_refusal" 796 (.ref 461),Hd.e "law" 802 (.ref 466)]),
 Hd.k 30 (Hd.no P 3 [Hd.e "__module__" 203 (.str "latticeworks.errors" 194),Hd.e "__firstlineno__" 207 (.int (5) 206),Hd.e "__static_attributes__" 208 (.ref 29),Hd.e "__weakref__" 210 (.ref 32),Hd.e "__doc__" 211 .none]),
 Hd.k 31 (⟨(.type "type"),none,.cls {name:="LatticeError",bases:=[(.type "ValueError")],mro:=[(.ref 31),(.type "ValueError"),(.type "Exception"),(.type "BaseException"),(.type "object")],ns:=30,qualname:="LatticeError",hasDict:=true,subclasses:=[(.ref 44),(.ref 56),(.ref 75)],abstract:=false,hasDel:=false},#[(some (.ref 22)),none,(some (.str "LatticeError" 196)),(some (.str "LatticeError" 204)),(some (.builtin "ValueError.__new__")),(some (.bool true))]⟩),
 Hd.k 43 (Hd.no P 2 [Hd.e "__module__" 221 (.str "latticeworks.errors" 194),Hd.e "__firstlineno__" 225 (.int (7) 224),Hd.e "__static_attributes__" 226 (.ref 42),Hd.e "__doc__" 227 .none]),
 Hd.k 44 (⟨(.type "type"),none,.cls {name:="NoSteps",bases:=[(.ref 31)],mro:=[(.ref 44),(.ref 31),(.type "ValueError"),(.type "Exception"),(.type "BaseException"),(.type "object")],ns:=43,qualname:="NoSteps",hasDict:=true,subclasses:=[],abstract:=false,hasDel:=false},#[(some (.ref 35)),none,(some (.str "NoSteps" 214)),(some (.str "NoSteps" 222)),(some (.builtin "ValueError.__new__")),(some (.bool true))]⟩),
 Hd.k 55 (Hd.no P 2 [Hd.e "__module__" 237 (.str "latticeworks.errors" 194),Hd.e "__firstlineno__" 241 (.int (9) 240),Hd.e "__static_attributes__" 242 (.ref 54),Hd.e "__doc__" 243 .none]),
 Hd.k 56 (⟨(.type "type"),none,.cls {name:="TooMany",bases:=[(.ref 31)],mro:=[(.ref 56),(.ref 31),(.type "ValueError"),(.type "Exception"),(.type "BaseException"),(.type "object")],ns:=55,qualname:="TooMany",hasDict:=true,subclasses:=[],abstract:=false,hasDel:=false},#[(some (.ref 47)),none,(some (.str "TooMany" 230)),(some (.str "TooMany" 238)),(some (.builtin "ValueError.__new__")),(some (.bool true))]⟩),
 Hd.k 74 (Hd.no P 2 [Hd.e "__module__" 253 (.str "latticeworks.errors" 194),Hd.e "__firstlineno__" 257 (.int (11) 256),Hd.e "__init__" 265 (.ref 72),Hd.e "__static_attributes__" 267 (.ref 73),Hd.e "__doc__" 268 .none]),
 Hd.k 75 (⟨(.type "type"),none,.cls {name:="NoSheet",bases:=[(.ref 31)],mro:=[(.ref 75),(.ref 31),(.type "ValueError"),(.type "Exception"),(.type "BaseException"),(.type "object")],ns:=74,qualname:="NoSheet",hasDict:=true,subclasses:=[],abstract:=false,hasDel:=false},#[(some (.ref 59)),none,(some (.str "NoSheet" 246)),(some (.str "NoSheet" 254)),(some (.builtin "ValueError.__new__")),(some (.bool true))]⟩),
 Hd.k 83 (Hd.co "is_number" "is_number" 273 17 1 78 79 (.ref 80) (.ref 81) 82 277 278),
 Hd.k 84 (Hd.fq ff "is_number" "is_number" ma 83),
 Hd.k 90 (Hd.co "is_listed" "is_listed" 280 19 1 85 86 (.ref 87) (.ref 88) 89 284 285),
 Hd.k 91 (Hd.fq fh "is_listed" "is_listed" ma 90),
 Hd.k 97 (Hd.co "is_listed_of" "is_listed_of" 287 21 2 92 93 (.ref 94) (.ref 95) 96 292 293),
 Hd.k 98 (Hd.fq dw "is_listed_of" "is_listed_of" ma 97),
 Hd.k 102 (Hd.co "are_numbers" "are_numbers" 295 23 2 99 100 .none .none 101 298 299),
 Hd.k 103 (Hd.fq c9 "are_numbers" "are_numbers" ma 102),
 Hd.k 142 (Hd.co "as_rows" "as_rows" 349 46 1 139 140 .none .none 141 352 353),
 Hd.k 143 (Hd.fq fG "as_rows" "as_rows" df 142),
 Hd.k 147 (Hd.co "added" "added" 355 48 3 144 145 .none .none 146 358 359),
 Hd.k 148 (Hd.fq g6 "added" "added" df 147),
 Hd.k 154 (Hd.co "sum_by" "sum_by" 361 50 3 149 150 (.ref 151) (.ref 152) 153 370 371),
 Hd.k 155 (Hd.fq g7 "sum_by" "sum_by" df 154),
 Hd.k 159 (Hd.co "product" "product" 373 55 2 156 157 .none .none 158 376 377),
 Hd.k 160 (Hd.fq fy "product" "product" df 159),
 Hd.k 174 (Hd.co "unit_row" "unit_row" 391 62 2 171 172 .none .none 173 394 395),
 Hd.k 175 (Hd.fq e8 "unit_row" "unit_row" df 174),
 Hd.k 179 (Hd.co "unit_rows" "unit_rows" 397 64 1 176 177 .none .none 178 400 401),
 Hd.k 180 (Hd.fq d4 "unit_rows" "unit_rows" df 179),
 Hd.k 184 (Hd.co "dot" "dot" 403 66 2 181 182 .none .none 183 406 407),
 Hd.k 185 (Hd.fq lZ "dot" "dot" df 184),
 Hd.k 189 (Hd.co "is_rows" "is_rows" 409 68 3 186 187 .none .none 188 412 413),
 Hd.k 190 (Hd.fq fE "is_rows" "is_rows" df 189),
 Hd.k 196 (Hd.co "are_back" "are_back" 415 74 2 191 192 (.ref 193) (.ref 194) 195 421 422),
 Hd.k 197 (Hd.fq fU "are_back" "are_back" df 196),
 Hd.k 203 (Hd.co "is_turn_of" "is_turn_of" 424 81 3 198 199 (.ref 200) (.ref 201) 202 430 431),
 Hd.k 204 (Hd.fq eK "is_turn_of" "is_turn_of" df 203),
 Hd.k 210 (Hd.co "are_turned" "are_turned" 433 83 4 205 206 (.ref 207) (.ref 208) 209 441 442),
 Hd.k 211 (Hd.fq eE "are_turned" "are_turned" df 210),
 Hd.k 217 (Hd.co "cleared" "cleared" 446 89 4 212 213 (.ref 214) (.ref 215) 216 457 458),
 Hd.k 218 (Hd.fq gD "cleared" "cleared" mf 217),
 Hd.k 224 (Hd.co "line_of" "line_of" 460 95 3 219 220 (.ref 221) (.ref 222) 223 469 470),
 Hd.k 225 (Hd.fq gF "line_of" "line_of" mf 224),
 Hd.k 231 (Hd.co "table_of" "table_of" 472 101 1 226 227 (.ref 228) (.ref 229) 230 479 480),
 Hd.k 232 (Hd.fq fN "table_of" "table_of" mf 231),
 Hd.k 246 (Hd.co "shares" "shares" 494 114 1 243 244 .none .none 245 497 498),
 Hd.k 247 (Hd.fq hU "shares" "shares" mf 246),
 Hd.k 272 (Hd.co "__init__" "Bench.__init__" 532 127 2 269 270 .none .none 271 535 536),
 Hd.k 273 (Hd.fq bM "__init__" "Bench.__init__" Ff 272),
 Hd.k 317 (Hd.no P 4 [Hd.e "__module__" 527 (.str "latticeworks.standing" 500),Hd.e "__firstlineno__" 531 (.int (125) 530),Hd.e "__init__" 537 (.ref 273),Hd.e "take" 547 (.ref 280),Hd.e "exchange" 556 (.ref 287),Hd.e "change_sign" 564 (.ref 294),Hd.e "live_rows" 573 (.ref 301),Hd.e "gather" 582 (.ref 308),Hd.e "lower_above" 591 (.ref 315),Hd.e "__static_attributes__" 595 (.ref 316),Hd.e "__dict__" 597 (.ref 319),Hd.e "__weakref__" 599 (.ref 320),Hd.e "__doc__" 600 .none]),
 Hd.k 318 (⟨(.type "type"),none,.cls {name:="Bench",bases:=[(.type "object")],mro:=[(.ref 318),(.type "object")],ns:=317,qualname:="Bench",hasDict:=true,subclasses:=[],abstract:=false,hasDel:=false},#[none,none,(some (.str "Bench" 520)),(some (.str "Bench" 528)),(some (.builtin "object.__new__")),(some (.bool true))]⟩),
 Hd.k 340 (Hd.co "is_short" "is_short" 621 158 1 337 338 .none .none 339 624 625),
 Hd.k 341 (Hd.fq fM "is_short" "is_short" mq 340),
 Hd.k 354 (Hd.co "__init__" "Stairs.__init__" 639 167 2 349 350 (.ref 351) (.ref 352) 353 644 645),
 Hd.k 355 (Hd.fq cE "__init__" "Stairs.__init__" mq 354),
 Hd.k 392 (Hd.no P 4 [Hd.e "__module__" 634 (.str "latticeworks.short" 603),Hd.e "__firstlineno__" 638 (.int (165) 637),Hd.e "__init__" 646 (.ref 355),Hd.e "last_of" 654 (.ref 362),Hd.e "lessen" 665 (.ref 369),Hd.e "is_steep" 675 (.ref 376),Hd.e "swap" 692 (.ref 383),Hd.e "shorten" 701 (.ref 390),Hd.e "__static_attributes__" 704 (.ref 391),Hd.e "__dict__" 706 (.ref 394),Hd.e "__weakref__" 708 (.ref 395),Hd.e "__doc__" 709 .none]),
 Hd.k 393 (⟨(.type "type"),none,.cls {name:="Stairs",bases:=[(.type "object")],mro:=[(.ref 393),(.type "object")],ns:=392,qualname:="Stairs",hasDict:=true,subclasses:=[],abstract:=false,hasDel:=false},#[none,none,(some (.str "Stairs" 627)),(some (.str "Stairs" 635)),(some (.builtin "object.__new__")),(some (.bool true))]⟩),
 Hd.k 403 (Hd.co "short" "short" 712 213 1 398 399 (.ref 400) (.ref 401) 402 718 719),
 Hd.k 404 (Hd.fq jC "short" "short" mq 403),
 Hd.k 410 (Hd.co "shows_short" "shows_short" 721 218 2 405 406 (.ref 407) (.ref 408) 409 726 727),
 Hd.k 411 (Hd.fq dR "shows_short" "shows_short" mq 410),
 Hd.k 417 (Hd.co "_law_at" "_law_at" 731 226 2 412 413 (.ref 414) (.ref 415) 416 736 737),
 Hd.k 418 (Hd.fq iF "_law_at" "_law_at" el 417),
 Hd.k 424 (Hd.co "_law_left" "_law_left" 739 230 2 419 420 (.ref 421) (.ref 422) 423 748 749),
 Hd.k 425 (Hd.fq fK "_law_left" "_law_left" el 424),
 Hd.k 431 (Hd.co "_law_digit" "_law_digit" 751 240 2 426 427 (.ref 428) (.ref 429) 430 757 758),
 Hd.k 432 (Hd.fq e_ "_law_digit" "_law_digit" el 431),
 Hd.k 438 (Hd.co "_law_number" "_law_number" 760 244 2 433 434 (.ref 435) (.ref 436) 437 766 767),
 Hd.k 439 (Hd.fq eO "_law_number" "_law_number" el 438),
 Hd.k 443 (Hd.co "_law_rows" "_law_rows" 769 251 4 440 441 .none .none 442 772 773),
 Hd.k 444 (Hd.fq eZ "_law_rows" "_law_rows" el 443),
 Hd.k 448 (Hd.co "_law_unit" "_law_unit" 775 253 1 445 446 .none .none 447 778 779),
 Hd.k 449 (Hd.fq eX "_law_unit" "_law_unit" el 448),
 Hd.k 453 (Hd.co "_law_no_steps" "_law_no_steps" 781 255 1 450 451 .none .none 452 784 785),
 Hd.k 454 (Hd.fq bN "_law_no_steps" "_law_no_steps" el 453),
 Hd.k 460 (Hd.co "_law_refusal" "_law_refusal" 787 277 2 455 456 (.ref 457) (.ref 458) 459 794 795),
 Hd.k 461 (Hd.fq dS "_law_refusal" "_law_refusal" el 460),
 Hd.k 465 (Hd.co "law" "law" 797 286 1 462 463 .none .none 464 800 801),
 Hd.k 466 (Hd.fq iU "law" "law" el 465)]
def KA:List Addr:=[3,30,31,43,44,55,56,74,75,83,84,90,91,97,98,102,103,142,143,147,148,154,155,159,160,174,175,179,180,184,185,189,190,196,197,203,204,210,211,217,218,224,225,231,232,246,247,272,273,317,318,340,341,354,355,392,393,403,404,410,411,417,418,424,425,431,432,438,439,443,444,448,449,453,454,460,461,465,466]
set_option maxHeartbeats 0 in
theorem left:PySem.W.LeftO PW (PySem.W.view PW [0,2,3,4,5,7,8,9,10,12,13,14,15,16,18,19,20,21,22,23,24,25,26,27,28,29,30,32,33,34,35,36,37,39,40,41,43,44,45,46,47,48,50,51,52,53,54,55,56,57,58]) [] (fun _=>true) (PySem.W.kmHook Row.KX Row.KA (fun _=>rfl) []).obs (PySem.W.kmHook Row.KX Row.KA (fun _=>rfl) []).val 6238:=
 Hd.left (by kernel_rfl) (fun s=>by kernel_rfl) rfl fun w os=>by kernel_rfl
end Row
namespace L3
open PySem PySem.Spec PyProof.Rows L2
section
variable {prog:Program}{w:World}{A:Around}{R:Result->Shared->Prop}{s:Shared}
theorem vn{elt target iter:Expr}{ifs:List Expr}{scope:Scope}{pos:Pos}{it acc:Value}{env:Env}(I:Nat->Shared->Prop)
 (turn:∀n s,I n s->wpAny (model prog w) A (pyNext it) (fun r s₁=>match r with
   |none=>R (.ok .next) s₁
   |some v=>wpAny (model prog w) A (letOwnedTupleGo target it v) (fun _ s₀=>wpAny (model prog w) A (assign target env v) (fun _ s₂=>
     wpAny (model prog w) A (forIn ifs true fun c r=>if r=true then do let ok <-isTrue c env (eval c env);pure (ForInStep.yield ok)else pure (ForInStep.yield r)) (fun ok s₃=>
      if ok=true then wpAny (model prog w) A (eval elt env) (fun x s₄=>
       wpAny (model prog w) A (call (.builtin "list.append") [acc,x]) (fun _ s₅=>∃m,m<n/\I m s₅) (fun _ _=>False) s₄) (fun _ _=>False) s₃
      else∃m,m<n/\I m s₃) (fun _ _=>False) s₂) (fun _ _=>False) s₀) (fun _ _=>False) s₁) (fun _ _=>False) s)
 (n:Nat) (h:I n s):
 codeAny (model prog w) A (.compLoop (.ListComp elt [⟨target,iter,ifs,0⟩] scope pos) 0 it acc env) R s:=by
 refine codeAny_loop rfl I (fun n s hI=>?_) n h;show wpAny _ A ((compTurn (.ListComp elt [⟨target,iter,ifs,0⟩] scope pos) 0 it acc env).onRaise (fun x=>do noteFrame x env;theTreesLotGoes x)) _ _ s;refine wpAny_noted ?_;rw[compTurn_list];refine wpAny_bind (wpAny_standAt (wpAny_bind (wpAny_mono (turn n s hI) (fun r s₁ h₁=>?_) fun _ _ h'=>h'.elim)));cases r with
 |none=>exact wpAny_pure h₁
 |some v=>
  refine wpAny_bind (wpAny_mono h₁ (fun _ s₀ h₀=>?_) fun _ _ h'=>h'.elim);refine wpAny_bind (wpAny_mono h₀ (fun _ s₂ h₂=>wpAny_bind (wpAny_mono h₂ (fun ok s₃ h₃=>?_) fun _ _ h'=>h'.elim)) fun _ _ h'=>h'.elim);cases ok with
  |false=>exact wpAny_pure ⟨rfl,h₃⟩
  |true=>
   exact wpAny_bind (wpAny_bind (wpAny_mono h₃ (fun x s₄ h₄=>wpAny_bind (wpAny_mono h₄ (fun _ s₅ h₅=>wpAny_pure (wpAny_pure ⟨rfl,h₅⟩)) fun _ _ h'=>h'.elim)) fun _ _ h'=>h'.elim))
end
def cX(cells:List (Str×Addr)):List (Str×NameKind)->List (Str×Addr)->List (Str×Addr)
 | [],acc=>acc
 |(n,k)::r,acc=>if k== .free then(match cells.lookup n with|some c=>cX cells r ((n,c)::acc)|none=>cX cells r acc)else cX cells r acc
theorem cP{cells:List (Str×Addr)}:∀(names:List (Str×NameKind)) (acc:List (Str×Addr)),(∀x c,acc.lookup x=some c->cells.lookup x=some c)->
 ∀x c,(cX cells names acc).lookup x=some c->cells.lookup x=some c
 | [],acc,h,x,c,e=>h x c e
 |(n,k)::r,acc,h,x,c,e=>by
  unfold cX at e;split at e
  . split at e
    . rename_i d q;refine cP r _ (fun y b e'=>?_) x c e;rw[List.lookup_cons]at e';split at e'
      . rename_i z;cases e';have z':y=n:=by simpa using z
        rw[z'];exact q
      . exact h y b e'
    . exact cP r _ h x c e
  . exact cP r _ h x c e
theorem iZ{cells:List (Str×Addr)}{x:Str}:∀(names:List (Str×NameKind)) (acc:List (Str×Addr)),(∃c,cells.lookup x=some c)->((x,NameKind.free)∈names\/∃c,acc.lookup x=some c)->
 ∃c,(cX cells names acc).lookup x=some c
 | [],acc,_,h=>by
   rcases h with h|h
   . simp at h
   . exact h
 |(n,k)::r,acc,hc,h=>by
  unfold cX;split
  . rename_i hk;split
    . rename_i d q;refine iZ r _ hc ?_;rcases h with h|⟨c,h⟩
      . rcases List.mem_cons.mp h with e|e
        . cases e;exact .inr ⟨d,by simp[List.lookup_cons]⟩
        . exact .inl e
      . refine .inr ?_;rw[List.lookup_cons];split
        . exact⟨_,rfl⟩
        . exact⟨c,h⟩
    . rename_i q;refine iZ r _ hc ?_;rcases h with h|h
      . rcases List.mem_cons.mp h with e|e
        . cases e;obtain⟨c,hc⟩:=hc;rw[hc]at q;cases q
        . exact .inl e
      . exact .inr h
  . rename_i hk;refine iZ r _ hc ?_;rcases h with h|h
    . rcases List.mem_cons.mp h with e|e
      . cases e;exact absurd rfl hk
      . exact .inl e
    . exact .inr h
theorem md{scope:Scope}{env:Env}(h:∀x∈scope.names,x.2= .free->∃c,env.cells.lookup x.1=some c):closureFor scope env=pure (cX env.cells scope.names []):=by
 have key:∀(names:List (Str×NameKind)) (acc:List (Str×Addr)),(∀x∈names,x.2= .free->∃c,env.cells.lookup x.1=some c)->
  (forIn names acc (fun(x:Str×NameKind) (cs:List (Str×Addr))=>if(x.2==NameKind.free)=true then(do let a <-cellOf env x.1;pure (ForInStep.yield ((x.1,a)::cs)):Sem (ForInStep (List (Str×Addr))))else pure (ForInStep.yield cs)))=(pure (cX env.cells names acc):Sem (List (Str×Addr))):=by
  intro names;induction names with
  |nil=>intro acc _;rfl
  |cons p r ih=>
   intro acc hh;obtain⟨n,k⟩:=p;rw[List.forIn_cons];have ih':=ih;by_cases hk:(k==NameKind.free)=true
   . obtain⟨c,e⟩:=hh (n,k) List.mem_cons_self (by simpa using hk);simp only[hk,if_true]
     have e1:cellOf env n=pure c:=by
      unfold cellOf;rw[e]
     rw[e1];simp only[pure_bind];rw[ih _ fun x hx=>hh x (List.mem_cons_of_mem _ hx)];conv=>rhs;unfold cX
     simp only[hk,if_true];rw[show env.cells.lookup n=some c from e]
   . have hk':(k==NameKind.free)=false:=by simpa using hk
     simp only[hk',Bool.false_eq_true,if_false,pure_bind];rw[ih _ fun x hx=>hh x (List.mem_cons_of_mem _ hx)];conv=>rhs;unfold cX
     simp only[hk',Bool.false_eq_true,if_false]
 unfold closureFor;have:=key scope.names [] h;rw[bind_pure]
 first
  |exact this
  |(simp only[bind_pure]at this⊢;exact this)
end L3
namespace L3
open PySem PySem.Spec L2
open PyProof.Rows hiding St
theorem fR(env:Env):∀(names:List (Str×NameKind)) (x:Str),
 (names.map fun(n,k)=>if(k==NameKind.free&&env.scope.kind== .function&&env.kindOf n==some .cell)then(n,NameKind.cell)else(n,k)).lookup x=
   (names.lookup x).map fun k=>if(k==NameKind.free&&env.scope.kind== .function&&env.kindOf x==some .cell)then NameKind.cell else k
 | [],_=>rfl
 |(n,k)::r,x=>by
  show List.lookup x ((if(k==NameKind.free&&env.scope.kind== .function&&env.kindOf n==some .cell)=true then(n,NameKind.cell)else(n,k))::_)=_;cases hx:x==n with
  |true=>
   have e:x=n:=by simpa using hx
   subst e;by_cases hc:(k==NameKind.free&&env.scope.kind== .function&&env.kindOf x==some .cell)=true
   . rw[if_pos hc];simp only[List.lookup_cons,beq_self_eq_true,Option.map_some];rw[if_pos hc]
   . rw[if_neg hc];simp only[List.lookup_cons,beq_self_eq_true,Option.map_some];rw[if_neg hc]
  |false=>
   by_cases hc:(k==NameKind.free&&env.scope.kind== .function&&env.kindOf n==some .cell)=true
   . rw[if_pos hc];simp only[List.lookup_cons,hx];exact fR env r x
   . rw[if_neg hc];simp only[List.lookup_cons,hx];exact fR env r x
theorem tX{env:Env}{scope:Scope}{x:Str}(h:scope.names.lookup x=some .free):(relabel scope env).names.lookup x=some .cell\/(relabel scope env).names.lookup x=some .free:=by
 have e:(relabel scope env).names.lookup x=_:=fR env scope.names x;rw[e,h];simp only[Option.map_some];split
 . exact .inl rfl
 . exact .inr rfl
theorem tJ{env:Env}{scope:Scope}{x:Str}(h:(relabel scope env).names.lookup x=some .cell\/(relabel scope env).names.lookup x=some .free):(x,NameKind.free)∈scope.names\/scope.names.lookup x=some .cell:=by
 have e:(relabel scope env).names.lookup x=_:=fR env scope.names x;rw[e]at h;cases q:scope.names.lookup x with
 |none=>rw[q]at h;rcases h with h|h<;>cases h
 |some k=>
  rw[q]at h;simp only[Option.map_some]at h;have m:=PySem.mem_of_lookup q;by_cases hc:(k==NameKind.free&&env.scope.kind== .function&&env.kindOf x==some .cell)=true
  . have:k= .free:=by
     simp only[Bool.and_eq_true]at hc;simpa using hc.1.1
    subst this;exact .inl m
  . rw[if_neg hc]at h;rcases h with h|h
    . cases h;exact .inr rfl
    . cases h;exact .inl m
theorem dW:∀(names:List (Str×NameKind)) (L:Nat) (acc:List (Str×Addr)),cellsFrom L names acc=cellsFrom L names []++acc
 | [],_,_=>rfl
 |(n,k)::r,L,acc=>by
  unfold cellsFrom;by_cases hk:(k==NameKind.cell)=true
  . rw[if_pos hk,if_pos hk,dW r (L+1) ((n,L)::acc),dW r (L+1) [(n,L)],List.append_assoc];rfl
  . rw[if_neg hk,if_neg hk];exact dW r L acc
theorem mZ:∀ {names:List (Str×NameKind)} {L:Nat} {x:Str} {c:Addr},(x,c)∈cellsFrom L names []->(x,NameKind.cell)∈names
 | [],_,_,_,h=>by unfold cellsFrom at h;cases h
 |(n,k)::r,L,x,c,h=>by
  unfold cellsFrom at h;by_cases hk:(k==NameKind.cell)=true
  . rw[if_pos hk,dW]at h;have hk':k= .cell:=by simpa using hk
    subst hk';rcases List.mem_append.mp h with h|h
    . exact List.mem_cons_of_mem _ (mZ h)
    . have:(x,c)=(n,L):=by simpa using h
      cases this;exact List.mem_cons_self
  . rw[if_neg hk]at h;exact List.mem_cons_of_mem _ (mZ h)
theorem k_:∀ {l1 l2:List (Str×Addr)} {x:Str} {c:Addr},(l1++l2).lookup x=some c->l1.lookup x=some c\/(l1.lookup x=none/\l2.lookup x=some c)
 | [],_,_,_,h=> .inr ⟨rfl,h⟩
 |(n,d)::l1,l2,x,c,h=>by
  rw[List.cons_append,List.lookup_cons]at h;rw[List.lookup_cons];cases hx:x==n with
  |true=>rw[hx]at h;exact .inl h
  |false=>rw[hx]at h;exact k_ h
theorem oz:∀ {l1 l2:List (Str×Addr)} {x:Str},l1.lookup x=none->(l1++l2).lookup x=l2.lookup x
 | [],_,_,_=>rfl
 |(n,d)::l1,l2,x,h=>by
  rw[List.lookup_cons]at h;rw[List.cons_append,List.lookup_cons];cases hx:x==n with
  |true=>rw[hx]at h;cases h
  |false=>rw[hx]at h;exact oz h
def i7(scope:Scope)(C:Addr)(cl:List (Str×Addr)):List (Str×Addr):=cellsFrom (C+1) scope.names cl
theorem fF{scope:Scope}{C:Addr}{cl:List (Str×Addr)}{x:Str}{c:Addr}(h:(i7 scope C cl).lookup x=some c):(x,c)∈cellsFrom (C+1) scope.names []\/cl.lookup x=some c:=by
 unfold i7 at h;rw[dW]at h;rcases k_ h with h|h
 . exact .inl (PySem.mem_of_lookup h)
 . exact .inr h.2
theorem FH(names:List (Str×NameKind))(h:Heap){C:Addr}(e:h.objs.size=C+1):CellsOk (pushCells h names) (C+1) (cellsFrom (C+1) names []):=by
 have:=cellsFrom_ok names h (C+1) [] ⟨fun _ _ hm=>(nomatch hm),List.Pairwise.nil⟩ (by rw[e];exact Nat.le_refl _);rw[e]at this;exact this
theorem j4{names:List (Str×NameKind)}{C:Addr}{x:Str}{c:Addr}:∀ {L:Nat},C<=L->(x,c)∈cellsFrom L names []->C<=c:=by
 induction names with
 |nil=>intro L _ h;unfold cellsFrom at h;cases h
 |cons p r ih=>
  obtain⟨n,k⟩:=p;intro L hL h;unfold cellsFrom at h;by_cases hk:(k==NameKind.cell)=true
  . rw[if_pos hk,dW]at h;rcases List.mem_append.mp h with h|h
    . exact ih (Nat.le_trans hL (Nat.le_succ L)) h
    . have:(x,c)=(n,L):=by simpa using h
      cases this;exact hL
  . rw[if_neg hk]at h;exact ih hL h
theorem own_apart{names:List (Str×NameKind)}{x y:Str}{c:Addr}:∀ {L:Nat},(x,c)∈cellsFrom L names []->(y,c)∈cellsFrom L names []->x=y:=by
 induction names with
 |nil=>intro L h;unfold cellsFrom at h;cases h
 |cons p r ih=>
  obtain⟨n,k⟩:=p;intro L h1 h2;unfold cellsFrom at h1 h2;by_cases hk:(k==NameKind.cell)=true
  . rw[if_pos hk,dW]at h1 h2;rcases List.mem_append.mp h1 with g1|g1<;>rcases List.mem_append.mp h2 with g2|g2
    . exact ih g1 g2
    . have e2:(y,c)=(n,L):=by simpa using g2
      have ec:c=L:=(Prod.mk.inj e2).2;have:=j4 (C:=L+1) (Nat.le_refl _) g1;rw[ec]at this;exact absurd this (Nat.not_succ_le_self _)
    . have e1:(x,c)=(n,L):=by simpa using g1
      have ec:c=L:=(Prod.mk.inj e1).2;have:=j4 (C:=L+1) (Nat.le_refl _) g2;rw[ec]at this;exact absurd this (Nat.not_succ_le_self _)
    . have e1:(x,c)=(n,L):=by simpa using g1
      have e2:(y,c)=(n,L):=by simpa using g2
      exact(Prod.mk.inj e1).1.trans (Prod.mk.inj e2).1.symm
  . rw[if_neg hk]at h1 h2;exact ih h1 h2
theorem oZ{M:Model}{A:Around}{E:Value->Shared->Prop}{s:Shared}{scope:Scope}{globals:Addr}{cl:List (Str×Addr)}{qual:Str}{env:Env}{Q:Env->Shared->Prop}
 (hQ:Q (newEnv scope s.heap.objs.size globals (i7 scope s.heap.objs.size cl) qual none .none (some env) builtinsNs) {s with heap:=pushCells (s.heap.push {cls:= .type "dict",data:= .dict #[]}) scope.names}):
 wpAny M A (newFunctionEnv scope globals cl [] qual none .none (some env)) Q E s:=by
 simp only[newFunctionEnv,Option.isSome_some,if_true];refine wpAny_bind (wpAny_alloc ?_);refine wpAny_bind (wpAny_layCells _ (fun name kind cells=>by cases hkc:kind==NameKind.cell<;>simp[hkc]) _ _ _ _ ?_);rw[show({s with heap:=s.heap.push {cls:= .type "dict",data:= .dict #[]}}:Shared).heap.objs.size=s.heap.objs.size+1 from Heap.size_push ..];rw[List.forIn_nil];exact wpAny_bind (wpAny_pure (wpAny_pure hQ))
structure a9(X:Cx)(scope:Scope)(Nc:List Str)(fr:List (Option Nat)):Prop where
 kind:scope.kind= .function
 cells:∀x∈scope.names,x.2= .cell->scope.names.lookup x.1=some .cell
 names:∀x∈scope.names,x.2= .local->scope.names.lookup x.1=some .local
 free:∀x∈scope.names,x.2= .free->X.env.kindOf x.1=some .cell\/X.env.kindOf x.1=some .free
 len:fr.length=Nc.length
 map:∀(i j:Nat) (x:Str),Nc[i]?=some x->fr[i]?=some (some j)->X.N[j]?=some x/\scope.names.lookup x=some .free/\(X.env.kindOf x=some .cell\/X.env.kindOf x=some .free)
def σC(fr:List (Option Nat))(σ:St):St:=fr.map fun o=>o.bind fun j=>(σ[j]?).join
def dH(X:Cx)(scope:Scope)(Nc:List Str)(C:Addr)(s:Shared)(H:Hp)(ex:List Addr):Cx:=
 {X with N:=Nc,s₀:=s,H₀:=H,env:=compEnvC scope (i7 scope C (cX X.env.cells scope.names [])) C X.env,outer:=X.stack,stack:=X.stack,ex:=ex,fn:=fun x=>scope.names.lookup x==some .cell,pn:=[],xe:=fun _ _=>False}
def pK(wi:TI)(fr:List (Option Nat))(g:TG)(c:TT)(te:TE):TE:=fun σ H Q=>wi σ H fun J H1=>∀l,H1 l=none->
 ∃W:Nat->Nat->L2.St->Hp->Prop,(∃m,W 0 m (σC fr σ) (upd H1 l (.lst [])))/\∀i m σ H,W i m σ H->
  (J.stop i H/\Q (.ref l) H)\/(J.go i H/\∃N:L2.St->Hp->Prop,(∀σ' H',N σ' H'->∃m',m'<m/\W (i+1) m' σ' H')/\∀x H',J.kh i H x H'->
    g x σ H' fun σ2 H2=>c σ2 H2 fun b H3=>if b=true then te σ2 H3 fun y H4=>∃ys,H4 l=some (.lst ys)/\ys.length<sizeLine/\N σ2 (upd H4 l (.lst (ys++[y])))else N σ2 H3)
def pH(X:Cx)(ifs:List Expr)(t:TT):Prop:=
 ∀(pins:List (Addr×Obj)) (s:Shared) (σ:St) (H:Hp) (Q:Bool->Hp->Prop),Inv X pins σ H s->t σ H Q->
  wpAny (model X.prog X.w) X.A (forIn ifs true fun c r=>if r=true then do let ok <-isTrue c X.env (eval c X.env);pure (ForInStep.yield ok)else pure (ForInStep.yield r)) (TP X pins σ Q) X.xe s
def FX:TT:=fun _ H Q=>Q true H
theorem CT{X:Cx}:pH X [] FX:=fun _ _ _ H _ I h=>wpAny_tests_nil ⟨H,I,h⟩
section
variable {X:Cx}{scope:Scope}{Nc:List Str}{fr:List (Option Nat)}{pins:List (Addr×Obj)}{σ:St}{H:Hp}{s:Shared}
theorem EX{C:Addr}{fp:List Addr}(S:a9 X scope Nc fr)(I:Inv X pins σ H s)(hC:C=s.heap.objs.size)(hf:∀b∈fp,iq X pins H b)(hlt:∀b∈fp,b<s.heap.objs.size)(hnc:∀b∈fp,∀x c,X.env.cells.lookup x=some c->c≠b):
 (dH X scope Nc C s H fp).Ok where
 mod:=I.ok.mod
 kind:=S.kind
 glob:=I.ok.glob
 blt:=I.ok.blt
 above:=Nat.le_of_eq hC.symm
 inj:=fun x y c h1 h2=>by
  have low:∀ {z},(cX X.env.cells scope.names []).lookup z=some c->c<s.heap.objs.size:=fun{z} hz=>by
   obtain⟨v,q⟩:=I.cell z c (cP _ [] (fun _ _ e=>by cases e) z c hz);exact q.lt
  rcases fF h1 with h1|h1<;>rcases fF h2 with h2|h2
  . exact own_apart h1 h2
  . have a:=j4 (C:=C+1) (Nat.le_refl _) h1;have b:c<C:=by rw[hC];exact low h2
    exact absurd a (Nat.not_le_of_gt (Nat.lt_succ_of_lt b))
  . have a:=j4 (C:=C+1) (Nat.le_refl _) h2;have b:c<C:=by rw[hC];exact low h1
    exact absurd a (Nat.not_le_of_gt (Nat.lt_succ_of_lt b))
  . exact I.ok.inj x y c (cP _ [] (fun _ _ e=>by cases e) x c h1) (cP _ [] (fun _ _ e=>by cases e) y c h2)
 has:=fun x hx=>by
  rcases tJ hx with m|m
  . obtain⟨c,e⟩:=iZ scope.names [] (I.ok.has x (S.free _ m rfl)) (.inl m);exact Option.isSome_iff_exists.mp (PySem.W.cellsFrom_some _ _ _ (.inr (by rw[e];rfl)))
  . exact Option.isSome_iff_exists.mp (PySem.W.cellsFrom_some _ _ _ (.inl m))
 ui:=fun x c hf h=>by
  have hl:scope.names.lookup x=some .cell:=by
   have:(scope.names.lookup x==some .cell)=true:=hf;simpa using this
  obtain⟨c',e⟩:=Option.isSome_iff_exists.mp (PySem.W.cellsFrom_some (x:=x) scope.names (C+1) [] (.inl hl))
  have h':(cellsFrom (C+1) scope.names []++cX X.env.cells scope.names []).lookup x=some c:=by
   rw[<-dW];exact h
  rcases k_ h' with q|q
  . have:=j4 (C:=C+1) (Nat.le_refl _) (PySem.mem_of_lookup q);show s.heap.objs.size<=c;rw[<-hC];exact Nat.le_of_succ_le this
  . rw[q.1]at e;cases e
 hd:=I.ok.hd
 frames:=I.ok.frames
 wy:= .inl rfl
 y9:=fun b hb=>⟨by rw[show(dH X scope Nc C s H fp).env.locals=s.heap.objs.size from hC];exact Nat.ne_of_lt (hlt b hb),fun x c h=>by
  rcases fF h with h|h
  . have a:=j4 (C:=C+1) (Nat.le_refl _) h;have b':b<C:=by rw[hC];exact hlt b hb
    exact Nat.ne_of_gt (Nat.lt_of_lt_of_le b' (Nat.le_of_succ_le a))
  . exact hnc b hb x c (cP _ [] (fun _ _ e=>by cases e) x c h)⟩
 bs:=I.bs
 oG:=Nat.le_trans I.ok.oG I.sz
 pq:=fun b o e hb=>by
  have hn:=(hf b hb).2.2.2.1;rcases hn with hn|hn
  . exact I.ok.pq b o e hn
  . exact absurd (Heap.lt_size (I.ok.bs b o e).1) (Nat.not_lt.mpr hn)
 oU:=fun b hb z=>by
  have q:=I.ua b z;rcases List.mem_cons.mp q with q|q
  . exact(hf b hb).2.1 q
  . exact(hf b hb).2.2.1 q
 fX:=I.stack
 mX:=fun b hb=>I.kP b hb
 gt:=I.ok.gt
theorem C8{i:Nat}{v:V}(h:(σC fr σ)[i]?=some (some v)):∃j,fr[i]?=some (some j)/\σ[j]?=some (some v):=by
 unfold σC at h;rw[List.getElem?_map]at h;cases q:fr[i]? with
 |none=>rw[q]at h;cases h
 |some o=>
  rw[q]at h;cases o with
  |none=>simp at h
  |some j=>
   simp only[Option.map_some,Option.some.injEq,Option.bind_some]at h;refine⟨j,rfl,?_⟩;cases r:σ[j]? with
   |none=>rw[r]at h;cases h
   |some u=>rw[r]at h;simp at h;rw[h]
theorem Aa{s':Shared}{h':Heap}{C:Addr}{fp:List Addr}{t':Nat}(S:a9 X scope Nc fr)(I:Inv X pins σ H s)(hC:C=s.heap.objs.size)(ok:(dH X scope Nc C s H fp).Ok)(hfr:∀b∈fp,H b=none)
 (k:∀b o,s.heap.get? b=some o->h'.get? b=some o) (hn:h'.Ns C (fun _=>none)) (hcs:∀x c,(x,c)∈cellsFrom (C+1) scope.names []->h'.IsCell c none):Inv (dH X scope Nc C s H fp) [] (σC fr σ) H {s with heap:=h',toks:=t'} where
 ok:=ok
 os:=rfl
 bare:=I.bare
 base:=Un.kept k
 loc:=⟨_,hn,fun i x v h1 h2 h3=>by
  obtain⟨j,q1,q2⟩:=C8 h2;obtain⟨n1,n2,n3⟩:=S.map i j x h1 q1;obtain⟨m,hm,hl⟩:=I.loc
  have vis:pF X.env.scope x:=by
   rcases n3 with z|z
   . exact .inr (.inl z)
   . exact .inr (.inr z)
  obtain⟨u,r,lk⟩:=hl j x v n1 q2 vis;refine⟨u,r,?_⟩;rcases lk with⟨z,_⟩|⟨z,c,e,ic⟩
  . rcases n3 with y|y
    . rw[y]at z;cases z
    . rw[y]at z;cases z
  . refine .inr ⟨tX n2,?_⟩;obtain⟨c',e'⟩:=iZ scope.names [] ⟨c,e⟩ (.inl (PySem.mem_of_lookup n2));have e2:=cP _ [] (fun _ _ e=>by cases e) x c' e';rw[e]at e2;cases e2;refine⟨c,?_,ic.keeps k⟩;show(i7 scope C (cX X.env.cells scope.names [])).lookup x=some c;unfold i7;rw[dW,oz ?_]
    . exact e'
    . cases q:(cellsFrom (C+1) scope.names []).lookup x with
      |none=>rfl
      |some c2=>
       have:=S.cells _ (mZ (PySem.mem_of_lookup q)) rfl;rw[n2]at this;cases this⟩
 cell:=fun x c h=>by
  rcases fF h with h|h
  . exact⟨_,hcs x c h⟩
  obtain⟨v,q⟩:=I.cell x c (cP _ [] (fun _ _ e=>by cases e) x c h);exact⟨v,q.keeps k⟩
 free:=by show H C=none;rw[hC];exact I.aw.fresh (Nat.le_refl _)
 ft:=fun x c h=>by
  rcases fF h with h|h
  . have a:=j4 (C:=C+1) (Nat.le_refl _) h;exact I.aw.fresh (by rw[<-hC];exact Nat.le_of_succ_le a)
  . exact I.ft x c (cP _ [] (fun _ _ e=>by cases e) x c h)
 pin:=fun p hp=>by cases hp
 aw:=I.aw.kept k
 len:=by unfold σC;rw[List.length_map];exact S.len
theorem Inv.forget{C:Addr}{h':Heap}(I:Inv X pins σ H s)(f:iq X pins H C)(hs:Heap.SameBut C s.heap h'):Inv X pins σ H {s with heap:=h'}:=by
 refine I.qi (s':={s with heap:=h'}) (ch:=[C]) rfl ?_ ?_ I.bare fun b hb=>?_
 . have ne:∀b,b∉[C]->b≠C:=fun b hb z=>hb (by simp[z]);exact{keep:=fun b o q _ _ hx=>(hs.2 b (ne b hx)).trans q,slot:=fun b o q _ _ hx=>⟨o.slots,(hs.2 b (ne b hx)).trans q⟩,free:=fun b o q n _=>n,there:=fun b o q hx=>⟨o,(hs.2 b (ne b hx)).trans q⟩,iI:=fun _ _ e=>e,gZ:=fun _ _ _ e=>e,gT:=fun b ps e=>⟨#[],by rw[e];simp⟩}
 . intro a o q;have na:∀b u,H b=some u->b≠C:=fun b u q z=>by rw[z,f.1]at q;cases q
   refine(I.aw a o q).kE (fun b u hb e=>?_) (fun _ q=>q) fun _ _ q=>q;rw[hs.2 b ?_]
   . exact e
   . rcases hb with rfl|hb
     . exact na _ _ q
     . exact na _ _ hb
 . have:b=C:=by simpa using hb
   subst this;exact⟨f.2.2.2.1,f.2.1,f.2.2.2.2.1,f.2.2.2.2.2⟩
theorem qy{elt tg iter:Expr}{ifs:List Expr}{wi:TI}{g:TG}{c:TT}{te:TE}{pos:Pos}{Q:VK}{RR:Value->Addr->Result->Shared->Prop}(hx:X.xe=fun _ _=>False)(hc:X.calm=true)(S:a9 X scope Nc fr)(hi:PI X tg iter wi)
 (hg:∀C s H ex,PG (dH X scope Nc C s H ex) tg g) (ht:∀C s H ex,pH (dH X scope Nc C s H ex) ifs c) (he:∀C s H ex,PE (dH X scope Nc C s H ex) elt te) (I:Inv X pins σ H s) (h:pK wi fr g c te σ H Q)
 (fin:∀(l C:Addr) (s6:Shared) (H5:Hp) (m:Str->Option Value),s6.heap.Ns C m->iq X pins H5 C->Inv X pins σ H5 s6->Q (.ref l) H5->RR (.ref l) C (.ok .next) s6):
 wpAny (model X.prog X.w) X.A (eval iter X.env) (fun x s₁=>wpAny (model X.prog X.w) X.A (pyIter x) (fun it s₂=>wpAny (model X.prog X.w) X.A (newList []) (fun acc s₃=>
  wpAny (model X.prog X.w) X.A (newFunctionEnv scope X.env.globals (cX X.env.cells scope.names []) [] X.env.qual none .none (some X.env)) (fun cenv s₄=>
   codeAny (model X.prog X.w) X.A (.compStart (.ListComp elt [⟨tg,iter,ifs,0⟩] scope pos) 0 it acc {cenv with scope:=relabel scope X.env}) (RR acc cenv.locals) s₄) X.xe s₃) X.xe s₂) X.xe s₁) X.xe s:=by
 refine bj (hi pins s σ H _ I h) fun v s1 h1=>bj h1 fun itv s2 h2=>?_;obtain⟨it,fp,tn,J,H2,e,I2,T,st2,f2,hR⟩:=h2;subst e;refine wpAny_newList ?_ (Nat.zero_le _);have I3:=I2.Bj (t':=s2.toks) (aj:=[]) (ys:=[]) .nil (Nat.zero_le _);generalize e3:({s2 with heap:=s2.heap.push {cls:= .type "list",data:= .seq ([]:List Value).toArray}}:Shared)=s3;have I3:Inv X pins σ (upd H2 s2.heap.objs.size (.lst [])) s3:=by rw[<-e3];exact I3
 have ml:s2.heap.objs.size<s3.heap.objs.size:=by rw[<-e3];show _<(s2.heap.push _).objs.size;rw[Heap.size_push];omega
 have k3:∀b o,s2.heap.get? b=some o->s3.heap.get? b=some o:=fun b o q=>by rw[<-e3];exact Heap.get?_push_of_some _ q
 obtain⟨W,⟨m0,w0⟩,turn⟩:=hR s2.heap.objs.size (I2.aw.fresh (Nat.le_refl _));refine oZ ?_;have hn:(pushCells (s3.heap.push {cls:= .type "dict",data:= .dict #[]}) scope.names).Ns s3.heap.objs.size (fun _=>none):=(Heap.Ns.new s3.heap (.type "dict")).keeps (pushCells_keeps _ _);have hcs:∀x c,(x,c)∈cellsFrom (s3.heap.objs.size+1) scope.names []->(pushCells (s3.heap.push {cls:= .type "dict",data:= .dict #[]}) scope.names).IsCell c none:=fun x c h=>((FH scope.names _ (Heap.size_push ..)).empty x c h).1;have k4:∀b o,s3.heap.get? b=some o->(pushCells (s3.heap.push {cls:= .type "dict",data:= .dict #[]}) scope.names).get? b=some o:=fun b o q=>pushCells_keeps _ _ b o (Heap.get?_push_of_some _ q);generalize(pushCells (s3.heap.push {cls:= .type "dict",data:= .dict #[]}) scope.names)=h' at hn hcs k4⊢;have hobj:∀b∈fp,∃o,s2.heap.get? b=some o/\∀v,o.data≠ .cell v:=T.obj _ _ st2;have hlt2:∀b∈fp,b<s3.heap.objs.size:=fun b hb=>let⟨o,q,_⟩:=hobj b hb;Heap.lt_size (k3 b o q)
 have hnl:∀b∈fp,b≠s2.heap.objs.size:=fun b hb=>by
  obtain⟨o,q,_⟩:=hobj b hb;exact Nat.ne_of_lt (Heap.lt_size q)
 have f3:∀b∈fp,iq X pins (upd H2 s2.heap.objs.size (.lst [])) b:=fun b hb=>⟨by rw[aq (hnl b hb)];exact(f2 b hb).1,(f2 b hb).2⟩
 have ok:=EX (C:=s3.heap.objs.size) (fp:=fp) S I3 rfl f3 hlt2 fun b hb=>(f2 b hb).2.2.2.2.1
 have I4:Inv (dH X scope Nc s3.heap.objs.size s3 (upd H2 s2.heap.objs.size (.lst [])) fp) [] (σC fr σ) (upd H2 s2.heap.objs.size (.lst [])) {s3 with heap:=h',toks:=s3.toks}:=
  Aa (s':=s3) S I3 rfl ok (fun b hb=>(f3 b hb).1) k4 hn hcs
 have st4:tn 0 h':=T.keep _ _ _ st2 fun b _ o q=>k4 b o (k3 b o q);generalize hXc:dH X scope Nc s3.heap.objs.size s3 (upd H2 s2.heap.objs.size (.lst [])) fp=Xc at I4;have hgc:PG Xc tg g:=by rw[<-hXc];exact hg _ _ _ _
 have htc:pH Xc ifs c:=by rw[<-hXc];exact ht _ _ _ _
 have hec:PE Xc elt te:=by rw[<-hXc];exact he _ _ _ _
 have xP:Xc.prog=X.prog:=by rw[<-hXc];rfl
 have xW:Xc.w=X.w:=by rw[<-hXc];rfl
 have xK:Xc.K=X.K:=by rw[<-hXc];rfl
 have xc:Xc.calm=true:=by rw[<-hXc];exact hc
 have xA:Xc.A=X.A:=by rw[<-hXc];rfl
 have xE:Xc.env=compEnvC scope (i7 scope s3.heap.objs.size (cX X.env.cells scope.names [])) s3.heap.objs.size X.env:=by rw[<-hXc];rfl
 have xx:Xc.xe=fun _ _=>False:=by rw[<-hXc];rfl
 have fpc:∀ {H':Hp},(∀b∈fp,H' b=none)->∀b∈fp,iq Xc [] H' b:=fun{H'} hn b hb=>by
  rw[<-hXc];refine⟨hn b hb,Nat.ne_of_lt (hlt2 b hb),ok.oU b hb,.inl hb,(ok.y9 b hb).2,fun p hp=>by cases hp⟩
 have loop:codeAny (model X.prog X.w) X.A (.compLoop (.ListComp elt [⟨tg,iter,ifs,0⟩] scope pos) 0 (.ref it) (.ref s2.heap.objs.size) (compEnvC scope (i7 scope s3.heap.objs.size (cX X.env.cells scope.names [])) s3.heap.objs.size X.env))
  (RR (.ref s2.heap.objs.size) s3.heap.objs.size) {s3 with heap:=h',toks:=s3.toks}:=by
  refine vn (fun n s'=>∃i σ' H',Inv Xc [] σ' H' s'/\tn i s'.heap/\(∀b∈fp,H' b=none)/\W i n σ' H') ?_ m0 ⟨0,_,_,I4,st4,fun b hb=>(f3 b hb).1,w0⟩;rintro n s5 ⟨i,σ5,H5,I5,st5,fr5,w5⟩;rcases turn i n σ5 H5 w5 with⟨stop,qn⟩|⟨go,N,hN,step⟩
  . have q:=T.done Xc xP xW xK xc i [] s5 σ5 H5 (fun _ _=>False) I5 (fpc fr5) st5 stop;rw[xA]at q;refine bj q fun r s6 ⟨hr,I6⟩=>?_;subst hr;obtain⟨m,hm,_⟩:=I6.loc;rw[xE]at hm;have free6:H5 s3.heap.objs.size=none:=by have:=I6.free;rw[xE]at this;exact this
    have un6:Un (di X.stack) fp (upd H2 s2.heap.objs.size (.lst [])) H5 s3.heap s6.heap:=by have:=I6.base;rw[<-hXc]at this;exact this
    have os6:s6.os=s3.os:=by have:=I6.os;rw[<-hXc]at this;exact this
    have hok6:dE X.prog X.w H5 s6.heap:=by have:=I6.aw;rw[xP,xW]at this;exact this
    have J:=I3.qi (s':=s6) (ch:=fp) os6 un6 hok6 I6.bare fun b hb=>⟨(f3 b hb).2.2.2.1,(f3 b hb).2.1,(f3 b hb).2.2.2.2.1,(f3 b hb).2.2.2.2.2⟩
    exact fin _ _ s6 H5 m hm (I3.oR (Nat.le_refl _) free6) J qn
  . have q:=T.item Xc xP xW xK xc i [] s5 σ5 H5 (fun _ _=>False) I5 (fpc fr5) st5 go;rw[xA]at q;refine bj q fun r s6 ⟨u,hr,h6⟩=>?_;subst hr;refine bj h6 fun _ s7 ⟨x,H7,I7,r7,y7,st7,fr7⟩=>?_;have I7':=I7.pinned (fpc fr7) (T.obj _ _ st7);have q8:=hgc _ s7 σ5 H7 x u _ I7' r7 (step x H7 y7);rw[xP,xW,xA,xE,xx]at q8;refine bj q8 fun _ s8 ⟨σ8,H8,I8,q8⟩=>?_;have q9:=htc _ s8 σ8 H8 _ I8 q8;rw[xP,xW,xA,xE,xx]at q9;refine bj q9 fun b s9 ⟨H9,I9,q9⟩=>?_
    have again:∀ {H':Hp} {s':Shared},Inv Xc ([]++nj fp s7.heap) σ8 H' s'->N σ8 H'->∃m,m<n/\∃i σ' H',Inv Xc [] σ' H' s'/\tn i s'.heap/\(∀b∈fp,H' b=none)/\W i m σ' H':=fun{H' s'} J nn=>by
     obtain⟨m',hm,w7⟩:=hN σ8 H' nn;refine⟨m',hm,i+1,σ8,H',J.lV,T.keep _ _ _ st7 fun b hb o e=>(J.pin (b,o) (List.mem_append_right _ (List.mem_append_right _ (jl hb e)))).1,fun b hb=>?_,w7⟩;obtain⟨o,e,d⟩:=T.obj _ _ st7 b hb;exact(J.pin (b,o) (List.mem_append_right _ (List.mem_append_right _ (jl hb e)))).2.1
    cases b with
    |false=>exact again I9 q9
    |true=>
     have qe:=hec _ s9 σ8 H9 _ I9 q9;rw[xP,xW,xA,xE,xx]at qe;refine bj qe fun y s10 ⟨vy,H10,I10,ry,ys,hy,hlt,qN⟩=>?_;have qa:=sF (X:=Xc) _ s10 σ8 H10 (.ref s2.heap.objs.size) [vy] (.ref s2.heap.objs.size) [y] (fun _ H'=>N σ8 H') I10 rfl (.cons ry .nil) ⟨_,ys,vy,rfl,rfl,hy,hlt,qN⟩;rw[xP,xW,xA,xx]at qa;exact bj qa fun _ s11 ⟨_,H11,I11,_,q11⟩=>again I11 q11
 refine codeAny_compStart_list ?_ ?_
 . exact loop
 . exact T.self _ 0 _ _ _ st4 loop
theorem vV{elt tg iter:Expr}{ifs:List Expr}{wi:TI}{g:TG}{c:TT}{te:TE}{pos:Pos}(hx:X.xe=fun _ _=>False)(hc:X.calm=true)(S:a9 X scope Nc fr)(hi:PI X tg iter wi)
 (hg:∀C s H ex,PG (dH X scope Nc C s H ex) tg g) (ht:∀C s H ex,pH (dH X scope Nc C s H ex) ifs c) (he:∀C s H ex,PE (dH X scope Nc C s H ex) elt te)
 (hs:∀x,foldedSetIterable iter X.env x=pure x:=by intro _;rfl):PE X (.ListComp elt [⟨tg,iter,ifs,0⟩] scope pos) (pK wi fr g c te):=by
 intro pins s σ H Q I h;rw[eval_ListComp];have hcl:closureFor scope X.env=pure (cX X.env.cells scope.names []):=md fun x hx hk=>I.ok.has x.1 (S.free x hx hk);refine wpAny_comprehension_free rfl hs hcl S.kind S.names ?_;exact qy (RR:=fun acc C=>compPost (model X.prog X.w) X.A X.xe none (EP X pins σ Q) acc C) hx hc S hi hg ht he I h fun l C s6 H5 m hm f J q=>⟨m,hm,fun h'' hs''=>⟨.ref l,H5,Inv.forget J f hs'',rfl,q⟩⟩
theorem Dd{elt tg iter:Expr}{ifs:List Expr}{wi:TI}{g:TG}{c:TT}{te:TE}{pos pos' spos:Pos}{i:Nat}{x:Str}(hx:X.xe=fun _ _=>False)(hc:X.calm=true)(S:a9 X scope Nc fr)(hi:PI X tg iter wi)
 (hg:∀C s H ex,PG (dH X scope Nc C s H ex) tg g) (ht:∀C s H ex,pH (dH X scope Nc C s H ex) ifs c) (he:∀C s H ex,PE (dH X scope Nc C s H ex) elt te) (hN:X.N.Nodup) (hni:X.N[i]?=some x) (hl:Loc X.env.scope x) (hf:X.fn x=true\/X.env.scope.names.lookup x=some .local)
 (hsw:swapsWith (.ListComp elt [⟨tg,iter,ifs,0⟩] scope pos) (some (.Name x pos')) spos.line X.env=pure true)
 (hs:∀x,foldedSetIterable iter X.env x=pure x:=by intro _;rfl):PS X (.Assign [.Name x pos'] (.ListComp elt [⟨tg,iter,ifs,0⟩] scope pos) spos) (jS (pK wi fr g c te) (eR i)):=by
 intro pins s σ H D I h;have hcl:closureFor scope X.env=pure (cX X.env.cells scope.names []):=md fun x hx hk=>I.ok.has x.1 (S.free x hx hk);rw[exec_Assign_Name_used _ _ _ _ hsw];refine wpAny_bind (wpAny_standAt (wpAny_bind ?_));show wpAny _ X.A (do let _ <-comprehension (.ListComp elt [⟨tg,iter,ifs,0⟩] scope pos) scope X.env _ (newList []) false (eval iter X.env) (some (assign (.Name x pos') X.env))) _ _ s
 refine wpAny_bind (wpAny_mono (wpAny_comprehension_free (use:=some (assign (.Name x pos') X.env)) (Q:=fun _ s'=>SP X pins D .next s') rfl hs hcl S.kind S.names
  (qy (RR:=fun acc C=>compPost (model X.prog X.w) X.A X.xe (some (assign (.Name x pos') X.env)) (fun _ s'=>SP X pins D .next s') acc C) hx hc S hi hg ht he I h fun l C s6 H5 m hm f J q=>?_)) (fun _ s' hq=>wpAny_pure (wpAny_pure hq)) fun _ _ e=>e)
 show wpAny _ X.A (assign (.Name x pos') X.env (.ref l)) _ _ _;refine wpAny_assign_Name (sv J hN hni hl (show RelV (.ref l) (.ref l)from rfl) (fun s7 J7 hch=>?_) hf);obtain⟨a,hsame,ha⟩:=hch
 have hCa:C≠a:=by
  rcases ha with rfl|ha
  . exact f.2.1
  . exact fun z=>f.2.2.2.2.1 x a ha z.symm
 refine⟨m,hm.sameBut hsame hCa,fun h'' hs''=>⟨σ.set i (some (.ref l)),H5,Inv.forget J7 f hs'',q⟩⟩
end
inductive D where
 |ay|bl (b:Bool)|int (i:Int)|str (x:Str)|ty (n:String)|ref (n:Nat)|lst (xs:List D)|tup (xs:List D)
inductive Cell where
 |lst (xs:List D)|ins (C:Addr) (fs:List (Str×D))|dead
  |tab (P:Addr) (pos:Pos) (qual:Str) (b:Bool)
abbrev aa:=List Cell
abbrev aR:=List (Option D)
mutual
def Rep(α:List (Option Addr))(H:Hp):D->V->Prop
 | .ay,v=>v= .ay
 | .bl b,v=>v= .bl b
 | .int i,v=>v= .int i
 | .str x,v=>v= .str x
 | .ty n,v=>v= .ty n
 | .ref n,v=>α[n]?=some none\/∃a,α[n]?=some (some a)/\v= .ref a
 | .lst xs,v=>∃a vs,v= .ref a/\some a∉α/\Rd H a (.lst vs)/\ax α H xs vs
 | .tup xs,v=>∃a vs,v= .ref a/\some a∉α/\H a=some (.tup vs)/\ax α H xs vs
def ax(α:List (Option Addr))(H:Hp):List D->List V->Prop
 | [],vs=>vs=[]
 |d::ds,vs=>∃v r,vs=v::r/\Rep α H d v/\ax α H ds r
end
theorem aO{α:List (Option Addr)}{H:Hp}:∀ {ds:List D} {vs:List V},ax α H ds vs↔Paired (Rep α H) ds vs
 | [],vs=>by
   unfold ax;constructor
   . rintro rfl;exact .nil
   . intro h;cases h;rfl
 |d::ds,vs=>by
  unfold ax;constructor
  . rintro⟨v,r,rfl,h1,h2⟩;exact .cons h1 (aO.mp h2)
  . intro h;cases h with|cons h1 h2=>exact⟨_,_,rfl,h1,aO.mpr h2⟩
section
variable {α:List (Option Addr)}{H:Hp}
theorem ax.length{ds:List D}{vs:List V}(h:ax α H ds vs):ds.length=vs.length:=Paired.length (aO.mp h)
theorem pW{A B:Type}{F:A->B->Prop}:∀ {xs:List A} {ys:List B} {i:Nat} {x:A},Paired F xs ys->xs[i]?=some x->∃y,ys[i]?=some y/\F x y
 |_,_,_,_,.nil,e=>by simp at e
 |_,_,0,_,.cons r _,e=>by simp at e;subst e;exact⟨_,rfl,r⟩
 |_,_,i+1,x,.cons _ t,e=>by
  obtain⟨u,h1,h2⟩:=pW (i:=i) (x:=x) t (by simpa using e);exact⟨u,by simpa using h1,h2⟩
theorem dP{A B:Type}{F:A->B->Prop}:∀ {xs xs':List A} {ys ys':List B},Paired F xs ys->Paired F xs' ys'->Paired F (xs++xs') (ys++ys')
 |_,_,_,_,.nil,s=>s
 |_,_,_,_,.cons r t,s=> .cons r (dP t s)
theorem oA{A B:Type}{F:A->B->Prop}:∀ {xs:List A} {ys:List B} (n:Nat),Paired F xs ys->Paired F (xs.take n) (ys.take n)
 |_,_,0,_=> .nil
 |_,_,_+1,.nil=> .nil
 |_,_,n+1,.cons r t=> .cons r (oA n t)
theorem oH{A B:Type}{F:A->B->Prop}:∀ {xs:List A} {ys:List B} (n:Nat),Paired F xs ys->Paired F (xs.drop n) (ys.drop n)
 |_,_,0,r=>r
 |_,_,_+1,.nil=> .nil
 |_,_,n+1,.cons _ t=>oH n t
theorem qB{A B:Type}{F:A->B->Prop}{x:A}{y:B}(r:F x y):∀ {xs:List A} {ys:List B} (i:Nat),Paired F xs ys->Paired F (xs.set i x) (ys.set i y)
 |_,_,_,.nil=> .nil
 |_,_,0,.cons _ t=> .cons r t
 |_,_,i+1,.cons q t=> .cons q (qB r i t)
theorem kz{A B:Type}{F:A->B->Prop}{xs:List A}{ys:List B}(h:Paired F xs ys):∀k:Nat,Paired F (List.replicate k xs).flatten (List.replicate k ys).flatten
 |0=> .nil
 |k+1=>by
  rw[List.replicate_succ,List.replicate_succ,List.flatten_cons,List.flatten_cons];exact dP h (kz h k)
theorem ax.get{ds:List D}{vs:List V}{i:Nat}{d:D}(h:ax α H ds vs)(e:ds[i]?=some d):∃v,vs[i]?=some v/\Rep α H d v:=pW (aO.mp h) e
end
structure Step(α:List (Option Addr))(H:Hp)(α':List (Option Addr))(H':Hp):Prop where
 ext:∀b o,some b∉α->H b=some o->H' b=some o
 pre:∀(n:Nat) (x:Option Addr),α[n]?=some x->α'[n]?=some x\/α'[n]?=some none
 new:∀b,some b∈α'->some b∉α->H b=none
theorem Step.refl{α:List (Option Addr)}{H:Hp}:Step α H α H:=⟨fun _ _ _ h=>h,fun _ _ h=> .inl h,fun _ h n=>absurd h n⟩
theorem Step.trans{α α1 α2:List (Option Addr)}{H H1 H2:Hp}(a:Step α H α1 H1)(b:Step α1 H1 α2 H2):Step α H α2 H2 where
 ext:=fun c o hc e=>b.ext c o (fun z=>by rw[a.new c z hc]at e;cases e) (a.ext c o hc e)
 pre:=fun n x e=>by
  rcases a.pre n x e with h|h
  . exact b.pre n x h
  . rcases b.pre n none h with h'|h'
    . exact .inr h'
    . exact .inr h'
 new:=fun c hc n=>by
  by_cases h1:some c∈α1
  . exact a.new c h1 n
  . have:=b.new c hc h1;cases q:H c with
    |none=>rfl
    |some o=>rw[a.ext c o n q]at this;cases this
theorem Step.laid{α:List (Option Addr)}{H:Hp}{p:Addr}{o:HO}(h:H p=none):Step α H α (upd H p o):=
 ⟨fun b u _ e=>by rw[aq (cT e h)];exact e,fun _ _ h=> .inl h,fun _ h n=>absurd h n⟩
theorem Step.cell{α:List (Option Addr)}{H:Hp}{p:Addr}{o:HO}(h:H p=none):Step α H (α++[some p]) (upd H p o):=
 ⟨fun b u _ e=>by rw[aq (cT e h)];exact e,fun n x e=> .inl (by rw[List.getElem?_append_left (List.getElem?_eq_some_iff.mp e).1];exact e),fun b hb n=>by
  rcases List.mem_append.mp hb with z|z
  . exact absurd z n
  . have:b=p:=by simpa using z
    subst this;exact h⟩
theorem Step.write{α:List (Option Addr)}{H:Hp}{p:Addr}{o:HO}(h:some p∈α):Step α H α (upd H p o):=
 ⟨fun b u n e=>by rw[aq (fun z=>by subst z;exact n h)];exact e,fun _ _ h=> .inl h,fun _ h n=>absurd h n⟩
theorem Step.dM{α:List (Option Addr)}{H:Hp}{n:Nat}:Step α H (α.set n none) H:=
 ⟨fun _ _ _ h=>h,fun m x e=>by
  by_cases hm:n=m
  . subst hm;exact .inr (List.getElem?_set_self (List.getElem?_eq_some_iff.mp e).1)
  . exact .inl (by rw[List.getElem?_set_ne hm];exact e),fun b hb hn=>by
  rcases List.mem_or_eq_of_mem_set hb with z|z
  . exact absurd z hn
  . cases z⟩
mutual
theorem Rep.step{α α':List (Option Addr)}{H H':Hp}(s:Step α H α' H'):∀ {d:D} {v:V},Rep α H d v->Rep α' H' d v
 | .ay,_,h=>by unfold Rep at h⊢;exact h
 | .bl _,_,h=>by unfold Rep at h⊢;exact h
 | .int _,_,h=>by unfold Rep at h⊢;exact h
 | .str _,_,h=>by unfold Rep at h⊢;exact h
 | .ty _,_,h=>by unfold Rep at h⊢;exact h
 | .ref n,_,h=>by
   unfold Rep at h⊢;rcases h with h|⟨a,e,r⟩
   . rcases s.pre _ _ h with z|z<;>exact .inl z
   . rcases s.pre _ _ e with z|z
     . exact .inr ⟨a,z,r⟩
     . exact .inl z
 | .lst xs,_,h=>by
   unfold Rep at h⊢;obtain⟨a,vs,e,n,r,q⟩:=h;refine⟨a,vs,e,fun z=>?_,?_,ax.step s q⟩
   . have:=s.new a z n;rcases r with r|⟨o,r⟩<;>(rw[this]at r;cases r)
   . rcases r with r|⟨o,r⟩
     . exact .inl (s.ext _ _ n r)
     . exact .inr ⟨o,s.ext _ _ n r⟩
 | .tup xs,_,h=>by
   unfold Rep at h⊢;obtain⟨a,vs,e,n,r,q⟩:=h;exact⟨a,vs,e,(fun z=>by rw[s.new a z n]at r;exact nomatch r),s.ext _ _ n r,ax.step s q⟩
theorem ax.step{α α':List (Option Addr)}{H H':Hp}(s:Step α H α' H'):∀ {ds:List D} {vs:List V},ax α H ds vs->ax α' H' ds vs
 | [],_,h=>by unfold ax at h⊢;exact h
 |d::ds,_,h=>by
  unfold ax at h⊢;obtain⟨v,r,e,h1,h2⟩:=h;exact⟨v,r,e,Rep.step s h1,ax.step s h2⟩
end
structure a7(G F H:Hp):Prop where
 eq:∀b,H b=(G b).or (F b)
 uQ:∀b o,G b=some o->F b=none
section
variable {G F H:Hp}
theorem a7.get(P:a7 G F H){b:Addr}{o:HO}(h:G b=some o):H b=some o:=by rw[P.eq b,h];rfl
theorem a7.same(P:a7 G F H):Am G H:=fun _ _ h=>P.get h
theorem a7.none(P:a7 G F H){b:Addr}(h:H b=none):G b=none/\F b=none:=by
 have e:=P.eq b;rw[h]at e;cases q:G b with
 |none=>rw[q]at e;exact⟨rfl,e.symm⟩
 |some o=>rw[q]at e;cases e
theorem a7.frame(P:a7 G F H){b:Addr}{o:HO}(h:F b=some o):H b=some o/\G b=Option.none:=by
 have hn:G b=Option.none:=by
  cases q:G b with
  |none=>rfl
  |some u=>rw[P.uQ b u q]at h;cases h
 exact⟨by rw[P.eq b,hn,h];rfl,hn⟩
theorem a7.laid(P:a7 G F H){p:Addr}{o:HO}(h:H p=Option.none):a7 (upd G p o) F (upd H p o):=by
 obtain⟨h1,h2⟩:=P.none h;refine⟨fun b=>?_,fun b u e=>?_⟩
 . by_cases hb:b=p
   . subst hb;rw[aD,aD];rfl
   . rw[aq hb,aq hb];exact P.eq b
 . by_cases hb:b=p
   . subst hb;exact h2
   . rw[aq hb]at e;exact P.uQ b u e
theorem a7.write(P:a7 G F H){p:Addr}{o o':HO}(h:G p=some o):a7 (upd G p o') F (upd H p o'):=by
 refine⟨fun b=>?_,fun b u e=>?_⟩
 . by_cases hb:b=p
   . subst hb;rw[aD,aD];rfl
   . rw[aq hb,aq hb];exact P.eq b
 . by_cases hb:b=p
   . subst hb;exact P.uQ b o h
   . rw[aq hb]at e;exact P.uQ b u e
theorem a7.hide(P:a7 G F H){p:Addr}{o:HO}(h:H p=Option.none):a7 G (upd F p o) (upd H p o):=by
 obtain⟨h1,h2⟩:=P.none h;refine⟨fun b=>?_,fun b u e=>?_⟩
 . by_cases hb:b=p
   . subst hb;rw[aD,aD,h1];rfl
   . rw[aq hb,aq hb];exact P.eq b
 . by_cases hb:b=p
   . subst hb;rw[h1]at e;cases e
   . rw[aq hb];exact P.uQ b u e
theorem a7.Jk(P:a7 G F H){p:Addr}{o o':HO}(h:F p=some o):a7 G (upd F p o') (upd H p o'):=by
 have h1:=(P.frame h).2;refine⟨fun b=>?_,fun b u e=>?_⟩
 . by_cases hb:b=p
   . subst hb;rw[aD,aD,h1];rfl
   . rw[aq hb,aq hb];exact P.eq b
 . by_cases hb:b=p
   . subst hb;rw[h1]at e;cases e
   . rw[aq hb];exact P.uQ b u e
theorem a7.show{p:Addr}{o:HO}(P:a7 G (upd F p o) H)(h:F p=Option.none):a7 (upd G p o) F H:=by
 have h1:=(P.frame (b:=p) aD)
 refine⟨fun b=>?_,fun b u e=>?_⟩
 . by_cases hb:b=p
   . subst hb;rw[aD,h1.1];rfl
   . rw[aq hb,P.eq b,aq hb]
 . by_cases hb:b=p
   . subst hb;exact h
   . rw[aq hb]at e;have:=P.uQ b u e;rw[aq hb]at this;exact this
end
mutual
theorem Rep.mono{α:List (Option Addr)}{G H:Hp}(s:Am G H):∀ {d:D} {v:V},Rep α G d v->Rep α H d v
 | .ay,_,h=>by unfold Rep at h⊢;exact h
 | .bl _,_,h=>by unfold Rep at h⊢;exact h
 | .int _,_,h=>by unfold Rep at h⊢;exact h
 | .str _,_,h=>by unfold Rep at h⊢;exact h
 | .ty _,_,h=>by unfold Rep at h⊢;exact h
 | .ref n,_,h=>by unfold Rep at h⊢;exact h
 | .lst xs,_,h=>by
   unfold Rep at h⊢;obtain⟨a,vs,e,n,r,q⟩:=h;refine⟨a,vs,e,n,?_,ax.mono s q⟩;rcases r with r|⟨o,r⟩
   . exact .inl (s _ _ r)
   . exact .inr ⟨o,s _ _ r⟩
 | .tup xs,_,h=>by
   unfold Rep at h⊢;obtain⟨a,vs,e,n,r,q⟩:=h;exact⟨a,vs,e,n,s _ _ r,ax.mono s q⟩
theorem ax.mono{α:List (Option Addr)}{G H:Hp}(s:Am G H):∀ {ds:List D} {vs:List V},ax α G ds vs->ax α H ds vs
 | [],_,h=>by unfold ax at h⊢;exact h
 |d::ds,_,h=>by
  unfold ax at h⊢;obtain⟨v,r,e,h1,h2⟩:=h;exact⟨v,r,e,Rep.mono s h1,ax.mono s h2⟩
end
def lY(α:List (Option Addr))(H:Hp):List (Str×D)->List (Str×V)->Prop:=Paired fun p q=>p.1=q.1/\Rep α H p.2 q.2
def gM(α:List (Option Addr))(H:Hp)(a:Addr):Cell->Prop
 | .lst xs=>∃vs,H a=some (.lst vs)/\ax α H xs vs
 | .ins C fs=>∃dx vs,H a=some (.ins C dx vs)/\lY α H fs vs
 | .dead=>False
 | .tab P pos qual b=>a=P/\∃ps:Array Value,H a=some (.jf ps)/\TriplesOk ps.toList/\
    ((b=false/\codeAmong pos ps.toList=none)\/(b=true/\∃c o vs t,codeAmong pos ps.toList=some (.ref c)/\some c∉α/\H c=some (.dM o (.own c))/\o.data= .fields vs/\vs[1]?=some (.str qual t)))
structure aB(α:List (Option Addr))(st:aa)(H:Hp):Prop where
 len:α.length=st.length
 nd:∀(i j:Nat) (a:Addr),α[i]?=some (some a)->α[j]?=some (some a)->i=j
 at':∀(n:Nat) (c:Cell),st[n]?=some c->(c= .dead/\α[n]?=some none)\/∃a,α[n]?=some (some a)/\gM α H a c
theorem lY.step{α α':List (Option Addr)}{H H':Hp}(s:Step α H α' H'){ds:List (Str×D)}{vs:List (Str×V)}(h:lY α H ds vs):lY α' H' ds vs:=Paired.zV h fun _ _ z=>⟨z.1,z.2.step s⟩
theorem gM.same{α α':List (Option Addr)}{H H':Hp}{a:Addr}{c:Cell}(s:Step α H α' H')(e:H' a=H a)(h:gM α H a c):gM α' H' a c:=by
 cases c with
 |lst xs=>obtain⟨vs,h1,h2⟩:=h;exact⟨vs,e.trans h1,h2.step s⟩
 |ins C fs=>obtain⟨dx,vs,h1,h2⟩:=h;exact⟨dx,vs,e.trans h1,h2.step s⟩
 |dead=>exact h.elim
 |tab P pos qual b=>
  obtain⟨z,ps,h1,h2,h3⟩:=h;refine⟨z,ps,e.trans h1,h2,?_⟩;rcases h3 with h3|⟨hb,c,o,vs,t,q1,q2,q3,q4⟩
  . exact .inl h3
  . exact .inr ⟨hb,c,o,vs,t,q1,(fun y=>by rw[s.new c y q2]at q3;cases q3),s.ext c _ q2 q3,q4⟩
theorem gM.some{α:List (Option Addr)}{H:Hp}{a:Addr}{c:Cell}(h:gM α H a c):∃o,H a=some o:=by
 cases c with
 |lst xs=>obtain⟨vs,h1,h2⟩:=h;exact⟨_,h1⟩
 |ins C fs=>obtain⟨dx,vs,h1,h2⟩:=h;exact⟨_,h1⟩
 |dead=>exact h.elim
 |tab P pos qual b=>obtain⟨_,ps,h1,_⟩:=h;exact⟨_,h1⟩
theorem cJ{α:List (Option Addr)}{H:Hp}{n:Nat}{v:V}{a:Addr}(e:α[n]?=Option.some (Option.some a))(r:Rep α H (.ref n) v):v= .ref a:=by
 unfold Rep at r;rcases r with r|⟨b,eb,rfl⟩
 . rw[e]at r;cases r
 . rw[e]at eb;cases eb;rfl
section
variable {α:List (Option Addr)}{st:aa}{H:Hp}
theorem aB.fQ(S:aB α st H){n:Nat}{xs:List D}(e:st[n]?=Option.some (.lst xs)):∃a,α[n]?=Option.some (Option.some a)/\∃vs,H a=Option.some (.lst vs)/\ax α H xs vs:=by
 rcases S.at' n _ e with⟨z,_⟩|z
 . cases z
 . exact z
theorem aB.BQ(S:aB α st H){n:Nat}{C:Addr}{fs:List (Str×D)}(e:st[n]?=Option.some (.ins C fs)):∃a,α[n]?=Option.some (Option.some a)/\∃dx vs,H a=Option.some (.ins C dx vs)/\lY α H fs vs:=by
 rcases S.at' n _ e with⟨z,_⟩|z
 . cases z
 . exact z
theorem aB.mem(S:aB α st H){a:Addr}(h:Option.some a∈α):∃(n:Nat) (c:Cell),α[n]?=Option.some (Option.some a)/\st[n]?=Option.some c/\gM α H a c:=by
 obtain⟨n,hn,e⟩:=List.mem_iff_getElem.mp h;have hl:n<st.length:=by rw[<-S.len];exact hn
 have e':α[n]?=Option.some (Option.some a):=by rw[List.getElem?_eq_getElem hn,e]
 rcases S.at' n st[n] (by simp[hl])with⟨_,q⟩|⟨a',q,ca⟩
 . rw[e']at q;cases q
 . rw[e']at q;cases q;exact⟨n,_,e',by simp[hl],ca⟩
theorem aB.kq(S:aB α st H){p:Addr}(h:H p=none):Option.some p∉α:=fun z=>by
 obtain⟨n,c,_,_,ca⟩:=S.mem z;obtain⟨o,e⟩:=ca.some;rw[h]at e;cases e
theorem aB.laid(S:aB α st H){p:Addr}{o:HO}(h:H p=none):aB α st (upd H p o):=
 ⟨S.len,S.nd,fun n c e=>by
  rcases S.at' n c e with z|⟨a,q,ca⟩
  . exact .inl z
  . exact .inr ⟨a,q,ca.same (Step.laid h) (aq (by obtain⟨u,z⟩:=ca.some;exact cT z h))⟩⟩
theorem aB.cell(S:aB α st H){p:Addr}{o:HO}{c:Cell}(h:H p=none)(hc:gM (α++[Option.some p]) (upd H p o) p c):aB (α++[Option.some p]) (st++[c]) (upd H p o) where
 len:=by rw[List.length_append,List.length_append,S.len];rfl
 nd:=fun i j a ei ej=>by
  have key:∀(i:Nat) (a:Addr),(α++[Option.some p])[i]?=Option.some (Option.some a)->(i<α.length/\α[i]?=Option.some (Option.some a))\/(i=α.length/\a=p):=by
   intro i a e;by_cases hi:i<α.length
   . rw[List.getElem?_append_left hi]at e;exact .inl ⟨hi,e⟩
   . rw[List.getElem?_append_right (Nat.le_of_not_lt hi)]at e
     have h0:i-α.length=0:=by
      cases q:i-α.length with
      |zero=>rfl
      |succ k=>rw[q]at e;simp at e
     rw[h0]at e;have:p=a:=by simpa using e
     exact .inr ⟨by omega,this.symm⟩
  rcases key i a ei with⟨h1,e1⟩|⟨h1,e1⟩<;>rcases key j a ej with⟨h2,e2⟩|⟨h2,e2⟩
  . exact S.nd i j a e1 e2
  . subst e2;exact absurd (List.mem_of_getElem? e1) (S.kq h)
  . subst e1;exact absurd (List.mem_of_getElem? e2) (S.kq h)
  . omega
 at':=fun n d e=>by
  by_cases hn:n<st.length
  . rw[List.getElem?_append_left hn]at e;have hl:n<α.length:=by rw[S.len];exact hn
    rcases S.at' n d e with⟨z,q⟩|⟨a,q,ca⟩
    . exact .inl ⟨z,by rw[List.getElem?_append_left hl];exact q⟩
    . exact .inr ⟨a,by rw[List.getElem?_append_left hl];exact q,ca.same (Step.cell h) (aq (by obtain⟨u,z⟩:=ca.some;exact cT z h))⟩
  . rw[List.getElem?_append_right (Nat.le_of_not_lt hn)]at e
    have h0:n-st.length=0:=by
     cases q:n-st.length with
     |zero=>rfl
     |succ k=>rw[q]at e;simp at e
    rw[h0]at e;have hd:c=d:=by simpa using e
    subst hd;refine .inr ⟨p,?_,hc⟩;rw[List.getElem?_append_right (by rw[S.len];exact Nat.le_of_not_lt hn),S.len,h0];rfl
theorem aB.write(S:aB α st H){p:Addr}{o:HO}{c:Cell}{n:Nat}(e:α[n]?=Option.some (Option.some p))(hc:gM α (upd H p o) p c):aB α (st.set n c) (upd H p o) where
 len:=by rw[List.length_set];exact S.len
 nd:=S.nd
 at':=fun m d q=>by
  have hp:Option.some p∈α:=List.mem_of_getElem? e;by_cases hm:m=n
  . subst hm
    have hl:m<st.length:=by
     have:=(List.getElem?_eq_some_iff.mp q).1;rw[List.length_set]at this;exact this
    rw[List.getElem?_set_self hl]at q;cases q;exact .inr ⟨p,e,hc⟩
  . rw[List.getElem?_set_ne (Ne.symm hm)]at q;rcases S.at' m d q with z|⟨a,r,ca⟩
    . exact .inl z
    . refine .inr ⟨a,r,ca.same (Step.write hp) (aq fun z=>?_)⟩;subst z;exact hm (S.nd m n _ r e)
theorem aB.dM(S:aB α st H){n:Nat}(hn:n<st.length):aB (α.set n none) (st.set n .dead) H where
 len:=by rw[List.length_set,List.length_set];exact S.len
 nd:=fun i j a ei ej=>by
  have key:∀(i:Nat),(α.set n none)[i]?=Option.some (Option.some a)->α[i]?=Option.some (Option.some a):=by
   intro i e;by_cases hi:n=i
   . subst hi;rw[List.getElem?_set_self (by rw[S.len];exact hn)]at e;cases e
   . rw[List.getElem?_set_ne hi]at e;exact e
  exact S.nd i j a (key i ei) (key j ej)
 at':=fun m d q=>by
  by_cases hm:n=m
  . subst hm;rw[List.getElem?_set_self hn]at q;cases q;exact .inl ⟨rfl,List.getElem?_set_self (by rw[S.len];exact hn)⟩
  . rw[List.getElem?_set_ne hm]at q;rcases S.at' m d q with⟨z,r⟩|⟨a,r,ca⟩
    . exact .inl ⟨z,by rw[List.getElem?_set_ne hm];exact r⟩
    . exact .inr ⟨a,by rw[List.getElem?_set_ne hm];exact r,ca.same Step.dM rfl⟩
theorem aB.CK(S:aB α st H){n:Nat}{xs:List D}{v:V}(e:st[n]?=Option.some (.lst xs))(r:Rep α H (.ref n) v):Rep (α.set n none) H (.lst xs) v:=by
 obtain⟨a,ea,vs,h1,h2⟩:=S.fQ e;have:=cJ ea r;subst this;unfold Rep;refine⟨a,vs,rfl,fun z=>?_,.inl h1,h2.step Step.dM⟩;obtain⟨m,hm,em⟩:=List.mem_iff_getElem.mp z;have em':(α.set n none)[m]?=Option.some (Option.some a):=by rw[List.getElem?_eq_getElem hm,em]
 by_cases hx:n=m
 . subst hx;rw[List.getElem?_set_self (List.getElem?_eq_some_iff.mp ea).1]at em';cases em'
 . rw[List.getElem?_set_ne hx]at em';exact hx (S.nd n m a ea em')
end
abbrev DK:=D->aa->Prop
abbrev DE:=aR->aa->DK->Prop
abbrev DT:=aR->aa->(Bool->aa->Prop)->Prop
abbrev DA:=aR->aa->(List D->aa->Prop)->Prop
structure e9 where
 nx:aR->aa->Prop
 rt:DK
 bk:aR->aa->Prop:=fun _ _=>False
 ct:aR->aa->Prop:=fun _ _=>False
abbrev DS:=e9->aR->aa->Prop
structure bS(α:List (Option Addr))(H:Hp)(σd:aR)(σ:L2.St):Prop where
 len:σd.length=σ.length
 at':∀(i:Nat) (d:D),σd[i]?=some (some d)->∃v,σ[i]?=some (some v)/\Rep α H d v
theorem bS.step{α α':List (Option Addr)}{H H':Hp}{σd:aR}{σ:L2.St}(s:Step α H α' H')(h:bS α H σd σ):bS α' H' σd σ:=
 ⟨h.len,fun i d e=>let⟨v,q,r⟩:=h.at' i d e;⟨v,q,r.step s⟩⟩
theorem bS.set{α:List (Option Addr)}{H:Hp}{σd:aR}{σ:L2.St}(h:bS α H σd σ)(i:Nat){d:D}{v:V}(r:Rep α H d v):bS α H (σd.set i (some d)) (σ.set i (some v)):=by
 refine⟨by rw[List.length_set,List.length_set,h.len],fun j e q=>?_⟩;have hl:=h.len;by_cases hj:j=i
 . subst hj
   have hlt:j<σd.length:=by
    have:=(List.getElem?_eq_some_iff.mp q).1;rw[List.length_set]at this;exact this
   rw[List.getElem?_set_self hlt]at q;cases q;exact⟨v,List.getElem?_set_self (by omega),r⟩
 . rw[List.getElem?_set_ne (Ne.symm hj)]at q;rw[List.getElem?_set_ne (Ne.symm hj)];exact h.at' j e q
def LK(α:List (Option Addr))(G F:Hp)(K:DK)(Q:VK):Prop:=∀d st',K d st'->∀α' G' H' v,Step α G α' G'->a7 G' F H'->aB α' st' G'->Rep α' G' d v->Q v H'
def BR(α:List (Option Addr))(G F:Hp)(K:Bool->aa->Prop)(Q:Bool->Hp->Prop):Prop:=∀b st',K b st'->∀α' G' H',Step α G α' G'->a7 G' F H'->aB α' st' G'->Q b H'
def IV(α:List (Option Addr))(G F:Hp)(K:List D->aa->Prop)(Q:List V->Hp->Prop):Prop:=∀ds st',K ds st'->∀α' G' H' vs,Step α G α' G'->a7 G' F H'->aB α' st' G'->ax α' G' ds vs->Q vs H'
inductive HN(t:DE)(σ:L2.St)(H:Hp)(Q:VK):Prop
 |mk (α:List (Option Addr)) (σd:aR) (st:aa) (K:DK) (G F:Hp) (P:a7 G F H) (R:bS α G σd σ) (S:aB α st G) (h:t σd st K) (k:LK α G F K Q):HN t σ H Q
def LE(t:DE):TE:=HN t
inductive HV(t:DT)(σ:L2.St)(H:Hp)(Q:Bool->Hp->Prop):Prop
 |mk (α:List (Option Addr)) (σd:aR) (st:aa) (K:Bool->aa->Prop) (G F:Hp) (P:a7 G F H) (R:bS α G σd σ) (S:aB α st G) (h:t σd st K) (k:BR α G F K Q):HV t σ H Q
def LT(t:DT):TT:=HV t
inductive HD(t:DA)(σ:L2.St)(H:Hp)(Q:List V->Hp->Prop):Prop
 |mk (α:List (Option Addr)) (σd:aR) (st:aa) (K:List D->aa->Prop) (G F:Hp) (P:a7 G F H) (R:bS α G σd σ) (S:aB α st G) (h:t σd st K) (k:IV α G F K Q):HD t σ H Q
def LA(t:DA):TA:=HD t
theorem LK.here{α:List (Option Addr)}{G F H:Hp}{K:DK}{Q:VK}(h:LK α G F K Q)(P:a7 G F H){d:D}{st:aa}{v:V}(k:K d st)(S:aB α st G)(r:Rep α G d v):Q v H:=h d st k α G H v Step.refl P S r
theorem LK.at{α α1:List (Option Addr)}{G F G1:Hp}{K:DK}{Q:VK}(h:LK α G F K Q)(s:Step α G α1 G1):LK α1 G1 F K Q:=fun d st' k α' G' H' v s' P S r=>h d st' k α' G' H' v (s.trans s') P S r
theorem BR.at{α α1:List (Option Addr)}{G F G1:Hp}{K:Bool->aa->Prop}{Q:Bool->Hp->Prop}(h:BR α G F K Q)(s:Step α G α1 G1):BR α1 G1 F K Q:=fun d st' k α' G' H' s' P S=>h d st' k α' G' H' (s.trans s') P S
section
variable {X:Cx}{a b c e:Expr}{es:List Expr}{ta tb tc te:DE}{pos:Pos}
theorem PE.imp{t t':TE}(h:PE X e t)(f:∀σ H Q,t' σ H Q->t σ H Q):PE X e t':=fun pins s σ H Q I q=>h pins s σ H Q I (f σ H Q q)
theorem PT.imp{t t':TT}(h:PT X e t)(f:∀σ H Q,t' σ H Q->t σ H Q):PT X e t':=fun pins s σ H Q I q=>h pins s σ H Q I (f σ H Q q)
theorem PW.imp{t t':TT}(h:PW X e t)(f:∀σ H Q,t' σ H Q->t σ H Q):PW X e t':=fun w pins s σ H Q I q=>h w pins s σ H Q I (f σ H Q q)
theorem PA.imp{t t':TA}(h:PA X es t)(f:∀σ H Q,t' σ H Q->t σ H Q):PA X es t':=fun p pins s σ H Q I q=>h p pins s σ H Q I (f σ H Q q)
def ah(i:Nat):DE:=fun σ st K=>match σ[i]? with|some (some d)=>K d st|_=>False
def dC(d:D):DE:=fun _ st K=>K d st
theorem G7{i:Nat}{x:Str}(h:PE X (.Name x pos) (kF i)):PE X (.Name x pos) (LE (ah i)):=PE.imp h fun σ H Q ⟨α,σd,st,K,G,F,P,R,S,t,k⟩=>by
 unfold ah at t;split at t
 . rename_i d q;obtain⟨v,e,r⟩:=R.at' i d q;exact⟨v,e,k.here P t S r⟩
 . exact t.elim
theorem kU{v:V}{d:D}(h:PE X e (tC v))(r:∀α H,Rep α H d v):PE X e (LE (dC d)):=PE.imp h fun σ H Q ⟨α,σd,st,K,G,F,P,R,S,t,k⟩=>k.here P t S (r α G)
theorem GJ{i:Int}{j:Nat}:PE X (.Constant (.int i) j pos) (LE (dC (.int i))):=kU Ew fun _ _=>by unfold Rep;rfl
theorem Ip{i:Bool}{j:Nat}:PE X (.Constant (.bool i) j pos) (LE (dC (.bl i))):=kU tm fun _ _=>by unfold Rep;rfl
theorem F1{i:Str}{j:Nat}:PE X (.Constant (.str i) j pos) (LE (dC (.str i))):=kU Et fun _ _=>by unfold Rep;rfl
theorem Gp{j:Nat}:PE X (.Constant .none j pos) (LE (dC .ay)):=kU zD fun _ _=>by unfold Rep;rfl
abbrev cG:=D->D->aa->DK->Prop
abbrev uc:=D->aa->DK->Prop
abbrev du:=List D->aa->DK->Prop
inductive HE(r:cG)(x y:V)(H:Hp)(Q:VK):Prop
 |mk (α:List (Option Addr)) (d e:D) (st:aa) (K:DK) (G F:Hp) (P:a7 G F H) (rx:Rep α G d x) (ry:Rep α G e y) (S:aB α st G) (h:r d e st K) (k:LK α G F K Q):HE r x y H Q
def LR(r:cG):R2:=HE r
inductive Fy(r:uc)(x:V)(H:Hp)(Q:VK):Prop
 |mk (α:List (Option Addr)) (d:D) (st:aa) (K:DK) (G F:Hp) (P:a7 G F H) (rx:Rep α G d x) (S:aB α st G) (h:r d st K) (k:LK α G F K Q):Fy r x H Q
def Cn(r:uc):V->Hp->VK->Prop:=Fy r
inductive FJ(r:du)(xs:List V)(H:Hp)(Q:VK):Prop
 |mk (α:List (Option Addr)) (ds:List D) (st:aa) (K:DK) (G F:Hp) (P:a7 G F H) (rx:ax α G ds xs) (S:aB α st G) (h:r ds st K) (k:LK α G F K Q):FJ r xs H Q
def eP(r:du):List V->Hp->VK->Prop:=FJ r
def az(r:cG)(ta tb:DE):DE:=fun σ st K=>ta σ st fun x st1=>tb σ st1 fun y st2=>r x y st2 K
def nD(r:uc)(ta:DE):DE:=fun σ st K=>ta σ st fun x st1=>r x st1 K
theorem LE.op{r:cG}{σ:L2.St}{H:Hp}{Q:VK}(h:LE (az r ta tb) σ H Q):yr (LR r) (LE ta) (LE tb) σ H Q:=by
 obtain⟨α,σd,st,K,G,F,P,R,S,t,k⟩:=h;refine⟨α,σd,st,_,G,F,P,R,S,t,fun d st1 q α1 G1 H1 v s1 P1 S1 r1=>?_⟩;refine⟨α1,σd,st1,_,G1,F,P1,R.step s1,S1,q,fun d2 st2 q2 α2 G2 H2 v2 s2 P2 S2 r2=>?_⟩;exact⟨α2,d,d2,st2,K,G2,F,P2,r1.step s2,r2,S2,q2,(k.at s1).at s2⟩
theorem LE.un{r:uc}{σ:L2.St}{H:Hp}{Q:VK}(h:LE (nD r ta) σ H Q):HK (Cn r) (LE ta) σ H Q:=by
 obtain⟨α,σd,st,K,G,F,P,R,S,t,k⟩:=h;refine⟨α,σd,st,_,G,F,P,R,S,t,fun d st1 q α1 G1 H1 v s1 P1 S1 r1=>?_⟩;exact⟨α1,d,st1,K,G1,F,P1,r1,S1,q,k.at s1⟩
theorem H_{op:Operator}{r:cG}(ho:bq X (binaryOp op) (LR r))(ha:PE X a (LE ta))(hb:PE X b (LE tb)):PE X (.BinOp a op b pos) (LE (az r ta tb)):=PE.imp (Gx ho ha hb) fun _ _ _ h=>LE.op h
theorem IL{op:UnaryOp}{r:uc}(ho:vR X (unaryOp op) (Cn r))(ha:PE X a (LE ta)):PE X (.UnaryOp op a pos) (LE (nD r ta)):=PE.imp (F6 ho ha) fun _ _ _ h=>LE.un h
theorem Hx{op:CmpOp}{r:cG}(ho:bq X (compareOp op) (LR r))(ha:PE X a (LE ta))(hb:PE X b (LE tb))(hm:behindInMarks op b=false:=by first|exact cp _|rfl):PE X (.Compare a [op] [b] pos) (LE (az r ta tb)):=PE.imp (Dw ho ha hb hm) fun _ _ _ h=>LE.op h
def bL(t:DE):DT:=fun σ st K=>t σ st fun d st1=>match d with| .bl b=>K b st1|_=>False
theorem LT.test{σ:L2.St}{H:Hp}{Q:Bool->Hp->Prop}(h:LT (bL te) σ H Q):LE te σ H fun x H'=>∃k,x= .bl k/\Q k H':=by
 obtain⟨α,σd,st,K,G,F,P,R,S,t,k⟩:=h;refine⟨α,σd,st,_,G,F,P,R,S,t,fun d st1 q α1 G1 H1 v s1 P1 S1 r1=>?_⟩;cases d with
 |bl b=>
  unfold Rep at r1;exact⟨b,r1,k b st1 q α1 G1 H1 s1 P1 S1⟩
 |_=>exact q.elim
theorem FL{op:CmpOp}{r:cG}(ho:bq X (compareOp op) (LR r))(ha:PE X a (LE ta))(hb:PE X b (LE tb))(hm:behindInMarks op b=false:=by first|exact cp _|rfl):PT X (.Compare a [op] [b] pos) (LT (bL (az r ta tb))):=PT.imp (C3 ho ha hb hm) fun σ H Q h=>by
 have q:=LT.test h;exact LE.op (Q:=fun x H'=>∃k,x= .bl k/\Q k H') q
theorem FT(he:PE X e (LE te))(hv:∀whole,isTrue e X.env whole=(do let v <-whole;standAt e.pos;holding [v] (truthy v)):=by intro _;rfl):PT X e (LT (bL te)):=PT.imp (mC he hv) fun σ H Q h=>LT.test h
def iR(t:DT):DT:=fun σ st K=>t σ st fun b st1=>K (!b) st1
def pD(t u:DT):DT:=fun σ st K=>t σ st fun b st1=>if b=true then u σ st1 K else K false st1
def rj(t u:DT):DT:=fun σ st K=>t σ st fun b st1=>if b=true then K true st1 else u σ st1 K
theorem Fc{t:DT}(ha:PT X a (LT t)):PT X (.UnaryOp .Not a pos) (LT (iR t)):=PT.imp (mP ha) fun σ H Q ⟨α,σd,st,K,G,F,P,R,S,t,k⟩=>
 ⟨α,σd,st,_,G,F,P,R,S,t,fun b st1 q α1 G1 H1 s1 P1 S1=>k _ st1 q α1 G1 H1 s1 P1 S1⟩
theorem LT.and{t u:DT}{σ:L2.St}{H:Hp}{Q:Bool->Hp->Prop}(h:LT (pD t u) σ H Q):Ef (LT t) (LT u) σ H Q:=by
 obtain⟨α,σd,st,K,G,F,P,R,S,t,k⟩:=h;refine⟨α,σd,st,_,G,F,P,R,S,t,fun b st1 q α1 G1 H1 s1 P1 S1=>?_⟩;cases b with
 |true=>exact⟨α1,σd,st1,K,G1,F,P1,R.step s1,S1,q,k.at s1⟩
 |false=>exact k _ st1 q α1 G1 H1 s1 P1 S1
theorem LT.or{t u:DT}{σ:L2.St}{H:Hp}{Q:Bool->Hp->Prop}(h:LT (rj t u) σ H Q):B1 (LT t) (LT u) σ H Q:=by
 obtain⟨α,σd,st,K,G,F,P,R,S,t,k⟩:=h;refine⟨α,σd,st,_,G,F,P,R,S,t,fun b st1 q α1 G1 H1 s1 P1 S1=>?_⟩;cases b with
 |false=>exact⟨α1,σd,st1,K,G1,F,P1,R.step s1,S1,q,k.at s1⟩
 |true=>exact k _ st1 q α1 G1 H1 s1 P1 S1
theorem Cu{t:DT}(ha:PT X a (LT t)):PW X (.BoolOp .And [a] pos) (LT t):=pw_and1 ha
theorem E6{t:DT}(ha:PT X a (LT t)):PW X (.BoolOp .Or [a] pos) (LT t):=pw_or1 ha
theorem D9{t u:DT}(ha:PT X a (LT t))(hb:PW X (.BoolOp .And (b::es) pos) (LT u)):PW X (.BoolOp .And (a::b::es) pos) (LT (pD t u)):=PW.imp (pw_and ha hb) fun _ _ _ h=>LT.and h
theorem Gy{t u:DT}(ha:PT X a (LT t))(hb:PW X (.BoolOp .Or (b::es) pos) (LT u)):PW X (.BoolOp .Or (a::b::es) pos) (LT (rj t u)):=PW.imp (pw_or ha hb) fun _ _ _ h=>LT.or h
def og(ta tb:DE):DE:=fun σ st K=>ta σ st fun d st1=>match d with| .bl b=>if b=true then tb σ st1 K else K (.bl false) st1|_=>False
def AF(ta tb:DE):DE:=fun σ st K=>ta σ st fun d st1=>match d with| .bl b=>if b=true then K (.bl true) st1 else tb σ st1 K|_=>False
def xm(t:DT):DE:=fun σ st K=>t σ st fun b st1=>K (.bl (!b)) st1
theorem GY{op:BoolOp}(ha:PE X a (LE ta)):PE X (.BoolOp op [a] pos) (LE ta):=Fh ha
theorem Gi(ha:PE X a (LE ta))(hb:PE X (.BoolOp .And (b::es) pos) (LE tb)):PE X (.BoolOp .And (a::b::es) pos) (LE (og ta tb)):=PE.imp (Ea ha hb) fun σ H Q ⟨α,σd,st,K,G,F,P,R,S,t,k⟩=>by
 refine⟨α,σd,st,_,G,F,P,R,S,t,fun d st1 q α1 G1 H1 v s1 P1 S1 r1=>?_⟩;cases d with
 |bl b=>
  unfold Rep at r1;refine⟨b,r1,?_⟩;cases b with
  |true=>exact⟨α1,σd,st1,K,G1,F,P1,R.step s1,S1,q,k.at s1⟩
  |false=>exact k _ st1 q α1 G1 H1 _ s1 P1 S1 (by unfold Rep;rfl)
 |_=>exact q.elim
theorem Ih(ha:PE X a (LE ta))(hb:PE X (.BoolOp .Or (b::es) pos) (LE tb)):PE X (.BoolOp .Or (a::b::es) pos) (LE (AF ta tb)):=PE.imp (Hf ha hb) fun σ H Q ⟨α,σd,st,K,G,F,P,R,S,t,k⟩=>by
 refine⟨α,σd,st,_,G,F,P,R,S,t,fun d st1 q α1 G1 H1 v s1 P1 S1 r1=>?_⟩;cases d with
 |bl b=>
  unfold Rep at r1;refine⟨b,r1,?_⟩;cases b with
  |false=>exact⟨α1,σd,st1,K,G1,F,P1,R.step s1,S1,q,k.at s1⟩
  |true=>exact k _ st1 q α1 G1 H1 _ s1 P1 S1 (by unfold Rep;rfl)
 |_=>exact q.elim
theorem GI(ha:PE X a (LE ta)):PE X (.UnaryOp .Not a pos) (LE (xm (bL ta))):=PE.imp (zq ha) fun σ H Q ⟨α,σd,st,K,G,F,P,R,S,t,k⟩=>by
 refine⟨α,σd,st,_,G,F,P,R,S,t,fun d st1 q α1 G1 H1 v s1 P1 S1 r1=>?_⟩;cases d with
 |bl b=>
  unfold Rep at r1;exact⟨b,r1,k _ st1 q α1 G1 H1 _ s1 P1 S1 (by unfold Rep;rfl)⟩
 |_=>exact q.elim
def EG(t:DT)(ta tb:DE):DE:=fun σ st K=>t σ st fun b st1=>if b=true then ta σ st1 K else tb σ st1 K
theorem Hc{t:DT}(hc:PT X c (LT t))(ha:PE X a (LE ta))(hb:PE X b (LE tb)):PE X (.IfExp c a b pos) (LE (EG t ta tb)):=PE.imp (z_ hc ha hb) fun σ H Q ⟨α,σd,st,K,G,F,P,R,S,t,k⟩=>by
 refine⟨α,σd,st,_,G,F,P,R,S,t,fun b st1 q α1 G1 H1 s1 P1 S1=>?_⟩;cases b with
 |true=>exact⟨α1,σd,st1,K,G1,F,P1,R.step s1,S1,q,k.at s1⟩
 |false=>exact⟨α1,σd,st1,K,G1,F,P1,R.step s1,S1,q,k.at s1⟩
def ao:DA:=fun _ st K=>K [] st
def ag(ta:DE)(tr:DA):DA:=fun σ st K=>ta σ st fun x st1=>tr σ st1 fun xs st2=>K (x::xs) st2
theorem yA:PA X [] (LA ao):=PA.imp gW fun σ H Q ⟨α,σd,st,K,G,F,P,R,S,t,k⟩=>k [] st t α G H [] Step.refl P S (by unfold ax;rfl)
theorem wm{tr:DA}(ha:PE X e (LE te))(hr:PA X es (LA tr))(hs:starEach (e::es) X.env=(false,eval e X.env)::starEach es X.env:=by rfl):PA X (e::es) (LA (ag te tr)):=PA.imp (cv ha hr hs) fun σ H Q ⟨α,σd,st,K,G,F,P,R,S,t,k⟩=>by
 refine⟨α,σd,st,_,G,F,P,R,S,t,fun d st1 q α1 G1 H1 v s1 P1 S1 r1=>?_⟩;refine⟨α1,σd,st1,_,G1,F,P1,R.step s1,S1,q,fun ds st2 q2 α2 G2 H2 vs s2 P2 S2 r2=>?_⟩;exact k _ st2 q2 α2 G2 H2 (v::vs) (s1.trans s2) P2 S2 (by unfold ax;exact⟨v,vs,rfl,r1.step s2,r2⟩)
def lH(t:DA):DE:=fun σ st K=>t σ st fun ds st1=>ds.length<=sizeLine/\K (.tup ds) st1
def fY(t:DA):DE:=fun σ st K=>t σ st fun ds st1=>ds.length<=sizeLine/\K (.lst ds) st1
def oV(t:DA):DE:=fun σ st K=>t σ st fun ds st1=>ds.length<=sizeLine/\K (.ref st1.length) (st1++[.lst ds])
theorem LK.tup{α:List (Option Addr)}{G F H:Hp}{K:DK}{Q:VK}{ds:List D}{vs:List V}{st:aa}{p:Addr}(k:LK α G F K Q)(P:a7 G F H)(q:K (.tup ds) st)(S:aB α st G)(r:ax α G ds vs)(hp:H p=none):Q (.ref p) (upd H p (.tup vs)):=
 have hg:=(P.none hp).1
 k _ st q α _ _ _ (Step.laid hg) (P.laid hp) (S.laid hg) (by unfold Rep;exact⟨p,vs,rfl,S.kq hg,aD,r.step (Step.laid hg)⟩)
theorem LK.lst{α:List (Option Addr)}{G F H:Hp}{K:DK}{Q:VK}{ds:List D}{vs:List V}{st:aa}{p:Addr}(k:LK α G F K Q)(P:a7 G F H)(q:K (.lst ds) st)(S:aB α st G)(r:ax α G ds vs)(hp:H p=none):Q (.ref p) (upd H p (.lst vs)):=
 have hg:=(P.none hp).1
 k _ st q α _ _ _ (Step.laid hg) (P.laid hp) (S.laid hg) (by unfold Rep;exact⟨p,vs,rfl,S.kq hg,.of aD,r.step (Step.laid hg)⟩)
theorem LK.new{α:List (Option Addr)}{G F H:Hp}{K:DK}{Q:VK}{ds:List D}{vs:List V}{st:aa}{p:Addr}(k:LK α G F K Q)(P:a7 G F H)(q:K (.ref st.length) (st++[.lst ds]))(S:aB α st G)(r:ax α G ds vs)(hp:H p=none):Q (.ref p) (upd H p (.lst vs)):=
 have hg:=(P.none hp).1
 k _ _ q (α++[some p]) _ _ _ (Step.cell hg) (P.laid hp) (S.cell hg ⟨vs,aD,r.step (Step.cell hg)⟩) (by
  unfold Rep;refine .inr ⟨p,?_,rfl⟩;rw[List.getElem?_append_right (by rw[S.len];exact Nat.le_refl _),S.len,Nat.sub_self];rfl)
theorem Gg{n:Nat}{t:DA}(h:PA X es (LA t)):PE X (.Tuple es n pos) (LE (lH t)):=PE.imp (u0 h) fun σ H Q ⟨α,σd,st,K,G,F,P,R,S,t,k⟩=>
 ⟨α,σd,st,_,G,F,P,R,S,t,fun ds st1 q α1 G1 H1 vs s1 P1 S1 r1=>⟨by rw[<-r1.length];exact q.1,fun p hp=>(k.at s1).tup P1 q.2 S1 r1 hp⟩⟩
theorem GF{t:DA}(h:PA X es (LA t)):PE X (.List es pos) (LE (fY t)):=PE.imp (zg h) fun σ H Q ⟨α,σd,st,K,G,F,P,R,S,t,k⟩=>
 ⟨α,σd,st,_,G,F,P,R,S,t,fun ds st1 q α1 G1 H1 vs s1 P1 S1 r1=>⟨by rw[<-r1.length];exact q.1,fun p hp=>(k.at s1).lst P1 q.2 S1 r1 hp⟩⟩
theorem F7{t:DA}(h:PA X es (LA t)):PE X (.List es pos) (LE (oV t)):=PE.imp (zg h) fun σ H Q ⟨α,σd,st,K,G,F,P,R,S,t,k⟩=>
 ⟨α,σd,st,_,G,F,P,R,S,t,fun ds st1 q α1 G1 H1 vs s1 P1 S1 r1=>⟨by rw[<-r1.length];exact q.1,fun p hp=>(k.at s1).new P1 q.2 S1 r1 hp⟩⟩
abbrev cu:=List D->aa->DK->Prop
inductive Bb(T:cu)(vs:List V)(H:Hp)(Q:VK):Prop
 |mk (α:List (Option Addr)) (ds:List D) (st:aa) (K:DK) (G F:Hp) (P:a7 G F H) (rx:ax α G ds vs) (S:aB α st G) (h:T ds st K) (k:LK α G F K Q):Bb T vs H Q
def cK(S:cu):Sp:=fun vs H Q _=>Bb S vs H Q
def aC(S:cu)(t:DA):DE:=fun σ st K=>t σ st fun ds st1=>S ds st1 K
theorem LE.call{S:cu}{t:DA}{σ:L2.St}{H:Hp}{Q:VK}(h:LE (aC S t) σ H Q):lC (cK S) [] E0 (LA t) σ H Q:=by
 obtain⟨α,σd,st,K,G,F,P,R,S,t,k⟩:=h;refine⟨α,σd,st,_,G,F,P,R,S,t,fun ds st1 q α1 G1 H1 vs s1 P1 S1 r1=>?_⟩;try dsimp only
 rw[List.append_nil];exact⟨α1,ds,st1,K,G1,F,P1,r1,S1,q,k.at s1⟩
theorem EK{S:cu}{k:Nat}{f:Addr}{fd:FuncData}{ps:List Str}{x:Str}{p:Pos}{t:DA}(F:aK X.prog X.w X.K X.mg X.base b_ k f fd ps (cK S))(hr:bw k X.A)(hg:Gl X x)(hm:X.mg x=some (.ref f))(hk:PySem.W.keepIn X.K (.ref f)=true)(hb:Binds X.K fd ps [])
 (ha:PA X (e::es) (LA t)) (hdb:(x==("__debug__":Str))=false:=by decide) (he:starEach (e::es) X.env=(false,eval e X.env)::starEach es X.env:=by rfl) (hpl:(backTo pos (starEach es X.env)).any (·.1)=false:=by rfl):
 PE X (.Call (.Name x p) (e::es) [] pos) (LE (aC S t)):=PE.imp (kR F hr hg hm hk hb .nil s_ ha hdb he hpl) fun _ _ _ h=>LE.call h
def bD(r:du)(t:DA):DE:=fun σ st K=>t σ st fun ds st1=>r ds st1 K
theorem LE.cb{r:du}{t:DA}{σ:L2.St}{H:Hp}{Q:VK}(h:LE (bD r t) σ H Q):vG (eP r) (LA t) σ H Q:=by
 obtain⟨α,σd,st,K,G,F,P,R,S,t,k⟩:=h;refine⟨α,σd,st,_,G,F,P,R,S,t,fun ds st1 q α1 G1 H1 vs s1 P1 S1 r1=>?_⟩;exact⟨α1,ds,st1,K,G1,F,P1,r1,S1,q,k.at s1⟩
end
section
variable {X:Cx}
theorem bq.imp{f:Value->Value->Sem Value}{r r':R2}(h:bq X f r)(k:∀x y H Q,r' x y H Q->r x y H Q):bq X f r':=fun pins s σ H x y v u Q I rx ry q=>h pins s σ H x y v u Q I rx ry (k x y H Q q)
theorem aU.imp{f:Value}{r r':List V->Hp->VK->Prop}(h:aU X f r)(k:∀xs H Q,r' xs H Q->r xs H Q):aU X f r':=fun pins s σ H xs us Q I rs q=>h pins s σ H xs us Q I rs (k xs H Q q)
def tQ(C:Int->Int->Prop)(g:Int->Int->D):cG:=fun x y st K=>match x,y with| .int i,.int j=>C i j/\K (g i j) st|_,_=>False
theorem kW{f:Value->Value->Sem Value}{C:Int->Int->Prop}{g:Int->Int->D}{g':Int->Int->V}(hg:∀i j α H,Rep α H (g i j) (g' i j))(h:bq X f (rI C g')):bq X f (LR (tQ C g)):=bq.imp h fun x y H Q ⟨α,d,e,st,K,G,F',P,r1,r2,S,q,k⟩=>by
 cases d<;>cases e<;>first
  |exact q.elim
  |(unfold Rep at r1 r2;exact⟨_,_,r1,r2,q.1,k.here P q.2 S (hg _ _ _ _)⟩)
abbrev T2:Int->Int->Prop:=fun _ _=>True
theorem xO{g:Int->Int->V}{f:Value->Value->Sem Value}(h:bq X f (tP g)):bq X f (rI T2 g):=bq.imp h fun x y H Q ⟨i,j,e1,e2,_,q⟩=>⟨i,j,e1,e2,q⟩
abbrev Cm:cG:=tQ T2 fun i j=> .int (i-j)
abbrev zc:cG:=tQ (fun _ j=>j≠0/\j.natAbs.log2<9000) fun i j=> .int (i.fdiv j)
abbrev Ck:cG:=tQ (fun _ j=>j≠0) fun i j=> .int (i.fmod j)
abbrev BI:cG:=tQ A4 fun i j=> .int (i^j.toNat)
abbrev EC:cG:=tQ T2 fun i j=> .bl (decide (i<j))
abbrev Fs:cG:=tQ T2 fun i j=> .bl (decide (j<=i))
theorem Gs:bq X (binaryOp .Sub) (LR Cm):=kW (fun _ _ _ _=>by unfold Rep;rfl) (xO FI)
theorem E2:bq X (binaryOp .FloorDiv) (LR zc):=kW (fun _ _ _ _=>by unfold Rep;rfl) (BW fun i j _ _ _ _ _ hc q=>floordiv_int hc.1 q (.inl (PyProof.noPylong_of_log2 hc.2)))
theorem Hq:bq X (binaryOp .Mod) (LR Ck):=kW (fun _ _ _ _=>by unfold Rep;rfl) Dy
theorem GG:bq X (binaryOp .Pow) (LR BI):=kW (fun _ _ _ _=>by unfold Rep;rfl) FF
theorem Iw:bq X (compareOp .Lt) (LR EC):=kW (fun _ _ _ _=>by unfold Rep;rfl) (xO Gf)
theorem IB:bq X (compareOp .GtE) (LR Fs):=kW (fun _ _ _ _=>by unfold Rep;rfl) (xO Hu)
def Cf:uc:=fun x st K=>match x with| .int i=>K (.int (-i)) st|_=>False
theorem Hw:vR X (unaryOp .USub) (Cn Cf):=fun pins s σ H x v Q I rx ⟨α,d,st,K,G,F',P,r,S,q,k⟩=>by
 cases d<;>first
  |exact q.elim
  |(unfold Rep at r;exact FK pins s σ H x v Q I rx ⟨_,r,k.here P q S (by unfold Rep;rfl)⟩)
theorem Inv.qO{pins:List (Addr×Obj)}{σ:L2.St}{H:Hp}{s:Shared}{l:Addr}{xs:List V}(I:Inv X pins σ H s)(h:Rd H l (.lst xs)):
 xs.length<=sizeLine/\∃(aj:List Value) (n:Nat),Vals xs aj/\xs.length=aj.length/\s.heap.get? l=some {cls:= .type "list",data:= .seq aj.toArray n}:=by
 obtain⟨z,aj,n,r,e⟩:=h.ok I.aw;exact⟨z,aj,n,r,r.length,e⟩
theorem eU{G F H:Hp}(P:a7 G F H){a:Addr}{u:HO}(h:Rd G a u):Rd H a u:=by
 rcases h with h|⟨o,h⟩
 . exact .inl (P.get h)
 . exact .inr ⟨o,P.get h⟩
theorem De:bq X (binaryOp .Add) (fun x y H Q=>∃l b xs zs,x= .ref l/\y= .ref b/\Rd H l (.lst xs)/\Rd H b (.lst zs)/\xs.length+zs.length<=sizeLine/\∀p,H p=none->Q (.ref p) (upd H p (.lst (xs++zs)))):=by
 intro pins s σ H x y v u Q I rx ry h;obtain⟨l,b,xs,zs,rfl,rfl,hH,hB,hz,q⟩:=h;cases rx;cases ry;obtain⟨z,aj,n,r,hl,e⟩:=Inv.qO I hH;obtain⟨z2,its2,n2,r2,hl2,e2⟩:=Inv.qO I hB;refine PySem.P.add_list e e2 ?_ (by rw[List.size_toArray,List.size_toArray];omega);have ea:aj.toArray++its2.toArray=(aj++its2).toArray:=by simp
 rw[ea];exact⟨.ref _,_,I.Bj (t':=s.toks) (r.append r2) (by rw[List.length_append];omega),rfl,q _ I.fresh⟩
theorem C2:bq X (binaryOp .Mult) (fun x y H Q=>∃l k xs,x= .ref l/\y= .int k/\Rd H l (.lst xs)/\ -(2^63)<=k/\k<2^63/\xs.length*k.toNat<=sizeLine/\
 ∀p,H p=none->Q (.ref p) (upd H p (.lst (List.replicate k.toNat xs).flatten))):=by
 intro pins s σ H x y v u Q I rx ry h;obtain⟨l,k,xs,rfl,rfl,hH,h1,h2,hz,q⟩:=h;cases rx;obtain⟨t,rfl⟩:=ry;obtain⟨z,aj,n,r,hl,e⟩:=Inv.qO I hH;have hlen:aj.toArray.size*k.toNat<=sizeLine:=by rw[List.size_toArray,<-hl];exact hz
 have hcap:¬aj.toArray.size*k.toNat>(2^63-1)/8:=by
  have:(sizeLine:Nat)<=(2^63-1)/8:=by decide
  omega
 have hfit:¬(!Builtin.List.listFitsIndex k)=true:=by
  rw[fitsIndex_both h1 h2];exact Bool.false_ne_true
 have hlong:¬Builtin.List.listTooLong (aj.toArray.size*k.toNat)=true:=by
  rw[Al hlen];exact Bool.false_ne_true
 have hnew:List.foldl (fun x1 x2=>x1++x2) #[] (List.replicate (if aj.toArray.isEmpty=true then 0 else k.toNat) aj.toArray)=(List.replicate k.toNat aj).flatten.toArray:=by
  have f0:∀m:Nat,List.foldl (fun x1 x2=>x1++x2) #[] (List.replicate m aj.toArray)=(List.replicate m aj).flatten.toArray:=fun m=>by
   have:=foldl_rep aj m [];rw[List.nil_append]at this;exact this
  rw[f0];cases aj with
  |nil=>simp
  |cons a r'=>rw[if_neg (by simp)]
 refine wpAny_binaryOp_repeat_ref (T:="list") (U:="int") (by decide) ⟨_,e,rfl⟩ (fun s'=>typeIs_int s' k t) noFill_list_mul F.fills_int_mul F.slot_int_rmul repeat_list F.slot_int_index.lookup
  (call_meets F.slot_int_rmul (typeIs_int s k t) F.entry_int_rmul (F.args_int_rmul_2 _ _) (int___rmul___int_list k t l aj.toArray n)
    ⟨e,rfl,⟨_,e,rfl⟩,call_meets F.slot_list_mul ⟨_,e,rfl⟩ F.entry_list_mul (F.args_list_mul_2 _ _) (AutoListH.list___mul___list_int_3 l aj.toArray n k t hfit hcap hlong) ⟨e,?_⟩⟩)
 rw[hnew];exact⟨.ref _,_,I.Bj (t':=s.toks) (r.rep k.toNat) (by rw[len_rep,Nat.mul_comm];exact hz),rfl,q _ I.fresh⟩
theorem zW:bq X (binaryOp .Add) (fun x y H Q=>∃a b xs ys,x= .ref a/\y= .ref b/\H a=some (.tup xs)/\H b=some (.tup ys)/\xs.length+ys.length<=sizeLine/\
 (xs=[]->Q (.ref b) H)/\(xs≠ []->ys=[]->Q (.ref a) H)/\(xs≠ []->ys≠ []->∀p,H p=none->Q (.ref p) (upd H p (.tup (xs++ys))))):=by
 intro pins s σ H x y v u Q I rx ry h;obtain⟨a,b,xs,ys,rfl,rfl,ha,hb,hz,q0,q1,q2⟩:=h;by_cases hx:xs=[]
 . cases rx;cases ry;obtain⟨aj,r1,p1,_⟩:=I.tuple (.of ha);obtain⟨its2,r2,p2,_⟩:=I.tuple (.of hb);obtain⟨⟨cls,dd,data,sl⟩,ho,hc,n,hd⟩:=id p1;obtain⟨⟨cls2,dd2,data2,sl2⟩,ho2,hc2,n2,hd2⟩:=id p2;simp only at hc hd hc2 hd2;subst hc hd hc2 hd2;have hi:aj=[]:=(L2.Vals.nN r1).mpr hx
   exact concat_meets ⟨_,ho,rfl⟩ ⟨_,ho2,rfl⟩ noFill_tuple_add seq_tuple_add PySem.F.slot_tuple_add PySem.F.entry_tuple_add (PySem.F.args_tuple_add_2 _ _)
    (tuple_addW0 a b aj.toArray its2.toArray n n2 dd dd2 sl sl2 (by simp[hi])) ⟨ho,ho2,⟨.ref b,H,I,rfl,q0 hx⟩⟩
 . exact Dh pins s σ H _ _ v u Q I rx ry ⟨a,b,xs,ys,rfl,rfl,.of ha,.of hb,hx,hz,q1 hx,q2 hx⟩
theorem qR:fillsNumberSlot (.type "tuple") "mul"=pure false:=
 PySem.fillsNumberSlot_seq (id:="tuple.__mul__") (r:=some (.builtin "tuple.__rmul__")) F.slot_tuple_mul.lookup (by decide+kernel) F.slot_tuple_rmul.lookup (by decide+kernel)
theorem x_:seqRepeat? (.type "tuple")=pure (some (.builtin "tuple.__mul__")):=by
 unfold seqRepeat?;rw[PySem.seqSlot_of (T:="tuple") (name:="__mul__") (id:="tuple.__mul__") F.slot_tuple_mul.lookup (by decide+kernel),PySem.seqSlot_of (T:="tuple") (name:="__rmul__") (id:="tuple.__rmul__") F.slot_tuple_rmul.lookup (by decide+kernel)];rfl
theorem uS(a:Int)(t:Tok)(l:Addr)(aj:Array Value)(n:Nat)(dd:Option Addr)(sl:Array (Option Value)):Meets (Builtin.«int.__rmul__» ⟨[.int a t,.ref l],[]⟩) (fun _ R s=>s.heap.get? l=some {cls:= .type "tuple",dict:=dd,data:= .seq aj n,slots:=sl}/\R (.ok (.ret Value.notImplemented)) s):=
 .of_wp fun P w A R s h=>by
  obtain⟨hp,g,d,tk,os⟩:=s;obtain⟨hl,h⟩:=h
  wp_walk
  exact⟨_,rfl,h⟩
theorem uL(l:Addr)(aj:Array Value)(n:Nat)(dd:Option Addr)(sl:Array (Option Value))(x:Int)(u:Tok)(h0:(decide (x< -(2^63))||decide (x>=2^63))=false)(h1:(aj.isEmpty||x==1)=true):
 Meets (Builtin.«tuple.__mul__» ⟨[.ref l,.int x u],[]⟩) (fun _ R s=>s.heap.get? l=some {cls:= .type "tuple",dict:=dd,data:= .seq aj n,slots:=sl}/\R (.ok (.ret (.ref l))) s):=
 .of_wp fun P w A R s h=>by
  obtain⟨hp,g,d,tk,os⟩:=s;obtain⟨hl,h⟩:=h
  wp_walk
  refine wpAny_ite_false (by rw[h0];rfl) ?_
  wp_walk
  exact⟨_,rfl,h⟩
theorem uA(l:Addr)(aj:Array Value)(n:Nat)(dd:Option Addr)(sl:Array (Option Value))(x:Int)(u:Tok)(h0:(decide (x< -(2^63))||decide (x>=2^63))=false)(h1:(aj.isEmpty||x==1)=false)(h2:(decide (x<=0)||aj.isEmpty)=true):
 Meets (Builtin.«tuple.__mul__» ⟨[.ref l,.int x u],[]⟩) (fun _ R s=>s.heap.get? l=some {cls:= .type "tuple",dict:=dd,data:= .seq aj n,slots:=sl}/\R (.ok (.ret (.ref s.heap.objs.size))) {s with heap:=s.heap.push {cls:= .type "tuple",data:= .seq #[]}}):=
 .of_wp fun P w A R s h=>by
  obtain⟨hp,g,d,tk,os⟩:=s;obtain⟨hl,h⟩:=h
  wp_walk
  refine wpAny_ite_false (by rw[h0];rfl) ?_
  wp_walk
  exact⟨_,rfl,h⟩
theorem t7(l:Addr)(aj:Array Value)(n:Nat)(dd:Option Addr)(sl:Array (Option Value))(x:Int)(u:Tok)(h0:(decide (x< -(2^63))||decide (x>=2^63))=false)(h1:(aj.isEmpty||x==1)=false)(h2:(decide (x<=0)||aj.isEmpty)=false)(h3:¬((aj.size:Int)*x>(2^63-1)/8))(h4:Builtin.Tuple.tupleTooMany (aj.size*x)=false)
 (hz:(List.foldl (fun x1 x2=>x1++x2) #[] (List.replicate x.toNat aj)).size<=sizeLine):
 Meets (Builtin.«tuple.__mul__» ⟨[.ref l,.int x u],[]⟩) (fun _ R s=>s.heap.get? l=some {cls:= .type "tuple",dict:=dd,data:= .seq aj n,slots:=sl}/\R (.ok (.ret (.ref s.heap.objs.size))) {s with heap:=s.heap.push {cls:= .type "tuple",data:= .seq (List.foldl (fun x1 x2=>x1++x2) #[] (List.replicate x.toNat aj))}}):=
 .of_wp fun P w A R s h=>by
  obtain⟨hp,g,d,tk,os⟩:=s;obtain⟨hl,h⟩:=h
  wp_walk
  refine wpAny_ite_false (by rw[h0];rfl) ?_
  wp_walk
  refine wpAny_ite_false (decide_eq_false h3) ?_
  wp_walk
  exact⟨_,rfl,h⟩
theorem Dx:bq X (binaryOp .Mult) (fun x y H Q=>∃l k xs,x= .ref l/\y= .int k/\H l=some (.tup xs)/\ -(2^63)<=k/\k<2^63/\xs.length*k.toNat<=sizeLine/\
 ((xs=[]\/k=1)->Q (.ref l) H)/\(¬(xs=[]\/k=1)->∀p,H p=none->Q (.ref p) (upd H p (.tup (List.replicate k.toNat xs).flatten)))):=by
 intro pins s σ H x y v u Q I rx ry h;obtain⟨l,k,xs,rfl,rfl,hH,h1,h2,hz,q1,q2⟩:=h;cases rx;obtain⟨t,rfl⟩:=ry;obtain⟨aj,r,p1,_⟩:=I.tuple (.of hH);obtain⟨⟨cls,dd,data,sl⟩,ho,hc,n,hd⟩:=id p1;simp only at hc hd;subst hc hd;have hl:xs.length=aj.length:=r.length
 have f0:(decide (k< -(2^63))||decide (k>=2^63))=false:=by
  rw[decide_eq_false (by omega),decide_eq_false (by omega)];rfl
 refine wpAny_binaryOp_repeat_ref (T:="tuple") (U:="int") (by decide) ⟨_,ho,rfl⟩ (fun s'=>typeIs_int s' k t) qR F.fills_int_mul F.slot_int_rmul x_ F.slot_int_index.lookup
  (call_meets F.slot_int_rmul (typeIs_int s k t) F.entry_int_rmul (F.args_int_rmul_2 _ _) (uS k t l aj.toArray n dd sl) ⟨ho,rfl,⟨_,ho,rfl⟩,?_⟩)
 by_cases hs:xs=[]\/k=1
 . have f1:(aj.toArray.isEmpty||k==1)=true:=by
    rcases hs with z|z
    . have:aj=[]:=List.length_eq_zero_iff.mp (by rw[<-hl,z];rfl);rw[this];rfl
    . rw[z];simp
   exact call_meets F.slot_tuple_mul ⟨_,ho,rfl⟩ F.entry_tuple_mul (F.args_tuple_mul_2 _ _) (uL l aj.toArray n dd sl k t f0 f1) ⟨ho,⟨.ref l,H,I,rfl,q1 hs⟩⟩
 . have hne:aj≠ []:=fun z=>hs (.inl (List.length_eq_zero_iff.mp (by rw[hl,z];rfl)));have hk1:k≠1:=fun z=>hs (.inr z);have e1:aj.toArray.isEmpty=false:=by simpa using hne
   have f1:(aj.toArray.isEmpty||k==1)=false:=by rw[e1];simpa using hk1
   have new:∀(us:List Value) (ys:List V),Vals ys us->ys.length<=sizeLine->Inv X pins σ (upd H s.heap.objs.size (.tup ys)) {s with heap:=s.heap.push {cls:= .type "tuple",data:= .seq us.toArray}}:=fun us ys hv hy=>
    I.laid (t':=s.toks) (fun _ _ q=>Heap.get?_push_of_some _ q) (Nat.le_refl _) ⟨hy,us,hv,⟨_,Heap.get?_push_size _ rfl,rfl,_,rfl⟩⟩
   by_cases h0:k<=0
   . have f2:(decide (k<=0)||aj.toArray.isEmpty)=true:=by rw[decide_eq_true h0];rfl
     refine call_meets F.slot_tuple_mul ⟨_,ho,rfl⟩ F.entry_tuple_mul (F.args_tuple_mul_2 _ _) (uA l aj.toArray n dd sl k t f0 f1 f2) ⟨ho,?_⟩;have ez:k.toNat=0:=by omega
     rw[ez]at q2;exact⟨.ref _,_,new [] [] .nil (Nat.zero_le _),rfl,q2 hs _ I.fresh⟩
   . have f2:(decide (k<=0)||aj.toArray.isEmpty)=false:=by rw[decide_eq_false h0,e1];rfl
     have hk:(k.toNat:Int)=k:=by omega
     have hlen:aj.toArray.size*k.toNat<=sizeLine:=by rw[List.size_toArray,<-hl];exact hz
     have hsz:((aj.toArray.size:Nat):Int)*k<=(sizeLine:Int):=by
      rw[<-hk]
      exact_mod_cast hlen
     have f3:¬(((aj.toArray.size:Nat):Int)*k>(2^63-1)/8):=by
      have:((sizeLine:Nat):Int)<=(2^63-1)/8:=by decide
      omega
     have f4:Builtin.Tuple.tupleTooMany (((aj.toArray.size:Nat):Int)*k)=false:=by
      unfold Builtin.Tuple.tupleTooMany;exact decide_eq_false (by omega)
     have hnew:List.foldl (fun x1 x2=>x1++x2) #[] (List.replicate k.toNat aj.toArray)=(List.replicate k.toNat aj).flatten.toArray:=by
      have:=foldl_rep aj k.toNat [];rw[List.nil_append]at this;exact this
     have hfl:(List.replicate k.toNat aj).flatten.length=aj.length*k.toNat:=by rw[len_rep,Nat.mul_comm]
     refine call_meets F.slot_tuple_mul ⟨_,ho,rfl⟩ F.entry_tuple_mul (F.args_tuple_mul_2 _ _) (t7 l aj.toArray n dd sl k t f0 f1 f2 f3 f4 (by rw[hnew,List.size_toArray,hfl];exact hlen)) ⟨ho,?_⟩;rw[hnew];exact⟨.ref _,_,new _ _ (r.rep k.toNat) (by rw[len_rep,Nat.mul_comm];exact hz),rfl,q2 hs _ I.fresh⟩
def Bo:cG:=fun x y st K=>match x,y with
 | .int i,.int j=>K (.int (i+j)) st
 | .tup xs,.tup ys=>xs.length+ys.length<=sizeLine/\K (.tup (xs++ys)) st
 | .lst xs,.lst ys=>xs.length+ys.length<=sizeLine/\K (.lst (xs++ys)) st
 | .str x,.str y=>x.length+y.length<=sizeLine/\K (.str (x++y)) st
 |_,_=>False
theorem Gr:bq X (binaryOp .Add) (LR Bo):=fun pins s σ H x y v u Q I rx ry ⟨α,d,e,st,K,G,F',P,r1,r2,S,q,k⟩=>by
 cases d<;>cases e<;>try exact q.elim
 . unfold Rep at r1 r2;exact EV pins s σ H x y v u Q I rx ry ⟨_,_,r1,r2,k.here P q S (by unfold Rep;rfl)⟩
 . unfold Rep at r1 r2;exact xG pins s σ H x y v u Q I rx ry ⟨_,_,r1,r2,q.1,k.here P q.2 S (by unfold Rep;rfl)⟩
 . unfold Rep at r1 r2;obtain⟨a,vs,rfl,na,ha,ra⟩:=r1;obtain⟨b,ws,rfl,nb,hb,rb⟩:=r2;refine De pins s σ H _ _ v u Q I rx ry ⟨a,b,vs,ws,rfl,rfl,eU P ha,eU P hb,by rw[<-ra.length,<-rb.length];exact q.1,fun p hp=>?_⟩;exact k.lst P q.2 S (aO.mpr (dP (aO.mp ra) (aO.mp rb))) hp
 . rename_i xs ys;unfold Rep at r1 r2;obtain⟨a,vs,rfl,na,ha,ra⟩:=r1;obtain⟨b,ws,rfl,nb,hb,rb⟩:=r2;have hl1:=ra.length;have hl2:=rb.length;refine zW pins s σ H _ _ v u Q I rx ry ⟨a,b,vs,ws,rfl,rfl,P.get ha,P.get hb,by rw[<-hl1,<-hl2];exact q.1,fun z=>?_,fun _ z=>?_,fun _ _ p hp=>?_⟩
   . refine k.here P q.2 S ?_;unfold Rep;have:xs=[]:=by rw[z]at hl1;exact List.length_eq_zero_iff.mp hl1
     subst this;exact⟨b,ws,rfl,nb,hb,rb⟩
   . refine k.here P q.2 S ?_;unfold Rep;have:ys=[]:=by rw[z]at hl2;exact List.length_eq_zero_iff.mp hl2
     subst this;rw[List.append_nil];exact⟨a,vs,rfl,na,ha,ra⟩
   . exact k.tup P q.2 S (aO.mpr (dP (aO.mp ra) (aO.mp rb))) hp
def BM:cG:=fun x y st K=>match x,y with
 | .int i,.int j=>IntMulOk i j/\K (.int (i*j)) st
 | .lst xs,.int k=>(-(2^63)<=k/\k<2^63/\xs.length*k.toNat<=sizeLine)/\K (.lst (List.replicate k.toNat xs).flatten) st
 | .tup xs,.int k=>(-(2^63)<=k/\k<2^63/\xs.length*k.toNat<=sizeLine)/\K (.tup (List.replicate k.toNat xs).flatten) st
 |_,_=>False
theorem Hl:bq X (binaryOp .Mult) (LR BM):=fun pins s σ H x y v u Q I rx ry ⟨α,d,e,st,K,G,F',P,r1,r2,S,q,k⟩=>by
 cases d<;>cases e<;>try exact q.elim
 . unfold Rep at r1 r2;have h:bq X (binaryOp .Mult) (rI IntMulOk fun i j=> .int (i*j)):=BW fun _ _ _ _ _ _ _ hc q=>mul_int q hc;exact h pins s σ H x y v u Q I rx ry ⟨_,_,r1,r2,q.1,k.here P q.2 S (by unfold Rep;rfl)⟩
 . unfold Rep at r1 r2;obtain⟨a,vs,rfl,na,ha,ra⟩:=r1;refine C2 pins s σ H _ _ v u Q I rx ry ⟨a,_,vs,rfl,r2,eU P ha,q.1.1,q.1.2.1,by rw[<-ra.length];exact q.1.2.2,fun p hp=>?_⟩;exact k.lst P q.2 S (aO.mpr (kz (aO.mp ra) _)) hp
 . rename_i xs m;have r1':=r1;unfold Rep at r1 r2;obtain⟨a,vs,rfl,na,ha,ra⟩:=r1;refine Dx pins s σ H _ _ v u Q I rx ry ⟨a,_,vs,rfl,r2,P.get ha,q.1.1,q.1.2.1,by rw[<-ra.length];exact q.1.2.2,fun hs=>?_,fun _ p hp=>k.tup P q.2 S (aO.mpr (kz (aO.mp ra) _)) hp⟩
   have e:(List.replicate m.toNat xs).flatten=xs:=by
    rcases hs with z|z
    . have:xs=[]:=List.length_eq_zero_iff.mp (by rw[ra.length,z];rfl);rw[this];simp
    . rw[z];simp
   have q2:=q.2;rw[e]at q2;exact k.here P q2 S r1'
def live(st:aa):D->Bool
 | .ref n=>(match st[n]? with|some (.lst _)=>true|some (.ins _ _)=>true|_=>false)
 |_=>true
theorem u_{α:List (Option Addr)}{H:Hp}{st:aa}{n:Nat}{v:V}(S:aB α st H)(h:live st (.ref n)=true)(r:Rep α H (.ref n) v):∃a,v= .ref a:=by
 unfold live at h;simp only at h;split at h
 . rename_i e;obtain⟨a,ea,_⟩:=S.fQ e;exact⟨a,cJ ea r⟩
 . rename_i e;obtain⟨a,ea,_⟩:=S.BQ e;exact⟨a,cJ ea r⟩
 . cases h
def CI:cG:=fun x y st K=>match y with| .ay=>live st x=true/\K (.bl (match x with| .ay=>false|_=>true)) st|_=>False
theorem CN:bq X (compareOp .IsNot) (LR CI):=bq.imp CP fun x y H Q ⟨α,d,e,st,K,G,F',P,r1,r2,S,q,k⟩=>by
 cases e<;>try exact q.elim
 unfold Rep at r2;refine⟨r2,k.here P q.2 S ?_⟩;unfold Rep;cases d
 case ref n=>
  obtain⟨a,rfl⟩:=u_ S q.1 r1;rfl
 all_goals(unfold Rep at r1;first|(rw[r1];rfl)|(obtain⟨a,vs,rfl,_⟩:=r1;rfl))
def lW:cG:=fun x y st K=>match y with
 | .int i=>(match x with
   | .lst xs=>(match dY xs i with|some d=>K d st|none=>False)
   | .tup xs=>(match dY xs i with|some d=>K d st|none=>False)
   | .ref n=>(match st[n]? with|some (.lst xs)=>(match dY xs i with|some d=>K d st|none=>False)|_=>False)
   |_=>False)
 |_=>False
theorem ax.dY{α:List (Option Addr)}{H:Hp}{ds:List D}{vs:List V}{i:Int}{d:D}(h:ax α H ds vs)(e:L2.dY ds i=some d):∃v,L2.dY vs i=some v/\Rep α H d v:=by
 unfold L2.dY at e⊢;rw[<-h.length];cases q:km ds.length i with
 |none=>rw[q]at e;cases e
 |some j=>rw[q]at e;exact h.get e
theorem IF:Cc X (LR lW):=fun value slice pins s σ H x y v u Q I rx ry ⟨α,d,e,st,K,G,F',P,r1,r2,S,q,k⟩ hs=>by
 cases e<;>try exact q.elim
 unfold Rep at r2;cases d<;>try exact q.elim
 . rename_i i n;unfold lW at q;simp only at q;split at q
   . split at q
     . rename_i xs e1 _ d' e2;obtain⟨a,ea,vs,hv,rv⟩:=S.fQ e1;have r1':=cJ ea r1;subst r1';obtain⟨z,ez,rz⟩:=rv.dY e2;exact vE value slice pins s σ H _ _ v u Q I rx ry ⟨a,vs,_,z,rfl,r2,.of (P.get hv),ez,k.here P q S rz⟩ hs
     . exact q.elim
   . exact q.elim
 . unfold lW at q;simp only at q;split at q
   . rename_i xs d' e2;unfold Rep at r1;obtain⟨a,vs,rfl,na,ha,ra⟩:=r1;obtain⟨z,ez,rz⟩:=ra.dY e2;exact vE value slice pins s σ H _ _ v u Q I rx ry ⟨a,vs,_,z,rfl,r2,.inl (eU P ha),ez,k.here P q S rz⟩ hs
   . exact q.elim
 . unfold lW at q;simp only at q;split at q
   . rename_i xs d' e2;unfold Rep at r1;obtain⟨a,vs,rfl,na,ha,ra⟩:=r1;obtain⟨z,ez,rz⟩:=ra.dY e2;exact E9 value slice pins s σ H _ _ v u Q I rx ry ⟨a,vs,_,z,rfl,r2,.of (P.get ha),ez,k.here P q S rz⟩ hs
   . exact q.elim
theorem Ik{a b:Expr}{ta tb:DE}{pos:Pos}(ha:PE X a (LE ta))(hb:PE X b (LE tb))(hs:nI b:=by intro _ _;rfl):PE X (.Subscript a b pos) (LE (az lW ta tb)):=PE.imp (Gq IF ha hb hs) fun _ _ _ h=>LE.op h
def items?(st:aa):D->Option (List D)
 | .lst xs=>some xs
 | .tup xs=>some xs
 | .ref n=>(match st[n]? with|some (.lst xs)=>some xs|_=>none)
 |_=>none
@[simp] theorem HQ(st:aa)(xs:List D):items? st (.lst xs)=some xs:=rfl
@[simp] theorem HC(st:aa)(xs:List D):items? st (.tup xs)=some xs:=rfl
@[simp] theorem items_int(st:aa)(i:Int):items? st (.int i)=none:=rfl
@[simp] theorem IQ(st:aa)(i:Bool):items? st (.bl i)=none:=rfl
@[simp] theorem items_str(st:aa)(i:Str):items? st (.str i)=none:=rfl
@[simp] theorem HM(st:aa):items? st .ay=none:=rfl
theorem gG{st:aa}{n:Nat}{xs:List D}(h:st[n]?=some (.lst xs)):items? st (.ref n)=some xs:=by unfold items?;simp only[h]
theorem mx{α:List (Option Addr)}{H:Hp}{st:aa}{d:D}{v:V}{xs:List D}(S:aB α st H)(r:Rep α H d v)(e:items? st d=some xs):
 ∃p vs,v= .ref p/\ax α H xs vs/\(Rd H p (.lst vs)\/H p=some (.tup vs)):=by
 cases d<;>try(cases e;done)
 . unfold items? at e;simp only at e;split at e
   . rename_i ys q;cases e;obtain⟨a,ea,vs,h1,h2⟩:=S.fQ q;have r':=cJ ea r;subst r';exact⟨a,vs,rfl,h2,.inl (.of h1)⟩
   . cases e
 . cases e;unfold Rep at r;obtain⟨a,vs,rfl,_,h1,h2⟩:=r;exact⟨a,vs,rfl,h2,.inl h1⟩
 . cases e;unfold Rep at r;obtain⟨a,vs,rfl,_,h1,h2⟩:=r;exact⟨a,vs,rfl,h2,.inr h1⟩
theorem Cq{K:PySem.W.Frag}{G F H:Hp}(P:a7 G F H){p:Addr}{vs:List V}(h:Rd G p (.lst vs)\/G p=some (.tup vs)):i8 K H p vs\/fm K H p vs:=h.elim (fun z=> .inl (.inl (eU P z))) fun z=> .inr (.of (P.get z))
theorem gi{α:List (Option Addr)}{H:Hp}{ds:List D}{xs:List V}{d:D}(r:ax α H ds xs)(e:ds=[d]):∃v,xs=[v]/\Rep α H d v:=by
 subst e;unfold ax at r;obtain⟨v,q,rfl,h1,h2⟩:=r;unfold ax at h2;subst h2;exact⟨v,rfl,h1⟩
theorem kr{α:List (Option Addr)}{H:Hp}{ds:List D}{xs:List V}{d e:D}(r:ax α H ds xs)(q:ds=[d,e]):∃v u,xs=[v,u]/\Rep α H d v/\Rep α H e u:=by
 subst q;unfold ax at r;obtain⟨v,q,rfl,h1,h2⟩:=r;obtain⟨u,rfl,h3⟩:=gi h2 rfl;exact⟨v,u,rfl,h1,h3⟩
def tq:du:=fun ds st K=>match ds with
 | [.str x]=>x.length<=sizeLine/\K (.int x.length) st
 | [d]=>(match items? st d with|some xs=>K (.int xs.length) st|none=>False)
 |_=>False
theorem G_:aU X (.builtin "len") (eP tq):=fun pins s σ H xs us Q I rs ⟨α,ds,st,K,G,F',P,r,S,q,k⟩=>by
 unfold tq at q;split at q
 . rename_i x;obtain⟨v,rfl,r1⟩:=gi r rfl;unfold Rep at r1;subst r1;exact uN pins s σ H _ us Q I rs ⟨x,rfl,q.1,k.here P q.2 S (by unfold Rep;rfl)⟩
 . rename_i d _;split at q
   . rename_i ys e;obtain⟨v,rfl,r1⟩:=gi r rfl;obtain⟨p,vs,rfl,r2,h⟩:=mx S r1 e;refine tR pins s σ H _ us Q I rs ⟨p,vs,rfl,Cq P h,k.here P q S (by unfold Rep;rw[r2.length])⟩
   . exact q.elim
 . exact q.elim
def HG(g:Int->Int):du:=fun ds st K=>match ds with| [.int i]=>K (.int (g i)) st|_=>False
abbrev yg:du:=HG fun i=>if i<0 then-i else i
theorem GA:aU X (.builtin "abs") (eP yg):=aU.imp AI fun xs H Q ⟨α,ds,st,K,G,F',P,r,S,q,k⟩=>by
 unfold yg HG at q;split at q
 . obtain⟨v,rfl,r1⟩:=gi r rfl;unfold Rep at r1;subst r1;exact⟨_,rfl,k.here P q S (by unfold Rep;rfl)⟩
 . exact q.elim
def xI(g:Int->Int->Int):du:=fun ds st K=>match ds with| [.int i,.int j]=>K (.int (g i j)) st|_=>False
abbrev wY:du:=xI fun i j=>if j>i then j else i
abbrev ya:du:=xI fun i j=>if j<i then j else i
theorem GV(hc:X.calm=true):aU X (.builtin "max") (eP wY):=aU.imp (yi hc) fun xs H Q ⟨α,ds,st,K,G,F',P,r,S,q,k⟩=>by
 unfold wY xI at q;split at q
 . obtain⟨v,u,rfl,r1,r2⟩:=kr r rfl;unfold Rep at r1 r2;subst r1 r2;exact⟨_,_,rfl,k.here P q S (by unfold Rep;rfl)⟩
 . exact q.elim
theorem GB(hc:X.calm=true):aU X (.builtin "min") (eP ya):=aU.imp (zQ hc) fun xs H Q ⟨α,ds,st,K,G,F',P,r,S,q,k⟩=>by
 unfold ya xI at q;split at q
 . obtain⟨v,u,rfl,r1,r2⟩:=kr r rfl;unfold Rep at r1 r2;subst r1 r2;exact⟨_,_,rfl,k.here P q S (by unfold Rep;rfl)⟩
 . exact q.elim
def wW:du:=fun ds st K=>match ds with| [.int i]=>K (.int i) st| [.bl b]=>K (.int (if b then 1 else 0)) st|_=>False
theorem Hb:aU X (.type "int") (eP wW):=aU.imp zG fun xs H Q ⟨α,ds,st,K,G,F',P,r,S,q,k⟩=>by
 unfold wW at q;split at q
 . obtain⟨v,rfl,r1⟩:=gi r rfl;unfold Rep at r1;subst r1;exact .inl ⟨_,rfl,k.here P q S (by unfold Rep;rfl)⟩
 . obtain⟨v,rfl,r1⟩:=gi r rfl;unfold Rep at r1;subst r1;exact .inr ⟨_,rfl,k.here P q S (by unfold Rep;rfl)⟩
 . exact q.elim
def nY:du:=fun ds st K=>match ds with| [d]=>(match items? st d with|some xs=>K (.tup xs) st|none=>False)|_=>False
theorem DP:aU X (.type "tuple") (eP nY):=aU.imp sS fun xs H Q ⟨α,ds,st,K,G,F',P,r,S,q,k⟩=>by
 unfold nY at q;split at q
 . rename_i d;split at q
   . rename_i ys e;obtain⟨v,rfl,r1⟩:=gi r rfl;cases d with
     |tup zs=>
      cases e;have r0:=r1;unfold Rep at r1;obtain⟨a,vs,rfl,na,h1,h2⟩:=r1;exact⟨a,vs,rfl,.inr ⟨.of (P.get h1),k.here P q S r0⟩⟩
     |_=>
      obtain⟨p,vs,rfl,r2,h⟩:=mx S r1 e;refine⟨p,vs,rfl,?_⟩;rcases h with h|h
      . exact .inl ⟨.inl (eU P h),fun l hl=>k.tup P q S r2 hl⟩
      . first
         |(cases e;done)
         |(exfalso
           unfold items? at e;simp only at e
           first
            |(split at e
              . rename_i z;obtain⟨a,ea,vs',h1,h2⟩:=S.fQ z;have e':=cJ ea r1;cases e';rw[h]at h1;cases h1
              . cases e)
            |(unfold Rep at r1
              obtain⟨a,vs',e',_,h1,_⟩:=r1;cases e';rcases h1 with h1|⟨o,h1⟩<;>(rw[h]at h1;cases h1)))
   . exact q.elim
 . exact q.elim
def pV:du:=fun ds st K=>match ds with| [d]=>(match items? st d with|some xs=>K (.lst xs) st|none=>False)|_=>False
theorem Eh:aU X (.type "list") (eP pV):=aU.imp uX fun xs H Q ⟨α,ds,st,K,G,F',P,r,S,q,k⟩=>by
 unfold pV at q;split at q
 . split at q
   . rename_i ys e;obtain⟨v,rfl,r1⟩:=gi r rfl;obtain⟨p,vs,rfl,r2,h⟩:=mx S r1 e;exact⟨p,vs,rfl,Cq P h,fun l hl=>k.lst P q S r2 hl⟩
   . exact q.elim
 . exact q.elim
def i9:List D->Option (List Bool)
 | []=>some []
 | .bl b::r=>(i9 r).map (b:: ·)
 |_::_=>none
def kj:List D->Option (List Int)
 | []=>some []
 | .int b::r=>(kj r).map (b:: ·)
 |_::_=>none
theorem pR{α:List (Option Addr)}{H:Hp}:∀ {ds:List D} {vs:List V} {bs:List Bool},ax α H ds vs->i9 ds=some bs->vs=bs.map V.bl
 | [],vs,bs,r,e=>by
   unfold ax at r;cases e;exact r
 |d::ds,vs,bs,r,e=>by
  unfold ax at r;obtain⟨v,q,rfl,h1,h2⟩:=r;cases d<;>try(cases e;done)
  unfold i9 at e;cases z:i9 ds with
  |none=>rw[z]at e;cases e
  |some cs=>
   rw[z]at e;cases e;unfold Rep at h1;rw[h1,pR h2 z];rfl
theorem rL{α:List (Option Addr)}{H:Hp}:∀ {ds:List D} {vs:List V} {bs:List Int},ax α H ds vs->kj ds=some bs->vs=bs.map V.int
 | [],vs,bs,r,e=>by
   unfold ax at r;cases e;exact r
 |d::ds,vs,bs,r,e=>by
  unfold ax at r;obtain⟨v,q,rfl,h1,h2⟩:=r;cases d<;>try(cases e;done)
  unfold kj at e;cases z:kj ds with
  |none=>rw[z]at e;cases e
  |some cs=>
   rw[z]at e;cases e;unfold Rep at h1;rw[h1,rL h2 z];rfl
theorem p7:∀ {bs:List Bool} {us:List Value},Vals (bs.map V.bl) us->us=bs.map Value.bool
 | [],_,.nil=>rfl
 |b::bs,_,.cons h t=>by
  have h:_=Value.bool b:=h;rw[h,p7 t];rfl
def sX:du:=fun ds st K=>match ds with| [.lst xs]=>(match i9 xs with|some bs=>K (.bl (bs.all id)) st|none=>False)|_=>False
theorem range_all{α:Type}(l:List α)(f:α->Bool)(tr:Nat->Bool)(h:∀i x,l[i]?=some x->tr i=f x):(List.range l.length).all tr=l.all f:=by
 induction l generalizing tr with
 |nil=>rfl
 |cons a l ih=>
  rw[List.length_cons,List.range_succ_eq_map,List.all_cons,List.all_cons,List.all_map,h 0 a rfl];congr 1;exact ih (tr∘Nat.succ) fun i x e=>h (i+1) x (by simpa using e)
theorem Gb(hc:X.calm=true):aU X (.builtin "all") (eP sX):=fun pins s σ H xs us Q I rs ⟨α,ds,st,K,G,F',P,r,S,q,k⟩=>by
 unfold sX at q;split at q
 . rename_i ys;split at q
   . rename_i bs e;obtain⟨v,rfl,r1⟩:=gi r rfl;unfold Rep at r1;obtain⟨a,vs,rfl,na,h1,h2⟩:=r1;obtain⟨u,rfl,ru⟩:=vals1 rs;cases ru;have hv:=pR h2 e;subst hv;obtain⟨z,aj,n,rv,hl,eo⟩:=Inv.qO I (eU P h1);have hits:=p7 rv;subst hits;have isL:s.heap.IsList a (bs.map Value.bool).toArray:=⟨_,eo,rfl,n,rfl⟩
     refine call_all_walk (wpAny_pyIter_list isL ?_);have hne:a≠s.heap.objs.size:=Nat.ne_of_lt (Heap.lt_size eo);refine⟨s.heap.objs.size,_,_,_,_,_,fun i=>(bs[i]?).getD true,rfl,Walks.list (A:=X.A.in1) (I.ok.hd hc) _ a hne (bs.map Value.bool).toArray,⟨⟨_,Heap.get?_push_size _ rfl,rfl,rfl⟩,⟨_,Heap.get?_push_of_some _ eo,rfl,n,rfl⟩⟩,?_,?_⟩
     . intro i w s' Q' E' hP hQ;rw[List.getElem?_toArray,List.getElem?_map]at hP;cases zb:bs[i]? with
       |none=>rw[zb]at hP;cases hP
       |some b=>
        rw[zb]at hP;cases hP;simp only[zb]at hQ;exact wpAny_truthy_bool hQ
     . intro h' tk hk
       have kp:∀b o,s.heap.get? b=some o->h'.get? b=some o:=fun b o q=>hk b o (by
        intro hb;have:b=s.heap.objs.size:=by simpa using hb
        exact absurd (Heap.lt_size q) (by rw[this];exact Nat.lt_irrefl _)) (Heap.get?_push_of_some _ q)
       have ea:(List.range (bs.map Value.bool).toArray.size).all (fun i=>(bs[i]?).getD true)=bs.all id:=by
        rw[List.size_toArray,List.length_map];exact range_all bs id _ fun i x e=>by rw[e];rfl
       rw[ea];exact⟨.bl (bs.all id),H,I.kept (t':=tk) kp,rfl,k.here P q S (by unfold Rep;rfl)⟩
   . exact q.elim
 . exact q.elim
def cR(st:aa):D->Option String
 | .ay=>some "NoneType"
 | .bl _=>some "bool"
 | .int _=>some "int"
 | .str _=>some "str"
 | .lst _=>some "list"
 | .tup _=>some "tuple"
 | .ref n=>(match st[n]? with|some (.lst _)=>some "list"|_=>none)
 | .ty _=>none
@[simp] theorem Ja(st:aa)(xs:List D):cR st (.lst xs)=some "list":=rfl
@[simp] theorem IW(st:aa)(xs:List D):cR st (.tup xs)=some "tuple":=rfl
@[simp] theorem ty_int(st:aa)(i:Int):cR st (.int i)=some "int":=rfl
@[simp] theorem Jq(st:aa)(i:Bool):cR st (.bl i)=some "bool":=rfl
@[simp] theorem ty_str(st:aa)(i:Str):cR st (.str i)=some "str":=rfl
@[simp] theorem IS(st:aa):cR st .ay=some "NoneType":=rfl
theorem D3{st:aa}{n:Nat}{xs:List D}(h:st[n]?=some (.lst xs)):cR st (.ref n)=some "list":=by unfold cR;simp only[h]
def nB(t c:String):Bool:=t==c||(t=="bool"&&c=="int")
theorem tI{α:List (Option Addr)}{H:Hp}{st:aa}{K:PySem.W.Frag}{d:D}{v:V}{t:String}(S:aB α st H)(r:Rep α H d v)(e:cR st d=some t):fZ K H v (.type t):=by
 cases d<;>unfold cR at e<;>try(cases e;done)
 . unfold Rep at r;cases e;subst r;exact .ay
 . unfold Rep at r;cases e;subst r;exact .bl _
 . unfold Rep at r;cases e;subst r;exact .int _
 . unfold Rep at r;cases e;subst r;exact .str _
 . simp only at e;split at e
   . rename_i z;cases e;obtain⟨a,ea,vs',h1,h2⟩:=S.fQ z;have r':=cJ ea r;subst r';exact .lst h1
   . cases e
 . cases e;unfold Rep at r;obtain⟨a,vs,rfl,na,h1,h2⟩:=r;rcases h1 with h1|⟨o,h1⟩
   . exact .lst h1
   . exact .dM h1
 . cases e;unfold Rep at r;obtain⟨a,vs,rfl,na,h1,h2⟩:=r;exact .tup h1
theorem vD{G F H:Hp}{K:PySem.W.Frag}(P:a7 G F H){x:V}{t:Value}(h:fZ K G x t):fZ K H x t:=by
 cases h with
 |ay=>exact .ay
 |bl x=>exact .bl x
 |int x=>exact .int x
 |str x=>exact .str x
 |pU x=>exact .pU x
 |lst e=>exact .lst (P.get e)
 |dM e=>exact .dM (P.get e)
 |tup e=>exact .tup (P.get e)
 |dK e=>exact .dK (P.get e)
 |dT e=>exact .dT (P.get e)
 |ins e a b c d f=>exact .ins (P.get e) a b c d f
def jG:List String:=["NoneType","bool","int","str","list","tuple"]
def ie:List String:=["bool","int","str","list","tuple"]
theorem wB(K:PySem.W.Frag){t c:String}(ht:t∈jG)(hc:c∈ie):PySem.W.kitOne K (.type t) (.type c)=some (nB t c):=by
 simp only[jG,ie,List.mem_cons,List.not_mem_nil,or_false]at ht hc;rcases ht with rfl|rfl|rfl|rfl|rfl|rfl<;>rcases hc with rfl|rfl|rfl|rfl|rfl<;>with_unfolding_all rfl
theorem lq{st:aa}{d:D}{t:String}(e:cR st d=some t):t∈jG:=by
 cases d<;>unfold cR at e<;>first
  |(cases e;done)
  |(cases e;decide)
  |(simp only at e;split at e<;>cases e;decide)
theorem kitx_of{pins:List (Addr×Obj)}{σ:L2.St}{H:Hp}{s:Shared}{x:V}{u:Value}{t:String}(I:Inv X pins σ H s)(rx:RelV x u)(ty:fZ X.K H x (.type t)):
 ∃Hh:Heap->Prop,PySem.W.KitX X.K u (.type t) Hh/\Hh s.heap/\u≠ .builtin "__main__.__loader__#opaque":=by
 cases ty with
 |ay=>cases (show u=Value.none from rx);exact⟨_,PySem.W.kitx_none,True.intro,fun z=>nomatch z⟩
 |bl y=>cases (show u=Value.bool y from rx);exact⟨_,PySem.W.kitx_bool,True.intro,fun z=>nomatch z⟩
 |int i=>obtain⟨t,q⟩:=(show∃t,u=Value.int i t from rx);cases q;exact⟨_,PySem.W.kitx_int,True.intro,fun z=>nomatch z⟩
 |str y=>obtain⟨t,q⟩:=(show∃t,u=Value.str y t from rx);cases q;exact⟨_,PySem.W.kitx_str,True.intro,fun z=>nomatch z⟩
 |pU y=>obtain⟨t,q⟩:=(show∃t,u=Value.float y t from rx);cases q;exact⟨_,PySem.W.kitx_float,True.intro,fun z=>nomatch z⟩
 | @lst a xs ea=>
   cases (show u=Value.ref a from rx);obtain⟨_,_,n,_,h1⟩:=(show cn X.prog X.w H s.heap a (.lst xs)from I.aw a _ ea)
   exact⟨_,PySem.W.kitx_list,⟨_,h1,rfl⟩,fun z=>nomatch z⟩
 | @dM a ob xs ea=>
   cases (show u=Value.ref a from rx);obtain⟨_,_,_,n,_,h1⟩:=(show cn X.prog X.w H s.heap a (.dM ob (.lst xs))from I.aw a _ ea)
   exact⟨_,PySem.W.kitx_list,⟨_,h1,rfl⟩,fun z=>nomatch z⟩
 | @tup a xs ea=>
   cases (show u=Value.ref a from rx);obtain⟨_,_,_,p⟩:=(show cn X.prog X.w H s.heap a (.tup xs)from I.aw a _ ea)
   obtain⟨o,h1,h2,_⟩:=p;exact⟨_,PySem.W.kitx_tuple,⟨o,h1,h2⟩,fun z=>nomatch z⟩
 | @dK a kvs ea=>
   cases (show u=Value.ref a from rx);obtain⟨_,_,vs,_,p⟩:=(show cn X.prog X.w H s.heap a (.dK kvs)from I.aw a _ ea)
   obtain⟨o,es,ep,h1,h2,_⟩:=p;exact⟨_,PySem.W.kitx_dict,⟨o,h1,h2.1⟩,fun z=>nomatch z⟩
 | @dT a kvs ea=>
   cases (show u=Value.ref a from rx);obtain⟨_,_,xs,_,o,es,ep,h1,h2,_⟩:=(show cn X.prog X.w H s.heap a (.dT kvs)from I.aw a _ ea)
   exact⟨_,PySem.W.kitx_dict,⟨o,h1,h2.1⟩,fun z=>nomatch z⟩
def jB:List D->Option (List String)
 | []=>some []
 | .ty b::r=>(jB r).map (b:: ·)
 |_::_=>none
theorem um{α:List (Option Addr)}{H:Hp}:∀ {ds:List D} {vs:List V} {bs:List String},ax α H ds vs->jB ds=some bs->vs=bs.map V.ty
 | [],vs,bs,r,e=>by
   unfold ax at r;cases e;exact r
 |d::ds,vs,bs,r,e=>by
  unfold ax at r;obtain⟨v,q,rfl,h1,h2⟩:=r;cases d<;>try(cases e;done)
  unfold jB at e;cases z:jB ds with
  |none=>rw[z]at e;cases e
  |some cs=>
   rw[z]at e;cases e;unfold Rep at h1;rw[h1,um h2 z];rfl
theorem va:∀ {bs:List String} {us:List Value},Vals (bs.map V.ty) us->us=bs.map Value.type
 | [],_,.nil=>rfl
 |b::bs,_,.cons h t=>by
  have h:_=Value.type b:=h;rw[h,va t];rfl
theorem wg(K:PySem.W.Frag){t:String}(ht:t∈jG):∀cs:List String,(∀c∈cs,c∈ie)->PySem.W.kitAny K (.type t) (cs.map Value.type)=some (cs.any (nB t))
 | [],_=>rfl
 |c::cs,h=>by
  show(match PySem.W.kitOne K (.type t) (.type c)with|some true=>some true|some false=>PySem.W.kitAny K (.type t) (cs.map Value.type)|none=>none)=_;rw[wB K ht (h c List.mem_cons_self),List.any_cons];cases nB t c with
  |true=>rfl
  |false=>exact wg K ht cs fun c hc=>h c (List.mem_cons_of_mem _ hc)
def pX:du:=fun ds st K=>match ds with
 | [d,.ty c]=>(match cR st d with|some t=>c∈ie/\K (.bl (nB t c)) st|none=>False)
 | [d,.tup cs]=>(match cR st d,jB cs with|some t,some cl=>(∀c∈cl,c∈ie)/\K (.bl (cl.any (nB t))) st|_,_=>False)
 |_=>False
theorem GW:aU X (.builtin "isinstance") (eP pX):=fun pins s σ H xs us Q I rs ⟨α,ds,st,K,G,F',P,r,S,q,k⟩=>by
 unfold pX at q;split at q
 . rename_i d c;split at q
   . rename_i t e;obtain⟨v,v2,rfl,r1,r2⟩:=kr r rfl;obtain⟨u,u2,rfl,ru,ru2⟩:=vals2 rs;unfold Rep at r2;subst r2;cases (show u2=Value.type c from ru2);exact zi I ru (vD P (tI S r1 e)) (wB _ (lq e) q.1) fun tk=>⟨.bl (nB t c),H,I.tok tk,rfl,k.here P q.2 S (by unfold Rep;rfl)⟩
   . exact q.elim
 . rename_i d cs;split at q
   . rename_i t cl e ec;obtain⟨v,v2,rfl,r1,r2⟩:=kr r rfl;obtain⟨u,u2,rfl,ru,ru2⟩:=vals2 rs;unfold Rep at r2;obtain⟨a,vs,rfl,na,h1,h2⟩:=r2;cases (show u2=Value.ref a from ru2);have hv:=um h2 ec;subst hv;obtain⟨Hh,Z,hh,hne⟩:=kitx_of I ru (vD P (tI S r1 e));obtain⟨aj,r',pl,hz⟩:=I.tuple (fm.of (P.get h1));have hi:=va r';subst hi;obtain⟨⟨cls,dd,data,sl⟩,ho,hc,n,hd⟩:=pl;simp only at hc hd;subst hc hd;exact PySem.W.kia_tup Z I.dG hh ho (wg _ (lq e) cl q.1) hne fun tk=>⟨.bl _,H,I.tok tk,rfl,k.here P q.2 S (by unfold Rep;rfl)⟩
   . exact q.elim
 . exact q.elim
end
end L3
namespace L3
open PySem PySem.Spec L2 PySem.SeqAt
open PyProof.Rows hiding St
mutual
def bH:D->D->Bool
 | .ay,.ay=>true
 | .bl a,.bl b=>a==b
 | .bl a,.int b=>(if a then 1 else 0)==b
 | .int a,.bl b=>a==(if b then 1 else 0)
 | .int a,.int b=>a==b
 | .str a,.str b=>a==b
 | .lst xs,.lst ys=>dz xs ys
 | .tup xs,.tup ys=>dz xs ys
 |_,_=>false
def dz:List D->List D->Bool
 | [],[]=>true
 |x::xs,y::ys=>bH x y&&dz xs ys
 |_,_=>false
end
def pl:Nat->D->Bool
 |_,.ay=>true
 |_,.bl _=>true
 |_,.int _=>true
 |_,.str _=>true
 |n+1,.lst xs=>xs.all (pl n)
 |n+1,.tup xs=>xs.all (pl n)
 |_,_=>false
mutual
theorem o7:∀(n:Nat) (d:D),pl n d=true->bH d d=true
 |_,.ay,_=>rfl
 |_,.bl _,_=>by simp[bH]
 |_,.int _,_=>by simp[bH]
 |_,.str _,_=>by simp[bH]
 |n+1,.lst xs,h=>by unfold bH;exact mT n xs (by unfold pl at h;exact h)
 |n+1,.tup xs,h=>by unfold bH;exact mT n xs (by unfold pl at h;exact h)
 |0,.lst xs,h=>by cases h
 |0,.tup xs,h=>by cases h
 |_,.ref _,h=>by unfold pl at h;cases h
 |_,.ty _,h=>by unfold pl at h;cases h
theorem mT:∀(n:Nat) (xs:List D),xs.all (pl n)=true->dz xs xs=true
 |_,[],_=>by unfold dz;rfl
 |n,x::xs,h=>by
  rw[List.all_cons,Bool.and_eq_true]at h;unfold dz;rw[o7 n x h.1,mT n xs h.2];rfl
end
mutual
theorem Rep.inj{α:List (Option Addr)}{H:Hp}:∀ {d e:D} {v:V} (n:Nat),pl n d=true->pl n e=true->Rep α H d v->Rep α H e v->d=e
 | .ay,e,v,n,_,he,h1,h2=>by
   unfold Rep at h1;subst h1;cases e<;>first|(unfold pl at he;cases he;done)|(unfold Rep at h2;cases h2;rfl)|(unfold Rep at h2;cases h2;done)|(unfold Rep at h2;obtain⟨_,_,h2,_⟩:=h2;cases h2)|rfl|(cases h2;done)|(obtain⟨_,_,h2,_⟩:=h2;cases h2)|(obtain⟨_,_,h2⟩:=h2;cases h2)
 | .bl b,e,v,n,_,he,h1,h2=>by
   unfold Rep at h1;subst h1;cases e<;>first|(unfold pl at he;cases he;done)|(unfold Rep at h2;cases h2;rfl)|(unfold Rep at h2;cases h2;done)|(unfold Rep at h2;obtain⟨_,_,h2,_⟩:=h2;cases h2)|(cases h2;rfl)|(cases h2;done)|(obtain⟨_,_,h2,_⟩:=h2;cases h2)|(obtain⟨_,_,h2⟩:=h2;cases h2)
 | .int b,e,v,n,_,he,h1,h2=>by
   unfold Rep at h1;subst h1;cases e<;>first|(unfold pl at he;cases he;done)|(unfold Rep at h2;cases h2;rfl)|(unfold Rep at h2;cases h2;done)|(unfold Rep at h2;obtain⟨_,_,h2,_⟩:=h2;cases h2)|(cases h2;rfl)|(cases h2;done)|(obtain⟨_,_,h2,_⟩:=h2;cases h2)|(obtain⟨_,_,h2⟩:=h2;cases h2)
 | .str b,e,v,n,_,he,h1,h2=>by
   unfold Rep at h1;subst h1;cases e<;>first|(unfold pl at he;cases he;done)|(unfold Rep at h2;cases h2;rfl)|(unfold Rep at h2;cases h2;done)|(unfold Rep at h2;obtain⟨_,_,h2,_⟩:=h2;cases h2)|(cases h2;rfl)|(cases h2;done)|(obtain⟨_,_,h2,_⟩:=h2;cases h2)|(obtain⟨_,_,h2⟩:=h2;cases h2)
 | .ty b,e,v,n,hd,he,h1,h2=>by unfold pl at hd;cases hd
 | .ref b,e,v,n,hd,he,h1,h2=>by unfold pl at hd;cases hd
 | .lst xs,e,v,0,hd,he,h1,h2=>by cases hd
 | .tup xs,e,v,0,hd,he,h1,h2=>by cases hd
 | .lst xs,e,v,n+1,hd,he,h1,h2=>by
   unfold Rep at h1;obtain⟨a,vs,rfl,na,ha,ra⟩:=h1;cases e<;>unfold Rep at h2<;>try(cases h2;done)
   . unfold pl at he;cases he
   . obtain⟨a',vs',e',na',ha',ra'⟩:=h2;cases e'
     have:vs=vs':=by
      rcases ha with ha|⟨o,ha⟩<;>rcases ha' with ha'|⟨o',ha'⟩<;>(rw[ha]at ha';first|(cases ha';rfl)|(cases ha';done))
     subst this;rw[ax.inj n (by unfold pl at hd;exact hd) (by unfold pl at he;exact he) ra ra']
   . obtain⟨a',vs',e',na',ha',ra'⟩:=h2;cases e';rcases ha with ha|⟨o,ha⟩<;>(rw[ha]at ha';cases ha')
 | .tup xs,e,v,n+1,hd,he,h1,h2=>by
   unfold Rep at h1;obtain⟨a,vs,rfl,na,ha,ra⟩:=h1;cases e<;>unfold Rep at h2<;>try(cases h2;done)
   . unfold pl at he;cases he
   . obtain⟨a',vs',e',na',ha',ra'⟩:=h2;cases e';rcases ha' with ha'|⟨o,ha'⟩<;>(rw[ha]at ha';cases ha')
   . obtain⟨a',vs',e',na',ha',ra'⟩:=h2;cases e';rw[ha]at ha';cases ha';rw[ax.inj n (by unfold pl at hd;exact hd) (by unfold pl at he;exact he) ra ra']
theorem ax.inj{α:List (Option Addr)}{H:Hp}:∀ {ds es:List D} {vs:List V} (n:Nat),ds.all (pl n)=true->es.all (pl n)=true->ax α H ds vs->ax α H es vs->ds=es
 | [],es,vs,n,_,_,h1,h2=>by
   unfold ax at h1;subst h1;cases es with
   |nil=>rfl
   |cons e es=>unfold ax at h2;obtain⟨_,_,h,_⟩:=h2;cases h
 |d::ds,es,vs,n,hd,he,h1,h2=>by
  unfold ax at h1;obtain⟨v,r,rfl,r1,r2⟩:=h1;cases es with
  |nil=>unfold ax at h2;cases h2
  |cons e es=>
   unfold ax at h2;obtain⟨v',r',h,q1,q2⟩:=h2;cases h;rw[List.all_cons,Bool.and_eq_true]at hd he;rw[Rep.inj n hd.1 he.1 r1 q1,ax.inj n hd.2 he.2 r2 q2]
end
theorem jX:∀ {xs ys:List D},xs.length≠ys.length->dz xs ys=false
 | [],[],h=>absurd rfl h
 | [],_::_,_=>by unfold dz;rfl
 |_::_,[],_=>by unfold dz;rfl
 |x::xs,y::ys,h=>by
  unfold dz;rw[jX (by simpa using h),Bool.and_false]
theorem jK:∀ {xs ys:List D},xs.length=ys.length->dz xs ys=(List.range xs.length).all fun j=>bH (xs.getD j .ay) (ys.getD j .ay)
 | [],[],_=>by unfold dz;rfl
 | [],_::_,h=>by cases h
 |_::_,[],h=>by cases h
 |x::xs,y::ys,h=>by
  unfold dz;rw[List.length_cons,List.range_succ_eq_map,List.all_cons,List.all_map,jK (by simpa using h)];rfl
section
variable {X:Cx}{pins:List (Addr×Obj)}{σ:L2.St}{H:Hp}{s:Shared}{α:List (Option Addr)}
theorem gw{xs:List D}{vs:List V}{aj:List Value}(r:ax α H xs vs)(v:Vals vs aj)(j:Nat)(hj:j<aj.length):∃x,xs[j]?=some (xs.getD j .ay)/\Rep α H (xs.getD j .ay) x/\RelV x aj[j]:=by
 have h1:=r.length;have h2:=v.length;have hx:j<xs.length:=by omega
 have e:xs[j]?=some (xs.getD j .ay):=by rw[List.getElem?_eq_getElem hx,List.getD_eq_getElem?_getD,List.getElem?_eq_getElem hx];rfl
 obtain⟨x,q,rr⟩:=r.get e;obtain⟨u,q2,rv⟩:=v.get q;rw[List.getElem?_eq_getElem hj]at q2;cases q2;exact⟨x,e,rr,rv⟩
theorem fv{xs:List D}{n:Nat}(h:xs.all (pl n)=true)(j:Nat):pl n (xs.getD j .ay)=true:=by
 rw[List.getD_eq_getElem?_getD];cases e:xs[j]? with
 |none=>cases n<;>rfl
 |some d=>exact List.all_eq_true.mp h d (List.mem_of_getElem? e)
def rT:D->Bool
 | .ay=>true
 | .bl _=>true
 | .int _=>true
 | .str _=>true
 |_=>false
theorem vZ{A:Around}{d e:D}{x y:V}{u v:Value}(hd:rT d=true)(he:rT e=true)(rd:Rep α H d x)(re:Rep α H e y)(rx:RelV x u)(ry:RelV y v):RcAt A s u v (bH d e)/\EqAt A s u v (bH d e):=by
 cases d<;>cases e<;>try(first|(cases hd;done)|(cases he;done))
 all_goals(unfold Rep at rd re;subst rd re)
 all_goals(first|(obtain⟨t,rfl⟩:=rx;obtain⟨t',rfl⟩:=ry)|(obtain⟨t,rfl⟩:=rx;cases ry)|(cases rx;obtain⟨t,rfl⟩:=ry)|(cases rx;cases ry))
 all_goals unfold bH
 . exact⟨RcAt.none_none,EqAt.same _⟩
 . exact⟨RcAt.none_bool _,EqAt.none_bool _⟩
 . exact⟨RcAt.none_int _ _,EqAt.none_int _ _⟩
 . exact⟨RcAt.none_str _ _,EqAt.none_str _ _⟩
 . exact⟨RcAt.bool_none _,EqAt.bool_none _⟩
 . exact⟨RcAt.bool_bool _ _,EqAt.bool_bool _ _⟩
 . exact⟨RcAt.bool_int _ _ _,EqAt.bool_int _ _ _⟩
 . exact⟨RcAt.bool_str _ _ _,EqAt.bool_str _ _ _⟩
 . exact⟨RcAt.int_none _ _,EqAt.int_none _ _⟩
 . exact⟨RcAt.int_bool _ _ _,EqAt.int_bool _ _ _⟩
 . exact⟨RcAt.int_int _ _ _ _,EqAt.int_int _ _ _ _⟩
 . exact⟨RcAt.int_str _ _ _ _,EqAt.int_str _ _ _ _⟩
 . exact⟨RcAt.str_none _ _,EqAt.str_none _ _⟩
 . exact⟨RcAt.str_bool _ _ _,EqAt.str_bool _ _ _⟩
 . exact⟨RcAt.str_int _ _ _ _,EqAt.str_int _ _ _ _⟩
 . exact⟨RcAt.str_str _ _ _ _,EqAt.str_str _ _ _ _⟩
theorem lst_is(I:Inv X pins σ H s){xs:List D}{x:V}{u:Value}(r:Rep α H (.lst xs) x)(rx:RelV x u):∃a vs aj,u= .ref a/\ax α H xs vs/\Vals vs aj/\s.heap.IsList a aj.toArray:=by
 unfold Rep at r;obtain⟨a,vs,rfl,na,ha,ra⟩:=r;cases rx;obtain⟨z,aj,n,rv,hl,eo⟩:=Inv.qO I ha;exact⟨a,vs,aj,rfl,ra,rv,⟨_,eo,rfl,n,rfl⟩⟩
theorem tup_is(I:Inv X pins σ H s){xs:List D}{x:V}{u:Value}(r:Rep α H (.tup xs) x)(rx:RelV x u):∃a vs aj,u= .ref a/\ax α H xs vs/\Vals vs aj/\s.heap.IsTuple a aj.toArray:=by
 unfold Rep at r;obtain⟨a,vs,rfl,na,ha,ra⟩:=r;cases rx;obtain⟨aj,r',p,hz⟩:=I.tuple (fm.of ha);exact⟨a,vs,aj,rfl,ra,r',p⟩
theorem rK(I:Inv X pins σ H s){A:Around}{xs:List D}{e:D}{x y:V}{u v:Value}(he:rT e=true)(rd:Rep α H (.lst xs) x)(re:Rep α H e y)(rx:RelV x u)(ry:RelV y v)(hu:A.units<cLine):
 (RcAt A s u v (bH (.lst xs) e)/\EqAt A s u v (bH (.lst xs) e))/\RcAt A s v u (bH e (.lst xs))/\EqAt A s v u (bH e (.lst xs)):=by
 obtain⟨a,vs,aj,rfl,_,_,hl⟩:=lst_is I rd rx;cases e<;>try(cases he;done)
 all_goals(unfold Rep at re;subst re)
 all_goals(first|(obtain⟨t,rfl⟩:=ry)|(cases ry))
 all_goals unfold bH
 . exact⟨⟨RcAt.list_none hl hu,EqAt.list_none hl hu⟩,RcAt.none_list hl hu,EqAt.none_list hl hu⟩
 . exact⟨⟨RcAt.list_bool _ hl hu,EqAt.list_bool _ hl hu⟩,RcAt.bool_list _ hl hu,EqAt.bool_list _ hl hu⟩
 . exact⟨⟨RcAt.list_int _ _ hl hu,EqAt.list_int _ _ hl hu⟩,RcAt.int_list _ _ hl hu,EqAt.int_list _ _ hl hu⟩
 . exact⟨⟨RcAt.list_str _ _ hl hu,EqAt.list_str _ _ hl hu⟩,RcAt.str_list _ _ hl hu,EqAt.str_list _ _ hl hu⟩
theorem rZ(I:Inv X pins σ H s){A:Around}{xs:List D}{e:D}{x y:V}{u v:Value}(he:rT e=true)(rd:Rep α H (.tup xs) x)(re:Rep α H e y)(rx:RelV x u)(ry:RelV y v)(hu:A.units<cLine):
 (RcAt A s u v (bH (.tup xs) e)/\EqAt A s u v (bH (.tup xs) e))/\RcAt A s v u (bH e (.tup xs))/\EqAt A s v u (bH e (.tup xs)):=by
 obtain⟨a,vs,aj,rfl,_,_,hl⟩:=tup_is I rd rx;cases e<;>try(cases he;done)
 all_goals(unfold Rep at re;subst re)
 all_goals(first|(obtain⟨t,rfl⟩:=ry)|(cases ry))
 all_goals unfold bH
 . exact⟨⟨RcAt.tuple_none hl hu,EqAt.tuple_none hl hu⟩,RcAt.none_tuple hl hu,EqAt.none_tuple hl hu⟩
 . exact⟨⟨RcAt.tuple_bool _ hl hu,EqAt.tuple_bool _ hl hu⟩,RcAt.bool_tuple _ hl hu,EqAt.bool_tuple _ hl hu⟩
 . exact⟨⟨RcAt.tuple_int _ _ hl hu,EqAt.tuple_int _ _ hl hu⟩,RcAt.int_tuple _ _ hl hu,EqAt.int_tuple _ _ hl hu⟩
 . exact⟨⟨RcAt.tuple_str _ _ hl hu,EqAt.tuple_str _ _ hl hu⟩,RcAt.str_tuple _ _ hl hu,EqAt.str_tuple _ _ hl hu⟩
theorem vK{A:Around}{n:Nat}{d e:D}{x y:V}{a b:Addr}(hd:pl n d=true)(he:pl n e=true)(rd:Rep α H d x)(re:Rep α H e y)(rx:RelV x (.ref a))(ry:RelV y (.ref b))(h:RcAt A s (.ref a) (.ref b) (bH d e)):
 RcAt A s (.ref a) (.ref b) (bH d e)/\EqAt A s (.ref a) (.ref b) (bH d e):=by
 refine⟨h,?_⟩;by_cases hab:a=b
 . subst hab;have hx:x=y:=RelV.inj rx ry;subst hx;have:=Rep.inj n hd he rd re;subst this;rw[o7 n d hd];exact EqAt.same _
 . exact EqAt.of_refs hab h
theorem w6(I:Inv X pins σ H s):∀(n:Nat) (A:Around) (d e:D) (x y:V) (u v:Value),pl n d=true->pl n e=true->Rep α H d x->Rep α H e y->RelV x u->RelV y v->A.units+n<cLine->
 RcAt A s u v (bH d e)/\EqAt A s u v (bH d e):=by
 intro n;induction n with
 |zero=>
  intro A d e x y u v hd he rd re rx ry hu;refine vZ ?_ ?_ rd re rx ry
  . cases d<;>first|rfl|(cases hd)
  . cases e<;>first|rfl|(cases he)
 |succ n ih=>
  intro A d e x y u v hd he rd re rx ry hu;have hu0:A.units<cLine:=by omega
  have hin:A.in1.units+n<cLine:=by rw[Around.in1_units];omega
  cases d<;>try(cases hd;done)
  case lst xs=>
   cases e<;>try(cases he;done)
   case lst ys=>
    have rd0:=rd;have re0:=re;have rx0:=rx;have ry0:=ry;obtain⟨a,vs,aj,rfl,r1,v1,l1⟩:=lst_is I rd rx;obtain⟨b,ws,jts,rfl,r2,v2,l2⟩:=lst_is I re ry;have e1:=r1.length;have e2:=v1.length;have e3:=r2.length;have e4:=v2.length;refine vK hd he rd0 re0 rx0 ry0 ?_;unfold bH;by_cases hlen:xs.length=ys.length
    . rw[jK hlen];have hsz:aj.toArray.size=jts.toArray.size:=by simp only[List.size_toArray];omega
      have hx:xs.length=aj.toArray.size:=by simp only[List.size_toArray];omega
      rw[hx];refine RcAt.lists l1 l2 hsz hu0 fun j h1 h2=>?_;have h1':j<aj.length:=by simpa using h1
      have h2':j<jts.length:=by simpa using h2
      obtain⟨p,_,q1,q2⟩:=gw r1 v1 j h1';obtain⟨p',_,q1',q2'⟩:=gw r2 v2 j h2';exact(ih A.in1 _ _ p p' _ _ (fv (by unfold pl at hd;exact hd) j) (fv (by unfold pl at he;exact he) j) q1 q1' (by simpa using q2) (by simpa using q2') hin).2
    . rw[jX hlen];exact RcAt.lists_lengths l1 l2 (by simp only[List.size_toArray,bne_iff_ne,ne_eq];omega) hu0
   case tup ys=>
    obtain⟨a,vs,aj,rfl,r1,v1,l1⟩:=lst_is I rd rx;obtain⟨b,ws,jts,rfl,r2,v2,l2⟩:=tup_is I re ry;unfold bH;exact⟨RcAt.list_tuple l1 l2 hu0,EqAt.list_tuple l1 l2 hu0⟩
   all_goals exact(rK I rfl rd re rx ry hu0).1
  case tup xs=>
   cases e<;>try(cases he;done)
   case tup ys=>
    have rd0:=rd;have re0:=re;have rx0:=rx;have ry0:=ry;obtain⟨a,vs,aj,rfl,r1,v1,l1⟩:=tup_is I rd rx;obtain⟨b,ws,jts,rfl,r2,v2,l2⟩:=tup_is I re ry;have e1:=r1.length;have e2:=v1.length;have e3:=r2.length;have e4:=v2.length;refine vK hd he rd0 re0 rx0 ry0 ?_;unfold bH
    have key:=RcAt.tuples (e:=fun j=>bH (xs.getD j .ay) (ys.getD j .ay)) l1 l2 hu0 fun j h1 h2=>by
     have h1':j<aj.length:=by simpa using h1
     have h2':j<jts.length:=by simpa using h2
     obtain⟨p,_,q1,q2⟩:=gw r1 v1 j h1';obtain⟨p',_,q1',q2'⟩:=gw r2 v2 j h2';exact(ih A.in1 _ _ p p' _ _ (fv (by unfold pl at hd;exact hd) j) (fv (by unfold pl at he;exact he) j) q1 q1' (by simpa using q2) (by simpa using q2') hin).2
    by_cases hlen:xs.length=ys.length
    . rw[jK hlen];have hsz:aj.toArray.size=jts.toArray.size:=by simp only[List.size_toArray];omega
      have hx:xs.length=aj.toArray.size:=by simp only[List.size_toArray];omega
      rw[hsz,Nat.min_self,beq_self_eq_true,Bool.and_true,<-hsz,<-hx]at key;exact key
    . rw[jX hlen];have hne:(aj.toArray.size==jts.toArray.size)=false:=by simp only[List.size_toArray,beq_eq_false_iff_ne,ne_eq];omega
      rw[hne,Bool.and_false]at key;exact key
   case lst ys=>
    obtain⟨a,vs,aj,rfl,r1,v1,l1⟩:=tup_is I rd rx;obtain⟨b,ws,jts,rfl,r2,v2,l2⟩:=lst_is I re ry;unfold bH;exact⟨RcAt.tuple_list l1 l2 hu0,EqAt.tuple_list l1 l2 hu0⟩
   all_goals exact(rZ I rfl rd re rx ry hu0).1
  all_goals
   cases e<;>try(cases he;done)
   case lst ys=>exact(rK I rfl re rd ry rx hu0).2
   case tup ys=>exact(rZ I rfl re rd ry rx hu0).2
   all_goals exact vZ rfl rfl rd re rx ry
def EI:cG:=fun x y st K=>pl 40 x=true/\pl 40 y=true/\K (.bl (bH x y)) st
theorem ID{k:Nat}(hr:bw k X.A):bq X (compareOp .Eq) (LR EI):=fun pins s σ H x y v u Q I rx ry ⟨α,d,e,st,K,G,F',P,r1,r2,S,q,k⟩=>by
 have hu:=hr.units;exact(w6 I 40 X.A d e x y v u q.1 q.2.1 (r1.mono P.same) (r2.mono P.same) rx ry (by omega)).1 _ _ _ _ ⟨.bl (bH d e),H,I,rfl,k.here P q.2.2 S (by unfold Rep;rfl)⟩
def Ek:cG:=fun x y st K=>match x,y with
 | .int i,.int j=>K (.bl (!decide (i=j))) st
 | .bl i,.bl j=>K (.bl (!decide (i=j))) st
 | .str i,.str j=>K (.bl (!decide (i=j))) st
 |_,_=>False
theorem IG:bq X (compareOp .NotEq) (LR Ek):=bq.imp F4 fun x y H Q ⟨α,d,e,st,K,G,F',P,r1,r2,S,q,k⟩=>by
 cases d<;>cases e<;>try exact q.elim
 all_goals(unfold Rep at r1 r2;subst r1 r2)
 . exact⟨rfl,k.here P q S (by unfold Rep;congr 2;exact decide_eq_decide.mpr ⟨fun h=>by cases h;rfl,fun h=>by rw[h]⟩)⟩
 . exact⟨rfl,k.here P q S (by unfold Rep;congr 2;exact decide_eq_decide.mpr ⟨fun h=>by cases h;rfl,fun h=>by rw[h]⟩)⟩
 . exact⟨rfl,k.here P q S (by unfold Rep;congr 2;exact decide_eq_decide.mpr ⟨fun h=>by cases h;rfl,fun h=>by rw[h]⟩)⟩
end
end L3
namespace L3
open PySem PySem.Spec L2
open PyProof.Rows hiding St
def LC(α:List (Option Addr))(G F:Hp)(K:aR->aa->Prop)(Q:L2.St->Hp->Prop):Prop:=∀σd' st',K σd' st'->∀α' G' H' σ',Step α G α' G'->a7 G' F H'->bS α' G' σd' σ'->aB α' st' G'->Q σ' H'
structure pG(α:List (Option Addr))(G F:Hp)(DD:e9)(D:Ends):Prop where
 nx:LC α G F DD.nx D.nx
 rt:LK α G F DD.rt D.rt
 bk:LC α G F DD.bk D.bk
 ct:LC α G F DD.ct D.ct
inductive HU(t:DS)(D:Ends)(σ:L2.St)(H:Hp):Prop
 |mk (α:List (Option Addr)) (σd:aR) (st:aa) (DD:e9) (G F:Hp) (P:a7 G F H) (R:bS α G σd σ) (S:aB α st G) (h:t DD σd st) (k:pG α G F DD D):HU t D σ H
def LS(t:DS):TS:=HU t
theorem LC.at{α α1:List (Option Addr)}{G F G1:Hp}{K:aR->aa->Prop}{Q:L2.St->Hp->Prop}(h:LC α G F K Q)(s:Step α G α1 G1):LC α1 G1 F K Q:=fun d st' k α' G' H' v s' P R S=>h d st' k α' G' H' v (s.trans s') P R S
theorem LC.here{α:List (Option Addr)}{G F H:Hp}{K:aR->aa->Prop}{Q:L2.St->Hp->Prop}(h:LC α G F K Q)(P:a7 G F H){σd:aR}{st:aa}{σ:L2.St}(k:K σd st)(R:bS α G σd σ)(S:aB α st G):Q σ H:=h σd st k α G H σ Step.refl P R S
theorem pG.at{α α1:List (Option Addr)}{G F G1:Hp}{DD:e9}{D:Ends}(h:pG α G F DD D)(s:Step α G α1 G1):pG α1 G1 F DD D:=⟨h.nx.at s,h.rt.at s,h.bk.at s,h.ct.at s⟩
section
variable {X:Cx}{a b c e o i:Expr}{es:List Expr}{ta tb tc te:DE}{pos:Pos}{st:Stmt}{sts:List Stmt}{t u:DS}
theorem PS.imp{t t':TS}(h:PS X st t)(f:∀D σ H,t' D σ H->t D σ H):PS X st t':=fun pins s σ H D I q=>h pins s σ H D I (f D σ H q)
theorem cM.imp{t t':TS}(h:cM X sts t)(f:∀D σ H,t' D σ H->t D σ H):cM X sts t':=fun pins s σ H D I q=>h pins s σ H D I (f D σ H q)
def dm:DS:=fun D σ st=>D.nx σ st
def aH(t u:DS):DS:=fun D σ st=>t {D with nx:=u D} σ st
theorem wk:cM X [] (LS dm):=cM.imp rA fun D σ H ⟨α,σd,st,DD,G,F,P,R,S,t,k⟩=>k.nx.here P t R S
theorem C6(h:PS X st (LS t)):cM X [st] (LS t):=jE h
theorem Bf(h:PS X st (LS t))(h2:cM X sts (LS u)):cM X (st::sts) (LS (aH t u)):=cM.imp (jU h h2) fun D σ H ⟨α,σd,st,DD,G,F,P,R,S,t,k⟩=>
 ⟨α,σd,st,_,G,F,P,R,S,t,fun σd' st' q α' G' H' σ' s' P' R' S'=>⟨α',σd',st',DD,G',F,P',R',S',q,k.at s'⟩,k.rt,k.bk,k.ct⟩
def bp(te:DE):DS:=fun D σ st=>te σ st D.rt
theorem Fu(h:PE X e (LE te)):PS X (.Return (some e) pos) (LS (bp te)):=PS.imp (mS h) fun D σ H ⟨α,σd,st,DD,G,F,P,R,S,t,k⟩=>⟨α,σd,st,_,G,F,P,R,S,t,k.rt⟩
def nM(te:DE):DS:=fun D σ st=>te σ st fun _ st1=>D.nx σ st1
theorem C4(h:PE X e (LE te))(hs:swapsWith e none pos.line X.env=pure false:=by rfl):PS X (.Expr e pos) (LS (nM te)):=PS.imp (CU h hs) fun D σ H ⟨α,σd,st,DD,G,F,P,R,S,t,k⟩=>
 ⟨α,σd,st,_,G,F,P,R,S,t,fun d st1 q α1 G1 H1 v s1 P1 S1 r1=>(k.nx.at s1).here P1 q (R.step s1) S1⟩
def fj(c:DT)(t u:DS):DS:=fun D σ st=>c σ st fun b st1=>if b=true then t D σ st1 else u D σ st1
theorem Gd{x y:List Stmt}{tc:DT}(hc:PT X c (LT tc))(ha:cM X x (LS t))(hb:cM X y (LS u)):PS X (.If c x y pos) (LS (fj tc t u)):=PS.imp (tx hc ha hb) fun D σ H ⟨α,σd,st,DD,G,F,P,R,S,t,k⟩=>by
 refine⟨α,σd,st,_,G,F,P,R,S,t,fun b st1 q α1 G1 H1 s1 P1 S1=>?_⟩;cases b with
 |true=>exact⟨α1,σd,st1,DD,G1,F,P1,R.step s1,S1,q,k.at s1⟩
 |false=>exact⟨α1,σd,st1,DD,G1,F,P1,R.step s1,S1,q,k.at s1⟩
abbrev dg:=D->aR->Option aR
def bC(i:Nat):dg:=fun d σ=>some (σ.set i (some d))
def gN(i j:Nat):dg:=fun d σ=>match d with| .tup [x,y]=>some ((σ.set i (some x)).set j (some y))|_=>none
inductive Hz(t:dg)(v:V)(σ:L2.St)(H:Hp)(Q:L2.St->Hp->Prop):Prop
 |mk (α:List (Option Addr)) (σd:aR) (st:aa) (d:D) (K:aR->aa->Prop) (G F:Hp) (P:a7 G F H) (R:bS α G σd σ) (S:aB α st G) (r:Rep α G d v) (h:∃σ',t d σd=some σ'/\K σ' st) (k:LC α G F K Q):Hz t v σ H Q
def LG(t:dg):TG:=Hz t
theorem PG.imp{tg:Expr}{t t':TG}(h:PG X tg t)(f:∀v σ H Q,t' v σ H Q->t v σ H Q):PG X tg t':=fun pins s σ H v u Q I r q=>h pins s σ H v u Q I r (f v σ H Q q)
theorem CV{tg:Expr}{i:Nat}(h:PG X tg (eR i)):PG X tg (LG (bC i)):=PG.imp h fun v σ H Q ⟨α,σd,st,d,K,G,F,P,R,S,r,⟨σ',e,q⟩,k⟩=>by
 cases e;exact k.here P q (R.set i r) S
theorem Ey{tg:Expr}{i j:Nat}(h:PG X tg (AU X.K 2 (nV (eR i) (nV (eR j) Au)))):PG X tg (LG (gN i j)):=PG.imp h fun v σ H Q ⟨α,σd,st,d,K,G,F,P,R,S,r,⟨σ',e,q⟩,k⟩=>by
 unfold gN at e;split at e
 . rename_i x y;cases e;unfold Rep at r;obtain⟨a,vs,rfl,na,h1,h2⟩:=r;obtain⟨v1,v2,rfl,r1,r2⟩:=kr h2 rfl;exact⟨a,_,rfl,.of (P.get h1),rfl,v1,_,rfl,v2,_,rfl,rfl,k.here P q ((R.set i r1).set j r2) S⟩
 . cases e
def bf(i:Nat)(te:DE):DS:=fun D σ st=>te σ st fun d st1=>D.nx (σ.set i (some d)) st1
theorem Ft{i:Nat}(h:PS X st (jS (LE te) (eR i))):PS X st (LS (bf i te)):=PS.imp h fun D σ H ⟨α,σd,st,DD,G,F,P,R,S,t,k⟩=>
 ⟨α,σd,st,_,G,F,P,R,S,t,fun d st1 q α1 G1 H1 v s1 P1 S1 r1=>(k.nx.at s1).here P1 q ((R.step s1).set i r1) S1⟩
def xl(x y d:D)(st:aa)(K:aa->Prop):Prop:=match x,y with
 | .ref n,.int k=>(match st[n]? with
   |some (.lst xs)=>(match km xs.length k with|some j=>K (st.set n (.lst (xs.set j d)))|none=>False)
   |_=>False)
 |_,_=>False
def D6(to ti te:DE):DS:=fun D σ st=>te σ st fun d st1=>to σ st1 fun x st2=>ti σ st2 fun y st3=>xl x y d st3 fun st4=>D.nx σ st4
theorem A0{to ti:DE}(h:PS X st (jS (LE te) (wR (LE to) (LE ti) tG))):PS X st (LS (D6 to ti te)):=PS.imp h fun D σ H ⟨α,σd,st,DD,G,F,P,R,S,t,k⟩=>by
 refine⟨α,σd,st,_,G,F,P,R,S,t,fun d st1 q α1 G1 H1 v s1 P1 S1 r1=>?_⟩;refine⟨α1,σd,st1,_,G1,F,P1,R.step s1,S1,q,fun x st2 q2 α2 G2 H2 v2 s2 P2 S2 r2=>?_⟩;refine⟨α2,σd,st2,_,G2,F,P2,(R.step s1).step s2,S2,q2,fun y st3 q3 α3 G3 H3 v3 s3 P3 S3 r3=>?_⟩;cases x<;>cases y<;>try exact q3.elim
 rename_i n kk;unfold xl at q3;simp only at q3;split at q3
 . rename_i xs e;split at q3
   . rename_i j ej;obtain⟨p,ep,vs,hv,rv⟩:=S3.fQ e;have r2':=cJ ep (r2.step s3);subst r2';unfold Rep at r3;have hm:some p∈α3:=List.mem_of_getElem? ep;have rd:=(r1.step s2).step s3;refine⟨p,vs,kk,j,rfl,r3,P3.get hv,by rw[<-rv.length];exact ej,?_⟩;refine(((k.nx.at s1).at s2).at s3) σd _ q3 α3 (upd G3 p (.lst (vs.set j v))) _ σ (Step.write hm) (P3.write hv) ((((R.step s1).step s2).step s3).step (Step.write hm)) ?_;exact S3.write ep ⟨vs.set j v,aD,(aO.mpr (qB rd j (aO.mp rv))).step (Step.write hm)⟩
   . exact q3.elim
 . exact q3.elim
abbrev DI:=aR->aa->(List D->(aa->Prop)->aa->Prop)->Prop
structure qW(J:It)(α:List (Option Addr))(G:Hp)(ok:aa->Prop)(xs:List D):Prop where
 stop:∀(n:Nat) α' G' F' H' st',Step α G α' G'->a7 G' F' H'->aB α' st' G'->ok st'->xs.length<=n->J.stop n H'
 go:∀(n:Nat) d α' G' F' H' st',Step α G α' G'->a7 G' F' H'->aB α' st' G'->ok st'->xs[n]?=some d->J.go n H'
 kh:∀(n:Nat) d α' G' F' H' st' x H'',Step α G α' G'->a7 G' F' H'->aB α' st' G'->ok st'->xs[n]?=some d->J.kh n H' x H''->∃G'',Step α' G' α' G''/\a7 G'' F' H''/\aB α' st' G''/\Rep α' G'' d x
def LI(t:DI):TI:=fun σ H R=>∃α σd st K G F,a7 G F H/\bS α G σd σ/\aB α st G/\t σd st K/\∀xs ok st1,K xs ok st1->∀J α1 G1 H1,Step α G α1 G1->a7 G1 F H1->aB α1 st1 G1->qW J α1 G1 ok xs->R J H1
def rC(d:D)(st1:aa)(K:List D->(aa->Prop)->aa->Prop):Prop:=match d with
 | .lst xs=>K xs (fun _=>True) st1
 | .tup xs=>K xs (fun _=>True) st1
 | .ref n=>(match st1[n]? with|some (.lst xs)=>K xs (fun st'=>st'[n]?=some (.lst xs)) st1|_=>False)
 |_=>False
def Hi(t:DE):DI:=fun σ st K=>t σ st fun d st1=>rC d st1 K
theorem wu{K:PySem.W.Frag}{a:Addr}{α:List (Option Addr)}{G:Hp}{ok:aa->Prop}{xs:List D}
 (h:∀α' G' st',Step α G α' G'->aB α' st' G'->ok st'->∃vs,Rd G' a (.lst vs)/\ax α' G' xs vs):qW (E4 K a) α G ok xs where
 stop:=fun n α' G' F' H' st' s P S o hn=>by
  obtain⟨vs,h1,h2⟩:=h α' G' st' s S o;exact⟨vs,.inl (eU P h1),by rw[<-h2.length];exact hn⟩
 go:=fun n d α' G' F' H' st' s P S o hn=>by
  obtain⟨vs,h1,h2⟩:=h α' G' st' s S o;obtain⟨v,e,_⟩:=h2.get hn;exact⟨vs,v,.inl (eU P h1),e⟩
 kh:=fun n d α' G' F' H' st' x H'' s P S o hn y=>by
  obtain⟨vs,h1,h2⟩:=h α' G' st' s S o;obtain⟨v,e,r⟩:=h2.get hn;obtain⟨rfl,y⟩:=y;have:=y vs (.inl (eU P h1));rw[e]at this;cases this;exact⟨G',Step.refl,P,S,r⟩
theorem ES{K:PySem.W.Frag}{a:Addr}{α:List (Option Addr)}{G:Hp}{ok:aa->Prop}{xs:List D}
 (h:∀α' G' st',Step α G α' G'->aB α' st' G'->ok st'->∃vs,G' a=some (.tup vs)/\ax α' G' xs vs):qW (Bq K a) α G ok xs where
 stop:=fun n α' G' F' H' st' s P S o hn=>by
  obtain⟨vs,h1,h2⟩:=h α' G' st' s S o;exact⟨vs,.of (P.get h1),by rw[<-h2.length];exact hn⟩
 go:=fun n d α' G' F' H' st' s P S o hn=>by
  obtain⟨vs,h1,h2⟩:=h α' G' st' s S o;obtain⟨v,e,_⟩:=h2.get hn;exact⟨vs,v,.of (P.get h1),e⟩
 kh:=fun n d α' G' F' H' st' x H'' s P S o hn y=>by
  obtain⟨vs,h1,h2⟩:=h α' G' st' s S o;obtain⟨v,e,r⟩:=h2.get hn;obtain⟨rfl,y⟩:=y;have:=y vs (.of (P.get h1));rw[e]at this;cases this;exact⟨G',Step.refl,P,S,r⟩
theorem Ak{α α':List (Option Addr)}{G G':Hp}{a:Addr}{vs:List V}{xs:List D}(s:Step α G α' G')(na:some a∉α)(h1:Rd G a (.lst vs))(h2:ax α G xs vs):Rd G' a (.lst vs)/\ax α' G' xs vs:=by
 refine⟨?_,h2.step s⟩;rcases h1 with h|⟨o,h⟩
 . exact .inl (s.ext _ _ na h)
 . exact .inr ⟨o,s.ext _ _ na h⟩
theorem EM{l tg:Expr}{tl:DE}(hl:PE X l (LE tl)):PI X tg l (LI (Hi tl)):=by
 intro pins s σ H R I h;obtain⟨α,σd,st,K,G,F,P,RS,S,t,k⟩:=h;refine bj (hl pins s σ H (fun x H1=>∃d α1 G1 st1,Step α G α1 G1/\a7 G1 F H1/\aB α1 st1 G1/\Rep α1 G1 d x/\rC d st1 K) I ⟨α,σd,st,_,G,F,P,RS,S,t,fun d st1 q α1 G1 H1 v s1 P1 S1 r1=>⟨d,α1,G1,st1,s1,P1,S1,r1,q⟩⟩) fun v s1 ⟨x,H1,I1,rx,d,α1,G1,st1,s1',P1,S1,r1,q⟩=>?_;unfold rC at q
 have viaL:∀ {a:Addr} {vs:List V},x= .ref a->Rd H1 a (.lst vs)->R (E4 X.K a) H1->wpAny (model X.prog X.w) X.A (pyIter v) (Cg X pins σ tg R) X.xe s1:=by
  intro a vs ex hr hR;subst ex;cases rx;obtain⟨aj,rv,p,hz⟩:=I1.list (.inl hr);refine wpAny_pyIter_list p.isList ?_;refine⟨s1.heap.objs.size,[s1.heap.objs.size],_,_,H1,rfl,I1.kept (t':=s1.toks) fun b o e=>Heap.get?_push_of_some _ e,zf a _,⟨_,Heap.get?_push_size _ rfl,rfl,rfl⟩,fun b hb=>?_,hR⟩;have e:b=s1.heap.objs.size:=by simpa using hb
  subst e;exact I1.oR (Nat.le_refl _) (I1.aw.fresh (Nat.le_refl _))
 have viaT:∀ {a:Addr} {vs:List V},x= .ref a->H1 a=some (.tup vs)->R (Bq X.K a) H1->wpAny (model X.prog X.w) X.A (pyIter v) (Cg X pins σ tg R) X.xe s1:=by
  intro a vs ex hr hR;subst ex;cases rx;obtain⟨aj,rv,p,hz⟩:=I1.tuple (fm.of hr);refine wpAny_pyIter_tuple (show s1.heap.IsTuple a aj.toArray from p) ?_;refine⟨s1.heap.objs.size,[s1.heap.objs.size],_,_,H1,rfl,I1.kept (t':=s1.toks) fun b o e=>Heap.get?_push_of_some _ e,qg a _,⟨_,Heap.get?_push_size _ rfl,rfl,rfl⟩,fun b hb=>?_,hR⟩;have e:b=s1.heap.objs.size:=by simpa using hb
  subst e;exact I1.oR (Nat.le_refl _) (I1.aw.fresh (Nat.le_refl _))
 cases d<;>try exact q.elim
 . rename_i n;simp only at q;split at q
   . rename_i xs e;obtain⟨a,ea,vs,h1,h2⟩:=S1.fQ e;have r1':=cJ ea r1;subst r1';refine viaL rfl (eU P1 (.of h1)) (k _ _ st1 q _ α1 G1 H1 s1' P1 S1 (wu fun α' G' st' s S o=>?_));obtain⟨b,eb,ws,g1,g2⟩:=S.fQ o
     have hb:b=a:=by
      rcases s.pre _ _ ea with z|z<;>(rw[z]at eb;cases eb)
      rfl
     subst hb;exact⟨ws,.of g1,g2⟩
   . exact q.elim
 . unfold Rep at r1;obtain⟨a,vs,rfl,na,ha,ra⟩:=r1;exact viaL rfl (eU P1 ha) (k _ _ st1 q _ α1 G1 H1 s1' P1 S1 (wu fun α' G' st' s S o=>⟨vs,Ak s na ha ra⟩))
 . unfold Rep at r1;obtain⟨a,vs,rfl,na,ha,ra⟩:=r1;exact viaT rfl (P1.get ha) (k _ _ st1 q _ α1 G1 H1 s1' P1 S1 (ES fun α' G' st' s S o=>⟨vs,s.ext _ _ na ha,ra.step s⟩))
def cw(lo:Int)(n:Nat):List D:=(List.range n).map fun(k:Nat)=>D.int (lo+(k:Int))
theorem p9{lo:Int}{n k:Nat}:(cw lo n)[k]?=if k<n then some (.int (lo+(k:Int)))else none:=by
 unfold cw;rw[List.getElem?_map];by_cases h:k<n
 . rw[List.getElem?_range h,if_pos h];rfl
 . rw[List.getElem?_eq_none (by simpa using h),if_neg h];rfl
theorem dk{lo:Int}{n:Nat}:(cw lo n).length=n:=by unfold cw;simp
theorem tN{α:List (Option Addr)}{G:Hp}{lo:Int}{n:Nat}:qW (se lo n) α G (fun _=>True) (cw lo n) where
 stop:=fun m α' G' F' H' st' s P S o hn=>by rw[dk]at hn;exact hn
 go:=fun m d α' G' F' H' st' s P S o hn=>by
  rw[p9]at hn;split at hn
  . assumption
  . cases hn
 kh:=fun m d α' G' F' H' st' x H'' s P S o hn y=>by
  obtain⟨rfl,rfl⟩:=y;rw[p9]at hn;split at hn
  . cases hn;exact⟨G',Step.refl,P,S,by unfold Rep;rfl⟩
  . cases hn
theorem PI.imp{tg iter:Expr}{t t':TI}(h:PI X tg iter t)(f:∀σ H R,t' σ H R->t σ H R):PI X tg iter t':=fun pins s σ H R I q=>h pins s σ H R I (f σ H R q)
def BC(ds:List D)(st1:aa)(K:List D->(aa->Prop)->aa->Prop):Prop:=match ds with
 | [.int j]=>(-(2^62)<=j/\j<2^62)/\K (cw 0 j.toNat) (fun _=>True) st1
 |_=>False
def Cb(ds:List D)(st1:aa)(K:List D->(aa->Prop)->aa->Prop):Prop:=match ds with
 | [.int i,.int j]=>(-(2^62)<=i/\i<2^62/\ -(2^62)<=j/\j<2^62)/\K (cw i (j-i).toNat) (fun _=>True) st1
 |_=>False
def D1(t:DA):DI:=fun σ st K=>t σ st fun ds st1=>BC ds st1 K
def Df(t:DA):DI:=fun σ st K=>t σ st fun ds st1=>Cb ds st1 K
theorem yn{tg iter:Expr}{t:DA}(h:PI X tg iter (wN (LA t))):PI X tg iter (LI (D1 t)):=PI.imp h fun σ H R ⟨α,σd,st,K,G,F,P,RS,S,t,k⟩=>by
 refine⟨α,σd,st,_,G,F,P,RS,S,t,fun ds st1 q α1 G1 H1 vs s1 P1 S1 r1=>?_⟩;match ds,q,r1 with
 | [.int j],q,r1=>
   obtain⟨v,rfl,r2⟩:=gi r1 rfl;unfold Rep at r2;subst r2;exact⟨j,rfl,q.1.1,q.1.2,k _ _ st1 q.2 _ α1 G1 H1 s1 P1 S1 tN⟩
theorem y_{tg iter:Expr}{t:DA}(h:PI X tg iter (w9 (LA t))):PI X tg iter (LI (Df t)):=PI.imp h fun σ H R ⟨α,σd,st,K,G,F,P,RS,S,t,k⟩=>by
 refine⟨α,σd,st,_,G,F,P,RS,S,t,fun ds st1 q α1 G1 H1 vs s1 P1 S1 r1=>?_⟩;match ds,q,r1 with
 | [.int i,.int j],q,r1=>
   obtain⟨v,u,rfl,r2,r3⟩:=kr r1 rfl;unfold Rep at r2 r3;subst r2 r3;exact⟨i,j,rfl,q.1,k _ _ st1 q.2 _ α1 G1 H1 s1 P1 S1 tN⟩
def fA(tg:dg)(body:DS)(ok:aa->Prop)(E:e9):List D->aR->aa->Prop
 | [],σ,st=>ok st/\E.nx σ st
 |x::xs,σ,st=>ok st/\∃σ1,tg x σ=some σ1/\body {E with nx:=fA tg body ok E xs,ct:=fA tg body ok E xs,bk:=E.nx} σ1 st
def jY(src:DI)(tg:dg)(body:DS):DS:=fun D σ st=>src σ st fun xs ok st1=>fA tg body ok D xs σ st1
theorem Ei{src:DI}{tg:dg}(h:PS X st (AR (LI src) (LG tg) (LS t))):PS X st (LS (jY src tg t)):=PS.imp h fun D σ H ⟨α,σd,st,DD,G,F,P,R,S,tt,k⟩=>by
 refine⟨α,σd,st,_,G,F,P,R,S,tt,fun xs ok st1 q J α1 G1 H1 s1 P1 S1 it=>?_⟩;refine⟨fun i m σ' H'=>∃α' σd' st' G',Step α1 G1 α' G'/\a7 G' F H'/\bS α' G' σd' σ'/\aB α' st' G'/\fA tg t ok DD (xs.drop i) σd' st'/\m=xs.length-i,⟨xs.length,α1,σd,st1,G1,Step.refl,P1,R.step s1,S1,q,rfl⟩,?_⟩;rintro i m σ2 H2 ⟨α2,σd2,st2,G2,s2,P2,R2,S2,q2,rfl⟩;cases e:xs[i]? with
 |none=>
  have hl:xs.length<=i:=List.getElem?_eq_none_iff.mp e;rw[List.drop_eq_nil_of_le hl]at q2;unfold fA at q2;exact .inl ⟨it.stop i α2 G2 F H2 st2 s2 P2 S2 q2.1 hl,((k.nx.at s1).at s2).here P2 q2.2 R2 S2⟩
 |some d=>
  have hl:i<xs.length:=(List.getElem?_eq_some_iff.mp e).1
  have ed:xs.drop i=d::xs.drop (i+1):=by
   rw[List.drop_eq_getElem_cons hl];congr 1;rw[List.getElem?_eq_getElem hl]at e;exact Option.some.inj e
  rw[ed]at q2;unfold fA at q2;obtain⟨aw,σ3,e3,q3⟩:=q2;refine .inr ⟨it.go i d α2 G2 F H2 st2 s2 P2 S2 aw e,fun σ' H'=>∃α' σd' st' G',Step α1 G1 α' G'/\a7 G' F H'/\bS α' G' σd' σ'/\aB α' st' G'/\fA tg t ok DD (xs.drop (i+1)) σd' st',?_,?_⟩
  . rintro σ' H' ⟨α',σd',st',G',z1,z2,z3,z4,z5⟩;exact⟨xs.length-(i+1),by omega,α',σd',st',G',z1,z2,z3,z4,z5,rfl⟩
  . intro x H' y;obtain⟨G3,s3,P3,S3,r3⟩:=it.kh i d α2 G2 F H2 st2 x H' s2 P2 S2 aw e y;refine⟨α2,σd2,st2,d,fun σ' st'=>σ'=σ3/\st'=st2,G3,F,P3,R2.step s3,S3,r3,⟨σ3,e3,rfl,rfl⟩,?_⟩;rintro σ' st' ⟨rfl,rfl⟩ α4 G4 H4 σ4 s4 P4 R4 S4;have s24:=(s2.trans s3).trans s4;refine⟨α4,σ',st',_,G4,F,P4,R4,S4,q3,?_,((k.rt.at s1).at s24),(k.nx.at s1).at s24,?_⟩
    . intro σd5 st5 q5 α5 G5 H5 σ5 s5 P5 R5 S5;exact⟨α5,σd5,st5,G5,s24.trans s5,P5,R5,S5,q5⟩
    . intro σd5 st5 q5 α5 G5 H5 σ5 s5 P5 R5 S5;exact⟨α5,σd5,st5,G5,s24.trans s5,P5,R5,S5,q5⟩
end
def fu(fr:List (Option Nat))(σ:aR):aR:=fr.map fun o=>o.bind fun j=>(σ[j]?).join
theorem bS.comp{α:List (Option Addr)}{G:Hp}{σd:aR}{σ:L2.St}{fr:List (Option Nat)}(h:bS α G σd σ):bS α G (fu fr σd) (σC fr σ):=by
 refine⟨by unfold fu σC;simp,fun i d e=>?_⟩;unfold fu at e;rw[List.getElem?_map]at e;cases q:fr[i]? with
 |none=>rw[q]at e;cases e
 |some o=>
  rw[q]at e;cases o with
  |none=>simp at e
  |some j=>
   simp only[Option.map_some,Option.some.injEq,Option.bind_some]at e
   have ej:σd[j]?=some (some d):=by
    cases r:σd[j]? with
    |none=>rw[r]at e;cases e
    |some u=>rw[r]at e;simp at e;rw[e]
   obtain⟨v,ev,rv⟩:=h.at' j d ej;refine⟨v,?_,rv⟩;unfold σC;rw[List.getElem?_map,q];simp[ev]
def bU(tg:dg)(c:DT)(te:DE)(ok:aa->Prop)(σc:aR):List D->List D->aa->(List D->aa->Prop)->Prop
 | [],acc,st,K=>ok st/\K acc st
 |x::xs,acc,st,K=>ok st/\∃σ2,tg x σc=some σ2/\c σ2 st fun b st1=>if b=true then te σ2 st1 fun y st2=>bU tg c te ok σc xs (acc++[y]) st2 K else bU tg c te ok σc xs acc st1 K
def cA(src:DI)(fr:List (Option Nat))(tg:dg)(c:DT)(te:DE):DE:=fun σ st K=>src σ st fun xs ok st1=>xs.length<=sizeLine/\bU tg c te ok (fu fr σ) xs [] st1 fun ys st2=>K (.lst ys) st2
def m4(src:DI)(fr:List (Option Nat))(tg:dg)(c:DT)(te:DE):DE:=fun σ st K=>src σ st fun xs ok st1=>xs.length<=sizeLine/\bU tg c te ok (fu fr σ) xs [] st1 fun ys st2=>K (.ref st2.length) (st2++[.lst ys])
def bK:DT:=fun _ st K=>K true st
def pE(fr:List (Option Nat))(tg:dg):Prop:=∀(σ:aR) (d:D) (σ2:aR),tg d (fu fr σ)=some σ2->σ2.length=(fu fr σ).length/\∀(i:Nat) (e:D),(fu fr σ)[i]?=some (some e)->σ2[i]?=some (some e)
theorem mK{fr:List (Option Nat)}{σ:aR}{k:Nat}(h:fr[k]?=some none){e:D}(q:(fu fr σ)[k]?=some (some e)):False:=by
 unfold fu at q;rw[List.getElem?_map,h]at q;simp at q
theorem bP{fr:List (Option Nat)}{k:Nat}(h:fr[k]?=some none:=by rfl):pE fr (bC k):=fun σ d σ2 e=>by
 cases e;refine⟨List.length_set,fun i x q=>?_⟩;by_cases hi:i=k
 . subst hi;exact(mK h q).elim
 . rw[List.getElem?_set_ne (Ne.symm hi)];exact q
theorem rJ{fr:List (Option Nat)}{k j:Nat}(h:fr[k]?=some none:=by rfl)(h':fr[j]?=some none:=by rfl):pE fr (gN k j):=fun σ d σ2 e=>by
 unfold gN at e;split at e
 . cases e;refine⟨by rw[List.length_set,List.length_set],fun i x q=>?_⟩;by_cases hi:i=k
   . subst hi;exact(mK h q).elim
   . by_cases hj:i=j
     . subst hj;exact(mK h' q).elim
     . rw[List.getElem?_set_ne (Ne.symm hj),List.getElem?_set_ne (Ne.symm hi)];exact q
 . cases e
section
variable {X:Cx}
theorem zZ:pH X [] (LT bK):=fun pins s σ H Q I ⟨α,σd,st,K,G,F,P,R,S,t,k⟩=>CT pins s σ H Q I (k true st t α G H Step.refl P S)
theorem LE.comp{src:DI}{fr:List (Option Nat)}{tg:dg}{c:DT}{te:DE}(fit:pE fr tg){σ:L2.St}{H:Hp}{Q:VK}{α:List (Option Addr)}{σd:aR}{st:aa}{KE:List D->aa->Prop}{G F:Hp}(P:a7 G F H)(R:bS α G σd σ)(S:aB α st G)
 (t:src σd st fun xs ok st1=>xs.length<=sizeLine/\bU tg c te ok (fu fr σd) xs [] st1 KE)
 (fin:∀ys st2 α2 G2 H2 l vs,KE ys st2->Step α G α2 G2->a7 G2 (upd F l (.lst vs)) H2->F l=none->aB α2 st2 G2->ax α2 G2 ys vs->Q (.ref l) H2):
 pK (LI src) fr (LG tg) (LT c) (LE te) σ H Q:=by
 refine⟨α,σd,st,_,G,F,P,R,S,t,fun xs ok st1 q J α1 G1 H1 s1 P1 S1 it l hl=>?_⟩;obtain⟨hsz,q⟩:=q;obtain⟨hG,hF⟩:=P1.none hl
 refine⟨fun i m σ' H'=>∃α' st' G' acc vs,Step α1 G1 α' G'/\a7 G' (upd F l (.lst vs)) H'/\bS α' G' (fu fr σd) σ'/\aB α' st' G'/\ax α' G' acc vs/\acc.length<=i/\i<=xs.length/\bU tg c te ok (fu fr σd) (xs.drop i) acc st' KE/\m=xs.length-i,
  ⟨xs.length,α1,st1,G1,[],[],Step.refl,P1.hide hl,(R.step s1).comp,S1,by unfold ax;rfl,Nat.le_refl _,Nat.zero_le _,q,rfl⟩,?_⟩
 rintro i m σ2 H2 ⟨α2,st2,G2,acc,vs,s2,P2,R2,S2,ra,hacc,hi,q2,rfl⟩;cases e:xs[i]? with
 |none=>
  have hl2:xs.length<=i:=List.getElem?_eq_none_iff.mp e;rw[List.drop_eq_nil_of_le hl2]at q2;unfold bU at q2;exact .inl ⟨it.stop i α2 G2 _ H2 st2 s2 P2 S2 q2.1 hl2,fin acc st2 α2 G2 H2 l vs q2.2 (s1.trans s2) P2 hF S2 ra⟩
 |some d=>
  have hl2:i<xs.length:=(List.getElem?_eq_some_iff.mp e).1
  have ed:xs.drop i=d::xs.drop (i+1):=by
   rw[List.drop_eq_getElem_cons hl2];congr 1;rw[List.getElem?_eq_getElem hl2]at e;exact Option.some.inj e
  rw[ed]at q2;unfold bU at q2;obtain⟨aw,σ3,e3,q3⟩:=q2;refine .inr ⟨it.go i d α2 G2 _ H2 st2 s2 P2 S2 aw e,fun σ' H'=>∃α' st' G' acc vs,Step α1 G1 α' G'/\a7 G' (upd F l (.lst vs)) H'/\bS α' G' (fu fr σd) σ'/\aB α' st' G'/\ax α' G' acc vs/\acc.length<=i+1/\bU tg c te ok (fu fr σd) (xs.drop (i+1)) acc st' KE,?_,?_⟩
  . rintro σ' H' ⟨α',st',G',acc',vs',z1,z2,z3,z4,z5,z6,z7⟩;exact⟨xs.length-(i+1),by omega,α',st',G',acc',vs',z1,z2,z3,z4,z5,z6,hl2,z7,rfl⟩
  . intro x H' y;obtain⟨G3,s3,P3,S3,r3⟩:=it.kh i d α2 G2 _ H2 st2 x H' s2 P2 S2 aw e y;refine⟨α2,fu fr σd,st2,d,fun σ' st'=>σ'=σ3/\st'=st2,G3,_,P3,R2.step s3,S3,r3,⟨σ3,e3,rfl,rfl⟩,?_⟩;rintro σ' st' ⟨rfl,rfl⟩ α4 G4 H4 σ4 s4 P4 R4 S4;have s24:=(s2.trans s3).trans s4;have Rc:bS α4 G4 (fu fr σd) σ4:=⟨by rw[<-(fit σd d σ' e3).1];exact R4.len,fun j z hz=>R4.at' j z ((fit σd d σ' e3).2 j z hz)⟩
    refine⟨α4,σ',st',_,G4,_,P4,R4,S4,q3,fun b st5 q5 α5 G5 H5 s5 P5 S5=>?_⟩;cases b with
    |false=>exact⟨α5,st5,G5,acc,vs,s24.trans s5,P5,Rc.step s5,S5,((ra.step s3).step s4).step s5,by omega,q5⟩
    |true=>
     refine⟨α5,σ',st5,_,G5,_,P5,R4.step s5,S5,q5,fun z st6 q6 α6 G6 H6 v6 s6 P6 S6 r6=>?_⟩;have hr:=(((ra.step s3).step s4).step s5).step s6;refine⟨vs,(P6.frame aD).1,by rw[<-hr.length];omega,α6,st6,G6,acc++[z],vs++[v6],(s24.trans s5).trans s6,?_,(Rc.step s5).step s6,S6,aO.mpr (dP (aO.mp hr) (.cons r6 .nil)),by rw[List.length_append,List.length_singleton];omega,q6⟩;have:=P6.Jk (p:=l) (o':= .lst (vs++[v6])) aD;rw[Cw]at this;exact this
theorem E7{scope:Scope}{Nc:List Str}{elt tg iter:Expr}{ifs:List Expr}{pos:Pos}{src:DI}{fr:List (Option Nat)}{dtg:dg}{c:DT}{te:DE}(S:a9 X scope Nc fr)(hi:PI X tg iter (LI src))
 (hg:∀C s H ex,PG (dH X scope Nc C s H ex) tg (LG dtg)) (ht:∀C s H ex,pH (dH X scope Nc C s H ex) ifs (LT c)) (he:∀C s H ex,PE (dH X scope Nc C s H ex) elt (LE te)) (fit:pE fr dtg)
 (hx:X.xe=fun _ _=>False:=by rfl) (hc:X.calm=true:=by rfl) (hs:∀x,foldedSetIterable iter X.env x=pure x:=by intro _;rfl):PE X (.ListComp elt [⟨tg,iter,ifs,0⟩] scope pos) (LE (cA src fr dtg c te)):=
 PE.imp (vV hx hc S hi hg ht he hs) fun σ H Q ⟨α,σd,st,K,G,F,P,R,S,t,k⟩=>LE.comp fit P R S t fun ys st2 α2 G2 H2 l vs q s2 P2 hl S2 r=>by
  have hg:G2 l=none:=(P2.frame aD).2;refine k _ st2 q α2 (upd G2 l (.lst vs)) H2 (.ref l) (s2.trans (Step.laid hg)) (P2.show hl) (S2.laid hg) ?_;unfold Rep;exact⟨l,vs,rfl,S2.kq hg,.of aD,r.step (Step.laid hg)⟩
theorem Dj{scope:Scope}{Nc:List Str}{elt tg iter:Expr}{ifs:List Expr}{pos:Pos}{src:DI}{fr:List (Option Nat)}{dtg:dg}{c:DT}{te:DE}(S:a9 X scope Nc fr)(hi:PI X tg iter (LI src))
 (hg:∀C s H ex,PG (dH X scope Nc C s H ex) tg (LG dtg)) (ht:∀C s H ex,pH (dH X scope Nc C s H ex) ifs (LT c)) (he:∀C s H ex,PE (dH X scope Nc C s H ex) elt (LE te)) (fit:pE fr dtg)
 (hx:X.xe=fun _ _=>False:=by rfl) (hc:X.calm=true:=by rfl) (hs:∀x,foldedSetIterable iter X.env x=pure x:=by intro _;rfl):PE X (.ListComp elt [⟨tg,iter,ifs,0⟩] scope pos) (LE (m4 src fr dtg c te)):=
 PE.imp (vV hx hc S hi hg ht he hs) fun σ H Q ⟨α,σd,st,K,G,F,P,R,S,t,k⟩=>LE.comp fit P R S t fun ys st2 α2 G2 H2 l vs q s2 P2 hl S2 r=>by
  have hg:G2 l=none:=(P2.frame aD).2;refine k _ _ q (α2++[some l]) (upd G2 l (.lst vs)) H2 (.ref l) (s2.trans (Step.cell hg)) (P2.show hl) (S2.cell hg ⟨vs,aD,r.step (Step.cell hg)⟩) ?_;unfold Rep;refine .inr ⟨l,?_,rfl⟩;rw[List.getElem?_append_right (by rw[S2.len];exact Nat.le_refl _),S2.len,Nat.sub_self];rfl
theorem Dt{st:Stmt}{k:Nat}{src:DI}{fr:List (Option Nat)}{dtg:dg}{c:DT}{te:DE}(fit:pE fr dtg)(h:PS X st (jS (pK (LI src) fr (LG dtg) (LT c) (LE te)) (eR k))):PS X st (LS (bf k (cA src fr dtg c te))):=
 PS.imp h fun D σ H ⟨α,σd,st,DD,G,F,P,R,S,t,q⟩=>LE.comp fit P R S t fun ys st2 α2 G2 H2 l vs qq s2 P2 hl S2 r=>by
  have hg:G2 l=none:=(P2.frame aD).2;have s3:=s2.trans (Step.laid (o:= .lst vs) hg);refine q.nx _ st2 qq α2 (upd G2 l (.lst vs)) H2 _ s3 (P2.show hl) ((R.step s3).set k ?_) (S2.laid hg);unfold Rep;exact⟨l,vs,rfl,S2.kq hg,.of aD,r.step (Step.laid hg)⟩
def aJ(N:List Str)(ds:List D):aR:=ds.map some++List.replicate (N.length-ds.length) none
theorem bS.start{α:List (Option Addr)}{G:Hp}{N:List Str}{ds:List D}{vs:List V}(r:ax α G ds vs):bS α G (aJ N ds) (L2.start N vs):=by
 have hl:=r.length;refine⟨by unfold aJ L2.start;simp[hl],fun i d e=>?_⟩;unfold aJ at e;by_cases hi:i<ds.length
 . rw[List.getElem?_append_left (by simpa using hi),List.getElem?_map]at e;cases q:ds[i]? with
   |none=>rw[q]at e;cases e
   |some x=>
    rw[q]at e;cases e;obtain⟨v,ev,rv⟩:=r.get q;refine⟨v,?_,rv⟩;unfold L2.start;rw[List.getElem?_append_left (by rw[List.length_map];omega),List.getElem?_map,ev];rfl
 . rw[List.getElem?_append_right (by simpa using hi),List.getElem?_replicate]at e;split at e<;>cases e
theorem Gz{P:Program}{w:World}{K:PySem.W.Frag}{mg:Str->Option Value}{base:Heap}{x qual:Str}{st:Stmt}{f:Addr}{fd:FuncData}{N ps:List Str}{k:Nat}{sp:cu}{t:DS}(F:i_ K x qual st f fd)(S:aG N ps (ai st))
 (hbody:∀(cdv:Value) (A:Around) (outer:List Env) (s:Shared) (H:Hp) (E:XK),bw k (A.deeper (envOfC qual (ai st) s.heap.objs.size f cdv))->cM (bx b_ P w K mg base N qual (ai st) f cdv A outer s H E).cx (eN st) (LS t))
 (hsp:∀ds st K,sp ds st K->ds.length=ps.length/\t {nx:=fun _ st'=>K .ay st',rt:=K} (aJ N ds) st):aK P w K mg base b_ (k+1) f fd ps (cK sp):=by
 refine F.ok S (fun vs H Q E h=>?_) fun cdv A outer s H vs Q E hr h=>⟨_,hbody cdv A outer s H E hr,?_⟩
 . obtain⟨α,ds,st,K,G,F,P,r,S,q,k⟩:=h;rw[<-r.length];exact(hsp ds st K q).1
 . obtain⟨α,ds,st,K,G,F,P,r,S,q,k⟩:=h;refine⟨α,aJ N ds,st,_,G,F,P,bS.start r,S,(hsp ds st K q).2,?_,k,?_,?_⟩
   . intro σd' st' kk α' G' H' σ' s' P' R' S';exact k .ay st' kk α' G' H' .ay s' P' S' (by unfold Rep;rfl)
   . intro σd' st' kk;exact kk.elim
   . intro σd' st' kk;exact kk.elim
def kK(to te:DE):DE:=fun σ st K=>to σ st fun x st1=>match x with
 | .ref n=>(match st1[n]? with
   |some (.lst _)=>te σ st1 fun y st2=>∃y',[y]=[y']/\(match st2[n]? with|some (.lst xs)=>xs.length<sizeLine/\K .ay (st2.set n (.lst (xs++[y'])))|_=>False)
   |_=>False)
 |_=>False
end
structure a_(K:PySem.W.Frag)(mg:Str->Option Value)(x qual:Str)(st:Stmt)(ps:List Str)(f:Addr)(fd:FuncData):Prop where
 fn:i_ K x qual st f fd
 mg:mg x=some (.ref f)
 bd:Binds K fd ps []
def p_(sc:Scope)(N:List Str)(scope:Scope)(Nc:List Str)(fr:List (Option Nat)):Bool:=
 (scope.kind== .function)&&scope.names.all (fun x=>x.2 != .cell||scope.names.lookup x.1==some .cell)&&scope.names.all (fun x=>x.2 != .local||scope.names.lookup x.1==some .local)&&
 scope.names.all (fun x=>x.2 != .free||sc.names.lookup x.1==some .cell||sc.names.lookup x.1==some .free)&&(fr.length==Nc.length)&&
 (List.range fr.length).all fun i=>match fr[i]?,Nc[i]? with
   |some (some j),some x=>(N[j]?==some x)&&(scope.names.lookup x==some .free)&&(sc.names.lookup x==some .cell||sc.names.lookup x==some .free)
   |_,_=>true
theorem a9.look{X:Cx}{scope:Scope}{Nc:List Str}{fr:List (Option Nat)}(sc:Scope)(N:List Str)(h:p_ sc N scope Nc fr=true)(hsc:X.env.scope=sc:=by rfl)(hN:X.N=N:=by rfl):a9 X scope Nc fr:=by
 unfold p_ at h;simp only[Bool.and_eq_true]at h;obtain⟨⟨⟨⟨⟨h1,h2⟩,h3⟩,h4⟩,h5⟩,h6⟩:=h;subst hsc hN;refine⟨by simpa using h1,fun x hx hk=>?_,fun x hx hk=>?_,fun x hx hk=>?_,by simpa using h5,fun i j x e1 e2=>?_⟩
 . have:=List.all_eq_true.mp h2 x hx;rw[hk]at this;simpa using this
 . have:=List.all_eq_true.mp h3 x hx;rw[hk]at this;simpa using this
 . have:=List.all_eq_true.mp h4 x hx;rw[hk]at this;have z:X.env.scope.names.lookup x.1=some .cell\/X.env.scope.names.lookup x.1=some .free:=by simpa using this
   exact z
 . have hi:i<fr.length:=(List.getElem?_eq_some_iff.mp e2).1;have:=List.all_eq_true.mp h6 i (List.mem_range.mpr hi);rw[e1,e2]at this;simp only[Bool.and_eq_true,Bool.or_eq_true,beq_iff_eq]at this;exact⟨this.1.1,this.1.2,this.2⟩
section
variable {X:Cx}
theorem IE{e:Expr}{es:List Expr}{pos p:Pos}{x:Str}{id:String}{r:du}{t:DA}(hc:aU X (.builtin id) (eP r))(ha:PA X (e::es) (LA t))(hm:X.mg x=none)(hv:bootBuiltins x=some (.builtin id))(hg:Gl X x:=by rfl)(hn:x≠"__name__":=by decide)(hdb:(x==("__debug__":Str))=false:=by decide)
 (he:starEach (e::es) X.env=(false,eval e X.env)::starEach es X.env:=by rfl) (hpl:(backTo pos (starEach es X.env)).any (·.1)=false:=by rfl):PE X (.Call (.Name x p) (e::es) [] pos) (LE (bD r t)):=PE.imp (lJ hc hg hm hv ha hn hdb he hpl) fun _ _ _ h=>LE.cb h
theorem Iv{e:Expr}{es:List Expr}{pos p:Pos}{x:Str}{T:String}{r:du}{t:DA}(hc:aU X (.type T) (eP r))(ha:PA X (e::es) (LA t))(hm:X.mg x=none)(hv:bootBuiltins x=some (.type T))(hg:Gl X x:=by rfl)(hn:x≠"__name__":=by decide)(hdb:(x==("__debug__":Str))=false:=by decide)
 (he:starEach (e::es) X.env=(false,eval e X.env)::starEach es X.env:=by rfl) (hpl:(backTo pos (starEach es X.env)).any (·.1)=false:=by rfl):PE X (.Call (.Name x p) (e::es) [] pos) (LE (bD r t)):=PE.imp (yo hc hg hm hv ha hn hdb he hpl) fun _ _ _ h=>LE.cb h
theorem Iq{pos:Pos}{x:Str}{T:String}(hm:X.mg x=none)(hv:bootBuiltins x=some (.type T))(hg:Gl X x:=by rfl)(hn:x≠"__name__":=by decide)(hdb:(x==("__debug__":Str))=false:=by decide):PE X (.Name x pos) (LE (dC (.ty T))):=
 kU (v:= .ty T) (vS hg hm hv rfl hn hdb) fun _ _=>by unfold Rep;rfl
theorem IH{e:Expr}{es:List Expr}{pos p:Pos}{x qual:Str}{st:Stmt}{ps:List Str}{f:Addr}{fd:FuncData}{k:Nat}{S:cu}{t:DA}(A:a_ X.K X.mg x qual st ps f fd)(F:aK X.prog X.w X.K X.mg X.base b_ k f fd ps (cK S))(hr:bw k X.A)
 (ha:PA X (e::es) (LA t)) (hg:Gl X x:=by rfl) (hdb:(x==("__debug__":Str))=false:=by decide) (he:starEach (e::es) X.env=(false,eval e X.env)::starEach es X.env:=by rfl) (hpl:(backTo pos (starEach es X.env)).any (·.1)=false:=by rfl):
 PE X (.Call (.Name x p) (e::es) [] pos) (LE (aC S t)):=EK F hr hg A.mg A.fn.kp A.bd ha hdb he hpl
def B5(d:D)(b:Bool):Bool:=match d with| .bl c=>c==b|_=>false
def HH(d:D):Bool:=match d with| .ay=>true|_=>false
theorem Dr{α:List (Option Addr)}{H:Hp}{st:aa}{d:D}{v:V}{u:Value}{b:Bool}(S:aB α st H)(hl:live st d=true)(r:Rep α H d v)(ru:RelV v u):(u==Value.bool b)=B5 d b:=by
 cases d
 case ref n=>
  obtain⟨a,rfl⟩:=u_ S hl r;cases ru;rfl
 all_goals unfold Rep at r
 case bl c=>
  subst r;cases ru;cases c<;>cases b<;>rfl
 all_goals first
  |(subst r;first|(cases ru;rfl)|(obtain⟨t,rfl⟩:=ru;rfl))
  |(obtain⟨a,vs,rfl,_⟩:=r;cases ru;rfl)
theorem LE.append{to te:DE}{σ:L2.St}{H:Hp}{Q:VK}(h:LE (kK to te) σ H Q):HA X.K "list" vP (LE to) (LA (ag te ao)) σ H Q:=by
 obtain⟨α,σd,st,K,G,F,P,R,S,t,k⟩:=h;refine⟨α,σd,st,_,G,F,P,R,S,t,fun x st1 q α1 G1 H1 v s1 P1 S1 r1=>?_⟩;cases x<;>try exact q.elim
 rename_i n;simp only at q;split at q
 . rename_i ys e;obtain⟨p,ep,vs,h1,h2⟩:=S1.fQ e;have r1':=cJ ep r1;subst r1';refine⟨.inl ⟨rfl,vs,.inl (.of (P1.get h1))⟩,α1,σd,st1,fun ds st2=>∃y,ds=[y]/\(match st2[n]? with|some (.lst xs)=>xs.length<sizeLine/\K .ay (st2.set n (.lst (xs++[y])))|_=>False),G1,F,P1,R.step s1,S1,?_,?_⟩
   . refine Eq.mp ?_ q;rfl
   . rintro ds st2 ⟨y,rfl,q2⟩ α2 G2 H2 ws s2 P2 S2 r2;obtain⟨w,rfl,rw'⟩:=gi r2 rfl;split at q2
     . rename_i xs e2;obtain⟨p2,ep2,us,g1,g2⟩:=S2.fQ e2
       have:p2=p:=by
        rcases s2.pre _ _ ep with z|z<;>(rw[z]at ep2;cases ep2)
        rfl
       subst this;have hm:some p2∈α2:=List.mem_of_getElem? ep2;refine⟨p2,us,w,rfl,rfl,P2.get g1,by rw[<-g2.length];exact q2.1,?_⟩;refine((k.at s1).at s2) _ _ q2.2 α2 (upd G2 p2 (.lst (us++[w]))) _ .ay (Step.write hm) (P2.write g1) ?_ (by unfold Rep;rfl);exact S2.write ep2 ⟨us++[w],aD,(aO.mpr (dP (aO.mp g2) (.cons rw' .nil))).step (Step.write hm)⟩
     . exact q2.elim
 . exact q.elim
theorem AQ{o e:Expr}{to te:DE}{apos cpos:Pos}(ho:PE X o (LE to))(he:PE X e (LE te))(hbase:attributeBase o "append" X.env (eval o X.env)=eval o X.env:=by rfl)
 (hfew:((backTo cpos (starEach [e] X.env)).all (fun x=> !x.1)&&(backToKw cpos (keywordEach [] X.env)).all (fun x=>x.1.isSome)
   &&decide (([e]:List Expr).length+([]:List Keyword).length+(if([]:List Keyword).isEmpty then 0 else 1)<30))=true:=by rfl)
 (hline:(apos.endLine==cpos.line)=true:=by rfl) (hs:starEach [e] X.env=(false,eval e X.env)::starEach [] X.env:=by rfl) (hplain:(backTo cpos (starEach [] X.env)).any (·.1)=false:=by rfl):PE X (.Call (.Attribute o "append" apos) [e] [] cpos) (LE (kK to te)):=
 PE.imp (Hm PySem.F.plainAttrs_list PySem.F.slot_list_append PySem.F.type_list_append sF ho (wm he yA hs) hbase hfew hline hs hplain) fun _ _ _ h=>LE.append h
end
end L3
namespace L3
open PySem L2
open PySem.Spec hiding items?
open PyProof.Rows hiding St
section
variable {X:Cx}
@[irreducible] def bJ:cG:=Bo
theorem c6:bq X (binaryOp .Add) (LR bJ):=by unfold bJ;exact Gr
@[irreducible] def hJ:cG:=Cm
theorem lg:bq X (binaryOp .Sub) (LR hJ):=by unfold hJ;exact Gs
@[irreducible] def cf:cG:=BM
theorem dX:bq X (binaryOp .Mult) (LR cf):=by unfold cf;exact Hl
@[irreducible] def oj:cG:=zc
theorem yF:bq X (binaryOp .FloorDiv) (LR oj):=by unfold oj;exact E2
@[irreducible] def ib:cG:=Ck
theorem p8:bq X (binaryOp .Mod) (LR ib):=by unfold ib;exact Hq
@[irreducible] def o9:cG:=BI
theorem xr:bq X (binaryOp .Pow) (LR o9):=by unfold o9;exact GG
@[irreducible] def r_:cG:=EC
theorem Ig:bq X (compareOp .Lt) (LR r_):=by unfold r_;exact Iw
@[irreducible] def rO:cG:=Fs
theorem Im:bq X (compareOp .GtE) (LR rO):=by unfold rO;exact IB
@[irreducible] def sH:cG:=Ek
theorem IK:bq X (compareOp .NotEq) (LR sH):=by unfold sH;exact IG
@[irreducible] def gd:cG:=EI
theorem hO{k:Nat}(hr:bw k X.A):bq X (compareOp .Eq) (LR gd):=by unfold gd;exact ID hr
@[irreducible] def ip:uc:=Cf
theorem Gk:vR X (unaryOp .USub) (Cn ip):=by unfold ip;exact Hw
@[irreducible] def fC:cG:=lW
theorem Ij{a b:Expr}{ta tb:DE}{pos:Pos}(ha:PE X a (LE ta))(hb:PE X b (LE tb))(hs:nI b:=by intro _ _;rfl):PE X (.Subscript a b pos) (LE (az fC ta tb)):=by unfold fC;exact Ik ha hb hs
@[irreducible] def gq:du:=tq
theorem gL:aU X (.builtin "len") (eP gq):=by unfold gq;exact G_
@[irreducible] def qG:du:=yg
theorem B0:aU X (.builtin "abs") (eP qG):=by unfold qG;exact GA
@[irreducible] def uZ:du:=wY
theorem Gw(hc:X.calm=true):aU X (.builtin "max") (eP uZ):=by unfold uZ;exact GV hc
@[irreducible] def tK:du:=ya
theorem GO(hc:X.calm=true):aU X (.builtin "min") (eP tK):=by unfold tK;exact GB hc
@[irreducible] def uy:du:=wW
theorem GK:aU X (.type "int") (eP uy):=by unfold uy;exact Hb
@[irreducible] def bW:du:=nY
theorem dy:aU X (.type "tuple") (eP bW):=by unfold bW;exact DP
@[irreducible] def fV:du:=pV
theorem jZ:aU X (.type "list") (eP fV):=by unfold fV;exact Eh
@[irreducible] def oQ:du:=sX
theorem BS(hc:X.calm=true):aU X (.builtin "all") (eP oQ):=by unfold oQ;exact Gb hc
@[irreducible] def l7:du:=pX
theorem wK:aU X (.builtin "isinstance") (eP l7):=by unfold l7;exact GW
@[irreducible] def kB:D->aa->(List D->(aa->Prop)->aa->Prop)->Prop:=rC
def dJ(t:DE):DI:=fun σ st K=>t σ st fun d st1=>kB d st1 K
theorem D5{l tg:Expr}{tl:DE}(hl:PE X l (LE tl)):PI X tg l (LI (dJ tl)):=by unfold dJ kB;exact EM hl
@[irreducible] def sW:List D->aa->(List D->(aa->Prop)->aa->Prop)->Prop:=BC
@[irreducible] def tu:List D->aa->(List D->(aa->Prop)->aa->Prop)->Prop:=Cb
def eF(t:DA):DI:=fun σ st K=>t σ st fun ds st1=>sW ds st1 K
def nK(t:DA):DI:=fun σ st K=>t σ st fun ds st1=>tu ds st1 K
theorem yy{tg iter:Expr}{t:DA}(h:PI X tg iter (wN (LA t))):PI X tg iter (LI (eF t)):=by unfold eF sW;exact yn h
theorem ze{tg iter:Expr}{t:DA}(h:PI X tg iter (w9 (LA t))):PI X tg iter (LI (nK t)):=by unfold nK tu;exact y_ h
@[irreducible] def wZ:D->D->D->aa->(aa->Prop)->Prop:=xl
def pN(to ti te:DE):DS:=fun D σ st=>te σ st fun d st1=>to σ st1 fun x st2=>ti σ st2 fun y st3=>wZ x y d st3 fun st4=>D.nx σ st4
theorem Aq{st:Stmt}{to ti te:DE}(h:PS X st (jS (LE te) (wR (LE to) (LE ti) tG))):PS X st (LS (pN to ti te)):=by unfold pN wZ;exact A0 h
end
section
variable {st:aa}{K:DK}{i j:Int}{b c:Bool}{xs ys:List D}{d e:D}{n:Nat}
theorem cV(k:K (.int (i+j)) st):bJ (.int i) (.int j) st K:=by unfold bJ;exact k
theorem rg(h:xs.length+ys.length<=sizeLine)(k:K (.lst (xs++ys)) st):bJ (.lst xs) (.lst ys) st K:=by unfold bJ;exact⟨h,k⟩
theorem jT(k:K (.int (i-j)) st):hJ (.int i) (.int j) st K:=by unfold hJ;exact⟨trivial,k⟩
theorem eH(h:IntMulOk i j)(k:K (.int (i*j)) st):cf (.int i) (.int j) st K:=by unfold cf;exact⟨h,k⟩
theorem qM(h: -(2^63)<=i/\i<2^63/\xs.length*i.toNat<=sizeLine)(k:K (.lst (List.replicate i.toNat xs).flatten) st):cf (.lst xs) (.int i) st K:=by unfold cf;exact⟨h,k⟩
theorem Dz(h: -(2^63)<=i/\i<2^63/\xs.length*i.toNat<=sizeLine)(k:K (.tup (List.replicate i.toNat xs).flatten) st):cf (.tup xs) (.int i) st K:=by unfold cf;exact⟨h,k⟩
theorem vM(h0:j≠0)(h:j.natAbs.log2<9000)(k:K (.int (i.fdiv j)) st):oj (.int i) (.int j) st K:=by unfold oj;exact⟨⟨h0,h⟩,k⟩
theorem m5(h0:j≠0)(k:K (.int (i.fmod j)) st):ib (.int i) (.int j) st K:=by unfold ib;exact⟨h0,k⟩
theorem t9(h:A4 i j)(k:K (.int (i^j.toNat)) st):o9 (.int i) (.int j) st K:=by unfold o9;exact⟨h,k⟩
theorem Bv(k:K (.bl (decide (i<j))) st):r_ (.int i) (.int j) st K:=by unfold r_;exact⟨trivial,k⟩
theorem BA(k:K (.bl (decide (j<=i))) st):rO (.int i) (.int j) st K:=by unfold rO;exact⟨trivial,k⟩
theorem B4(k:K (.bl (!decide (i=j))) st):sH (.int i) (.int j) st K:=by unfold sH;exact k
theorem xU(h1:pl 40 d=true)(h2:pl 40 e=true)(k:K (.bl (bH d e)) st):gd d e st K:=by unfold gd;exact⟨h1,h2,k⟩
theorem CG(a b:Int):(a==b)=decide (a=b):=by
 by_cases h:a=b
 . subst h;simp
 . simp[h]
theorem uV(k:K (.bl (decide (i=j))) st):gd (.int i) (.int j) st K:=by
 refine xU rfl rfl ?_;have:bH (.int i) (.int j)=decide (i=j):=by unfold bH;exact CG i j
 rw[this];exact k
theorem i5(k:K (.int (-i)) st):ip (.int i) st K:=by unfold ip;exact k
theorem Ad(h:items? st d=some xs)(a:dY xs i=some e)(k:K e st):lW d (.int i) st K:=by
 cases d<;>unfold items? at h<;>first
  |(cases h;done)
  |(cases h;simp only[lW,a];exact k)
  |(simp only at h
    split at h
    . rename_i q;cases h;simp only[lW,q,a];exact k
    . cases h)
theorem bV(h:items? st d=some xs)(a:dY xs i=some e)(k:K e st):fC d (.int i) st K:=by unfold fC;exact Ad h a k
theorem fx(h:items? st d=some xs)(k:K (.int xs.length) st):gq [d] st K:=by
 unfold gq tq;split
 . rename_i z;cases z;cases h
 . rename_i z;cases z;rw[h];exact k
 . rename_i z1 z2;exact absurd rfl (z2 d)
theorem DY(i:Int):(if i<0 then-i else i)=((i.natAbs:Nat):Int):=by split<;>omega
theorem zx(k:K (.int ((i.natAbs:Nat):Int)) st):qG [.int i] st K:=by unfold qG;show K (.int (if i<0 then-i else i)) st;rw[DY];exact k
theorem Fg(k:K (.int (if j>i then j else i)) st):uZ [.int i,.int j] st K:=by unfold uZ;exact k
theorem Eo(k:K (.int (if j<i then j else i)) st):tK [.int i,.int j] st K:=by unfold tK;exact k
theorem wG(k:K (.int (if b then 1 else 0)) st):uy [.bl b] st K:=by unfold uy;exact k
theorem cO(h:items? st d=some xs)(k:K (.tup xs) st):bW [d] st K:=by unfold bW nY;simp only[h];exact k
theorem iy(h:items? st d=some xs)(k:K (.lst xs) st):fV [d] st K:=by unfold fV pV;simp only[h];exact k
theorem yH{bs:List Bool}(h:i9 xs=some bs)(k:K (.bl (bs.all id)) st):oQ [.lst xs] st K:=by unfold oQ sX;simp only[h];exact k
theorem uK{t c:String}(h:cR st d=some t)(hc:c∈ie)(k:K (.bl (nB t c)) st):l7 [d,.ty c] st K:=by unfold l7 pX;simp only[h];exact⟨hc,k⟩
theorem DB{t:String}{cs:List D}{cl:List String}(h:cR st d=some t)(h2:jB cs=some cl)(hc:∀c∈cl,c∈ie)(k:K (.bl (cl.any (nB t))) st):l7 [d,.tup cs] st K:=by unfold l7 pX;simp only[h,h2];exact⟨hc,k⟩
theorem ny{K:List D->(aa->Prop)->aa->Prop}(h:items? st d=some xs)(k:∀ok:aa->Prop,ok st->K xs ok st):kB d st K:=by
 unfold kB rC
 cases d<;>unfold items? at h<;>first
  |(cases h;done)
  |(cases h;exact k _ trivial)
  |(simp only at h
    split at h
    . rename_i q;cases h;simp only[q];exact k _ q
    . cases h)
theorem rm{K:List D->(aa->Prop)->aa->Prop}(k:K xs (fun _=>True) st):kB (.lst xs) st K:=by unfold kB;exact k
theorem hZ{K:List D->(aa->Prop)->aa->Prop}(k:K xs (fun _=>True) st):kB (.tup xs) st K:=by unfold kB;exact k
theorem hW{K:List D->(aa->Prop)->aa->Prop}(h: -(2^62)<=j/\j<2^62)(k:K (cw 0 j.toNat) (fun _=>True) st):sW [.int j] st K:=by unfold sW;exact⟨h,k⟩
theorem Dk{K:List D->(aa->Prop)->aa->Prop}(h: -(2^62)<=i/\i<2^62/\ -(2^62)<=j/\j<2^62)(k:K (cw i (j-i).toNat) (fun _=>True) st):tu [.int i,.int j] st K:=by unfold tu;exact⟨h,k⟩
theorem Ec{K:aa->Prop}{m:Nat}(h:st[n]?=some (.lst xs))(e:km xs.length i=some m)(k:K (st.set n (.lst (xs.set m d)))):wZ (.ref n) (.int i) d st K:=by unfold wZ xl;simp only[h,e];exact k
end
def yx(K:PySem.W.Frag):Bool:=K.all fun p=>p.2.cls != .type "list"
theorem ox{a:Addr}{o:Obj}:∀ {l:List (Addr×Obj)},l.lookup a=some o->(a,o)∈l
 | [],h=>by cases h
 |(b,u)::r,h=>by
  rw[List.lookup_cons]at h;split at h
  . rename_i z;cases h;have:a=b:=by simpa using z
    subst this;exact List.mem_cons_self
  . exact List.mem_cons_of_mem _ (ox h)
theorem sP{K:PySem.W.Frag}(h:yx K=true){a:Addr}{o:Obj}(e:K.lookup a=some o):o.cls≠ .type "list":=by
 have:=List.all_eq_true.mp h (a,o) (ox e);simpa using this
theorem so{α:List (Option Addr)}{G:Hp}:∀ns:List Int,ax α G (ns.map D.int) (ns.map V.int)
 | []=>by unfold ax;rfl
 |n::ns=>by
  rw[List.map_cons,List.map_cons];unfold ax;exact⟨_,_,rfl,by unfold Rep;rfl,so ns⟩
def notStar:Expr->Bool
 | .Starred .. =>false
 |_=>true
theorem a8{e:Expr}{es:List Expr}{env:Env}(h:notStar e=true):starEach (e::es) env=(false,eval e env)::starEach es env:=by
 cases e<;>first|rfl|cases h
def cF:List Expr->Bool
 | []=>true
 |e::es=>notStar e&&cF es
theorem d5{pos:Pos}{env:Env}:∀ {es:List Expr},cF es=true->(backTo pos (starEach es env)).any (·.1)=false
 | [],_=>rfl
 |e::es,h=>by
  unfold cF at h;rw[Bool.and_eq_true]at h;rw[a8 h.1];have ih:=d5 (pos:=pos) (env:=env) h.2;unfold backTo at ih⊢;rw[List.map_cons,List.any_cons,ih];rfl
def j5:Expr->Bool
 | .Slice .. =>false
 |_=>true
def mL:Expr->Bool
 | .Name .. =>true
 | .Call .. =>true
 | .Subscript .. =>true
 | .Attribute .. =>true
 |_=>false
def g_:Expr->Bool
 | .ListComp .. =>false
 | .SetComp .. =>false
 | .DictComp .. =>false
 |_=>true
section
variable {X:Cx}
theorem Ax{b:Expr}(h:j5 b=true):nI b:=by
 intro o i;cases b<;>first|rfl|cases h
theorem yc{e:Expr}(h:mL e=true):∀whole,isTrue e X.env whole=(do let v <-whole;standAt e.pos;holding [v] (truthy v)):=by
 intro whole;cases e<;>first|(cases h;done)|rfl
theorem rn{e:Expr}{tg:Option Expr}{n:Nat}{env:Env}(h:g_ e=true):swapsWith e tg n env=pure false:=by
 cases e<;>first|(cases h;done)|rfl
theorem Az{e:Expr}{es:List Expr}{te:DE}{tr:DA}(ha:PE X e (LE te))(hr:PA X es (LA tr))(hs:notStar e=true:=by rfl):PA X (e::es) (LA (ag te tr)):=wm ha hr (a8 hs)
theorem F5{e:Expr}{es:List Expr}{pos p:Pos}{x:Str}{id:String}{r:du}{t:DA}(hc:aU X (.builtin id) (eP r))(ha:PA X (e::es) (LA t))(hm:X.mg x=none)(hv:bootBuiltins x=some (.builtin id))(hn:x≠"__name__")(hdb:(x==("__debug__":Str))=false)(hg:Gl X x:=by rfl)(hs:notStar e=true:=by rfl)(hs2:cF es=true:=by rfl):
 PE X (.Call (.Name x p) (e::es) [] pos) (LE (bD r t)):=IE hc ha hm hv hg hn hdb (a8 hs) (d5 hs2)
theorem Gh{e:Expr}{es:List Expr}{pos p:Pos}{x:Str}{T:String}{r:du}{t:DA}(hc:aU X (.type T) (eP r))(ha:PA X (e::es) (LA t))(hm:X.mg x=none)(hv:bootBuiltins x=some (.type T))(hn:x≠"__name__")(hdb:(x==("__debug__":Str))=false)(hg:Gl X x:=by rfl)(hs:notStar e=true:=by rfl)(hs2:cF es=true:=by rfl):
 PE X (.Call (.Name x p) (e::es) [] pos) (LE (bD r t)):=Iv hc ha hm hv hg hn hdb (a8 hs) (d5 hs2)
theorem GD{e:Expr}{es:List Expr}{pos p:Pos}{x qual:Str}{st:Stmt}{ps:List Str}{f:Addr}{fd:FuncData}{k:Nat}{S:cu}{t:DA}(A:a_ X.K X.mg x qual st ps f fd)(F:aK X.prog X.w X.K X.mg X.base b_ k f fd ps (cK S))(hr:bw k X.A)
 (ha:PA X (e::es) (LA t)) (hdb:(x==("__debug__":Str))=false) (hg:Gl X x:=by rfl) (hs:notStar e=true:=by rfl) (hs2:cF es=true:=by rfl):
 PE X (.Call (.Name x p) (e::es) [] pos) (LE (aC S t)):=IH A F hr ha hg hdb (a8 hs) (d5 hs2)
theorem Hn{a b:Expr}{ta tb:DE}{pos:Pos}(ha:PE X a (LE ta))(hb:PE X b (LE tb))(hs:j5 b=true:=by rfl):PE X (.Subscript a b pos) (LE (az fC ta tb)):=Ij ha hb (Ax hs)
theorem CL{e:Expr}{te:DE}(he:PE X e (LE te))(h:mL e=true:=by rfl):PT X e (LT (bL te)):=FT he (yc h)
theorem AE{e:Expr}{te:DE}{pos:Pos}(he:PE X e (LE te))(h:g_ e=true:=by rfl):PS X (.Expr e pos) (LS (nM te)):=C4 he (rn h)
theorem CF{i:Nat}{x:Str}{e:Expr}{te:TE}{pos pos':Pos}(hN:X.N.Nodup)(hi:X.N[i]?=some x)(hx:Loc X.env.scope x)(he:PE X e te)(hf:X.fn x=true\/X.env.scope.names.lookup x=some .local:=by first|exact .inl rfl|exact .inr rfl)(h:g_ e=true:=by rfl):
 PS X (.Assign [.Name x pos'] e pos) (jS te (eR i)):=pZ hN hi hx he (rn h) hf
theorem DN{i:Nat}{x:Str}{pos:Pos}(hd:(x==("__debug__":Str))=false)(hcd:(x==("__classdict__":Str))=false)(hv:pF X.env.scope x)(hN:X.N[i]?=some x:=by rfl):PE X (.Name x pos) (LE (ah i)):=G7 (qo hN hv hd hcd)
theorem FP{o i e:Expr}{to ti te:TE}{pos pos':Pos}(he:PE X e te)(ho:PE X o to)(hi:PE X i ti)(h1:g_ e=true:=by rfl)(h2:j5 i=true:=by rfl):PS X (.Assign [.Subscript o i pos'] e pos) (jS te (wR to ti tG)):=
 vb he (FE ho hi set_list (by intro v;cases i<;>first|rfl|cases h2)) (by unfold swapsWithSole;exact rn h1) (by cases e<;>rfl) rfl
end
@[irreducible] def JE(X:Cx)(e:Expr)(t:DE):Prop:=PE X e (LE t)
@[irreducible] def JT(X:Cx)(e:Expr)(t:DT):Prop:=PT X e (LT t)
@[irreducible] def JW(X:Cx)(e:Expr)(t:DT):Prop:=PW X e (LT t)
@[irreducible] def JA(X:Cx)(es:List Expr)(t:DA):Prop:=PA X es (LA t)
@[irreducible] def JS(X:Cx)(s:Stmt)(t:DS):Prop:=PS X s (LS t)
@[irreducible] def JB(X:Cx)(s:List Stmt)(t:DS):Prop:=cM X s (LS t)
@[irreducible] def JG(X:Cx)(e:Expr)(t:dg):Prop:=PG X e (LG t)
@[irreducible] def JI(X:Cx)(tg e:Expr)(t:DI):Prop:=PI X tg e (LI t)
@[irreducible] def JC(X:Cx)(es:List Expr)(t:DT):Prop:=pH X es (LT t)
section
variable {X:Cx}{a b c e o i:Expr}{es:List Expr}{ta tb tc te to ti:DE}{t u:DT}{ar:DA}{pos p pos':Pos}{s:Stmt}{ss:List Stmt}{T U:DS}
theorem zI{n:Nat}{x:Str}(hd:(x==("__debug__":Str))=false)(hcd:(x==("__classdict__":Str))=false)(hv:pF X.env.scope x)(hN:X.N[n]?=some x:=by rfl):JE X (.Name x pos) (ah n):=by unfold JE;exact DN hd hcd hv hN
theorem yd{x:Str}{T:String}(hm:X.mg x=none)(hv:bootBuiltins x=some (.type T))(hn:x≠"__name__")(hdb:(x==("__debug__":Str))=false)(hg:Gl X x):JE X (.Name x pos) (dC (.ty T)):=by unfold JE;exact Iq hm hv hg hn hdb
theorem au{k:Int}{j:Nat}:JE X (.Constant (.int k) j pos) (dC (.int k)):=by unfold JE;exact GJ
theorem kA{k:Bool}{j:Nat}:JE X (.Constant (.bool k) j pos) (dC (.bl k)):=by unfold JE;exact Ip
theorem Hv{k:Str}{j:Nat}:JE X (.Constant (.str k) j pos) (dC (.str k)):=by unfold JE;exact F1
theorem Ge{j:Nat}:JE X (.Constant .none j pos) (dC .ay):=by unfold JE;exact Gp
theorem a6{op:Operator}{r:cG}(ho:bq X (binaryOp op) (LR r))(ha:JE X a ta)(hb:JE X b tb):JE X (.BinOp a op b pos) (az r ta tb):=by unfold JE at*;exact H_ ho ha hb
theorem j6(ha:JE X a ta):JE X (.UnaryOp .USub a pos) (nD ip ta):=by unfold JE at*;exact IL Gk ha
theorem FZ(ha:JE X a ta):JE X (.UnaryOp .Not a pos) (xm (bL ta)):=by unfold JE at*;exact GI ha
theorem qd{op:BoolOp}(ha:JE X a ta):JE X (.BoolOp op [a] pos) ta:=by unfold JE at*;exact GY ha
theorem tF(ha:JE X a ta)(hb:JE X (.BoolOp .And (b::es) pos) tb):JE X (.BoolOp .And (a::b::es) pos) (og ta tb):=by unfold JE at*;exact Gi ha hb
theorem II(ha:JE X a ta)(hb:JE X (.BoolOp .Or (b::es) pos) tb):JE X (.BoolOp .Or (a::b::es) pos) (AF ta tb):=by unfold JE at*;exact Ih ha hb
theorem pP{op:CmpOp}{r:cG}(ho:bq X (compareOp op) (LR r))(hm:behindInMarks op b=false)(ha:JE X a ta)(hb:JE X b tb):JE X (.Compare a [op] [b] pos) (az r ta tb):=by unfold JE at*;exact Hx ho ha hb hm
theorem Hj(hc:JT X c t)(ha:JE X a ta)(hb:JE X b tb):JE X (.IfExp c a b pos) (EG t ta tb):=by unfold JE at*;unfold JT at hc;exact Hc hc ha hb
theorem lN{n:Nat}(h:JA X es ar):JE X (.Tuple es n pos) (lH ar):=by unfold JE;unfold JA at h;exact Gg h
theorem jn(h:JA X es ar):JE X (.List es pos) (fY ar):=by unfold JE;unfold JA at h;exact GF h
theorem sY(h:JA X es ar):JE X (.List es pos) (oV ar):=by unfold JE;unfold JA at h;exact F7 h
theorem ak:JA X [] ao:=by unfold JA;exact yA
theorem ae(ha:JE X e te)(hr:JA X es ar)(hs:notStar e=true:=by rfl):JA X (e::es) (ag te ar):=by unfold JA at*;unfold JE at ha;exact Az ha hr hs
theorem f_(ha:JE X a ta)(hb:JE X b tb)(hs:j5 b=true:=by rfl):JE X (.Subscript a b pos) (az fC ta tb):=by unfold JE at*;exact Hn ha hb hs
theorem d_{x:Str}{id:String}{r:du}(hc:aU X (.builtin id) (eP r))(ha:JA X (e::es) ar)(hm:X.mg x=none)(hv:bootBuiltins x=some (.builtin id))(hn:x≠"__name__")(hdb:(x==("__debug__":Str))=false)(hg:Gl X x)(hs:notStar e=true:=by rfl)(hs2:cF es=true:=by rfl):JE X (.Call (.Name x p) (e::es) [] pos) (bD r ar):=by
 unfold JE;unfold JA at ha;exact F5 hc ha hm hv hn hdb hg hs hs2
theorem d6{x:Str}{T:String}{r:du}(hc:aU X (.type T) (eP r))(ha:JA X (e::es) ar)(hm:X.mg x=none)(hv:bootBuiltins x=some (.type T))(hn:x≠"__name__")(hdb:(x==("__debug__":Str))=false)(hg:Gl X x)(hs:notStar e=true:=by rfl)(hs2:cF es=true:=by rfl):JE X (.Call (.Name x p) (e::es) [] pos) (bD r ar):=by
 unfold JE;unfold JA at ha;exact Gh hc ha hm hv hn hdb hg hs hs2
theorem ba{x qual:Str}{st:Stmt}{ps:List Str}{f:Addr}{fd:FuncData}{k:Nat}{S:cu}(A:a_ X.K X.mg x qual st ps f fd)(F:aK X.prog X.w X.K X.mg X.base b_ k f fd ps (cK S))(hr:bw k X.A)(ha:JA X (e::es) ar)(hdb:(x==("__debug__":Str))=false)(hg:Gl X x)(hs:notStar e=true:=by rfl)(hs2:cF es=true:=by rfl):
 JE X (.Call (.Name x p) (e::es) [] pos) (aC S ar):=by unfold JE;unfold JA at ha;exact GD A F hr ha hdb hg hs hs2
theorem Ae{apos cpos:Pos}(ho:JE X o to)(he:JE X e te)(hbase:attributeBase o "append" X.env (eval o X.env)=eval o X.env:=by rfl)(hline:(apos.endLine==cpos.line)=true:=by rfl)(hs:notStar e=true:=by rfl):JE X (.Call (.Attribute o "append" apos) [e] [] cpos) (kK to te):=by
 unfold JE at*;refine AQ ho he hbase ?_ hline (a8 hs) rfl;rw[a8 hs];rfl
theorem dZ{op:CmpOp}{r:cG}(ho:bq X (compareOp op) (LR r))(hm:behindInMarks op b=false)(ha:JE X a ta)(hb:JE X b tb):JT X (.Compare a [op] [b] pos) (bL (az r ta tb)):=by unfold JE at*;unfold JT;exact FL ho ha hb hm
theorem i4(ha:JT X a t):JT X (.UnaryOp .Not a pos) (iR t):=by unfold JT at*;exact Fc ha
theorem iW(he:JE X e te)(h:mL e=true:=by rfl):JT X e (bL te):=by unfold JT;unfold JE at he;exact CL he h
theorem we(ha:JT X a t):JW X (.BoolOp .And [a] pos) t:=by unfold JW;unfold JT at ha;exact Cu ha
theorem uF(ha:JT X a t):JW X (.BoolOp .Or [a] pos) t:=by unfold JW;unfold JT at ha;exact E6 ha
theorem yL(ha:JT X a t)(hb:JW X (.BoolOp .And (b::es) pos) u):JW X (.BoolOp .And (a::b::es) pos) (pD t u):=by unfold JW at*;unfold JT at ha;exact D9 ha hb
theorem wH(ha:JT X a t)(hb:JW X (.BoolOp .Or (b::es) pos) u):JW X (.BoolOp .Or (a::b::es) pos) (rj t u):=by unfold JW at*;unfold JT at ha;exact Gy ha hb
theorem qj(h:JW X e t):JT X e t:=by unfold JT;unfold JW at h;exact PW.pt h
theorem fk{l tg:Expr}(hl:JE X l ta):JI X tg l (dJ ta):=by unfold JI;unfold JE at hl;exact D5 hl
theorem gp{tg:Expr}(hg:Gl X "range")(hm:X.mg "range"=none)(ha:JA X [a] ar)(hs:notStar a=true:=by rfl):JI X tg (.Call (.Name "range" p) [a] [] pos) (eF ar):=by unfold JI;unfold JA at ha;exact yy (yD hg hm ha (a8 hs))
theorem AB{tg:Expr}(hg:Gl X "range")(hm:X.mg "range"=none)(ha:JA X [a,b] ar)(hs:notStar a=true:=by rfl)(hs2:notStar b=true:=by rfl):JI X tg (.Call (.Name "range" p) [a,b] [] pos) (nK ar):=by unfold JI;unfold JA at ha;exact ze (ym hg hm ha (by rw[a8 hs,a8 hs2];rfl) (a8 hs2))
theorem dO{k:Nat}{x:Str}(hN:X.N.Nodup)(hx:Loc X.env.scope x)(hf:X.fn x=true\/X.env.scope.names.lookup x=some .local)(hi:X.N[k]?=some x:=by rfl):JG X (.Name x pos) (bC k):=by unfold JG;exact CV (ik hN hi hx hf)
theorem nR{k j n:Nat}{x y:Str}{px py:Pos}(hc:X.calm=true)(hN:X.N.Nodup)(hx:Loc X.env.scope x)(hf:X.fn x=true\/X.env.scope.names.lookup x=some .local)(hy:Loc X.env.scope y)(hg:X.fn y=true\/X.env.scope.names.lookup y=some .local)(hi:X.N[k]?=some x:=by rfl)(hj:X.N[j]?=some y:=by rfl):
 JG X (.Tuple [.Name x px,.Name y py] n pos) (gN k j):=by unfold JG;exact Ey (zL hc (jW (ik hN hi hx hf) (jW (ik hN hj hy hg) vF)))
theorem bO:JC X [] bK:=by unfold JC;exact zZ
theorem dU{scope:Scope}{Nc:List Str}{elt tg iter:Expr}{ifs:List Expr}{src:DI}{fr:List (Option Nat)}{dtg:dg}(S:a9 X scope Nc fr)(hi:JI X tg iter src)(hg:∀C s H ex,JG (dH X scope Nc C s H ex) tg dtg)(ht:∀C s H ex,JC (dH X scope Nc C s H ex) ifs t)(he:∀C s H ex,JE (dH X scope Nc C s H ex) elt te)(fit:pE fr dtg)
 (hx:X.xe=fun _ _=>False:=by rfl) (hc:X.calm=true:=by rfl) (hs:∀x,foldedSetIterable iter X.env x=pure x:=by intro _;rfl):JE X (.ListComp elt [⟨tg,iter,ifs,0⟩] scope pos) (cA src fr dtg t te):=by
 unfold JE JI JG JC at*;exact E7 S hi hg ht he fit hx hc hs
theorem qV{scope:Scope}{Nc:List Str}{elt tg iter:Expr}{ifs:List Expr}{src:DI}{fr:List (Option Nat)}{dtg:dg}(S:a9 X scope Nc fr)(hi:JI X tg iter src)(hg:∀C s H ex,JG (dH X scope Nc C s H ex) tg dtg)(ht:∀C s H ex,JC (dH X scope Nc C s H ex) ifs t)(he:∀C s H ex,JE (dH X scope Nc C s H ex) elt te)(fit:pE fr dtg)
 (hx:X.xe=fun _ _=>False:=by rfl) (hc:X.calm=true:=by rfl) (hs:∀x,foldedSetIterable iter X.env x=pure x:=by intro _;rfl):JE X (.ListComp elt [⟨tg,iter,ifs,0⟩] scope pos) (m4 src fr dtg t te):=by
 unfold JE JI JG JC at*;exact Dj S hi hg ht he fit hx hc hs
theorem dF:JB X [] dm:=by unfold JB;exact wk
theorem aE(h:JS X s T):JB X [s] T:=by unfold JB;unfold JS at h;exact C6 h
theorem aA(h:JS X s T)(h2:JB X ss U):JB X (s::ss) (aH T U):=by unfold JB at*;unfold JS at h;exact Bf h h2
theorem aS(h:JE X e te):JS X (.Return (some e) pos) (bp te):=by unfold JS;unfold JE at h;exact Fu h
theorem qP(h:JE X e te)(hc:g_ e=true:=by rfl):JS X (.Expr e pos) (nM te):=by unfold JS;unfold JE at h;exact AE h hc
theorem e7{x y:List Stmt}(hc:JT X c t)(ha:JB X x T)(hb:JB X y U):JS X (.If c x y pos) (fj t T U):=by unfold JS;unfold JB at*;unfold JT at hc;exact Gd hc ha hb
theorem jP{tg iter:Expr}{x:List Stmt}{src:DI}{dtg:dg}(hi:JI X tg iter src)(hg:JG X tg dtg)(hb:JB X x T)(hx:X.xe=fun _ _=>False:=by rfl)(hc:X.calm=true:=by rfl)(hs:∀x,foldedSetIterable iter X.env x=pure x:=by intro _;rfl):JS X (.For tg iter x [] pos) (jY src dtg T):=by
 unfold JS;unfold JI at hi;unfold JG at hg;unfold JB at hb;exact Ei (uR (by rw[hx];exact PassesOwn.never) hc hi hg hb hs)
theorem bh{k:Nat}{x:Str}(hN:X.N.Nodup)(hx:Loc X.env.scope x)(he:JE X e te)(hf:X.fn x=true\/X.env.scope.names.lookup x=some .local:=by first|exact .inl rfl|exact .inr rfl)(h:g_ e=true:=by rfl)(hi:X.N[k]?=some x:=by rfl):JS X (.Assign [.Name x pos'] e pos) (bf k te):=by
 unfold JS;unfold JE at he;exact Ft (CF hN hi hx he hf h)
theorem n_{scope:Scope}{Nc:List Str}{elt tg iter:Expr}{ifs:List Expr}{src:DI}{fr:List (Option Nat)}{dtg:dg}{k:Nat}{x:Str}(hN:X.N.Nodup)(hl:Loc X.env.scope x)(S:a9 X scope Nc fr)(hi:JI X tg iter src)(hg:∀C s H ex,JG (dH X scope Nc C s H ex) tg dtg)(ht:∀C s H ex,JC (dH X scope Nc C s H ex) ifs t)(he:∀C s H ex,JE (dH X scope Nc C s H ex) elt te)(fit:pE fr dtg)
 (hf:X.fn x=true\/X.env.scope.names.lookup x=some .local:=by first|exact .inl rfl|exact .inr rfl) (hsw:swapsWith (.ListComp elt [⟨tg,iter,ifs,0⟩] scope p) (some (.Name x pos')) pos.line X.env=pure true:=by rfl) (hni:X.N[k]?=some x:=by rfl) (hx:X.xe=fun _ _=>False:=by rfl) (hc:X.calm=true:=by rfl) (hs:∀x,foldedSetIterable iter X.env x=pure x:=by intro _;rfl):
 JS X (.Assign [.Name x pos'] (.ListComp elt [⟨tg,iter,ifs,0⟩] scope p) pos) (bf k (cA src fr dtg t te)):=by
 unfold JS;unfold JE JI JG JC at*;exact Dt fit (Dd hx hc S hi hg ht he hN hni hl hf hsw hs)
theorem AD(he:JE X e te)(ho:JE X o to)(hi:JE X i ti)(h1:g_ e=true:=by rfl)(h2:j5 i=true:=by rfl):JS X (.Assign [.Subscript o i pos'] e pos) (pN to ti te):=by unfold JS;unfold JE at*;exact Aq (FP he ho hi h1 h2)
end
theorem bY{P:Program}{w:World}{K:PySem.W.Frag}{mg:Str->Option Value}{base:Heap}{x qual:Str}{st:Stmt}{f:Addr}{fd:FuncData}{N ps:List Str}{k:Nat}{sp:cu}{t:DS}(F:i_ K x qual st f fd)(S:aG N ps (ai st))
 (hbody:∀(cdv:Value) (A:Around) (outer:List Env) (s:Shared) (H:Hp) (E:XK),bw k (A.deeper (envOfC qual (ai st) s.heap.objs.size f cdv))->JB (bx b_ P w K mg base N qual (ai st) f cdv A outer s H E).cx (eN st) t)
 (hsp:∀ds st K,sp ds st K->ds.length=ps.length/\t {nx:=fun _ st'=>K .ay st',rt:=K} (aJ N ds) st):aK P w K mg base b_ (k+1) f fd ps (cK sp):=by
 unfold JB at hbody;exact Gz F S hbody hsp
end L3
namespace HT
open PySem PyProof.Rows
section
variable {prog:Program}{w:World}{A:Around}{E:Value->Shared->Prop}{s:Shared}
theorem mw{t sl:Addr}{items:Array Value}{vl vu:Value}{lo hi:Option Int}{Q:Value->Shared->Prop}(ht:IsTup s.heap t items)(hs:s.heap.IsSliceOf sl vl vu .none)(pl:IsPart vl lo)(pu:IsPart vu hi)
 (hw:aZ items.size 0 lo=0/\aZ items.size items.size hi=items.size) (h:Q (.ref t) s):wpAny (model prog w) A (getItem (.ref t) (.ref sl)) Q E s:=by
 obtain⟨os,hos,hcs,hds⟩:=id hs;have hTs:s.TypeIs (.ref sl) "slice":=⟨os,hos,hcs⟩
 unfold getItem;try with_reducible refine wpAny_holding ?_
 first|refine wpAny_bind (wpAny_pure ?_)|skip
 refine wpAny_bind (wpAny_sequenceKey ht.typeIs (by decide) ?_)
 refine wpAny_bind (wpAny_callSpecial?_slot (name:=Str.ofString "__getitem__") ht.typeIs PyProof.Rows.slot_tuple_getitem
  (wpAny_call_entry PyProof.Rows.slot_tuple_getitem ht.typeIs entry_tuple_getitem ?_ (args_tuple_getitem _ _)))
 show wpAny _ _ (Builtin.Tuple.tupleItemsOf (.ref t) >>= _) _ _ s;refine wpAny_bind (tupleItemsOf_ ht ?_);refine wpAny_bind (wpAny_typeOf hTs ?_);rw[if_pos (by decide)];refine wpAny_bind (jM hs pl pu ?_)
 have hyes:(((aZ items.size 0 lo:Nat):Int)==0&&(1:Int)==1&&(aZ items.size items.size hi-aZ items.size 0 lo)==items.size)=true:=by
  rw[hw.1,hw.2];simp
 show wpAny _ _ (if(((aZ items.size 0 lo:Nat):Int)==0&&(1:Int)==1&&(aZ items.size items.size hi-aZ items.size 0 lo)==items.size)=true then _ else _) _ _ s;rw[if_pos hyes];refine wpAny_bind ?_;unfold Builtin.Tuple.tupleIsExact;exact wpAny_bind (wpAny_typeOf ht.typeIs (wpAny_pure (wpAny_bind (wpAny_rule (wpAny_pure ⟨_,rfl,wpAny_pure h⟩)))))
end
end HT
namespace L3
open PySem L2
open PySem.Spec hiding items?
open PyProof.Rows hiding St
abbrev DO:=aR->aa->(Option Int->aa->Prop)->Prop
def cY:DO:=fun _ st K=>K none st
def eC(t:DE):DO:=fun σ st K=>t σ st fun d st1=>match d with| .int i=>K (some i) st1|_=>False
def cutD(xs:List D)(lo hi:Option Int):List D:=(xs.drop (HT.aZ xs.length 0 lo)).take (HT.aZ xs.length xs.length hi-HT.aZ xs.length 0 lo)
def yp(d:D)(lo hi:Option Int)(st:aa)(K:DK):Prop:=match d with
 | .lst xs=>K (.lst (cutD xs lo hi)) st
 | .tup xs=>K (.tup (cutD xs lo hi)) st
 | .ref n=>(match st[n]? with|some (.lst xs)=>K (.lst (cutD xs lo hi)) st|_=>False)
 |_=>False
@[irreducible] def jH:D->Option Int->Option Int->aa->DK->Prop:=yp
def dD(t:DE)(lo hi:DO):DE:=fun σ st K=>t σ st fun d st1=>lo σ st1 fun l st2=>hi σ st2 fun u st3=>jH d l u st3 K
theorem oP{α:List (Option Addr)}{G:Hp}{xs:List D}{vs:List V}{lo hi:Option Int}(r:ax α G xs vs):ax α G (cutD xs lo hi) (lj vs lo hi):=by
 unfold cutD lj;rw[<-r.length];exact aO.mpr (oA _ (oH _ (aO.mp r)))
def Jh(α:List (Option Addr))(G F:Hp)(K:Option Int->aa->Prop)(Q:Option Int->Hp->Prop):Prop:=∀o st',K o st'->∀α' G' H',Step α G α' G'->a7 G' F H'->aB α' st' G'->Q o H'
inductive HF(t:DO)(σ:L2.St)(H:Hp)(Q:Option Int->Hp->Prop):Prop
 |mk (α:List (Option Addr)) (σd:aR) (st:aa) (K:Option Int->aa->Prop) (G F:Hp) (P:a7 G F H) (R:bS α G σd σ) (S:aB α st G) (h:t σd st K) (k:Jh α G F K Q):HF t σ H Q
def LO(t:DO):TO:=HF t
section
variable {X:Cx}
theorem PO.imp{e:Option Expr}{t t':TO}(h:PO X e t)(f:∀σ H Q,t' σ H Q->t σ H Q):PO X e t':=fun pins s σ H Q I q=>h pins s σ H Q I (f σ H Q q)
theorem Dn:PO X none (LO cY):=PO.imp Di fun σ H Q ⟨α,σd,st,K,G,F,P,R,S,t,k⟩=>k none st t α G H Step.refl P S
theorem DR{e:Expr}{te:DE}(h:PE X e (LE te)):PO X (some e) (LO (eC te)):=PO.imp (CQ h) fun σ H Q ⟨α,σd,st,K,G,F,P,R,S,t,k⟩=>by
 refine⟨α,σd,st,_,G,F,P,R,S,t,fun d st1 q α1 G1 H1 v s1 P1 S1 r1=>?_⟩;cases d<;>try exact q.elim
 unfold Rep at r1;exact⟨_,r1,k _ st1 q α1 G1 H1 s1 P1 S1⟩
def Jb(x:V)(lo hi:Option Int)(H:Hp)(Q:VK):Prop:=∃α d st K G F,a7 G F H/\Rep α G d x/\aB α st G/\jH d lo hi st K/\LK α G F K Q
theorem CY:zd X (fun x lo hi H Q=>∃a xs,x= .ref a/\H a=some (.tup xs)/\((HT.aZ xs.length 0 lo=0/\HT.aZ xs.length xs.length hi=xs.length)->Q (.ref a) H)/\(¬(HT.aZ xs.length 0 lo=0/\HT.aZ xs.length xs.length hi=xs.length)->∀p,H p=none->Q (.ref p) (upd H p (.tup (lj xs lo hi))))):=by
 intro pins s σ H x v vl vu lo hi sl Q I rx hs pl pu h;obtain⟨a,xs,rfl,hx,q1,q2⟩:=h;by_cases hw:HT.aZ xs.length 0 lo=0/\HT.aZ xs.length xs.length hi=xs.length
 . cases rx;obtain⟨aj,r,ht,hz⟩:=I.tuple (fm.of hx);have hlen:aj.toArray.size=xs.length:=by rw[List.size_toArray];exact r.length.symm
   exact⟨"tuple",_,PyProof.Rows.slot_tuple_getitem.lookup,ht.typeIs,HT.mw ht hs pl pu (by rw[hlen];exact hw) ⟨.ref a,H,I,rfl,q1 hw⟩⟩
 . exact Fq pins s σ H _ v vl vu lo hi sl Q I rx hs pl pu ⟨a,xs,rfl,.of hx,hw,q2 hw⟩
theorem zj{xs:List D}{lo hi:Option Int}(hw:HT.aZ xs.length 0 lo=0/\HT.aZ xs.length xs.length hi=xs.length):cutD xs lo hi=xs:=by
 unfold cutD;rw[hw.1,hw.2];simp
theorem Fv:zd X Jb:=by
 intro pins s σ H x v vl vu lo hi sl Q I rx hs pl pu ⟨α,d,st,K,G,F',P,r1,S,q,k⟩;unfold jH yp at q;cases d<;>try exact q.elim
 . rename_i n;simp only at q;split at q
   . rename_i xs e;obtain⟨a,ea,vs,h1,h2⟩:=S.fQ e;have r1':=cJ ea r1;subst r1';exact wC pins s σ H _ v vl vu lo hi sl Q I rx hs pl pu ⟨a,vs,rfl,.inl (.of (P.get h1)),fun p hp=>k.lst P q S (oP h2) hp⟩
   . exact q.elim
 . unfold Rep at r1;obtain⟨a,vs,rfl,na,ha,ra⟩:=r1;exact wC pins s σ H _ v vl vu lo hi sl Q I rx hs pl pu ⟨a,vs,rfl,.inl (eU P ha),fun p hp=>k.lst P q S (oP ra) hp⟩
 . rename_i xs;have r0:=r1;unfold Rep at r1;obtain⟨a,vs,rfl,na,ha,ra⟩:=r1;refine CY pins s σ H _ v vl vu lo hi sl Q I rx hs pl pu ⟨a,vs,rfl,P.get ha,fun hw=>?_,fun _ p hp=>k.tup P q S (oP ra) hp⟩;rw[<-ra.length]at hw;simp only at q;rw[zj hw]at q;exact k.here P q S r0
theorem CC{e:Expr}{lo hi:Option Expr}{te:DE}{tl th:DO}{p2 pos:Pos}(he:PE X e (LE te))(hl:PO X lo (LO tl))(hh:PO X hi (LO th)):PE X (.Subscript e (.Slice lo hi none p2) pos) (LE (dD te tl th)):=PE.imp (As Fv he hl hh) fun σ H Q ⟨α,σd,st,K,G,F,P,R,S,t,k⟩=>by
 refine⟨α,σd,st,_,G,F,P,R,S,t,fun d st1 q α1 G1 H1 v s1 P1 S1 r1=>?_⟩;refine⟨α1,σd,st1,_,G1,F,P1,R.step s1,S1,q,fun l st2 q2 α2 G2 H2 s2 P2 S2=>?_⟩;refine⟨α2,σd,st2,_,G2,F,P2,(R.step s1).step s2,S2,q2,fun u st3 q3 α3 G3 H3 s3 P3 S3=>?_⟩;exact⟨α3,d,st3,K,G3,F,P3,(r1.step s2).step s3,S3,q3,((k.at s1).at s2).at s3⟩
@[irreducible] def JO(X:Cx)(e:Option Expr)(t:DO):Prop:=PO X e (LO t)
theorem jF:JO X none cY:=by unfold JO;exact Dn
theorem gv{e:Expr}{te:DE}(h:JE X e te):JO X (some e) (eC te):=by unfold JO;unfold JE at h;exact DR h
theorem iG{e:Expr}{lo hi:Option Expr}{te:DE}{tl th:DO}{p2 pos:Pos}(he:JE X e te)(hl:JO X lo tl)(hh:JO X hi th):JE X (.Subscript e (.Slice lo hi none p2) pos) (dD te tl th):=by unfold JE at*;unfold JO at*;exact CC he hl hh
end
theorem nq{st:aa}{K:DK}{xs:List D}{lo hi:Option Int}(k:K (.lst (cutD xs lo hi)) st):jH (.lst xs) lo hi st K:=by unfold jH;exact k
theorem ky{st:aa}{K:DK}{xs:List D}{lo hi:Option Int}(k:K (.tup (cutD xs lo hi)) st):jH (.tup xs) lo hi st K:=by unfold jH;exact k
section
variable {prog:Program}{w:World}{A:Around}{E:Value->Shared->Prop}{s:Shared}
theorem xv{iT tp:Addr}{n:Nat}{aj:Array Value}{v:Value}{Q:Value->Shared->Prop}(hI:s.heap.IsTupleIter iT tp n)(hT:s.heap.IsTuple tp aj)(hv:aj[n]?=some v)
 (q:∀g,g.IsTupleIter iT tp (n+1)->Heap.SameBut iT s.heap g->Q v {s with heap:=g}):wpAny (model prog w) A (Builtin.SmallTypes.nextOf (.ref iT)) Q E s:=by
 obtain⟨oI,eI,cI,dI⟩:=id hI;obtain⟨oT,eT,_,nT,dT⟩:=hT;unfold Builtin.SmallTypes.nextOf;refine wpAny_bind (wpAny_callSpecial?_slot (name:=Str.ofString "__next__") hI.typeIs F.slot_tuple_iterator_next (wpAny_call_entry F.slot_tuple_iterator_next hI.typeIs F.entry_tuple_iterator_next ?_ (F.args_tuple_iterator_next_1 _)));show wpAny _ _ (field (.ref iT) 0 >>= _) _ _ s;refine wpAny_bind (wpAny_field eI dI (x:= .ref tp) rfl ?_);show wpAny _ _ (if(Value.ref tp==Value.none)=true then _ else _) _ _ s;rw[if_neg (show¬((Value.ref tp==Value.none)=true)from Bool.false_ne_true)];show wpAny _ _ (field (.ref iT) 1 >>= _) _ _ s;refine wpAny_bind (wpAny_field eI dI (x:= .int n 0) rfl ?_);show wpAny _ _ (seqItems? (.ref tp) >>= _) _ _ s;refine wpAny_bind (wpAny_seqItems eT dT ?_);simp only[Int.toNat_natCast,hv];refine wpAny_bind (wpAny_setField eI dI (by simp) (wpAny_pure ⟨v,rfl,wpAny_pure (q _ ?_ (Heap.SameBut.update ..))⟩));refine⟨_,Heap.get?_update_self _ eI (Obj.isFreed_of_fields (Obj.data_mapFields dI _)),(Obj.cls_mapFields ..).trans cI,?_⟩;rw[Obj.data_mapFields dI];simp[rawInt]
theorem yk{iT tp:Addr}{n:Nat}{aj:Array Value}{Q:Value->Shared->Prop}(hh:A.handled=none)(hI:s.heap.IsTupleIter iT tp n)(hT:s.heap.IsTuple tp aj)(hv:aj[n]?=none)
 (q:∀g e,Heap.ExtBut iT s.heap g->(∃o,g.get? e=some o/\o.cls= .type "StopIteration")->E (.ref e) {s with heap:=g}):wpAny (model prog w) A (Builtin.SmallTypes.nextOf (.ref iT)) Q E s:=by
 obtain⟨oI,eI,cI,dI⟩:=id hI;obtain⟨oT,eT,_,nT,dT⟩:=hT;unfold Builtin.SmallTypes.nextOf;refine wpAny_bind (wpAny_callSpecial?_slot (name:=Str.ofString "__next__") hI.typeIs F.slot_tuple_iterator_next (wpAny_call_entry F.slot_tuple_iterator_next hI.typeIs F.entry_tuple_iterator_next ?_ (F.args_tuple_iterator_next_1 _)));show wpAny _ _ (field (.ref iT) 0 >>= _) _ _ s;refine wpAny_bind (wpAny_field eI dI (x:= .ref tp) rfl ?_);show wpAny _ _ (if(Value.ref tp==Value.none)=true then _ else _) _ _ s;rw[if_neg (show¬((Value.ref tp==Value.none)=true)from Bool.false_ne_true)];show wpAny _ _ (field (.ref iT) 1 >>= _) _ _ s;refine wpAny_bind (wpAny_field eI dI (x:= .int n 0) rfl ?_);show wpAny _ _ (seqItems? (.ref tp) >>= _) _ _ s;refine wpAny_bind (wpAny_seqItems eT dT ?_);simp only[Int.toNat_natCast,hv];refine wpAny_bind (wpAny_rule (wpAny_bind (wpAny_setField eI dI (by simp) ?_)));show wpAny _ _ (newExc (.type "StopIteration") [] >>= _) _ _ _;refine wpAny_bind ?_;simp only[newExc,newTuple];refine wpAny_bind (wpAny_newObj_type ?_ (by size_fits));refine wpAny_bind (m:=firstArgMember _ _) (wpAny_of_eq (a:=Value.none) (by first|rfl|(simp only[firstArgMember];rfl)) ?_);refine wpAny_newObj_type ?_ (by size_fits);simp only[raiseNew];refine wpAny_bind (wpAny_handled ?_);first|rw[show A.in1.handled=none from hh]|rw[hh]
 refine wpAny_bind (wpAny_pure (wpAny_throw ?_));exact q _ _ (((Heap.SameBut.update ..).extBut.push _).push _) ⟨_,Heap.get?_push_size _ rfl,rfl⟩
end
section
variable {st:aa}{K:DK}{i j:Int}{b c:Bool}{xs ys:List D}{d e:D}{n:Nat}
theorem eqT(h:i=j)(k:K (.bl true) st):gd (.int i) (.int j) st K:=uV (by rw[decide_eq_true h];exact k)
theorem FC(h:i≠j)(k:K (.bl false) st):gd (.int i) (.int j) st K:=uV (by rw[decide_eq_false h];exact k)
theorem eq2(h1:i=j->K (.bl true) st)(h2:i≠j->K (.bl false) st):gd (.int i) (.int j) st K:=by
 by_cases h:i=j
 . exact eqT h (h1 h)
 . exact FC h (h2 h)
theorem neT(h:i≠j)(k:K (.bl true) st):sH (.int i) (.int j) st K:=B4 (by rw[decide_eq_false h];exact k)
theorem Je(h:i=j)(k:K (.bl false) st):sH (.int i) (.int j) st K:=B4 (by rw[decide_eq_true h];exact k)
theorem ne2(h1:i≠j->K (.bl true) st)(h2:i=j->K (.bl false) st):sH (.int i) (.int j) st K:=by
 by_cases h:i=j
 . exact Je h (h2 h)
 . exact neT h (h1 h)
theorem IT(h:i<j)(k:K (.bl true) st):r_ (.int i) (.int j) st K:=Bv (by rw[decide_eq_true h];exact k)
theorem Jd(h:j<=i)(k:K (.bl false) st):r_ (.int i) (.int j) st K:=Bv (by rw[decide_eq_false (by omega)];exact k)
theorem I_(h1:i<j->K (.bl true) st)(h2:j<=i->K (.bl false) st):r_ (.int i) (.int j) st K:=by
 by_cases h:i<j
 . exact IT h (h1 h)
 . exact Jd (by omega) (h2 (by omega))
theorem Ji(h:j<=i)(k:K (.bl true) st):rO (.int i) (.int j) st K:=BA (by rw[decide_eq_true h];exact k)
theorem Jf(h:i<j)(k:K (.bl false) st):rO (.int i) (.int j) st K:=BA (by rw[decide_eq_false (by omega)];exact k)
theorem IX(h1:j<=i->K (.bl true) st)(h2:i<j->K (.bl false) st):rO (.int i) (.int j) st K:=by
 by_cases h:j<=i
 . exact Ji h (h1 h)
 . exact Jf (by omega) (h2 (by omega))
theorem BB{P:Prop}(h:xs.length<=1000)(k:P):xs.length<=sizeLine/\P:=⟨by rw[sizeLine_eq];omega,k⟩
theorem bG{m:Nat}(h:m<=1000):m<=sizeLine:=by rw[sizeLine_eq];omega
theorem rG(h0:0<=i)(e:xs[i.toNat]?=some d):dY xs i=some d:=by
 have:=kQ e;rw[Int.toNat_of_nonneg h0]at this;exact this
end
theorem gA{tg:dg}{body:DS}{ok:aa->Prop}{E:e9}(I:List D->aR->aa->Prop)(hend:∀σ st,I [] σ st->ok st/\E.nx σ st)
 (hstep:∀x xs σ st,I (x::xs) σ st->(∀σ' st',I xs σ' st'->fA tg body ok E xs σ' st')->ok st/\∃σ1,tg x σ=some σ1/\body {E with nx:=fA tg body ok E xs,ct:=fA tg body ok E xs,bk:=E.nx} σ1 st):
 ∀xs σ st,I xs σ st->fA tg body ok E xs σ st
 | [],σ,st,h=>by unfold fA;exact hend σ st h
 |x::xs,σ,st,h=>by unfold fA;exact hstep x xs σ st h fun σ' st' h'=>gA I hend hstep xs σ' st' h'
theorem h7{tg:dg}{c:DT}{te:DE}{ok:aa->Prop}{σc:aR}{K:List D->aa->Prop}(I:List D->List D->aa->Prop)(hend:∀acc st,I [] acc st->ok st/\K acc st)
 (hstep:∀x xs acc st,I (x::xs) acc st->(∀acc' st',I xs acc' st'->bU tg c te ok σc xs acc' st' K)->ok st/\∃σ2,tg x σc=some σ2/\c σ2 st fun b st1=>if b=true then te σ2 st1 fun y st2=>bU tg c te ok σc xs (acc++[y]) st2 K else bU tg c te ok σc xs acc st1 K):
 ∀xs acc st,I xs acc st->bU tg c te ok σc xs acc st K
 | [],acc,st,h=>by unfold bU;exact hend acc st h
 |x::xs,acc,st,h=>by unfold bU;exact hstep x xs acc st h fun acc' st' h'=>h7 I hend hstep xs acc' st' h'
theorem comp_map{tg:dg}{te:DE}{ok:aa->Prop}{σc:aR}{st:aa}{K:List D->aa->Prop}{g:D->D}(aw:ok st)(xs:List D)(hx:∀x∈xs,∀K',K' (g x) st->∃σ2,tg x σc=some σ2/\te σ2 st K')(k:K (xs.map g) st):bU tg bK te ok σc xs [] st K:=by
 refine h7 (fun r acc st'=>st'=st/\(∀x∈r,x∈xs)/\acc++r.map g=xs.map g) (fun acc st' h=>?_) (fun x r acc st' h next=>?_) xs [] st ⟨rfl,fun _ h=>h,rfl⟩
 . obtain⟨rfl,_,e⟩:=h;rw[List.map_nil,List.append_nil]at e;rw[e];exact⟨aw,k⟩
 . obtain⟨rfl,hm,e⟩:=h;obtain⟨σ2,e2,q⟩:=hx x (hm x List.mem_cons_self) (fun y st2=>bU tg bK te ok σc r (acc++[y]) st2 K) (next _ _ ⟨rfl,fun z hz=>hm z (List.mem_cons_of_mem _ hz),by rw[<-e];simp⟩);exact⟨aw,σ2,e2,q⟩
theorem vL{A B:DS}{E:e9}{σ:aR}{st:aa}(J:aR->aa->Prop)(h:∀nx,(∀σ' st',J σ' st'->nx σ' st')->A {E with nx:=nx} σ st)(k:∀σ' st',J σ' st'->B E σ' st'):aH A B E σ st:=h (B E) k
def D8(n:Nat)(K:DK)(y:D)(st2:aa):Prop:=∃y',[y]=[y']/\(match st2[n]? with|some (.lst xs)=>xs.length<sizeLine/\K .ay (st2.set n (.lst (xs++[y'])))|_=>False)
theorem rp{n:Nat}{K:DK}{y:D}{st:aa}{xs:List D}(e:st[n]?=some (.lst xs))(h:xs.length<sizeLine)(k:K .ay (st.set n (.lst (xs++[y])))):D8 n K y st:=by
 refine⟨y,rfl,?_⟩;simp only[e];exact⟨h,k⟩
@[irreducible] def iD(to te:DE):DE:=kK to te
theorem uf{σ:aR}{st:aa}{K:DK}{i n:Nat}{xs:List D}{te:DE}(ei:σ[i]?=some (some (.ref n)))(e:st[n]?=some (.lst xs))(h:te σ st (D8 n K)):iD (ah i) te σ st K:=by
 unfold iD kK ah;simp only[ei,e];exact h
theorem nu{X:Cx}{o e:Expr}{to te:DE}{apos cpos:Pos}(ho:JE X o to)(he:JE X e te)(hbase:attributeBase o "append" X.env (eval o X.env)=eval o X.env:=by rfl)(hline:(apos.endLine==cpos.line)=true:=by rfl)(hs:notStar e=true:=by rfl):JE X (.Call (.Attribute o "append" apos) [e] [] cpos) (iD to te):=by
 unfold iD;exact Ae ho he hbase hline hs
@[irreducible] def nW(i:Nat)(t:DS):DS:=fun D σ st=>match σ[i]? with
 |some (some (.ref n))=>(match st[n]? with|some (.lst xs)=>t D (σ.set i (some (.lst xs))) (st.set n .dead)|_=>False)
 |_=>False
section
variable {X:Cx}
theorem Ep{s:Stmt}{i:Nat}{t:DS}(h:PS X s (LS t)):PS X s (LS (nW i t)):=PS.imp h fun D σ H ⟨α,σd,st,DD,G,F,P,R,S,q,k⟩=>by
 unfold nW at q;split at q
 . rename_i n e;split at q
   . rename_i xs e2;have hn:n<st.length:=(List.getElem?_eq_some_iff.mp e2).1;obtain⟨v,ev,rv⟩:=R.at' i _ e;have R2:bS (α.set n none) G (σd.set i (some (.lst xs))) (σ.set i (some v)):=(R.step Step.dM).set i (S.CK e2 rv)
     have es:σ.set i (some v)=σ:=by
      refine List.ext_getElem? fun j=>?_;by_cases hj:i=j
      . subst hj;rw[List.getElem?_set_self (List.getElem?_eq_some_iff.mp ev).1,ev]
      . rw[List.getElem?_set_ne hj]
     rw[es]at R2;exact⟨α.set n none,_,_,DD,G,F,P,R2,S.dM hn,q,k.at Step.dM⟩
   . exact q.elim
 . exact q.elim
theorem Es{s:Stmt}{i:Nat}{t:DS}(h:JS X s t):JS X s (nW i t):=by unfold JS at*;exact Ep h
end
theorem Fb{σ:aR}{st:aa}{E:e9}{i n:Nat}{t:DS}{xs:List L3.D}(e:σ[i]?=some (some (.ref n)))(e2:st[n]?=some (.lst xs))(k:t E (σ.set i (some (.lst xs))) (st.set n .dead)):nW i t E σ st:=by
 unfold nW;simp only[e,e2];exact k
structure Src(P:Program)(w:World)(t a:Addr)(J:Nat->Heap->Prop)(us:Array Value):Prop where
 fr:∀n g k,J n g->(∀b,b=t\/b=a->∀o,g.get? b=some o->k.get? b=some o)->J n k
 lv:∀n g,J n g->(∃o,g.get? t=some o)/\∃o,g.get? a=some o
 nx:∀n (A:Around) (s:Shared) (Q:Value->Shared->Prop) (E:Value->Shared->Prop) v,J n s.heap->us[n]?=some v->(∀k,J (n+1) k->Heap.SameBut t s.heap k->Q v {s with heap:=k})->wpAny (model P w) A (Builtin.SmallTypes.nextOf (.ref t)) Q E s
 en:∀n (A:Around) (s:Shared) (Q:Value->Shared->Prop) (E:Value->Shared->Prop),A.handled=none->J n s.heap->us[n]?=none->(∀k e,Heap.ExtBut t s.heap k->(∃o,k.get? e=some o/\o.cls= .type "StopIteration")->E (.ref e) {s with heap:=k})->wpAny (model P w) A (Builtin.SmallTypes.nextOf (.ref t)) Q E s
section
variable {P:Program}{w:World}
theorem src_list(t a:Addr)(hne:a≠t)(us:Array Value):Src P w t a (fun n g=>g.IsListIter t a n/\g.IsList a us) us where
 fr:=fun n g k j kp=>⟨j.1.at fun o e=>kp t (.inl rfl) o e,j.2.at fun o e=>kp a (.inr rfl) o e⟩
 lv:=fun n g j=>⟨let⟨o,e,_⟩:=j.1;⟨o,e⟩,let⟨o,e,_⟩:=j.2;⟨o,e⟩⟩
 nx:=fun n A s Q E v j hv q=>wpAny_nextOf_list_item j.1 j.2 hv fun k jk sb=>q k ⟨jk,j.2.extBut sb.extBut hne⟩ sb
 en:=fun n A s Q E hh j hv q=>wpAny_nextOf_list_end hh j.1 j.2 hv q
theorem DC(t a:Addr)(hne:a≠t)(us:Array Value):Src P w t a (fun n g=>g.IsTupleIter t a n/\g.IsTuple a us) us where
 fr:=fun n g k j kp=>by
  obtain⟨⟨o,e,r⟩,⟨o2,e2,r2⟩⟩:=j;exact⟨⟨o,kp t (.inl rfl) o e,r⟩,⟨o2,kp a (.inr rfl) o2 e2,r2⟩⟩
 lv:=fun n g j=>⟨let⟨o,e,_⟩:=j.1;⟨o,e⟩,let⟨o,e,_⟩:=j.2;⟨o,e⟩⟩
 nx:=fun n A s Q E v j hv q=>xv j.1 j.2 hv fun k jk sb=>q k ⟨jk,j.2.extBut sb.extBut hne⟩ sb
 en:=fun n A s Q E hh j hv q=>yk hh j.1 j.2 hv q
theorem Src.ext{t a c:Addr}{J:Nat->Heap->Prop}{us:Array Value}(S:Src P w t a J us){n:Nat}{g k:Heap}(j:J n g)(x:Heap.ExtBut c g k)(h1:c≠t)(h2:c≠a):J n k:=
 S.fr n g k j fun b hb o e=>x b o (by rcases hb with rfl|rfl;exact Ne.symm h1;exact Ne.symm h2) e
structure vO(z ti to t1 t2 a1 a2:Addr):Prop where
 nd: [z,ti,to,t1,t2].Nodup
 a1:a1∉[z,ti,to,t1,t2]
 a2:a2∉[z,ti,to,t1,t2]
section
variable {z ti to t1 t2 a1 a2:Addr}
theorem vO.n(D:vO z ti to t1 t2 a1 a2):(ti≠z/\to≠z/\t1≠z/\t2≠z)/\(ti≠to/\ti≠t1/\ti≠t2)/\(to≠t1/\to≠t2)/\t1≠t2:=by
 have:=D.nd;simp only[List.nodup_cons,List.mem_cons,not_or,List.not_mem_nil,not_false_eq_true,and_true,List.nodup_nil]at this;obtain⟨⟨b1,b2,b3,b4⟩,⟨b5,b6,b7⟩,⟨b8,b9⟩,b10⟩:=this;exact⟨⟨Ne.symm b1,Ne.symm b2,Ne.symm b3,Ne.symm b4⟩,⟨b5,b6,b7⟩,⟨b8,b9⟩,b10⟩
theorem yl{A:Around}{s:Shared}{E:Value->Shared->Prop}{J1 J2:Nat->Heap->Prop}{us vs:Array Value}{n:Nat}{x y a b:Value}{Q:Value->Shared->Prop}(D:vO z ti to t1 t2 a1 a2)(S1:Src P w t1 a1 J1 us)(S2:Src P w t2 a2 J2 vs)
 (Z:IsZip s.heap z ti to .none) (pI:IsPair s.heap ti (.ref t1) (.ref t2)) (pO:IsPair s.heap to a b) (j1:J1 n s.heap) (j2:J2 n s.heap) (ex:us[n]?=some x) (ey:vs[n]?=some y)
 (q:∀k,IsZip k z ti to (rawInt s.heap.objs.size)->IsPair k to x y->J1 (n+1) k->J2 (n+1) k->IsPair k s.heap.objs.size x y->k.objs.size=s.heap.objs.size+1->
   (∀c o,c≠z->c≠to->c≠t1->c≠t2->s.heap.get? c=some o->k.get? c=some o)->Q (.ref s.heap.objs.size) {s with heap:=k}):
 wpAny (model P w) A (Builtin.«zip.__next__» ⟨[.ref z],[]⟩) (fun fin s'=>∃v,fin= .done (.ret v)/\Q v s') E s:=by
 obtain⟨⟨n1,n2,n3,n4⟩,⟨n5,n6,n7⟩,⟨n8,n9⟩,n10⟩:=D.n;have m1:=D.a1;have m2:=D.a2;simp only[List.mem_cons,not_or,List.not_mem_nil,not_false_eq_true,and_true]at m1 m2;show wpAny _ _ (field (.ref z) 2 >>= _) _ _ _;refine wpAny_bind (wpAny_field Z rfl (x:= .bool false) rfl ?_);show wpAny _ _ (field (.ref z) 3 >>= _) _ _ _;refine wpAny_bind (wpAny_field Z rfl (x:= .ref ti) rfl ?_);refine wpAny_bind (wpAny_seqItems pI rfl ?_);show wpAny _ _ (Builtin.SmallTypes.ownedTupleIsFree (.ref z) >>= _) _ _ _;refine wpAny_bind ?_;unfold Builtin.SmallTypes.ownedTupleIsFree;refine wpAny_bind (wpAny_field Z rfl (x:= .none) rfl (wpAny_pure ?_));simp only[if_true];refine wpAny_bind (wpAny_rule ?_);refine wpAny_bind (wpAny_field Z rfl (x:= .ref to) rfl ?_);refine wpAny_bind (wpAny_setField_rec Z (by simp) fun k1 Z1 b1=>?_);replace Z1:IsZip k1 z ti to .ellipsis:=Z1;refine wpAny_bind ?_;simp only[List.zipIdx_cons,List.zipIdx_nil,List.forIn_cons,List.forIn_nil];refine wpAny_bind (wpAny_bind (wpAny_onRaise ?_));show wpAny _ _ (Builtin.SmallTypes.nextOf (.ref t1) >>= _) _ _ _;refine wpAny_bind (S1.nx n _ _ _ _ x (S1.ext j1 b1.extBut (Ne.symm n3) (Ne.symm m1.1)) ex fun k2 j1b b2=>wpAny_pure ?_);have pO2:IsPair k2 to a b:=b2.extBut _ _ n8 (b1.extBut _ _ n2 pO);refine wpAny_bind (wpAny_seqItems pO2 rfl ?_);refine wpAny_bind (wpAny_updateSeq_pair pO2 fun k3 pO3 b3=>?_);replace pO3:IsPair k3 to x b:=pO3;refine wpAny_bind (wpAny_letGo (wpAny_pure ?_));refine wpAny_bind (wpAny_bind (wpAny_onRaise ?_));show wpAny _ _ (Builtin.SmallTypes.nextOf (.ref t2) >>= _) _ _ _;have j2c:J2 n k3:=S2.ext (S2.ext (S2.ext j2 b1.extBut (Ne.symm n4) (Ne.symm m2.1)) b2.extBut n10 (Ne.symm m2.2.2.2.1)) b3.extBut n9 (Ne.symm m2.2.2.1);refine wpAny_bind (S2.nx n _ _ _ _ y j2c ey fun k4 j2d b4=>wpAny_pure ?_);have pO4:IsPair k4 to x b:=b4.extBut _ _ n9 pO3;refine wpAny_bind (wpAny_seqItems pO4 rfl ?_);refine wpAny_bind (wpAny_updateSeq_pair pO4 fun k5 pO5 b5=>?_);replace pO5:IsPair k5 to x y:=pO5;refine wpAny_bind (wpAny_letGo (wpAny_pure (wpAny_pure ?_)));refine wpAny_bind (wpAny_seqItems pO5 rfl ?_);refine wpAny_bind (wpAny_newTuple ?_);have sz:k5.objs.size=s.heap.objs.size:=by rw[b5.1,b4.1,b3.1,b2.1,b1.1]
 have Z5:IsZip k5 z ti to .ellipsis:=b5.extBut _ _ (Ne.symm n2) (b4.extBut _ _ (Ne.symm n4) (b3.extBut _ _ (Ne.symm n2) (b2.extBut _ _ (Ne.symm n3) Z1)));have kp5:∀c o,c≠z->c≠to->c≠t1->c≠t2->s.heap.get? c=some o->k5.get? c=some o:=fun c o c1 c2 c3 c4 e=>b5.extBut _ _ c2 (b4.extBut _ _ c4 (b3.extBut _ _ c2 (b2.extBut _ _ c3 (b1.extBut _ _ c1 e))));have j1e:J1 (n+1) k5:=S1.ext (S1.ext (S1.ext j1b b3.extBut n8 (Ne.symm m1.2.2.1)) b4.extBut (Ne.symm n10) (Ne.symm m1.2.2.2.2)) b5.extBut n8 (Ne.symm m1.2.2.1);have j2e:J2 (n+1) k5:=S2.ext j2d b5.extBut n9 (Ne.symm m2.2.2.1);have ltz:z<k5.objs.size:=Heap.lt_size Z5;show wpAny _ _ (Builtin.SmallTypes.ownedTupleHandOut (.ref z) (.ref k5.objs.size) >>= _) _ _ _;refine wpAny_bind ?_;unfold Builtin.SmallTypes.ownedTupleHandOut;have Z6:IsZip (k5.push {cls:= .type "tuple",data:= .seq #[x,y]}) z ti to .ellipsis:=Heap.get?_push_of_some _ Z5;refine wpAny_bind (wpAny_setField_rec Z6 (by simp) fun k7 Z7 b7=>?_);replace Z7:IsZip k7 z ti to (rawInt k5.objs.size):=Z7;refine wpAny_setField_rec Z7 (by simp) fun k8 Z8 b8=>?_;replace Z8:IsZip k8 z ti to (rawInt k5.objs.size):=Z8;have up:∀c o,c≠z->k5.get? c=some o->k8.get? c=some o:=fun c o c1 e=>b8.extBut _ _ c1 (b7.extBut _ _ c1 (Heap.get?_push_of_some _ e));have pT:IsPair k8 k5.objs.size x y:=b8.extBut _ _ (Nat.ne_of_gt ltz) (b7.extBut _ _ (Nat.ne_of_gt ltz) (Heap.get?_push_size _ rfl));have sz8:k8.objs.size=k5.objs.size+1:=by rw[b8.1,b7.1,Heap.size_push]
 rw[sz]at Z8 pT sz8;refine wpAny_pure ⟨_,rfl,?_⟩;show Q (.ref k5.objs.size) _;rw[sz];refine q k8 Z8 (up _ _ n2 pO5) (S1.fr _ _ _ j1e fun b hb o e=>up b o ?_ e) (S2.fr _ _ _ j2e fun b hb o e=>up b o ?_ e) pT sz8 fun c o c1 c2 c3 c4 e=>up c o c1 (kp5 c o c1 c2 c3 c4 e)
 . rcases hb with rfl|rfl
   . exact n3
   . exact m1.1
 . rcases hb with rfl|rfl
   . exact n4
   . exact m2.1
theorem A3{A:Around}{s:Shared}{E:Value->Shared->Prop}{J1 J2:Nat->Heap->Prop}{us vs:Array Value}{n:Nat}{a b:Value}{Q:Fin->Shared->Prop}(hh:A.handled=none)(D:vO z ti to t1 t2 a1 a2)(S1:Src P w t1 a1 J1 us)(S2:Src P w t2 a2 J2 vs)
 (Z:IsZip s.heap z ti to .none) (pI:IsPair s.heap ti (.ref t1) (.ref t2)) (pO:IsPair s.heap to a b) (j1:J1 n s.heap) (j2:J2 n s.heap) (he:us[n]?=none\/vs[n]?=none)
 (q:∀k e,(∀c o,c≠z->c≠to->c≠t1->c≠t2->s.heap.get? c=some o->k.get? c=some o)->(∃o,k.get? e=some o/\o.cls= .type "StopIteration")->E (.ref e) {s with heap:=k}):
 wpAny (model P w) A (Builtin.«zip.__next__» ⟨[.ref z],[]⟩) Q E s:=by
 obtain⟨⟨n1,n2,n3,n4⟩,⟨n5,n6,n7⟩,⟨n8,n9⟩,n10⟩:=D.n;have m1:=D.a1;have m2:=D.a2;simp only[List.mem_cons,not_or,List.not_mem_nil,not_false_eq_true,and_true]at m1 m2;show wpAny _ _ (field (.ref z) 2 >>= _) _ _ _;refine wpAny_bind (wpAny_field Z rfl (x:= .bool false) rfl ?_);show wpAny _ _ (field (.ref z) 3 >>= _) _ _ _;refine wpAny_bind (wpAny_field Z rfl (x:= .ref ti) rfl ?_);refine wpAny_bind (wpAny_seqItems pI rfl ?_);show wpAny _ _ (Builtin.SmallTypes.ownedTupleIsFree (.ref z) >>= _) _ _ _;refine wpAny_bind ?_;unfold Builtin.SmallTypes.ownedTupleIsFree;refine wpAny_bind (wpAny_field Z rfl (x:= .none) rfl (wpAny_pure ?_));simp only[if_true];refine wpAny_bind (wpAny_rule ?_);refine wpAny_bind (wpAny_field Z rfl (x:= .ref to) rfl ?_);refine wpAny_bind (wpAny_setField_rec Z (by simp) fun k1 Z1 b1=>?_);replace Z1:IsZip k1 z ti to .ellipsis:=Z1;refine wpAny_bind ?_;simp only[List.zipIdx_cons,List.zipIdx_nil,List.forIn_cons,List.forIn_nil];refine wpAny_bind (wpAny_bind (wpAny_onRaise ?_));show wpAny _ _ (Builtin.SmallTypes.nextOf (.ref t1) >>= _) _ _ _;have j1a:J1 n k1:=S1.ext j1 b1.extBut (Ne.symm n3) (Ne.symm m1.1);cases ex:us[n]? with
 |none=>
  refine wpAny_bind (S1.en n _ _ _ _ hh j1a ex fun k2 e b2 hx=>?_);obtain⟨oe,he1,he2⟩:=hx;have Z2:IsZip k2 z ti to .ellipsis:=b2 _ _ (Ne.symm n3) Z1;have hez:e≠z:=fun c=>by subst c;rw[Z2]at he1;cases he1;simp at he2
  refine wpAny_setField_rec Z2 (by simp) fun k3 _ b3=>q k3 e (fun c o c1 _ c3 _ f=>b3.extBut _ _ c1 (b2 _ _ c3 (b1.extBut _ _ c1 f))) ⟨oe,b3.extBut _ _ hez he1,he2⟩
 |some x=>
  have ey:vs[n]?=none:=by
   rcases he with h|h
   . rw[ex]at h;cases h
   . exact h
  refine wpAny_bind (S1.nx n _ _ _ _ x j1a ex fun k2 j1b b2=>wpAny_pure ?_);have pO2:IsPair k2 to a b:=b2.extBut _ _ n8 (b1.extBut _ _ n2 pO);refine wpAny_bind (wpAny_seqItems pO2 rfl ?_);refine wpAny_bind (wpAny_updateSeq_pair pO2 fun k3 pO3 b3=>?_);refine wpAny_bind (wpAny_letGo (wpAny_pure ?_));refine wpAny_bind (wpAny_bind (wpAny_onRaise ?_));show wpAny _ _ (Builtin.SmallTypes.nextOf (.ref t2) >>= _) _ _ _;have j2c:J2 n k3:=S2.ext (S2.ext (S2.ext j2 b1.extBut (Ne.symm n4) (Ne.symm m2.1)) b2.extBut n10 (Ne.symm m2.2.2.2.1)) b3.extBut n9 (Ne.symm m2.2.2.1);refine wpAny_bind (S2.en n _ _ _ _ hh j2c ey fun k4 e b4 hx=>?_);obtain⟨oe,he1,he2⟩:=hx;have Z4:IsZip k4 z ti to .ellipsis:=b4 _ _ (Ne.symm n4) (b3.extBut _ _ (Ne.symm n2) (b2.extBut _ _ (Ne.symm n3) Z1));have hez:e≠z:=fun c=>by subst c;rw[Z4]at he1;cases he1;simp at he2
  refine wpAny_setField_rec Z4 (by simp) fun k5 _ b5=>q k5 e (fun c o c1 c2 c3 c4 f=>b5.extBut _ _ c1 (b4 _ _ c4 (b3.extBut _ _ c2 (b2.extBut _ _ c3 (b1.extBut _ _ c1 f))))) ⟨oe,b5.extBut _ _ hez he1,he2⟩
end
end
theorem Cp{X:Cx}{pins:List (Addr×Obj)}{σ:L2.St}{H:Hp}{s:Shared}{g:Heap}{tk:Nat}{fp:List Addr}{T:Addr}{xs:List V}(I:Inv X pins σ H s)(hf:∀b∈fp,iq X pins H b)
 (k:∀b o,b∉fp->s.heap.get? b=some o->g.get? b=some o) (hT:s.heap.objs.size<=T) (new:cn X.prog X.w (upd H T (.tup xs)) g T (.tup xs)):Inv X pins σ (upd H T (.tup xs)) {s with heap:=g,toks:=tk}:=by
 have hn:H T=none:=I.aw.fresh hT;have nfp:∀b u,H b=some u->b∉fp:=fun b u e z=>by rw[(hf b z).1]at e;cases e
 have nT:∀b u,H b=some u->b≠T:=fun b u e=>cT e hn
 refine I.step (g':=s.gens) (d':=s.drawn) (ch:=fp) (fun b hb=>?_) (fun b o _ _ hc e _=>k b o hc e) (fun b o _ _ hc e _=>⟨o.slots,k b o hc e⟩) (fun b o _ e n=>?_) (fun b o hc e=>⟨o,k b o hc e⟩)
  (fun b ys e=>by rw[aq (nT b _ e)];exact e) (fun b o u e=>by rw[aq (nT b _ e)];exact e) (fun b ps e=>⟨#[],by rw[aq (nT b _ e),e];simp⟩) (fun m hm=>?_) (fun b u e=>?_) I.bare
 . obtain⟨f0,f1,f2,f3,f4,f5⟩:=hf b hb;exact⟨f3,f1,f4,f5⟩
 . rw[aq (Nat.ne_of_lt (Nat.lt_of_lt_of_le (Heap.lt_size e) hT))];exact n
 . obtain⟨o,es,ep,ho,r⟩:=hm;exact⟨o,es,ep,k _ o (fun z=>(hf _ z).2.1 rfl) ho,r⟩
 . by_cases hb:b=T
   . subst hb;rw[aD]at e;cases e;exact new
   . rw[aq hb]at e;refine(I.aw b u e).kE (fun c v hc q=>k c v ?_ q) (fun c q=>by rw[aq (nT c _ q)];exact q) fun c ys q=>by rw[aq (nT c _ q)];exact q
     rcases hc with z|z
     . rw[z];exact nfp b u e
     . exact nfp c _ z
theorem BZ{X:Cx}{pins:List (Addr×Obj)}{σ:L2.St}{H:Hp}{s:Shared}{g:Heap}{tk:Nat}{fp:List Addr}(I:Inv X pins σ H s)(hf:∀b∈fp,iq X pins H b)
 (k:∀b o,b∉fp->s.heap.get? b=some o->g.get? b=some o):Inv X pins σ H {s with heap:=g,toks:=tk}:=by
 have nfp:∀b u,H b=some u->b∉fp:=fun b u e z=>by rw[(hf b z).1]at e;cases e
 refine I.step (g':=s.gens) (d':=s.drawn) (ch:=fp) (fun b hb=>?_) (fun b o _ _ hc e _=>k b o hc e) (fun b o _ _ hc e _=>⟨o.slots,k b o hc e⟩) (fun b o _ e n=>n) (fun b o hc e=>⟨o,k b o hc e⟩)
  (fun b ys e=>e) (fun b o u e=>e) (fun b ps e=>⟨#[],by rw[e];simp⟩) (fun m hm=>?_) (fun b u e=>?_) I.bare
 . obtain⟨f0,f1,f2,f3,f4,f5⟩:=hf b hb;exact⟨f3,f1,f4,f5⟩
 . obtain⟨o,es,ep,ho,r⟩:=hm;exact⟨o,es,ep,k _ o (fun z=>(hf _ z).2.1 rfl) ho,r⟩
 . refine(I.aw b u e).kE (fun c v hc q=>k c v ?_ q) (fun c q=>q) fun c ys q=>q;rcases hc with z|z
   . rw[z];exact nfp b u e
   . exact nfp c _ z
inductive SK where
 |l|t
def gS(k:SK)(K:PySem.W.Frag)(H:Hp)(a:Addr)(xs:List V):Prop:=match k with
 | .l=>i8 K H a xs
 | .t=>fm K H a xs
def jI(k:SK)(t a:Addr)(n:Nat)(g:Heap):Prop:=match k with
 | .l=>g.IsListIter t a n
 | .t=>g.IsTupleIter t a n
def eM(k:SK)(g:Heap)(a:Addr)(us:Array Value):Prop:=match k with
 | .l=>g.IsList a us
 | .t=>g.IsTuple a us
def ki(k:SK)(a:Addr):Obj:=match k with
 | .l=>{cls:= .type "list_iterator",data:= .fields #[.ref a,.int 0 0]}
 | .t=>{cls:= .type "tuple_iterator",data:= .fields #[.ref a,.int 0 0]}
theorem iP{P:Program}{w:World}(k:SK)(t a:Addr)(hne:a≠t)(us:Array Value):Src P w t a (fun n g=>jI k t a n g/\eM k g a us) us:=by
 cases k
 . exact src_list t a hne us
 . exact DC t a hne us
theorem dB{X:Cx}{pins:List (Addr×Obj)}{σ:L2.St}{H:Hp}{s:Shared}{k:SK}{a:Addr}{xs:List V}(I:Inv X pins σ H s)(h:gS k X.K H a xs):∃aj:List Value,Vals xs aj/\eM k s.heap a aj.toArray:=by
 cases k
 . obtain⟨aj,rv,p,_⟩:=I.list h;exact⟨aj,rv,p.isList⟩
 . obtain⟨aj,rv,p,_⟩:=I.tuple h;exact⟨aj,rv,p⟩
theorem kM{X:Cx}{pins:List (Addr×Obj)}{σ:L2.St}{H:Hp}{s:Shared}{k:SK}{a:Addr}{xs ys:List V}(I:Inv X pins σ H s)(h:gS k X.K H a xs)(h':gS k X.K H a ys):xs=ys:=by
 cases k
 . exact I.t5 h h'
 . exact I.rX h h'
theorem nv{P:Program}{w:World}{A:Around}{s:Shared}{E:Value->Shared->Prop}{k:SK}{a:Addr}{us:Array Value}{Q:Value->Shared->Prop}(h:eM k s.heap a us)(q:Q (.ref s.heap.objs.size) {s with heap:=s.heap.push (ki k a)}):wpAny (model P w) A (pyIter (.ref a)) Q E s:=by
 cases k
 . exact wpAny_pyIter_list h q
 . exact wpAny_pyIter_tuple h q
theorem eM.push{k:SK}{g:Heap}{a:Addr}{us:Array Value}(h:eM k g a us)(o:Obj):eM k (g.push o) a us:=by
 cases k
 . obtain⟨o',e,r⟩:=h;exact⟨o',Heap.get?_push_of_some _ e,r⟩
 . obtain⟨o',e,r⟩:=h;exact⟨o',Heap.get?_push_of_some _ e,r⟩
theorem eM.some{k:SK}{g:Heap}{a:Addr}{us:Array Value}(h:eM k g a us):∃o,g.get? a=Option.some o:=by
 cases k
 . obtain⟨o',e,r⟩:=h;exact⟨o',e⟩
 . obtain⟨o',e,r⟩:=h;exact⟨o',e⟩
theorem kL{k:SK}{g h:Heap}{t a:Addr}(e:g.get? t=Option.some (ki k a)):jI k t a 0 g:=by
 cases k
 . exact⟨_,e,rfl,rfl⟩
 . exact⟨_,e,rfl,rfl⟩
theorem gc{k:SK}{t a:Addr}{n:Nat}{g g':Heap}(h:jI k t a n g)(kp:∀o,g.get? t=Option.some o->g'.get? t=Option.some o):jI k t a n g':=by
 cases k
 . obtain⟨o,e,r⟩:=h;exact⟨o,kp o e,r⟩
 . obtain⟨o,e,r⟩:=h;exact⟨o,kp o e,r⟩
theorem fb{k:SK}{t a:Addr}{n:Nat}{g:Heap}(h:jI k t a n g):∃o,g.get? t=Option.some o/\∀v,o.data≠ .cell v:=by
 cases k
 . obtain⟨o,e,c,d⟩:=h;exact⟨o,e,fun v z=>by rw[d]at z;cases z⟩
 . obtain⟨o,e,c,d⟩:=h;exact⟨o,e,fun v z=>by rw[d]at z;cases z⟩
def HY(K:PySem.W.Frag)(k1 k2:SK)(a1 a2:Addr):It:=
 ⟨fun i H=>∃xs ys x y,gS k1 K H a1 xs/\gS k2 K H a2 ys/\xs[i]?=some x/\ys[i]?=some y,
  fun i H v H'=>∃T x y,H T=none/\v= .ref T/\H'=upd H T (.tup [x,y])/\(∀xs,gS k1 K H a1 xs->xs[i]?=some x)/\∀ys,gS k2 K H a2 ys->ys[i]?=some y,
  fun i H=>∃xs ys,gS k1 K H a1 xs/\gS k2 K H a2 ys/\(xs.length<=i\/ys.length<=i)⟩
def GN(z ti to t1 t2 a1 a2:Addr)(k1 k2:SK)(i:Nat)(h:Heap):Prop:=IsZip h z ti to .none/\IsPair h ti (.ref t1) (.ref t2)/\(∃a b,IsPair h to a b)/\jI k1 t1 a1 i h/\jI k2 t2 a2 i h
theorem A8{P:Program}{w:World}{K:PySem.W.Frag}{elts:List Expr}{kx:Nat}{pos:Pos}{z ti to t1 t2 a1 a2:Addr}(k1 k2:SK)(D:vO z ti to t1 t2 a1 a2):
 Turn P w K (.Tuple elts kx pos) (HY K k1 k2 a1 a2) [z,ti,to,t1,t2] z (GN z ti to t1 t2 a1 a2 k1 k2) where
 mem:=by simp
 obj:=fun i h st b hb=>by
  obtain⟨Z,pI,⟨a,b',pO⟩,i1,i2⟩:=st;simp only[List.mem_cons,List.not_mem_nil,or_false]at hb;rcases hb with rfl|rfl|rfl|rfl|rfl
  . exact⟨_,Z,fun v e=>by cases e⟩
  . exact⟨_,pI,fun v e=>by cases e⟩
  . exact⟨_,pO,fun v e=>by cases e⟩
  . exact fb i1
  . exact fb i2
 keep:=fun i h h' st k=>by
  obtain⟨Z,pI,⟨a,b',pO⟩,i1,i2⟩:=st;exact⟨k z (by simp) _ Z,k ti (by simp) _ pI,⟨a,b',k to (by simp) _ pO⟩,gc i1 (k t1 (by simp)),gc i2 (k t2 (by simp))⟩
 item:=by
  intro X hP hw hK hc i pins s σ H E I hf st hg;subst hP hw hK;obtain⟨Z,pI,⟨a,b',pO⟩,i1,i2⟩:=st;obtain⟨xs,ys,x,y,q1,q2,ex,ey⟩:=hg;obtain⟨us,r1,l1⟩:=dB I q1;obtain⟨vs,r2,l2⟩:=dB I q2;obtain⟨u,eu,ru⟩:=r1.get ex;obtain⟨v,ev,rv⟩:=r2.get ey;have m1:=D.a1;have m2:=D.a2;simp only[List.mem_cons,not_or,List.not_mem_nil,not_false_eq_true,and_true]at m1 m2;obtain⟨⟨n1,n2,n3,n4⟩,⟨n5,n6,n7⟩,⟨n8,n9⟩,n10⟩:=D.n;have tz:s.TypeIs (.ref z) "zip":=⟨_,Z,rfl⟩
  unfold pyNext;refine wpAny_bind (wpAny_attempt (wpAny_callSpecial?_slot (name:=Str.ofString "__next__") tz F.slot_zip_next (wpAny_call_entry F.slot_zip_next tz F.entry_zip_next (yl D (iP k1 t1 a1 m1.2.2.2.1 us.toArray) (iP k2 t2 a2 m2.2.2.2.2 vs.toArray) Z pI pO ⟨i1,l1⟩ ⟨i2,l2⟩ (x:=u) (y:=v) (by simpa using eu) (by simpa using ev) fun k Z2 pO2 j1 j2 pT szk kp=>wpAny_pure ⟨_,rfl,?_⟩) (F.args_zip_next_1 _))));refine wpAny_letOwnedTupleGo_zip (s:={s with heap:=k}) Z2 fun k' Z3 b3=>?_;have hT:s.heap.objs.size≠z:=Nat.ne_of_gt (Heap.lt_size Z)
  have kp3:∀b o,b∉[z,ti,to,t1,t2]->s.heap.get? b=some o->k'.get? b=some o:=fun b o hb e=>by
   simp only[List.mem_cons,not_or,List.not_mem_nil,not_false_eq_true,and_true]at hb;exact b3.extBut _ _ hb.1 (kp b o hb.1 hb.2.2.1 hb.2.2.2.1 hb.2.2.2.2 e)
  refine⟨.ref s.heap.objs.size,upd H s.heap.objs.size (.tup [x,y]),Cp (s:=s) (tk:=s.toks) I hf kp3 (Nat.le_refl _) ?_,rfl,⟨s.heap.objs.size,x,y,I.aw.fresh (Nat.le_refl _),rfl,rfl,?_,?_⟩,?_,?_⟩
  . refine⟨Nat.le_of_ble_eq_true rfl,[u,v],.cons ru (.cons rv .nil),?_⟩;exact⟨_,b3.extBut _ _ hT pT,rfl,_,rfl⟩
  . intro xs' q';rw[kM I q' q1];exact ex
  . intro ys' q';rw[kM I q' q2];exact ey
  . refine⟨Z3,b3.extBut _ _ n1 (kp _ _ n1 n5 n6 n7 pI),⟨_,_,b3.extBut _ _ n2 pO2⟩,gc j1.1 fun o e=>b3.extBut _ _ n3 e,gc j2.1 fun o e=>b3.extBut _ _ n4 e⟩
  . intro b hb
    have:b≠s.heap.objs.size:=by
     obtain⟨o,e,_⟩:∃o,s.heap.get? b=some o/\True:=by
      simp only[List.mem_cons,List.not_mem_nil,or_false]at hb;rcases hb with rfl|rfl|rfl|rfl|rfl
      . exact⟨_,Z,trivial⟩
      . exact⟨_,pI,trivial⟩
      . exact⟨_,pO,trivial⟩
      . obtain⟨o,e,_⟩:=fb i1;exact⟨o,e,trivial⟩
      . obtain⟨o,e,_⟩:=fb i2;exact⟨o,e,trivial⟩
     exact Nat.ne_of_lt (Heap.lt_size e)
    rw[aq this];exact(hf b hb).1
 done:=by
  intro X hP hw hK hc i pins s σ H E I hf st hg;subst hP hw hK;obtain⟨Z,pI,⟨a,b',pO⟩,i1,i2⟩:=st;obtain⟨xs,ys,q1,q2,he⟩:=hg;obtain⟨us,r1,l1⟩:=dB I q1;obtain⟨vs,r2,l2⟩:=dB I q2;have e1:=r1.length;have e2:=r2.length;have m1:=D.a1;have m2:=D.a2;simp only[List.mem_cons,not_or,List.not_mem_nil,not_false_eq_true,and_true]at m1 m2;have tz:s.TypeIs (.ref z) "zip":=⟨_,Z,rfl⟩
  unfold pyNext;refine wpAny_bind (wpAny_attempt (wpAny_callSpecial?_slot (name:=Str.ofString "__next__") tz F.slot_zip_next (wpAny_call_entry F.slot_zip_next tz F.entry_zip_next (A3 (I.ok.hd hc) D (iP k1 t1 a1 m1.2.2.2.1 us.toArray) (iP k2 t2 a2 m2.2.2.2.2 vs.toArray) Z pI pO ⟨i1,l1⟩ ⟨i2,l2⟩ ?_ fun k e kp hx=>?_) (F.args_zip_next_1 _))))
  . rcases he with h|h
    . left;simp;omega
    . right;simp;omega
  . obtain⟨o,ho,hc2⟩:=hx;refine wpAny_bind (wpAny_isInstance (T:="StopIteration") (b:=true) ⟨o,ho,hc2⟩ isSubtype_stop ?_);refine wpAny_pure ⟨rfl,BZ (s:=s) (tk:=s.toks) I hf fun b o hb e=>?_⟩;simp only[List.mem_cons,not_or,List.not_mem_nil,not_false_eq_true,and_true]at hb;exact kp b o hb.1 hb.2.2.1 hb.2.2.2.1 hb.2.2.2.2 e
 self:=fun _ _ _ _ _ st h=>wpAny_pyIter_zip st.1 h
abbrev u5(h:Heap)(k1:SK)(a1:Addr):Heap:=h.push (ki k1 a1)
abbrev rY(h:Heap)(k1 k2:SK)(a1 a2:Addr):Heap:=(u5 h k1 a1).push (ki k2 a2)
abbrev BJ(h:Heap)(k1 k2:SK)(a1 a2:Addr):Heap:=(rY h k1 k2 a1 a2).push {cls:= .type "tuple",data:= .seq #[.ref h.objs.size,.ref (u5 h k1 a1).objs.size]}
abbrev Bx(h:Heap)(k1 k2:SK)(a1 a2:Addr):Heap:=(BJ h k1 k2 a1 a2).push {cls:= .type "tuple",data:= .seq #[.none,.none]}
abbrev wb(h:Heap)(k1 k2:SK)(a1 a2:Addr):Heap:=(Bx h k1 k2 a1 a2).push {cls:= .type "zip",data:= .fields #[.none,.bool false,.bool false,.ref (rY h k1 k2 a1 a2).objs.size,.ref (BJ h k1 k2 a1 a2).objs.size]}
theorem yt(k1 k2:SK)(a1 a2:Addr)(us vs:Array Value):Meets (Builtin.«zip.__new__» ⟨[.type "zip",.ref a1,.ref a2],[]⟩) (fun _ R s=>eM k1 s.heap a1 us/\eM k2 s.heap a2 vs/\
 R (.ok (.ret (.ref (Bx s.heap k1 k2 a1 a2).objs.size))) {s with heap:=wb s.heap k1 k2 a1 a2}):=
 .of_wp fun P w A R s h=>by
  obtain⟨hp,g,d,tk,os⟩:=s;obtain⟨c1,c2,h⟩:=h;have hsub:=sub_zip;have L1:eM k1 (Shared.heap ⟨hp,g,d,tk,os⟩) a1 us:=c1;have L2:eM k2 (Shared.heap ⟨hp.push (ki k1 a1),g,d,tk,os⟩) a2 vs:=eM.push c2 _
  wp_walk using nv L1,nv L2
  exact⟨_,rfl,h⟩
theorem AX{P:Program}{w:World}{A:Around}{s:Shared}{E:Value->Shared->Prop}{k1 k2:SK}{a1 a2:Addr}{us vs:Array Value}{Q:Value->Shared->Prop}(c1:eM k1 s.heap a1 us)(c2:eM k2 s.heap a2 vs)
 (q:∀g n,n=s.heap.objs.size->IsZip g (n+4) (n+2) (n+3) .none->IsPair g (n+2) (.ref n) (.ref (n+1))->IsPair g (n+3) .none .none->jI k1 n a1 0 g->jI k2 (n+1) a2 0 g->(∀c o,s.heap.get? c=some o->g.get? c=some o)->Q (.ref (n+4)) {s with heap:=g}):
 wpAny (model P w) A (call (.type "zip") [.ref a1,.ref a2]) Q E s:=by
 refine callType_new F.called_zip (by decide) (F.typeCall_zip_2 _ _) (F.newCall_zip_2 _ _) (fun ob=>F.args_object_init_3 ob _ _) F.entry_zip_new (yt k1 k2 a1 a2 us vs) ⟨c1,c2,?_⟩;have y1:(u5 s.heap k1 a1).objs.size=s.heap.objs.size+1:=Heap.size_push ..;have y2:(rY s.heap k1 k2 a1 a2).objs.size=s.heap.objs.size+2:=by rw[Heap.size_push,y1]
 have y3:(BJ s.heap k1 k2 a1 a2).objs.size=s.heap.objs.size+3:=by rw[Heap.size_push,y2]
 have y4:(Bx s.heap k1 k2 a1 a2).objs.size=s.heap.objs.size+4:=by rw[Heap.size_push,y3]
 have e5:(wb s.heap k1 k2 a1 a2).get? (Bx s.heap k1 k2 a1 a2).objs.size=some _:=Heap.get?_push_size _ rfl;have e4:(wb s.heap k1 k2 a1 a2).get? (BJ s.heap k1 k2 a1 a2).objs.size=some _:=Heap.get?_push_of_some _ (Heap.get?_push_size _ rfl);have e3:(wb s.heap k1 k2 a1 a2).get? (rY s.heap k1 k2 a1 a2).objs.size=some _:=Heap.get?_push_of_some _ (Heap.get?_push_of_some _ (Heap.get?_push_size _ rfl));have e2:(wb s.heap k1 k2 a1 a2).get? (u5 s.heap k1 a1).objs.size=some (ki k2 a2):=Heap.get?_push_of_some _ (Heap.get?_push_of_some _ (Heap.get?_push_of_some _ (Heap.get?_push_size _ (by cases k2<;>rfl))));have e1:(wb s.heap k1 k2 a1 a2).get? s.heap.objs.size=some (ki k1 a1):=Heap.get?_push_of_some _ (Heap.get?_push_of_some _ (Heap.get?_push_of_some _ (Heap.get?_push_of_some _ (Heap.get?_push_size _ (by cases k1<;>rfl)))));show _/\_;rw[y2,y3,y4]at e5;rw[y1,y2]at e3;rw[y3]at e4;rw[y1]at e2;rw[y4];exact⟨⟨_,e5,rfl⟩,q _ _ rfl e5 e3 e4 (kL (h:=s.heap) e1) (kL (h:=s.heap) e2) fun c o x=>Heap.get?_push_of_some _ (Heap.get?_push_of_some _ (Heap.get?_push_of_some _ (Heap.get?_push_of_some _ (Heap.get?_push_of_some _ x))))⟩
def wt:D->SK
 | .tup _=> .t
 |_=> .l
def uO(k:SK)(G:Hp)(a:Addr)(vs:List V):Prop:=match k with
 | .l=>Rd G a (.lst vs)
 | .t=>G a=some (.tup vs)
theorem c7{K:PySem.W.Frag}{k:SK}{G F H:Hp}(P:a7 G F H){a:Addr}{vs:List V}(h:uO k G a vs):gS k K H a vs:=by
 cases k
 . exact .inl (eU P h)
 . exact fm.of (P.get h)
theorem fe{α:List (Option Addr)}{H:Hp}{st:aa}{d:D}{v:V}{xs:List D}(S:aB α st H)(r:Rep α H d v)(e:items? st d=some xs):∃p vs,v= .ref p/\ax α H xs vs/\uO (wt d) H p vs:=by
 cases d<;>try(cases e;done)
 . unfold items? at e;simp only at e;split at e
   . rename_i ys q;cases e;obtain⟨a,ea,vs,h1,h2⟩:=S.fQ q;exact⟨a,vs,cJ ea r,h2,Rd.of h1⟩
   . cases e
 . cases e;unfold Rep at r;obtain⟨a,vs,rfl,_,h1,h2⟩:=r;exact⟨a,vs,rfl,h2,h1⟩
 . cases e;unfold Rep at r;obtain⟨a,vs,rfl,_,h1,h2⟩:=r;exact⟨a,vs,rfl,h2,h1⟩
def dN(xs ys:List D):List D:=(xs.zip ys).map fun p=> .tup [p.1,p.2]
theorem lX{xs ys:List D}:(dN xs ys).length=min xs.length ys.length:=by unfold dN;simp
theorem o4{xs ys:List D}{n:Nat}{d:D}(e:(dN xs ys)[n]?=some d):∃x y,xs[n]?=some x/\ys[n]?=some y/\d= .tup [x,y]:=by
 unfold dN at e;rw[List.getElem?_map]at e;cases q:(xs.zip ys)[n]? with
 |none=>rw[q]at e;cases e
 |some p=>
  rw[q]at e;cases e;rw[List.getElem?_zip_eq_some]at q;exact⟨p.1,p.2,q.1,q.2,rfl⟩
theorem E3{K:PySem.W.Frag}{k1 k2:SK}{a1 a2:Addr}{α:List (Option Addr)}{G:Hp}{ok:aa->Prop}{xs ys:List D}
 (h:∀α' G' st',Step α G α' G'->aB α' st' G'->ok st'->∃vs ws,uO k1 G' a1 vs/\uO k2 G' a2 ws/\ax α' G' xs vs/\ax α' G' ys ws):qW (HY K k1 k2 a1 a2) α G ok (dN xs ys) where
 stop:=fun n α' G' F' H' st' s P S o hn=>by
  obtain⟨vs,ws,h1,h2,r1,r2⟩:=h α' G' st' s S o;rw[lX]at hn;refine⟨vs,ws,c7 P h1,c7 P h2,?_⟩;have:=r1.length;have:=r2.length;omega
 go:=fun n d α' G' F' H' st' s P S o hn=>by
  obtain⟨vs,ws,h1,h2,r1,r2⟩:=h α' G' st' s S o;obtain⟨x,y,ex,ey,rfl⟩:=o4 hn;obtain⟨v,ev,_⟩:=r1.get ex;obtain⟨u,eu,_⟩:=r2.get ey;exact⟨vs,ws,v,u,c7 P h1,c7 P h2,ev,eu⟩
 kh:=fun n d α' G' F' H' st' x H'' s P S o hn y=>by
  obtain⟨vs,ws,h1,h2,r1,r2⟩:=h α' G' st' s S o;obtain⟨c,e,ec,ee,rfl⟩:=o4 hn;obtain⟨T,v,u,hT,rfl,rfl,y1,y2⟩:=y;obtain⟨v',ev,rv⟩:=r1.get ec;obtain⟨u',eu,ru⟩:=r2.get ee;rw[y1 vs (c7 P h1)]at ev;rw[y2 ws (c7 P h2)]at eu;cases ev;cases eu;have hg:=(P.none hT).1;refine⟨upd G' T (.tup [v,u]),Step.laid hg,P.laid hT,S.laid hg,?_⟩;unfold Rep;refine⟨T,[v,u],rfl,S.kq hg,aD,?_⟩;unfold ax;refine⟨v,[u],rfl,rv.step (Step.laid hg),?_⟩;unfold ax;exact⟨u,[],rfl,ru.step (Step.laid hg),by unfold ax;rfl⟩
def AJ(ds:List D)(st1:aa)(K:List D->(aa->Prop)->aa->Prop):Prop:=match ds with
 | [x,y]=>(match items? st1 x,items? st1 y with
   |some xs,some ys=>K (dN xs ys) (fun st'=>items? st' x=some xs/\items? st' y=some ys) st1
   |_,_=>False)
 |_=>False
@[irreducible] def qc:List D->aa->(List D->(aa->Prop)->aa->Prop)->Prop:=AJ
def nC(t:DA):DI:=fun σ st K=>t σ st fun ds st1=>qc ds st1 K
theorem DQ{n a1 a2:Nat}(h1:a1<n)(h2:a2<n):vO (n+4) (n+2) (n+3) n (n+1) a1 a2:=by
 have e0:([n+4,n+2,n+3,n,n+1]:List Nat).Nodup:=by
  simp only[List.nodup_cons,List.mem_cons,not_or,List.not_mem_nil,not_false_eq_true,and_true,List.nodup_nil];omega
 have e1:∀a:Nat,a<n->a∉([n+4,n+2,n+3,n,n+1]:List Nat):=fun a ha=>by
  simp only[List.mem_cons,not_or,List.not_mem_nil,not_false_eq_true,and_true];omega
 exact⟨e0,e1 a1 h1,e1 a2 h2⟩
theorem EF{X:Cx}{a b:Expr}{elts:List Expr}{kx:Nat}{tpos p pos:Pos}{t:DA}(hg:Gl X "zip")(hm:X.mg "zip"=none)(ha:PA X [a,b] (LA t))(hs:starEach [a,b] X.env=[(false,eval a X.env),(false,eval b X.env)])(hs2:starEach [b] X.env=[(false,eval b X.env)]):
 PI X (.Tuple elts kx tpos) (.Call (.Name "zip" p) [a,b] [] pos) (LI (nC t)):=by
 intro pins s σ H R I h;obtain⟨α,σd,st,K,G,F,P,RS,S,t,k⟩:=h;refine Call_ (jQ I hg hm boot_zip (PyProof.Rows.callWith_type1 (bj (ha pos pins s σ H (fun vs H1=>∃ds α1 G1 st1,Step α G α1 G1/\a7 G1 F H1/\aB α1 st1 G1/\ax α1 G1 ds vs/\qc ds st1 K) I ⟨α,σd,st,_,G,F,P,RS,S,t,fun ds st1 q α1 G1 H1 vs s1 P1 S1 r1=>⟨ds,α1,G1,st1,s1,P1,S1,r1,q⟩⟩) fun us s1 ⟨vs,H1,I1,rv,ds,α1,G1,st1,w1,P1,S1,r1,q⟩=>?_) (by rw[hs,hs2]) (by rw[hs2];rfl)));unfold qc AJ at q;split at q
 . rename_i x y;split at q
   . rename_i xs ys ex ey;obtain⟨v1,v2,rfl,q1,q2⟩:=kr r1 rfl;obtain⟨p1,vs1,rfl,g1,c1⟩:=fe S1 q1 ex;obtain⟨p2,vs2,rfl,g2,c2⟩:=fe S1 q2 ey;obtain⟨u1,u2,rfl,ru1,ru2⟩:=vals2 rv;cases ru1;cases ru2;obtain⟨its1,_,l1⟩:=dB I1 (c7 P1 c1);obtain⟨its2,_,l2⟩:=dB I1 (c7 P1 c2);refine AX l1 l2 fun g n hn Z pI pO i1 i2 kp=>?_;obtain⟨o1,eo1⟩:=l1.some;obtain⟨o2,eo2⟩:=l2.some;refine wpAny_pyIter_zip (s:={s1 with heap:=g}) Z ?_;refine⟨n+4,[n+4,n+2,n+3,n,n+1],_,_,H1,rfl,I1.kept (t':=s1.toks) kp,A8 (wt x) (wt y) (DQ (by rw[hn];exact Heap.lt_size eo1) (by rw[hn];exact Heap.lt_size eo2)),⟨Z,pI,⟨_,_,pO⟩,i1,i2⟩,fun b hb=>?_,?_⟩
     . have hb':s1.heap.objs.size<=b:=by
        simp only[List.mem_cons,List.not_mem_nil,or_false]at hb;rcases hb with rfl|rfl|rfl|rfl|rfl<;>(rw[<-hn];first|exact Nat.le_refl _|exact Nat.le_add_right _ _)
       exact I1.oR hb' (I1.aw.fresh hb')
     . refine k _ _ st1 q _ α1 G1 H1 w1 P1 S1 (E3 fun α' G' st' s' S' o=>?_);obtain⟨p1',ws1,e1,f1,d1⟩:=fe S' (q1.step s') o.1;obtain⟨p2',ws2,e2,f2,d2⟩:=fe S' (q2.step s') o.2;cases e1;cases e2;exact⟨ws1,ws2,d1,d2,f1,f2⟩
   . exact q.elim
 . exact q.elim
theorem kO{st:aa}{x y:D}{xs ys:List D}{K:List D->(aa->Prop)->aa->Prop}(ex:items? st x=some xs)(ey:items? st y=some ys)(k:∀ok:aa->Prop,(∀st',items? st' x=some xs->items? st' y=some ys->ok st')->K (dN xs ys) ok st):qc [x,y] st K:=by
 unfold qc AJ;simp only[ex,ey];exact k _ fun st' h1 h2=>⟨h1,h2⟩
theorem nZ{X:Cx}{a b:Expr}{elts:List Expr}{kx:Nat}{tpos p pos:Pos}{ar:DA}(hg:Gl X "zip")(hm:X.mg "zip"=none)(ha:JA X [a,b] ar)(hs:notStar a=true:=by rfl)(hs2:notStar b=true:=by rfl):JI X (.Tuple elts kx tpos) (.Call (.Name "zip" p) [a,b] [] pos) (nC ar):=by
 unfold JI;unfold JA at ha;exact EF hg hm ha (by rw[a8 hs,a8 hs2];rfl) (a8 hs2)
theorem ue(f:Nat->Int):∀n,preSum f (n+1)=f 0+preSum (fun i=>f (i+1)) n
 |0=>by show preSum f 0+f 0=f 0+0;show(0:Int)+f 0=f 0+0;omega
 |n+1=>by
  have h:=ue f n;show preSum f (n+1)+f (n+1)=f 0+(preSum (fun i=>f (i+1)) n+f (n+1));rw[h];omega
theorem wc:∀ns:List Int,preSum (fun i=>ns.getD i 0) ns.length=ns.sum
 | []=>rfl
 |n::ns=>by
  rw[List.length_cons,ue];have:(fun i=>(n::ns).getD (i+1) 0)=fun i=>ns.getD i 0:=by funext i;simp
  rw[this,wc ns,List.sum_cons];rfl
section
variable {X:Cx}
def tj:du:=fun ds st K=>match ds with| [.lst xs]=>(match kj xs with|some ns=>K (.int ns.sum) st|none=>False)|_=>False
theorem kb:∀ {ns:List Int} {us:List Value},Vals (ns.map V.int) us->∀(i:Nat) (u:Value),us[i]?=some u->∃t,u=Value.int (ns.getD i 0) t
 | [],_,.nil,i,u,e=>by simp at e
 |n::ns,_,.cons h t,0,u,e=>by
  obtain⟨tk,rfl⟩:=h;simp at e;exact⟨tk,by rw[<-e];rfl⟩
 |n::ns,_,.cons h t,i+1,u,e=>by
  obtain⟨tk,q⟩:=kb t i u (by simpa using e);exact⟨tk,by rw[q];simp⟩
theorem F2(hc:X.calm=true):aU X (.builtin "sum") (eP tj):=fun pins s σ H xs us Q I rs ⟨α,ds,st,K,G,F',P,r,S,q,k⟩=>by
 unfold tj at q;split at q
 . rename_i ys;split at q
   . rename_i ns e;obtain⟨v,rfl,r1⟩:=gi r rfl;unfold Rep at r1;obtain⟨a,vs,rfl,na,h1,h2⟩:=r1;obtain⟨u,rfl,ru⟩:=vals1 rs;cases ru;have hv:=rL h2 e;subst hv;obtain⟨z,aj,n,rv,hl,eo⟩:=Inv.qO I (eU P h1);have isL:s.heap.IsList a aj.toArray:=⟨_,eo,rfl,n,rfl⟩
     refine call_sum_walkAnyB (wpAny_pyIter_list isL ?_);have hne:a≠s.heap.objs.size:=Nat.ne_of_lt (Heap.lt_size eo);refine⟨s.heap.objs.size,_,_,_,_,_,_,fun i=>ns.getD i 0,rfl,(Walks.list (A:=X.A.in1) (I.ok.hd hc) _ a hne aj.toArray).toS,⟨⟨_,Heap.get?_push_size _ rfl,rfl,rfl⟩,⟨_,Heap.get?_push_of_some _ eo,rfl,n,rfl⟩⟩,?_,?_,?_⟩
     . intro b hb;rw[Heap.size_push];simp only[List.mem_cons,List.not_mem_nil,or_false]at hb;rcases hb with rfl|rfl
       . exact Nat.lt_succ_self _
       . exact Nat.lt_succ_of_lt (Heap.lt_size eo)
     . intro i w hw;obtain⟨t,e⟩:=kb rv i w (by simpa using hw);exact .inl ⟨t,e⟩
     . intro s' t' hm
       have kp:∀b o,s.heap.get? b=some o->s'.heap.get? b=some o:=fun b o q=>hm.heap b o (by
        intro hb;have:b=s.heap.objs.size:=by simpa using hb
        exact absurd (Heap.lt_size q) (by rw[this];exact Nat.lt_irrefl _)) (Heap.get?_push_of_some _ q)
       have es:s'= {s with heap:=s'.heap,toks:=s'.toks}:=by
        have g:=hm.gens;have d:=hm.drawn;have o:=hm.os;cases s';cases s
        simp_all
       have en:preSum (fun i=>ns.getD i 0) aj.toArray.size=ns.sum:=by
        have:aj.toArray.size=ns.length:=by rw[List.size_toArray,<-hl,List.length_map]
        rw[this];exact wc ns
       rw[en,es];exact⟨.int ns.sum,H,I.kept (t':=s'.toks) kp,⟨t',rfl⟩,k.here P q S (by unfold Rep;rfl)⟩
   . exact q.elim
 . exact q.elim
@[irreducible] def tU:du:=tj
theorem Hr(hc:X.calm=true):aU X (.builtin "sum") (eP tU):=by unfold tU;exact F2 hc
end
theorem ints_map:∀ns:List Int,kj (ns.map D.int)=some ns
 | []=>rfl
 |n::ns=>by simp[kj,ints_map ns]
theorem E8{st:aa}{K:DK}{xs:List D}{ns:List Int}(h:kj xs=some ns)(k:K (.int ns.sum) st):tU [.lst xs] st K:=by unfold tU tj;simp only[h];exact k
section
variable {X:Cx}{pos:Pos}
theorem Bu{α:List (Option Addr)}{H:Hp}{ds:List D}{xs:List V}{d e f:D}(r:ax α H ds xs)(q:ds=[d,e,f]):∃v u t,xs=[v,u,t]/\Rep α H d v/\Rep α H e u/\Rep α H f t:=by
 subst q;unfold ax at r;obtain⟨v,q,rfl,h1,h2⟩:=r;obtain⟨u,t,rfl,h3,h4⟩:=kr h2 rfl;exact⟨v,u,t,rfl,h1,h3,h4⟩
def nJ(i j k:Nat):dg:=fun d σ=>match d with| .tup [x,y,z]=>some (((σ.set i (some x)).set j (some y)).set k (some z))|_=>none
theorem Ap{tg:Expr}{i j k:Nat}(h:PG X tg (AU X.K 3 (nV (eR i) (nV (eR j) (nV (eR k) Au))))):PG X tg (LG (nJ i j k)):=PG.imp h fun v σ H Q ⟨α,σd,st,d,K,G,F,P,R,S,r,⟨σ',e,q⟩,kk⟩=>by
 unfold nJ at e;split at e
 . rename_i x y z;cases e;unfold Rep at r;obtain⟨a,vs,rfl,na,h1,h2⟩:=r;obtain⟨v1,v2,v3,rfl,r1,r2,r3⟩:=Bu h2 rfl;exact⟨a,_,rfl,.of (P.get h1),rfl,v1,_,rfl,v2,_,rfl,v3,_,rfl,rfl,kk.here P q (((R.set i r1).set j r2).set k r3) S⟩
 . cases e
theorem F8{i j k n:Nat}{x y z:Str}{px py pz:Pos}(hc:X.calm=true)(hN:X.N.Nodup)(hx:Loc X.env.scope x)(hf:X.fn x=true\/X.env.scope.names.lookup x=some .local)(hy:Loc X.env.scope y)(hg:X.fn y=true\/X.env.scope.names.lookup y=some .local)(hz:Loc X.env.scope z)(hh:X.fn z=true\/X.env.scope.names.lookup z=some .local)
 (hi:X.N[i]?=some x:=by rfl) (hj:X.N[j]?=some y:=by rfl) (hk:X.N[k]?=some z:=by rfl):JG X (.Tuple [.Name x px,.Name y py,.Name z pz] n pos) (nJ i j k):=by
 unfold JG;exact Ap (zL hc (jW (ik hN hi hx hf) (jW (ik hN hj hy hg) (jW (ik hN hk hz hh) vF))))
end
end L3
namespace L3
open PySem L2 PySem.SeqAt
open PySem.Spec hiding items?
open PyProof.Rows hiding St
section
variable {X:Cx}{pins:List (Addr×Obj)}{σ:L2.St}{H:Hp}{s:Shared}{α:List (Option Addr)}
theorem wA{A:Around}{d e:D}{x y:V}{u v:Value}(hd:rT d=true)(he:rT e=true)(rd:Rep α H d x)(re:Rep α H e y)(rx:RelV x u)(ry:RelV y v):RcNeAt A s u v (!bH d e):=by
 cases d<;>cases e<;>try(first|(cases hd;done)|(cases he;done))
 all_goals(unfold Rep at rd re;subst rd re)
 all_goals(first|(obtain⟨t,rfl⟩:=rx;obtain⟨t',rfl⟩:=ry)|(obtain⟨t,rfl⟩:=rx;cases ry)|(cases rx;obtain⟨t,rfl⟩:=ry)|(cases rx;cases ry))
 all_goals unfold bH
 . exact RcNeAt.none_none
 . exact RcNeAt.none_bool _
 . exact RcNeAt.none_int _ _
 . exact RcNeAt.none_str _ _
 . exact RcNeAt.bool_none _
 . exact RcNeAt.bool_bool _ _
 . exact RcNeAt.bool_int _ _ _
 . exact RcNeAt.bool_str _ _ _
 . exact RcNeAt.int_none _ _
 . exact RcNeAt.int_bool _ _ _
 . exact RcNeAt.int_int _ _ _ _
 . exact RcNeAt.int_str _ _ _ _
 . exact RcNeAt.str_none _ _
 . exact RcNeAt.str_bool _ _ _
 . exact RcNeAt.str_int _ _ _ _
 . exact RcNeAt.str_str _ _ _ _
theorem sr(I:Inv X pins σ H s){A:Around}{xs:List D}{e:D}{x y:V}{u v:Value}(he:rT e=true)(rd:Rep α H (.lst xs) x)(re:Rep α H e y)(rx:RelV x u)(ry:RelV y v)(hu:A.units<cLine):
 RcNeAt A s u v (!bH (.lst xs) e)/\RcNeAt A s v u (!bH e (.lst xs)):=by
 obtain⟨a,vs,aj,rfl,_,_,hl⟩:=lst_is I rd rx;cases e<;>try(cases he;done)
 all_goals(unfold Rep at re;subst re)
 all_goals(first|(obtain⟨t,rfl⟩:=ry)|(cases ry))
 all_goals unfold bH
 . exact⟨RcNeAt.list_none hl hu,RcNeAt.none_list hl hu⟩
 . exact⟨RcNeAt.list_bool _ hl hu,RcNeAt.bool_list _ hl hu⟩
 . exact⟨RcNeAt.list_int _ _ hl hu,RcNeAt.int_list _ _ hl hu⟩
 . exact⟨RcNeAt.list_str _ _ hl hu,RcNeAt.str_list _ _ hl hu⟩
theorem r9(I:Inv X pins σ H s){A:Around}{xs:List D}{e:D}{x y:V}{u v:Value}(he:rT e=true)(rd:Rep α H (.tup xs) x)(re:Rep α H e y)(rx:RelV x u)(ry:RelV y v)(hu:A.units<cLine):
 RcNeAt A s u v (!bH (.tup xs) e)/\RcNeAt A s v u (!bH e (.tup xs)):=by
 obtain⟨a,vs,aj,rfl,_,_,hl⟩:=tup_is I rd rx;cases e<;>try(cases he;done)
 all_goals(unfold Rep at re;subst re)
 all_goals(first|(obtain⟨t,rfl⟩:=ry)|(cases ry))
 all_goals unfold bH
 . exact⟨RcNeAt.tuple_none hl hu,RcNeAt.none_tuple hl hu⟩
 . exact⟨RcNeAt.tuple_bool _ hl hu,RcNeAt.bool_tuple _ hl hu⟩
 . exact⟨RcNeAt.tuple_int _ _ hl hu,RcNeAt.int_tuple _ _ hl hu⟩
 . exact⟨RcNeAt.tuple_str _ _ hl hu,RcNeAt.str_tuple _ _ hl hu⟩
theorem Hk(I:Inv X pins σ H s)(n:Nat)(A:Around)(d e:D)(x y:V)(u v:Value)(hd:pl n d=true)(he:pl n e=true)(rd:Rep α H d x)(re:Rep α H e y)(rx:RelV x u)(ry:RelV y v)(hu:A.units+n<cLine):RcNeAt A s u v (!bH d e):=by
 cases n with
 |zero=>
  refine wA ?_ ?_ rd re rx ry
  . cases d<;>first|rfl|(cases hd)
  . cases e<;>first|rfl|(cases he)
 |succ n=>
  have hu0:A.units<cLine:=by omega
  have hin:A.in1.units+n<cLine:=by rw[Around.in1_units];omega
  cases d<;>try(cases hd;done)
  case lst xs=>
   cases e<;>try(cases he;done)
   case lst ys=>
    obtain⟨a,vs,aj,rfl,r1,v1,l1⟩:=lst_is I rd rx;obtain⟨b,ws,jts,rfl,r2,v2,l2⟩:=lst_is I re ry;have e1:=r1.length;have e2:=v1.length;have e3:=r2.length;have e4:=v2.length;unfold bH;by_cases hlen:xs.length=ys.length
    . rw[jK hlen];have hsz:aj.toArray.size=jts.toArray.size:=by simp only[List.size_toArray];omega
      have hx:xs.length=aj.toArray.size:=by simp only[List.size_toArray];omega
      rw[hx];refine RcNeAt.lists l1 l2 hsz hu0 fun j h1 h2=>?_;obtain⟨p,_,q1,q2⟩:=gw r1 v1 j (by simpa using h1);obtain⟨p',_,q1',q2'⟩:=gw r2 v2 j (by simpa using h2);exact(w6 I n A.in1 _ _ p p' _ _ (fv (by unfold pl at hd;exact hd) j) (fv (by unfold pl at he;exact he) j) q1 q1' (by simpa using q2) (by simpa using q2') hin).2
    . rw[jX hlen];exact RcNeAt.lists_lengths l1 l2 (by simp only[List.size_toArray,bne_iff_ne,ne_eq];omega) hu0
   case tup ys=>
    obtain⟨a,vs,aj,rfl,r1,v1,l1⟩:=lst_is I rd rx;obtain⟨b,ws,jts,rfl,r2,v2,l2⟩:=tup_is I re ry;unfold bH;exact RcNeAt.list_tuple l1 l2 hu0
   all_goals exact(sr I rfl rd re rx ry hu0).1
  case tup xs=>
   cases e<;>try(cases he;done)
   case tup ys=>
    obtain⟨a,vs,aj,rfl,r1,v1,l1⟩:=tup_is I rd rx;obtain⟨b,ws,jts,rfl,r2,v2,l2⟩:=tup_is I re ry;have e1:=r1.length;have e2:=v1.length;have e3:=r2.length;have e4:=v2.length;unfold bH
    have key:=RcNeAt.tuples (e:=fun j=>bH (xs.getD j .ay) (ys.getD j .ay)) l1 l2 hu0 fun j h1 h2=>by
     obtain⟨p,_,q1,q2⟩:=gw r1 v1 j (by simpa using h1);obtain⟨p',_,q1',q2'⟩:=gw r2 v2 j (by simpa using h2);exact(w6 I n A.in1 _ _ p p' _ _ (fv (by unfold pl at hd;exact hd) j) (fv (by unfold pl at he;exact he) j) q1 q1' (by simpa using q2) (by simpa using q2') hin).2
    by_cases hlen:xs.length=ys.length
    . rw[jK hlen];have hsz:aj.toArray.size=jts.toArray.size:=by simp only[List.size_toArray];omega
      have hx:xs.length=aj.toArray.size:=by simp only[List.size_toArray];omega
      rw[hsz,Nat.min_self,beq_self_eq_true,Bool.and_true,<-hsz,<-hx]at key;exact key
    . rw[jX hlen];have hne:(aj.toArray.size==jts.toArray.size)=false:=by simp only[List.size_toArray,beq_eq_false_iff_ne,ne_eq];omega
      rw[hne,Bool.and_false]at key;exact key
   case lst ys=>
    obtain⟨a,vs,aj,rfl,r1,v1,l1⟩:=tup_is I rd rx;obtain⟨b,ws,jts,rfl,r2,v2,l2⟩:=lst_is I re ry;unfold bH;exact RcNeAt.tuple_list l1 l2 hu0
   all_goals exact(r9 I rfl rd re rx ry hu0).1
  all_goals
   cases e<;>try(cases he;done)
   case lst ys=>exact(sr I rfl re rd ry rx hu0).2
   case tup ys=>exact(r9 I rfl re rd ry rx hu0).2
   all_goals exact wA rfl rfl rd re rx ry
def Eu:cG:=fun x y st K=>pl 40 x=true/\pl 40 y=true/\K (.bl (!bH x y)) st
theorem He{k:Nat}(hr:bw k X.A):bq X (compareOp .NotEq) (LR Eu):=fun pins s σ H x y v u Q I rx ry ⟨α,d,e,st,K,G,F',P,r1,r2,S,q,k⟩=>by
 have hu:=hr.units;exact Hk I 40 X.A d e x y v u q.1 q.2.1 (r1.mono P.same) (r2.mono P.same) rx ry (by omega) _ _ _ _ ⟨.bl (!bH d e),H,I,rfl,k.here P q.2.2 S (by unfold Rep;rfl)⟩
@[irreducible] def rB:cG:=Eu
theorem FW{k:Nat}(hr:bw k X.A):bq X (compareOp .NotEq) (LR rB):=by unfold rB;exact He hr
end
theorem Fi{st:aa}{K:DK}{d e:D}(h1:pl 40 d=true)(h2:pl 40 e=true)(k:K (.bl (!bH d e)) st):rB d e st K:=by unfold rB;exact⟨h1,h2,k⟩
theorem Ba{st:aa}{K:DK}{d:D}(h:pl 40 d=true)(k:K (.bl false) st):rB d d st K:=Fi h h (by rw[o7 40 d h];exact k)
theorem mU{st:aa}{n:Nat}{xs:List D}(h:items? st (.ref n)=some xs):st[n]?=some (.lst xs):=by
 unfold items? at h;simp only at h;split at h
 . rename_i q;cases h;exact q
 . cases h
theorem DF{st:aa}{d:D}{xs:List D}{K:List D->(aa->Prop)->aa->Prop}(h:items? st d=some xs)(k:∀ok:aa->Prop,(∀st',items? st' d=some xs->ok st')->K xs ok st):kB d st K:=by
 cases d with
 |lst ys=>cases h;exact rm (k _ fun _ _=>trivial)
 |tup ys=>cases h;exact hZ (k _ fun _ _=>trivial)
 |ref n=>
  have e:=mU h;unfold kB rC;simp only[e];exact k _ fun st' h'=>mU h'
 |_=>cases h
theorem lF{env:Env}:∀(l:List (Str×NameKind)) (x:Str),(l.lookup x=some .cell\/l.lookup x=some .free)->
 ((l.map fun(n,k)=>if(k== .free&&env.scope.kind== .function&&env.kindOf n==some .cell)then(n,.cell)else(n,k)).lookup x=some .cell\/(l.map fun(n,k)=>if(k== .free&&env.scope.kind== .function&&env.kindOf n==some .cell)then(n,.cell)else(n,k)).lookup x=some .free)
 | [],x,h=>by simp at h
 |(n,k)::l,x,h=>by
  rw[List.map_cons];dsimp only;by_cases hx:x=n
  . subst hx;rw[List.lookup_cons_self]at h;split
    . rw[List.lookup_cons_self];exact .inl rfl
    . rw[List.lookup_cons_self];exact h
  . have hb:(x==n)=false:=by simpa using hx
    have e1:List.lookup x ((n,k)::l)=List.lookup x l:=by rw[List.lookup_cons,hb]
    rw[e1]at h;have ih:=lF (env:=env) l x h;split
    . rw[List.lookup_cons,hb];exact ih
    . rw[List.lookup_cons,hb];exact ih
theorem a9.BG{X0:Cx}{scope0 scope:Scope}{Nc0 Nc:List Str}{C:Addr}{s:Shared}{H:Hp}{ex:List Addr}{fr:List (Option Nat)}(h:p_ scope0 Nc0 scope Nc fr=true):a9 (dH X0 scope0 Nc0 C s H ex) scope Nc fr:=by
 unfold p_ at h;simp only[Bool.and_eq_true]at h;obtain⟨⟨⟨⟨⟨h1,h2⟩,h3⟩,h4⟩,h5⟩,h6⟩:=h;refine⟨by simpa using h1,fun x hx hk=>?_,fun x hx hk=>?_,fun x hx hk=>?_,by simpa using h5,fun i j x e1 e2=>?_⟩
 . have:=List.all_eq_true.mp h2 x hx;rw[hk]at this;simpa using this
 . have:=List.all_eq_true.mp h3 x hx;rw[hk]at this;simpa using this
 . have:=List.all_eq_true.mp h4 x hx;rw[hk]at this;have z:scope0.names.lookup x.1=some .cell\/scope0.names.lookup x.1=some .free:=by simpa using this
   exact lF _ _ z
 . have hi:i<fr.length:=(List.getElem?_eq_some_iff.mp e2).1;have:=List.all_eq_true.mp h6 i (List.mem_range.mpr hi);rw[e1,e2]at this;simp only[Bool.and_eq_true,Bool.or_eq_true,beq_iff_eq]at this;exact⟨this.1.1,this.1.2,lF _ _ this.2⟩
end L3
namespace L3
open PySem L2
open PySem.Spec hiding items?
open PyProof.Rows hiding St
section
variable {X:Cx}
end
theorem zt{n:Nat}{d:D}(h:d∈cw 0 n):∃i:Nat,i<n/\d= .int (i:Int):=by
 unfold cw at h;obtain⟨i,hi,rfl⟩:=List.mem_map.mp h;rw[List.mem_range]at hi;exact⟨i,hi,by rw[Int.zero_add]⟩
theorem zl{f:Nat->D}(n:Nat):(cw 0 n).map (fun d=>match d with| .int i=>f i.toNat|_=> .ay)=(List.range n).map f:=by
 unfold cw;rw[List.map_map];refine List.map_congr_left fun i _=>?_;show f ((0:Int)+(i:Int)).toNat=f i;have:((0:Int)+(i:Int)).toNat=i:=by omega
 rw[this]
theorem jt{tg:dg}{te:DE}{σc:aR}{st:aa}{K:List D->aa->Prop}(f:Nat->D)(n:Nat)(hx:∀i:Nat,i<n->∀K',K' (f i) st->∃σ2,tg (.int (i:Int)) σc=some σ2/\te σ2 st K')(k:K ((List.range n).map f) st):bU tg bK te (fun _=>True) σc (cw 0 n) [] st K:=by
 refine comp_map (g:=fun d=>match d with| .int i=>f i.toNat|_=> .ay) trivial _ (fun d hd K' q=>?_) (by rw[zl];exact k);obtain⟨i,hi,rfl⟩:=zt hd;exact hx i hi K' q
theorem sC{tg:dg}{body:DS}{E:e9}(n:Nat)(I:Nat->aR->aa->Prop)(hend:∀σ st,I n σ st->E.nx σ st)
 (hstep:∀(j:Nat) σ st (rest:List D),j<n->I j σ st->(∀σ' st',I (j+1) σ' st'->fA tg body (fun _=>True) E rest σ' st')->∃σ1,tg (.int (j:Int)) σ=some σ1/\body {E with nx:=fA tg body (fun _=>True) E rest,ct:=fA tg body (fun _=>True) E rest,bk:=E.nx} σ1 st)
 {σ:aR} {st:aa} (h0:I 0 σ st):fA tg body (fun _=>True) E (cw 0 n) σ st:=by
 refine gA (fun rest σ st=>∃j:Nat,j<=n/\rest=(List.range (n-j)).map (fun i=>D.int (((j+i:Nat):Int)))/\I j σ st) ?_ ?_ _ _ _ ⟨0,Nat.zero_le _,by unfold cw;simp,h0⟩
 . rintro σ st ⟨j,hj,hr,hI⟩
   have:n-j=0:=by
    cases q:n-j with
    |zero=>rfl
    |succ m=>rw[q,List.range_succ_eq_map]at hr;cases hr
   have hjn:j=n:=by omega
   subst hjn;exact⟨trivial,hend σ st hI⟩
 . rintro d rest σ st ⟨j,hj,hr,hI⟩ next
   cases q:n-j with
   |zero=>rw[q]at hr;cases hr
   |succ m=>
    rw[q,List.range_succ_eq_map,List.map_cons,List.map_map]at hr;simp only[List.cons.injEq]at hr;obtain⟨rfl,hrest⟩:=hr;refine⟨trivial,hstep j σ st rest (by omega) hI fun σ' st' h'=>next σ' st' ⟨j+1,by omega,?_,h'⟩⟩;have:n-(j+1)=m:=by omega
    rw[this,hrest];refine List.map_congr_left fun i _=>?_;show D.int (((j+(i+1):Nat):Int))=D.int (((j+1+i:Nat):Int));congr 2;omega
section
variable {X:Cx}
end
section
variable {X:Cx}{pos:Pos}
end
section
variable {X:Cx}
theorem qF{M:Model}{A:Around}{E:Value->Shared->Prop}{s:Shared}{Q:Value->Shared->Prop}{x:V}{v:Value}{b:Bool}(r:RelV x v)(h:Q (.bool (!(v== .bool b))) s):wpAny M A (compareOp .IsNot v (.bool b)) Q E s:=by
 cases x
 case bl c=>
  cases r;cases c<;>cases b<;>exact wpAny_pure h
 all_goals first
  |(cases r;exact wpAny_pure h)
  |(obtain⟨t,rfl⟩:=r;exact wpAny_pure h)
def uJ:cG:=fun x y st K=>match y with| .ay=>live st x=true/\K (.bl (!HH x)) st| .bl b=>live st x=true/\K (.bl (!B5 x b)) st|_=>False
theorem Ab:bq X (compareOp .IsNot) (LR uJ):=fun pins s σ H x y v u Q I rx ry ⟨α,d,e,st,K,G,F',P,r1,r2,S,q,k⟩=>by
 cases e<;>try exact q.elim
 . refine CN pins s σ H x y v u Q I rx ry ⟨α,d,.ay,st,K,G,F',P,r1,r2,S,⟨q.1,?_⟩,k⟩;have q2:=q.2;cases d<;>exact q2
 . rename_i b;unfold Rep at r2;subst r2;cases ry;refine qF rx ?_;rw[Dr S q.1 r1 rx];exact⟨.bl (!B5 d b),H,I,rfl,k.here P q.2 S (by unfold Rep;rfl)⟩
@[irreducible] def ka:cG:=uJ
theorem zh:bq X (compareOp .IsNot) (LR ka):=by unfold ka;exact Ab
end
section
variable {st:aa}{K:DK}{d:D}{b:Bool}
theorem yj(h:live st d=true)(k:K (.bl (!HH d)) st):ka d .ay st K:=by unfold ka;exact⟨h,k⟩
theorem G9(h:live st d=true)(k:K (.bl (!B5 d b)) st):ka d (.bl b) st K:=by unfold ka;exact⟨h,k⟩
end
section
variable {X:Cx}
end
end L3
namespace L3
open PySem L2
open PySem.Spec hiding items?
open PyProof.Rows hiding St
open AutoSeq1 (wpAny_loadPart')
end L3
namespace L3
open PySem L2
open PySem.Spec hiding items?
open PyProof.Rows hiding St
section
variable {prog:Program}{w:World}{A:Around}{E:Value->Shared->Prop}{s:Shared}
end
section
variable {X:Cx}{tg:Expr}
end
section
variable {X:Cx}
end
end L3
namespace L3
open PySem L2
open PySem.Spec hiding items?
open PyProof.Rows hiding St
open PySem PySem.Spec L2 PySem.SeqAt
section
variable {X:Cx}
end
end L3
namespace L3
open PySem L2
open PySem.Spec hiding items?
open PyProof.Rows hiding St
section
variable {X:Cx}
end
abbrev cQ(h:Heap)(T:Addr)(a b c:Value):Prop:=h.get? T=some {cls:= .type "tuple",data:= .seq #[a,b,c]}
section
variable {P:Program}{w:World}
theorem cH{A:Around}{s:Shared}{E:Value->Shared->Prop}{T:Addr}{a b c x:Value}{k:Nat}{Q:Unit->Shared->Prop}(hT:cQ s.heap T a b c)
 (h:∀h',h'.get? T=some {cls:= .type "tuple",data:= .seq ((#[a,b,c]:Array Value).setIfInBounds k x)}->Heap.SameBut T s.heap h'->Q () {s with heap:=h'}):
 wpAny (model P w) A (updateSeq T (·.setIfInBounds k x)) Q E s:=by
 refine wpAny_updateSeq hT rfl (h _ ?_ (Heap.SameBut.update ..));rw[Heap.get?_update_self _ hT rfl];simp[Obj.mapSeq]
structure BL(z ti to t1 t2 t3 a1 a2 a3:Nat):Prop where
 f:(ti≠z/\to≠z/\t1≠z/\t2≠z/\t3≠z)/\(ti≠to/\ti≠t1/\ti≠t2/\ti≠t3)/\(to≠t1/\to≠t2/\to≠t3)/\(t1≠t2/\t1≠t3/\t2≠t3)
 a1:a1≠z/\a1≠to/\a1≠t1/\a1≠t2/\a1≠t3
 a2:a2≠z/\a2≠to/\a2≠t1/\a2≠t2/\a2≠t3
 a3:a3≠z/\a3≠to/\a3≠t1/\a3≠t2/\a3≠t3
section
variable {z ti to t1 t2 t3 a1 a2 a3:Addr}
theorem zR{A:Around}{s:Shared}{E:Value->Shared->Prop}{J1 J2 J3:Nat->Heap->Prop}{us vs ws:Array Value}{n:Nat}{x y u a b c:Value}{Q:Value->Shared->Prop}(D:BL z ti to t1 t2 t3 a1 a2 a3)(S1:Src P w t1 a1 J1 us)(S2:Src P w t2 a2 J2 vs)(S3:Src P w t3 a3 J3 ws)
 (Z:IsZip s.heap z ti to .none) (pI:cQ s.heap ti (.ref t1) (.ref t2) (.ref t3)) (pO:cQ s.heap to a b c) (j1:J1 n s.heap) (j2:J2 n s.heap) (j3:J3 n s.heap) (ex:us[n]?=some x) (ey:vs[n]?=some y) (ez:ws[n]?=some u)
 (q:∀k,IsZip k z ti to (rawInt s.heap.objs.size)->cQ k to x y u->J1 (n+1) k->J2 (n+1) k->J3 (n+1) k->cQ k s.heap.objs.size x y u->k.objs.size=s.heap.objs.size+1->
   (∀c o,c≠z->c≠to->c≠t1->c≠t2->c≠t3->s.heap.get? c=some o->k.get? c=some o)->Q (.ref s.heap.objs.size) {s with heap:=k}):
 wpAny (model P w) A (Builtin.«zip.__next__» ⟨[.ref z],[]⟩) (fun fin s'=>∃v,fin= .done (.ret v)/\Q v s') E s:=by
 obtain⟨⟨n1,n2,n3,n4,n4'⟩,⟨n5,n6,n7,n7'⟩,⟨n8,n9,n9'⟩,n10,n11,n12⟩:=D.f;obtain⟨p1,p2,p3,p4,p5⟩:=D.a1;obtain⟨q1,q2,q3,q4,q5⟩:=D.a2;obtain⟨r1,r2,r3,r4,r5⟩:=D.a3;show wpAny _ _ (field (.ref z) 2 >>= _) _ _ _;refine wpAny_bind (wpAny_field Z rfl (x:= .bool false) rfl ?_);show wpAny _ _ (field (.ref z) 3 >>= _) _ _ _;refine wpAny_bind (wpAny_field Z rfl (x:= .ref ti) rfl ?_);refine wpAny_bind (wpAny_seqItems pI rfl ?_);show wpAny _ _ (Builtin.SmallTypes.ownedTupleIsFree (.ref z) >>= _) _ _ _;refine wpAny_bind ?_;unfold Builtin.SmallTypes.ownedTupleIsFree;refine wpAny_bind (wpAny_field Z rfl (x:= .none) rfl (wpAny_pure ?_));simp only[if_true];refine wpAny_bind (wpAny_rule ?_);refine wpAny_bind (wpAny_field Z rfl (x:= .ref to) rfl ?_);refine wpAny_bind (wpAny_setField_rec Z (by simp) fun k1 Z1 b1=>?_);replace Z1:IsZip k1 z ti to .ellipsis:=Z1;refine wpAny_bind ?_;simp only[List.zipIdx_cons,List.zipIdx_nil,List.forIn_cons,List.forIn_nil];refine wpAny_bind (wpAny_bind (wpAny_onRaise ?_));show wpAny _ _ (Builtin.SmallTypes.nextOf (.ref t1) >>= _) _ _ _;refine wpAny_bind (S1.nx n _ _ _ _ x (S1.ext j1 b1.extBut (Ne.symm n3) (Ne.symm p1)) ex fun k2 j1b b2=>wpAny_pure ?_);have pO2:cQ k2 to a b c:=b2.extBut _ _ n8 (b1.extBut _ _ n2 pO);refine wpAny_bind (wpAny_seqItems pO2 rfl ?_);refine wpAny_bind (cH pO2 fun k3 pO3 b3=>?_);replace pO3:cQ k3 to x b c:=pO3;refine wpAny_bind (wpAny_letGo (wpAny_pure ?_));refine wpAny_bind (wpAny_bind (wpAny_onRaise ?_));show wpAny _ _ (Builtin.SmallTypes.nextOf (.ref t2) >>= _) _ _ _;have j2c:J2 n k3:=S2.ext (S2.ext (S2.ext j2 b1.extBut (Ne.symm n4) (Ne.symm q1)) b2.extBut n10 (Ne.symm q3)) b3.extBut n9 (Ne.symm q2);refine wpAny_bind (S2.nx n _ _ _ _ y j2c ey fun k4 j2d b4=>wpAny_pure ?_);have pO4:cQ k4 to x b c:=b4.extBut _ _ n9 pO3;refine wpAny_bind (wpAny_seqItems pO4 rfl ?_);refine wpAny_bind (cH pO4 fun k5 pO5 b5=>?_);replace pO5:cQ k5 to x y c:=pO5;refine wpAny_bind (wpAny_letGo (wpAny_pure ?_));refine wpAny_bind (wpAny_bind (wpAny_onRaise ?_));show wpAny _ _ (Builtin.SmallTypes.nextOf (.ref t3) >>= _) _ _ _;have j3c:J3 n k5:=S3.ext (S3.ext (S3.ext (S3.ext (S3.ext j3 b1.extBut (Ne.symm n4') (Ne.symm r1)) b2.extBut n11 (Ne.symm r3)) b3.extBut n9' (Ne.symm r2)) b4.extBut n12 (Ne.symm r4)) b5.extBut n9' (Ne.symm r2);refine wpAny_bind (S3.nx n _ _ _ _ u j3c ez fun k6 j3d b6=>wpAny_pure ?_);have pO6:cQ k6 to x y c:=b6.extBut _ _ n9' pO5;refine wpAny_bind (wpAny_seqItems pO6 rfl ?_);refine wpAny_bind (cH pO6 fun k7 pO7 b7=>?_);replace pO7:cQ k7 to x y u:=pO7;refine wpAny_bind (wpAny_letGo (wpAny_pure (wpAny_pure ?_)));refine wpAny_bind (wpAny_seqItems pO7 rfl ?_);refine wpAny_bind (wpAny_newTuple ?_);have sz:k7.objs.size=s.heap.objs.size:=by rw[b7.1,b6.1,b5.1,b4.1,b3.1,b2.1,b1.1]
 have kp7:∀c o,c≠z->c≠to->c≠t1->c≠t2->c≠t3->s.heap.get? c=some o->k7.get? c=some o:=fun c o c1 c2 c3 c4 c5 e=>b7.extBut _ _ c2 (b6.extBut _ _ c5 (b5.extBut _ _ c2 (b4.extBut _ _ c4 (b3.extBut _ _ c2 (b2.extBut _ _ c3 (b1.extBut _ _ c1 e))))));have Z7:IsZip k7 z ti to .ellipsis:=b7.extBut _ _ (Ne.symm n2) (b6.extBut _ _ (Ne.symm n4') (b5.extBut _ _ (Ne.symm n2) (b4.extBut _ _ (Ne.symm n4) (b3.extBut _ _ (Ne.symm n2) (b2.extBut _ _ (Ne.symm n3) Z1)))));have j1e:J1 (n+1) k7:=S1.ext (S1.ext (S1.ext (S1.ext (S1.ext j1b b3.extBut n8 (Ne.symm p2)) b4.extBut (Ne.symm n10) (Ne.symm p4)) b5.extBut n8 (Ne.symm p2)) b6.extBut (Ne.symm n11) (Ne.symm p5)) b7.extBut n8 (Ne.symm p2);have j2e:J2 (n+1) k7:=S2.ext (S2.ext (S2.ext j2d b5.extBut n9 (Ne.symm q2)) b6.extBut (Ne.symm n12) (Ne.symm q5)) b7.extBut n9 (Ne.symm q2);have j3e:J3 (n+1) k7:=S3.ext j3d b7.extBut n9' (Ne.symm r2);have ltz:z<k7.objs.size:=Heap.lt_size Z7;show wpAny _ _ (Builtin.SmallTypes.ownedTupleHandOut (.ref z) (.ref k7.objs.size) >>= _) _ _ _;refine wpAny_bind ?_;unfold Builtin.SmallTypes.ownedTupleHandOut;have Z8:IsZip (k7.push {cls:= .type "tuple",data:= .seq #[x,y,u]}) z ti to .ellipsis:=Heap.get?_push_of_some _ Z7;refine wpAny_bind (wpAny_setField_rec Z8 (by simp) fun k9 Z9 b9=>?_);replace Z9:IsZip k9 z ti to (rawInt k7.objs.size):=Z9;refine wpAny_setField_rec Z9 (by simp) fun k10 Z10 b10=>?_;replace Z10:IsZip k10 z ti to (rawInt k7.objs.size):=Z10;have up:∀c o,c≠z->k7.get? c=some o->k10.get? c=some o:=fun c o c1 e=>b10.extBut _ _ c1 (b9.extBut _ _ c1 (Heap.get?_push_of_some _ e));have pT:cQ k10 k7.objs.size x y u:=b10.extBut _ _ (Nat.ne_of_gt ltz) (b9.extBut _ _ (Nat.ne_of_gt ltz) (Heap.get?_push_size _ rfl));have sz10:k10.objs.size=k7.objs.size+1:=by rw[b10.1,b9.1,Heap.size_push]
 rw[sz]at Z10 pT sz10;refine wpAny_pure ⟨_,rfl,?_⟩;show Q (.ref k7.objs.size) _;rw[sz];refine q k10 Z10 (up _ _ n2 pO7) (S1.fr _ _ _ j1e fun b hb o e=>up b o ?_ e) (S2.fr _ _ _ j2e fun b hb o e=>up b o ?_ e) (S3.fr _ _ _ j3e fun b hb o e=>up b o ?_ e) pT sz10 fun c o c1 c2 c3 c4 c5 e=>up c o c1 (kp7 c o c1 c2 c3 c4 c5 e)
 . rcases hb with rfl|rfl
   . exact n3
   . exact p1
 . rcases hb with rfl|rfl
   . exact n4
   . exact q1
 . rcases hb with rfl|rfl
   . exact n4'
   . exact r1
theorem AY{A:Around}{s:Shared}{E:Value->Shared->Prop}{J1 J2 J3:Nat->Heap->Prop}{us vs ws:Array Value}{n:Nat}{a b c:Value}{Q:Fin->Shared->Prop}(hh:A.handled=none)(D:BL z ti to t1 t2 t3 a1 a2 a3)(S1:Src P w t1 a1 J1 us)(S2:Src P w t2 a2 J2 vs)(S3:Src P w t3 a3 J3 ws)
 (Z:IsZip s.heap z ti to .none) (pI:cQ s.heap ti (.ref t1) (.ref t2) (.ref t3)) (pO:cQ s.heap to a b c) (j1:J1 n s.heap) (j2:J2 n s.heap) (j3:J3 n s.heap) (he:us[n]?=none\/vs[n]?=none\/ws[n]?=none)
 (q:∀k e,(∀c o,c≠z->c≠to->c≠t1->c≠t2->c≠t3->s.heap.get? c=some o->k.get? c=some o)->(∃o,k.get? e=some o/\o.cls= .type "StopIteration")->E (.ref e) {s with heap:=k}):
 wpAny (model P w) A (Builtin.«zip.__next__» ⟨[.ref z],[]⟩) Q E s:=by
 obtain⟨⟨n1,n2,n3,n4,n4'⟩,⟨n5,n6,n7,n7'⟩,⟨n8,n9,n9'⟩,n10,n11,n12⟩:=D.f;obtain⟨p1,p2,p3,p4,p5⟩:=D.a1;obtain⟨q1,q2,q3,q4,q5⟩:=D.a2;obtain⟨r1,r2,r3,r4,r5⟩:=D.a3;show wpAny _ _ (field (.ref z) 2 >>= _) _ _ _;refine wpAny_bind (wpAny_field Z rfl (x:= .bool false) rfl ?_);show wpAny _ _ (field (.ref z) 3 >>= _) _ _ _;refine wpAny_bind (wpAny_field Z rfl (x:= .ref ti) rfl ?_);refine wpAny_bind (wpAny_seqItems pI rfl ?_);show wpAny _ _ (Builtin.SmallTypes.ownedTupleIsFree (.ref z) >>= _) _ _ _;refine wpAny_bind ?_;unfold Builtin.SmallTypes.ownedTupleIsFree;refine wpAny_bind (wpAny_field Z rfl (x:= .none) rfl (wpAny_pure ?_));simp only[if_true];refine wpAny_bind (wpAny_rule ?_);refine wpAny_bind (wpAny_field Z rfl (x:= .ref to) rfl ?_);refine wpAny_bind (wpAny_setField_rec Z (by simp) fun k1 Z1 b1=>?_);replace Z1:IsZip k1 z ti to .ellipsis:=Z1;refine wpAny_bind ?_;simp only[List.zipIdx_cons,List.zipIdx_nil,List.forIn_cons,List.forIn_nil];refine wpAny_bind (wpAny_bind (wpAny_onRaise ?_));show wpAny _ _ (Builtin.SmallTypes.nextOf (.ref t1) >>= _) _ _ _;have j1a:J1 n k1:=S1.ext j1 b1.extBut (Ne.symm n3) (Ne.symm p1);cases ex:us[n]? with
 |none=>
  refine wpAny_bind (S1.en n _ _ _ _ hh j1a ex fun k2 e b2 hx=>?_);obtain⟨oe,he1,he2⟩:=hx;have Z2:IsZip k2 z ti to .ellipsis:=b2 _ _ (Ne.symm n3) Z1;have hez:e≠z:=fun c=>by subst c;rw[Z2]at he1;cases he1;simp at he2
  refine wpAny_setField_rec Z2 (by simp) fun k3 _ b3=>q k3 e (fun c o c1 _ c3 _ _ f=>b3.extBut _ _ c1 (b2 _ _ c3 (b1.extBut _ _ c1 f))) ⟨oe,b3.extBut _ _ hez he1,he2⟩
 |some x=>
  refine wpAny_bind (S1.nx n _ _ _ _ x j1a ex fun k2 j1b b2=>wpAny_pure ?_);have pO2:cQ k2 to a b c:=b2.extBut _ _ n8 (b1.extBut _ _ n2 pO);refine wpAny_bind (wpAny_seqItems pO2 rfl ?_);refine wpAny_bind (cH pO2 fun k3 pO3 b3=>?_);replace pO3:cQ k3 to x b c:=pO3;refine wpAny_bind (wpAny_letGo (wpAny_pure ?_));refine wpAny_bind (wpAny_bind (wpAny_onRaise ?_));show wpAny _ _ (Builtin.SmallTypes.nextOf (.ref t2) >>= _) _ _ _;have j2c:J2 n k3:=S2.ext (S2.ext (S2.ext j2 b1.extBut (Ne.symm n4) (Ne.symm q1)) b2.extBut n10 (Ne.symm q3)) b3.extBut n9 (Ne.symm q2);cases ey:vs[n]? with
  |none=>
   refine wpAny_bind (S2.en n _ _ _ _ hh j2c ey fun k4 e b4 hx=>?_);obtain⟨oe,he1,he2⟩:=hx;have Z4:IsZip k4 z ti to .ellipsis:=b4 _ _ (Ne.symm n4) (b3.extBut _ _ (Ne.symm n2) (b2.extBut _ _ (Ne.symm n3) Z1));have hez:e≠z:=fun c=>by subst c;rw[Z4]at he1;cases he1;simp at he2
   refine wpAny_setField_rec Z4 (by simp) fun k5 _ b5=>q k5 e (fun c o c1 c2 c3 c4 _ f=>b5.extBut _ _ c1 (b4 _ _ c4 (b3.extBut _ _ c2 (b2.extBut _ _ c3 (b1.extBut _ _ c1 f))))) ⟨oe,b5.extBut _ _ hez he1,he2⟩
  |some y=>
   have ez:ws[n]?=none:=by
    rcases he with h|h|h
    . rw[ex]at h;cases h
    . rw[ey]at h;cases h
    . exact h
   refine wpAny_bind (S2.nx n _ _ _ _ y j2c ey fun k4 j2d b4=>wpAny_pure ?_);have pO4:cQ k4 to x b c:=b4.extBut _ _ n9 pO3;refine wpAny_bind (wpAny_seqItems pO4 rfl ?_);refine wpAny_bind (cH pO4 fun k5 pO5 b5=>?_);refine wpAny_bind (wpAny_letGo (wpAny_pure ?_));refine wpAny_bind (wpAny_bind (wpAny_onRaise ?_));show wpAny _ _ (Builtin.SmallTypes.nextOf (.ref t3) >>= _) _ _ _;have j3c:J3 n k5:=S3.ext (S3.ext (S3.ext (S3.ext (S3.ext j3 b1.extBut (Ne.symm n4') (Ne.symm r1)) b2.extBut n11 (Ne.symm r3)) b3.extBut n9' (Ne.symm r2)) b4.extBut n12 (Ne.symm r4)) b5.extBut n9' (Ne.symm r2);refine wpAny_bind (S3.en n _ _ _ _ hh j3c ez fun k6 e b6 hx=>?_);obtain⟨oe,he1,he2⟩:=hx;have Z6:IsZip k6 z ti to .ellipsis:=b6 _ _ (Ne.symm n4') (b5.extBut _ _ (Ne.symm n2) (b4.extBut _ _ (Ne.symm n4) (b3.extBut _ _ (Ne.symm n2) (b2.extBut _ _ (Ne.symm n3) Z1))));have hez:e≠z:=fun c=>by subst c;rw[Z6]at he1;cases he1;simp at he2
   refine wpAny_setField_rec Z6 (by simp) fun k7 _ b7=>q k7 e (fun c o c1 c2 c3 c4 c5 f=>b7.extBut _ _ c1 (b6 _ _ c5 (b5.extBut _ _ c2 (b4.extBut _ _ c4 (b3.extBut _ _ c2 (b2.extBut _ _ c3 (b1.extBut _ _ c1 f))))))) ⟨oe,b7.extBut _ _ hez he1,he2⟩
end
end
def EZ(K:PySem.W.Frag)(k1 k2 k3:SK)(a1 a2 a3:Addr):It:=
 ⟨fun i H=>∃xs ys zs x y z,gS k1 K H a1 xs/\gS k2 K H a2 ys/\gS k3 K H a3 zs/\xs[i]?=some x/\ys[i]?=some y/\zs[i]?=some z,
  fun i H v H'=>∃T x y z,H T=none/\v= .ref T/\H'=upd H T (.tup [x,y,z])/\(∀xs,gS k1 K H a1 xs->xs[i]?=some x)/\(∀ys,gS k2 K H a2 ys->ys[i]?=some y)/\∀zs,gS k3 K H a3 zs->zs[i]?=some z,
  fun i H=>∃xs ys zs,gS k1 K H a1 xs/\gS k2 K H a2 ys/\gS k3 K H a3 zs/\(xs.length<=i\/ys.length<=i\/zs.length<=i)⟩
def Fd(z ti to t1 t2 t3 a1 a2 a3:Addr)(k1 k2 k3:SK)(i:Nat)(h:Heap):Prop:=IsZip h z ti to .none/\cQ h ti (.ref t1) (.ref t2) (.ref t3)/\(∃a b c,cQ h to a b c)/\jI k1 t1 a1 i h/\jI k2 t2 a2 i h/\jI k3 t3 a3 i h
theorem zH{P:Program}{w:World}{K:PySem.W.Frag}{elts:List Expr}{kx:Nat}{pos:Pos}{z ti to t1 t2 t3 a1 a2 a3:Addr}(k1 k2 k3:SK)(D:BL z ti to t1 t2 t3 a1 a2 a3):
 Turn P w K (.Tuple elts kx pos) (EZ K k1 k2 k3 a1 a2 a3) [z,ti,to,t1,t2,t3] z (Fd z ti to t1 t2 t3 a1 a2 a3 k1 k2 k3) where
 mem:=by simp
 obj:=fun i h st b hb=>by
  obtain⟨Z,pI,⟨a,b',c',pO⟩,i1,i2,i3⟩:=st;simp only[List.mem_cons,List.not_mem_nil,or_false]at hb;rcases hb with rfl|rfl|rfl|rfl|rfl|rfl
  . exact⟨_,Z,fun v e=>by cases e⟩
  . exact⟨_,pI,fun v e=>by cases e⟩
  . exact⟨_,pO,fun v e=>by cases e⟩
  . exact fb i1
  . exact fb i2
  . exact fb i3
 keep:=fun i h h' st k=>by
  obtain⟨Z,pI,⟨a,b',c',pO⟩,i1,i2,i3⟩:=st;exact⟨k z (by simp) _ Z,k ti (by simp) _ pI,⟨a,b',c',k to (by simp) _ pO⟩,gc i1 (k t1 (by simp)),gc i2 (k t2 (by simp)),gc i3 (k t3 (by simp))⟩
 item:=by
  intro X hP hw hK hc i pins s σ H E I hf st hg;subst hP hw hK;obtain⟨Z,pI,⟨a,b',c',pO⟩,i1,i2,i3⟩:=st;obtain⟨xs,ys,zs,x,y,zz,q1,q2,q3,ex,ey,ez⟩:=hg;obtain⟨us,r1,l1⟩:=dB I q1;obtain⟨vs,r2,l2⟩:=dB I q2;obtain⟨ws,r3,l3⟩:=dB I q3;obtain⟨u,eu,ru⟩:=r1.get ex;obtain⟨v,ev,rv⟩:=r2.get ey;obtain⟨wv,ew,rw'⟩:=r3.get ez;obtain⟨⟨n1,n2,n3,n4,n4'⟩,⟨n5,n6,n7,n7'⟩,⟨n8,n9,n9'⟩,n10,n11,n12⟩:=D.f;have tz:s.TypeIs (.ref z) "zip":=⟨_,Z,rfl⟩
  unfold pyNext;refine wpAny_bind (wpAny_attempt (wpAny_callSpecial?_slot (name:=Str.ofString "__next__") tz F.slot_zip_next (wpAny_call_entry F.slot_zip_next tz F.entry_zip_next (zR D (iP k1 t1 a1 D.a1.2.2.1 us.toArray) (iP k2 t2 a2 D.a2.2.2.2.1 vs.toArray) (iP k3 t3 a3 D.a3.2.2.2.2 ws.toArray) Z pI pO ⟨i1,l1⟩ ⟨i2,l2⟩ ⟨i3,l3⟩ (x:=u) (y:=v) (u:=wv) (by simpa using eu) (by simpa using ev) (by simpa using ew) fun k Z2 pO2 j1 j2 j3 pT szk kp=>wpAny_pure ⟨_,rfl,?_⟩) (F.args_zip_next_1 _))));refine wpAny_letOwnedTupleGo_zip (s:={s with heap:=k}) Z2 fun k' Z3 b3=>?_;have hT:s.heap.objs.size≠z:=Nat.ne_of_gt (Heap.lt_size Z)
  have kp3:∀b o,b∉[z,ti,to,t1,t2,t3]->s.heap.get? b=some o->k'.get? b=some o:=fun b o hb e=>by
   simp only[List.mem_cons,not_or,List.not_mem_nil,not_false_eq_true,and_true]at hb;exact b3.extBut _ _ hb.1 (kp b o hb.1 hb.2.2.1 hb.2.2.2.1 hb.2.2.2.2.1 hb.2.2.2.2.2 e)
  refine⟨.ref s.heap.objs.size,upd H s.heap.objs.size (.tup [x,y,zz]),Cp (s:=s) (tk:=s.toks) I hf kp3 (Nat.le_refl _) ?_,rfl,⟨s.heap.objs.size,x,y,zz,I.aw.fresh (Nat.le_refl _),rfl,rfl,?_,?_,?_⟩,?_,?_⟩
  . refine⟨Nat.le_of_ble_eq_true rfl,[u,v,wv],.cons ru (.cons rv (.cons rw' .nil)),?_⟩;exact⟨_,b3.extBut _ _ hT pT,rfl,_,rfl⟩
  . intro xs' q';rw[kM I q' q1];exact ex
  . intro ys' q';rw[kM I q' q2];exact ey
  . intro zs' q';rw[kM I q' q3];exact ez
  . refine⟨Z3,b3.extBut _ _ n1 (kp _ _ n1 n5 n6 n7 n7' pI),⟨_,_,_,b3.extBut _ _ n2 pO2⟩,gc j1.1 fun o e=>b3.extBut _ _ n3 e,gc j2.1 fun o e=>b3.extBut _ _ n4 e,gc j3.1 fun o e=>b3.extBut _ _ n4' e⟩
  . intro b hb
    have:b≠s.heap.objs.size:=by
     obtain⟨o,e,_⟩:∃o,s.heap.get? b=some o/\True:=by
      simp only[List.mem_cons,List.not_mem_nil,or_false]at hb;rcases hb with rfl|rfl|rfl|rfl|rfl|rfl
      . exact⟨_,Z,trivial⟩
      . exact⟨_,pI,trivial⟩
      . exact⟨_,pO,trivial⟩
      . obtain⟨o,e,_⟩:=fb i1;exact⟨o,e,trivial⟩
      . obtain⟨o,e,_⟩:=fb i2;exact⟨o,e,trivial⟩
      . obtain⟨o,e,_⟩:=fb i3;exact⟨o,e,trivial⟩
     exact Nat.ne_of_lt (Heap.lt_size e)
    rw[L2.aq this];exact(hf b hb).1
 done:=by
  intro X hP hw hK hc i pins s σ H E I hf st hg;subst hP hw hK;obtain⟨Z,pI,⟨a,b',c',pO⟩,i1,i2,i3⟩:=st;obtain⟨xs,ys,zs,q1,q2,q3,he⟩:=hg;obtain⟨us,r1,l1⟩:=dB I q1;obtain⟨vs,r2,l2⟩:=dB I q2;obtain⟨ws,r3,l3⟩:=dB I q3;have e1:=r1.length;have e2:=r2.length;have e3:=r3.length;have tz:s.TypeIs (.ref z) "zip":=⟨_,Z,rfl⟩
  unfold pyNext;refine wpAny_bind (wpAny_attempt (wpAny_callSpecial?_slot (name:=Str.ofString "__next__") tz F.slot_zip_next (wpAny_call_entry F.slot_zip_next tz F.entry_zip_next (AY (I.ok.hd hc) D (iP k1 t1 a1 D.a1.2.2.1 us.toArray) (iP k2 t2 a2 D.a2.2.2.2.1 vs.toArray) (iP k3 t3 a3 D.a3.2.2.2.2 ws.toArray) Z pI pO ⟨i1,l1⟩ ⟨i2,l2⟩ ⟨i3,l3⟩ ?_ fun k e kp hx=>?_) (F.args_zip_next_1 _))))
  . rcases he with h|h|h
    . left;simp;omega
    . right;left;simp;omega
    . right;right;simp;omega
  . obtain⟨o,ho,hc2⟩:=hx;refine wpAny_bind (wpAny_isInstance (T:="StopIteration") (b:=true) ⟨o,ho,hc2⟩ isSubtype_stop ?_);refine wpAny_pure ⟨rfl,BZ (s:=s) (tk:=s.toks) I hf fun b o hb e=>?_⟩;simp only[List.mem_cons,not_or,List.not_mem_nil,not_false_eq_true,and_true]at hb;exact kp b o hb.1 hb.2.2.1 hb.2.2.2.1 hb.2.2.2.2.1 hb.2.2.2.2.2 e
 self:=fun _ _ _ _ _ st h=>wpAny_pyIter_zip st.1 h
theorem qK(a b c:Value):checkTypeCall "zip" ⟨[a,b,c],[]⟩=pure ():=by kernel_rfl
theorem sR(a b c:Value):checkBuiltinCall "zip.__new__" ⟨[.type "zip",a,b,c],[]⟩=pure ():=by kernel_rfl
theorem m_(a b c d:Value):argsOk "object.__init__" ⟨[a,b,c,d],[]⟩:=by
 unfold argsOk;rw[signature?_of (id:="object.__init__") (n:=['_','_','t','i','n','i','_','_']) (o:=['t','c','e','j','b','o']) (by kernel_rfl) F.owner_object];kernel_rfl
abbrev BH(h:Heap)(k1 k2 k3:SK)(a1 a2 a3:Addr):Heap:=(rY h k1 k2 a1 a2).push (ki k3 a3)
abbrev BN(h:Heap)(k1 k2 k3:SK)(a1 a2 a3:Addr):Heap:=(BH h k1 k2 k3 a1 a2 a3).push {cls:= .type "tuple",data:= .seq #[.ref h.objs.size,.ref (u5 h k1 a1).objs.size,.ref (rY h k1 k2 a1 a2).objs.size]}
abbrev BE(h:Heap)(k1 k2 k3:SK)(a1 a2 a3:Addr):Heap:=(BN h k1 k2 k3 a1 a2 a3).push {cls:= .type "tuple",data:= .seq #[.none,.none,.none]}
abbrev vc(h:Heap)(k1 k2 k3:SK)(a1 a2 a3:Addr):Heap:=(BE h k1 k2 k3 a1 a2 a3).push {cls:= .type "zip",data:= .fields #[.none,.bool false,.bool false,.ref (BH h k1 k2 k3 a1 a2 a3).objs.size,.ref (BN h k1 k2 k3 a1 a2 a3).objs.size]}
theorem wU(k1 k2 k3:SK)(a1 a2 a3:Addr)(us vs ws:Array Value):Meets (Builtin.«zip.__new__» ⟨[.type "zip",.ref a1,.ref a2,.ref a3],[]⟩) (fun _ R s=>eM k1 s.heap a1 us/\eM k2 s.heap a2 vs/\eM k3 s.heap a3 ws/\
 R (.ok (.ret (.ref (BE s.heap k1 k2 k3 a1 a2 a3).objs.size))) {s with heap:=vc s.heap k1 k2 k3 a1 a2 a3}):=
 .of_wp fun P w A R s h=>by
  obtain⟨hp,g,d,tk,os⟩:=s;obtain⟨c1,c2,c3,h⟩:=h;have hsub:=sub_zip;have L1:eM k1 (Shared.heap ⟨hp,g,d,tk,os⟩) a1 us:=c1;have L2:eM k2 (Shared.heap ⟨hp.push (ki k1 a1),g,d,tk,os⟩) a2 vs:=eM.push c2 _;have L3:eM k3 (Shared.heap ⟨(hp.push (ki k1 a1)).push (ki k2 a2),g,d,tk,os⟩) a3 ws:=eM.push (eM.push c3 _) _
  wp_walk using nv L1,nv L2,nv L3
  exact⟨_,rfl,h⟩
theorem zp{P:Program}{w:World}{A:Around}{s:Shared}{E:Value->Shared->Prop}{k1 k2 k3:SK}{a1 a2 a3:Addr}{us vs ws:Array Value}{Q:Value->Shared->Prop}(c1:eM k1 s.heap a1 us)(c2:eM k2 s.heap a2 vs)(c3:eM k3 s.heap a3 ws)
 (q:∀g n,n=s.heap.objs.size->IsZip g (n+5) (n+3) (n+4) .none->cQ g (n+3) (.ref n) (.ref (n+1)) (.ref (n+2))->cQ g (n+4) .none .none .none->jI k1 n a1 0 g->jI k2 (n+1) a2 0 g->jI k3 (n+2) a3 0 g->(∀c o,s.heap.get? c=some o->g.get? c=some o)->Q (.ref (n+5)) {s with heap:=g}):
 wpAny (model P w) A (call (.type "zip") [.ref a1,.ref a2,.ref a3]) Q E s:=by
 refine callType_new F.called_zip (by decide) (qK _ _ _) (sR _ _ _) (fun ob=>m_ ob _ _ _) F.entry_zip_new (wU k1 k2 k3 a1 a2 a3 us vs ws) ⟨c1,c2,c3,?_⟩;have y1:(u5 s.heap k1 a1).objs.size=s.heap.objs.size+1:=Heap.size_push ..;have y2:(rY s.heap k1 k2 a1 a2).objs.size=s.heap.objs.size+2:=by rw[Heap.size_push,y1]
 have y3:(BH s.heap k1 k2 k3 a1 a2 a3).objs.size=s.heap.objs.size+3:=by rw[Heap.size_push,y2]
 have y4:(BN s.heap k1 k2 k3 a1 a2 a3).objs.size=s.heap.objs.size+4:=by rw[Heap.size_push,y3]
 have y5:(BE s.heap k1 k2 k3 a1 a2 a3).objs.size=s.heap.objs.size+5:=by rw[Heap.size_push,y4]
 have e6:(vc s.heap k1 k2 k3 a1 a2 a3).get? (BE s.heap k1 k2 k3 a1 a2 a3).objs.size=some _:=Heap.get?_push_size _ rfl;have e5:(vc s.heap k1 k2 k3 a1 a2 a3).get? (BN s.heap k1 k2 k3 a1 a2 a3).objs.size=some _:=Heap.get?_push_of_some _ (Heap.get?_push_size _ rfl);have e4:(vc s.heap k1 k2 k3 a1 a2 a3).get? (BH s.heap k1 k2 k3 a1 a2 a3).objs.size=some _:=Heap.get?_push_of_some _ (Heap.get?_push_of_some _ (Heap.get?_push_size _ rfl));have e3:(vc s.heap k1 k2 k3 a1 a2 a3).get? (rY s.heap k1 k2 a1 a2).objs.size=some (ki k3 a3):=Heap.get?_push_of_some _ (Heap.get?_push_of_some _ (Heap.get?_push_of_some _ (Heap.get?_push_size _ (by cases k3<;>rfl))));have e2:(vc s.heap k1 k2 k3 a1 a2 a3).get? (u5 s.heap k1 a1).objs.size=some (ki k2 a2):=Heap.get?_push_of_some _ (Heap.get?_push_of_some _ (Heap.get?_push_of_some _ (Heap.get?_push_of_some _ (Heap.get?_push_size _ (by cases k2<;>rfl)))));have e1:(vc s.heap k1 k2 k3 a1 a2 a3).get? s.heap.objs.size=some (ki k1 a1):=Heap.get?_push_of_some _ (Heap.get?_push_of_some _ (Heap.get?_push_of_some _ (Heap.get?_push_of_some _ (Heap.get?_push_of_some _ (Heap.get?_push_size _ (by cases k1<;>rfl))))));show _/\_;rw[y3,y4,y5]at e6;rw[y1,y2,y3]at e4;rw[y4]at e5;rw[y2]at e3;rw[y1]at e2;rw[y5];exact⟨⟨_,e6,rfl⟩,q _ _ rfl e6 e4 e5 (kL (h:=s.heap) e1) (kL (h:=s.heap) e2) (kL (h:=s.heap) e3) fun c o x=>Heap.get?_push_of_some _ (Heap.get?_push_of_some _ (Heap.get?_push_of_some _ (Heap.get?_push_of_some _ (Heap.get?_push_of_some _ (Heap.get?_push_of_some _ x)))))⟩
def dq:List D->List D->List D->List D
 |x::xs,y::ys,z::zs=> .tup [x,y,z]::dq xs ys zs
 |_,_,_=>[]
theorem sE:∀ {xs ys zs:List D},(dq xs ys zs).length=min xs.length (min ys.length zs.length)
 | [],_,_=>by unfold dq;simp
 |_::_,[],_=>by unfold dq;simp
 |_::_,_::_,[]=>by unfold dq;simp
 |x::xs,y::ys,z::zs=>by unfold dq;rw[List.length_cons,sE];simp only[List.length_cons];omega
theorem mM:∀ {xs ys zs:List D} {n:Nat} {d:D},(dq xs ys zs)[n]?=some d->∃x y z,xs[n]?=some x/\ys[n]?=some y/\zs[n]?=some z/\d= .tup [x,y,z]
 | [],_,_,_,_,e=>by unfold dq at e;cases e
 |_::_,[],_,_,_,e=>by unfold dq at e;cases e
 |_::_,_::_,[],_,_,e=>by unfold dq at e;cases e
 |x::xs,y::ys,z::zs,0,d,e=>by
  unfold dq at e;rw[List.getElem?_cons_zero]at e;cases e;exact⟨x,y,z,rfl,rfl,rfl,rfl⟩
 |x::xs,y::ys,z::zs,n+1,d,e=>by
  unfold dq at e;rw[List.getElem?_cons_succ]at e;obtain⟨a,b,c,h1,h2,h3,h4⟩:=mM e;exact⟨a,b,c,by rw[List.getElem?_cons_succ];exact h1,by rw[List.getElem?_cons_succ];exact h2,by rw[List.getElem?_cons_succ];exact h3,h4⟩
theorem DZ{K:PySem.W.Frag}{k1 k2 k3:SK}{a1 a2 a3:Addr}{α:List (Option Addr)}{G:Hp}{ok:aa->Prop}{xs ys zs:List D}
 (h:∀α' G' st',Step α G α' G'->aB α' st' G'->ok st'->∃vs ws us,uO k1 G' a1 vs/\uO k2 G' a2 ws/\uO k3 G' a3 us/\ax α' G' xs vs/\ax α' G' ys ws/\ax α' G' zs us):qW (EZ K k1 k2 k3 a1 a2 a3) α G ok (dq xs ys zs) where
 stop:=fun n α' G' F' H' st' s P S o hn=>by
  obtain⟨vs,ws,us,h1,h2,h3,r1,r2,r3⟩:=h α' G' st' s S o;rw[sE]at hn;refine⟨vs,ws,us,c7 P h1,c7 P h2,c7 P h3,?_⟩;have:=r1.length;have:=r2.length;have:=r3.length;omega
 go:=fun n d α' G' F' H' st' s P S o hn=>by
  obtain⟨vs,ws,us,h1,h2,h3,r1,r2,r3⟩:=h α' G' st' s S o;obtain⟨x,y,z,ex,ey,ez,rfl⟩:=mM hn;obtain⟨v,ev,_⟩:=r1.get ex;obtain⟨u,eu,_⟩:=r2.get ey;obtain⟨t,et,_⟩:=r3.get ez;exact⟨vs,ws,us,v,u,t,c7 P h1,c7 P h2,c7 P h3,ev,eu,et⟩
 kh:=fun n d α' G' F' H' st' x H'' s P S o hn y=>by
  obtain⟨vs,ws,us,h1,h2,h3,r1,r2,r3⟩:=h α' G' st' s S o;obtain⟨c,e,f,ec,ee,ef,rfl⟩:=mM hn;obtain⟨T,v,u,t,hT,rfl,rfl,y1,y2,y3⟩:=y;obtain⟨v',ev,rv⟩:=r1.get ec;obtain⟨u',eu,ru⟩:=r2.get ee;obtain⟨t',et,rt⟩:=r3.get ef;rw[y1 vs (c7 P h1)]at ev;rw[y2 ws (c7 P h2)]at eu;rw[y3 us (c7 P h3)]at et;cases ev;cases eu;cases et;have hg:=(P.none hT).1;refine⟨L2.upd G' T (.tup [v,u,t]),Step.laid hg,P.laid hT,S.laid hg,?_⟩;unfold Rep;refine⟨T,[v,u,t],rfl,S.kq hg,aD,?_⟩;unfold ax;refine⟨v,[u,t],rfl,rv.step (Step.laid hg),?_⟩;unfold ax;refine⟨u,[t],rfl,ru.step (Step.laid hg),?_⟩;unfold ax;exact⟨t,[],rfl,rt.step (Step.laid hg),by unfold ax;rfl⟩
def w_(ds:List D)(st1:aa)(K:List D->(aa->Prop)->aa->Prop):Prop:=match ds with
 | [x,y,z]=>(match items? st1 x,items? st1 y,items? st1 z with
   |some xs,some ys,some zs=>K (dq xs ys zs) (fun st'=>items? st' x=some xs/\items? st' y=some ys/\items? st' z=some zs) st1
   |_,_,_=>False)
 |_=>False
@[irreducible] def nE:List D->aa->(List D->(aa->Prop)->aa->Prop)->Prop:=w_
def wM(t:DA):DI:=fun σ st K=>t σ st fun ds st1=>nE ds st1 K
theorem CA{n a1 a2 a3:Nat}(h1:a1<n)(h2:a2<n)(h3:a3<n):BL (n+5) (n+3) (n+4) n (n+1) (n+2) a1 a2 a3:=⟨by omega,by omega,by omega,by omega⟩
theorem vals3{vs:List V}{us:List Value}{a b c:V}(h:Vals vs us)(e:vs=[a,b,c]):∃u v w,us=[u,v,w]/\RelV a u/\RelV b v/\RelV c w:=by
 subst e;cases h with
 |cons p q=>
  cases q with
  |cons p' q'=>
   cases q' with
   |cons p'' q''=>
    cases q'';exact⟨_,_,_,rfl,p,p',p''⟩
theorem Cy{X:Cx}{a b c:Expr}{elts:List Expr}{kx:Nat}{tpos p pos:Pos}{t:DA}(hg:Gl X "zip")(hm:X.mg "zip"=none)(ha:PA X [a,b,c] (LA t))(hs:starEach [a,b,c] X.env=(false,eval a X.env)::starEach [b,c] X.env)(hs2:starEach [b,c] X.env=[(false,eval b X.env),(false,eval c X.env)]):
 PI X (.Tuple elts kx tpos) (.Call (.Name "zip" p) [a,b,c] [] pos) (LI (wM t)):=by
 intro pins s σ H R I h;obtain⟨α,σd,st,K,G,F,P,RS,S,t,k⟩:=h;refine Call_ (jQ I hg hm boot_zip (PyProof.Rows.callWith_type1 (bj (ha pos pins s σ H (fun vs H1=>∃ds α1 G1 st1,Step α G α1 G1/\a7 G1 F H1/\aB α1 st1 G1/\ax α1 G1 ds vs/\nE ds st1 K) I ⟨α,σd,st,_,G,F,P,RS,S,t,fun ds st1 q α1 G1 H1 vs s1 P1 S1 r1=>⟨ds,α1,G1,st1,s1,P1,S1,r1,q⟩⟩) fun us s1 ⟨vs,H1,I1,rv,ds,α1,G1,st1,w1,P1,S1,r1,q⟩=>?_) hs (by rw[hs2];rfl)));unfold nE w_ at q;split at q
 . rename_i x y z;split at q
   . rename_i xs ys zs ex ey ez;obtain⟨v1,v2,v3,rfl,q1,q2,q3⟩:=Bu r1 rfl;obtain⟨p1,vs1,rfl,g1,c1⟩:=fe S1 q1 ex;obtain⟨p2,vs2,rfl,g2,c2⟩:=fe S1 q2 ey;obtain⟨p3,vs3,rfl,g3,c3⟩:=fe S1 q3 ez;obtain⟨u1,u2,u3,rfl,ru1,ru2,ru3⟩:=vals3 rv rfl;cases ru1;cases ru2;cases ru3;obtain⟨its1,_,l1⟩:=dB I1 (c7 P1 c1);obtain⟨its2,_,l2⟩:=dB I1 (c7 P1 c2);obtain⟨its3,_,l3⟩:=dB I1 (c7 P1 c3);refine zp l1 l2 l3 fun g n hn Z pI pO i1 i2 i3 kp=>?_;obtain⟨o1,eo1⟩:=l1.some;obtain⟨o2,eo2⟩:=l2.some;obtain⟨o3,eo3⟩:=l3.some;refine wpAny_pyIter_zip (s:={s1 with heap:=g}) Z ?_;refine⟨n+5,[n+5,n+3,n+4,n,n+1,n+2],_,_,H1,rfl,I1.kept (t':=s1.toks) kp,zH (wt x) (wt y) (wt z) (CA (by rw[hn];exact Heap.lt_size eo1) (by rw[hn];exact Heap.lt_size eo2) (by rw[hn];exact Heap.lt_size eo3)),⟨Z,pI,⟨_,_,_,pO⟩,i1,i2,i3⟩,fun b hb=>?_,?_⟩
     . have hb':s1.heap.objs.size<=b:=by
        simp only[List.mem_cons,List.not_mem_nil,or_false]at hb;rcases hb with rfl|rfl|rfl|rfl|rfl|rfl<;>(rw[<-hn];first|exact Nat.le_refl _|exact Nat.le_add_right _ _)
       exact I1.oR hb' (I1.aw.fresh hb')
     . refine k _ _ st1 q _ α1 G1 H1 w1 P1 S1 (DZ fun α' G' st' s' S' o=>?_);obtain⟨p1',ws1,e1,f1,d1⟩:=fe S' (q1.step s') o.1;obtain⟨p2',ws2,e2,f2,d2⟩:=fe S' (q2.step s') o.2.1;obtain⟨p3',ws3,e3,f3,d3⟩:=fe S' (q3.step s') o.2.2;cases e1;cases e2;cases e3;exact⟨ws1,ws2,ws3,d1,d2,d3,f1,f2,f3⟩
   . exact q.elim
 . exact q.elim
theorem C1{st:aa}{x y z:D}{xs ys zs:List D}{K:List D->(aa->Prop)->aa->Prop}(ex:items? st x=some xs)(ey:items? st y=some ys)(ez:items? st z=some zs)(k:∀ok:aa->Prop,(∀st',items? st' x=some xs->items? st' y=some ys->items? st' z=some zs->ok st')->K (dq xs ys zs) ok st):nE [x,y,z] st K:=by
 unfold nE w_;simp only[ex,ey,ez];exact k _ fun st' h1 h2 h3=>⟨h1,h2,h3⟩
theorem EJ{X:Cx}{a b c:Expr}{elts:List Expr}{kx:Nat}{tpos p pos:Pos}{ar:DA}(hg:Gl X "zip")(hm:X.mg "zip"=none)(ha:JA X [a,b,c] ar)(hs:notStar a=true:=by rfl)(hs2:notStar b=true:=by rfl)(hs3:notStar c=true:=by rfl):JI X (.Tuple elts kx tpos) (.Call (.Name "zip" p) [a,b,c] [] pos) (wM ar):=by
 unfold JI;unfold JA at ha;exact Cy hg hm ha (a8 hs) (by rw[a8 hs2,a8 hs3];rfl)
def g0:DS:=fun _ _ _=>False
theorem fz{X:Cx}{s:Stmt}:JS X s g0:=by
 unfold JS;intro pins s σ H D I h;obtain⟨α,σd,st,DD,G,F,P,R,S,q,k⟩:=h;exact q.elim
section
variable {X:Cx}
end
end L3
namespace L3
open PySem L2
open PySem.Spec hiding items?
open PyProof.Rows hiding St
open Sem (wp)
section
variable {prog:Program}{w:World}{A:Around}{s:Shared}{E:Value->Shared->Prop}
end
section
variable {prog:Program}{w:World}{A:Around}{R:Result->Shared->Prop}{I:Addr}{fp wr:List Addr}{G:Array GenState->Array GenState->Prop}{n:Nat}{P:Nat->Value->Prop}{Sx:Nat->Shared->Prop}
end
section
variable {prog:Program}{w:World}{A:Around}{E:Value->Shared->Prop}{s:Shared}
end
section
variable {X:Cx}{pins:List (Addr×Obj)}{σ:L2.St}{H:Hp}{s:Shared}{α:List (Option Addr)}
end
end L3
namespace L3
open PySem L2
open PySem.Spec hiding items?
open PyProof.Rows hiding St
section
variable {X:Cx}
end
def putD(f:Str)(v:D):List (Str×D)->List (Str×D)
 | []=>[(f,v)]
 |(g,x)::r=>if g=f then(g,v)::r else(g,x)::putD f v r
theorem lY.put{α:List (Option Addr)}{H:Hp}{f:Str}{d:D}{v:V}(r:Rep α H d v):∀ {fs:List (Str×D)} {vs:List (Str×V)},lY α H fs vs->lY α H (putD f d fs) (eG f v vs)
 | [],_,.nil=> .cons ⟨rfl,r⟩ .nil
 |(g,x)::fs,_,.cons (b:=q) h t=>by
  obtain⟨g',y⟩:=q;obtain⟨h1,h2⟩:=h;simp only at h1 h2;subst h1;unfold putD eG;by_cases hb:g=f
  . rw[if_pos hb,if_pos hb];exact .cons ⟨rfl,r⟩ t
  . rw[if_neg hb,if_neg hb];exact .cons ⟨rfl,h2⟩ (lY.put r t)
def yh(C:Addr)(f:Str)(x d:D)(st:aa)(K:aa->Prop):Prop:=match x with
 | .ref n=>(match st[n]? with|some (.ins C' fs)=>C'=C/\fs.length<1000/\K (st.set n (.ins C (putD f d fs)))|_=>False)
 |_=>False
@[irreducible] def tE(C:Addr)(f:Str):D->D->aa->(aa->Prop)->Prop:=yh C f
def nU(C:Addr)(f:Str)(to te:DE):DS:=fun D σ st=>te σ st fun d st1=>to σ st1 fun x st2=>tE C f x d st2 fun st3=>D.nx σ st3
theorem oa{C:Addr}{f:Str}{n:Nat}{d:D}{st:aa}{K:aa->Prop}{fs:List (Str×D)}(e:st[n]?=some (.ins C fs))(h:fs.length<1000)(k:K (st.set n (.ins C (putD f d fs)))):tE C f (.ref n) d st K:=by
 unfold tE yh;simp only[e];exact⟨trivial,h,k⟩
def xp(C:Addr)(S:cu)(t:DA):DE:=fun σ st K=>t σ st fun ds st1=>S (.ref st1.length::ds) (st1++[.ins C []]) fun r st2=>r= .ay/\K (.ref st1.length) st2
section
variable {X:Cx}{C f g:Addr}{fd:FuncData}{k:Nat}{x m fl:Str}{e o value:Expr}{es:List Expr}{p pos pos' apos:Pos}{te to:DE}{t:DA}{S:cu}{ps:List Str}
theorem FD(c:rM X.K C)(na:fD X.K C fl)(ho:PE X o (LE to))(hv:PE X value (LE te))(hs:swapsWith value (some (.Attribute o fl pos')) pos.line X.env=pure false):PS X (.Assign [.Attribute o fl pos'] value pos) (LS (nU C fl to te)):=PS.imp (FO ho hv hs) fun D σ H ⟨α,σd,st,DD,G,F,P,R,S,t,k⟩=>by
 refine⟨α,σd,st,_,G,F,P,R,S,t,fun d st1 q α1 G1 H1 v s1 P1 S1 r1=>?_⟩;refine⟨α1,σd,st1,_,G1,F,P1,R.step s1,S1,q,fun x st2 q2 α2 G2 H2 v2 s2 P2 S2 r2=>?_⟩;unfold tE yh at q2;cases x<;>try exact q2.elim
 simp only at q2;split at q2
 . rename_i C' fs e';obtain⟨rfl,hl,q2⟩:=q2;obtain⟨a,ea,dx,vs,h1,h2⟩:=S2.BQ e';have r2':=cJ ea r2;subst r2';have hm:some a∈α2:=List.mem_of_getElem? ea;have lv:vs.length<1000:=by rw[<-h2.length];exact hl
   refine⟨a,_,dx,vs,rfl,P2.get h1,c,na,lv,?_⟩;refine((k.nx.at s1).at s2) σd _ q2 α2 (upd G2 a (.ins _ dx (eG fl v vs))) _ σ (Step.write hm) (P2.write h1) (((R.step s1).step s2).step (Step.write hm)) ?_;exact S2.write ea ⟨dx,eG fl v vs,aD,(h2.put (r1.step s2)).step (Step.write hm)⟩
 . exact q2.elim
theorem LE.make{σ:L2.St}{H:Hp}{Q:VK}(h:LE (xp C S t) σ H Q):By C (cK S) [] E0 (LA t) σ H Q:=by
 obtain⟨α,σd,st,K,G,F,P,R,Sr,tt,k⟩:=h;refine⟨α,σd,st,_,G,F,P,R,Sr,tt,fun ds st1 q α1 G1 H1 us s1 P1 S1 r1=>?_⟩;intro x dx hx hdx hne;have hgd:=(P1.none hdx).1;have P2:=P1.laid (o:= .own x) hdx;have S2:=S1.laid (o:= .own x) hgd;have hx2:upd H1 dx (.own x) x=none:=by rw[aq (Ne.symm hne)];exact hx
 have hg2:=(P2.none hx2).1;have P3:=P2.laid (o:= .ins C dx []) hx2;have S3:=S2.cell (o:= .ins C dx []) (c:= .ins C []) hg2 ⟨dx,[],aD,.nil⟩;have s2:Step α1 G1 α1 (upd G1 dx (.own x)):=Step.laid hgd;have s3:Step α1 (upd G1 dx (.own x)) (α1++[some x]) (upd (upd G1 dx (.own x)) x (.ins C dx [])):=Step.cell hg2
 have rx:Rep (α1++[some x]) (upd (upd G1 dx (.own x)) x (.ins C dx [])) (.ref st1.length) (.ref x):=by
  unfold Rep;refine .inr ⟨x,?_,rfl⟩;rw[List.getElem?_append_right (by rw[S1.len];exact Nat.le_refl _),S1.len,Nat.sub_self];rfl
 rw[List.append_nil];refine⟨α1++[some x],.ref st1.length::ds,st1++[.ins C []],_,_,F,P3,by unfold ax;exact⟨_,_,rfl,rx,(r1.step s2).step s3⟩,S3,q,fun d st2 q2 α' G' H' v s' P' S' r'=>?_⟩;obtain⟨rfl,q2⟩:=q2;unfold Rep at r';exact⟨r',(((k.at s1).at s2).at s3) _ st2 q2 α' G' H' _ s' P' S' (rx.step s')⟩
end
section
variable {X:Cx}{tg:Expr}
end
section
variable {X:Cx}
end
section
variable {X:Cx}{e o i value:Expr}{es:List Expr}{te to ti:DE}{t:DA}{pos pos' tpos apos p:Pos}{C f:Addr}{fl m x:Str}{S:cu}{k:Nat}{fd:FuncData}{ps:List Str}
theorem yC{value o:Expr}{fl:Str}{pos':Pos}{n:Nat}{env:Env}:swapsWith value (some (.Attribute o fl pos')) n env=pure false:=by cases value<;>rfl
theorem nO(c:rM X.K C)(na:fD X.K C fl)(ho:JE X o to)(hv:JE X value te):JS X (.Assign [.Attribute o fl pos'] value pos) (nU C fl to te):=by unfold JS;unfold JE at*;exact FD c na ho hv yC
theorem E1(M:Mk X.K C f)(F:aK X.prog X.w X.K X.mg X.base b_ k f fd ps (cK S))(hr:bw (k+1) X.A)(hg:Gl X x)(hmg:X.mg x=some (.ref C))(hb:Binds X.K fd ps [])(ha:JA X (e::es) t)(hdb:(x==("__debug__":Str))=false)
 (hs:notStar e=true:=by rfl) (hs2:cF es=true:=by rfl):JE X (.Call (.Name x p) (e::es) [] pos) (xp C S t):=by
 unfold JE;unfold JA at ha;exact PE.imp (wF M F hr hg hmg hb .nil s_ ha hdb (a8 hs) (d5 hs2)) fun _ _ _ h=>LE.make h
end
end L3
namespace L3
open PySem PySem.Spec L2
open PyProof.Rows hiding St
section
variable {prog:Program}{w:World}{A:Around}{E:Value->Shared->Prop}{s:Shared}{a₀:Array Keyed}
end
end L3
namespace L2
open PySem PySem.Spec PyProof.Rows
structure Entry(K:PySem.W.Frag)(ts:List (Addr×Addr))(a:Addr)(ns:List Int)(H:Hp):Prop where
 lst:i8 K H a (ns.map V.int)
 tab:∀q∈ts,H q.2=some (.jf #[])/\q.2≠a
theorem rV:∀ {vs:List Value} {ns:List Int},IntsAre vs ns->Vals (ns.map V.int) vs
 |_,_,.nil=> .nil
 |_,_,.cons n t h=> .cons ⟨t,rfl⟩ (rV h)
structure Fj(K:PySem.W.Frag)(ts:List (Addr×Addr))(h:Heap):Prop where
 hd:∀q∈ts,PySem.W.codeHdIn K q.1 q.2=true
 no:∀q∈ts,K.lookup q.2=none
 at':∀q∈ts,h.get? q.2=some (PySem.W.tabObj #[])
theorem zU{P:Program}{w:World}{K:PySem.W.Frag}{mg mb:Str->Option Value}{k:Nat}{fa a:Addr}{fd:FuncData}{x:Str}{sp:Sp}{s₁:Shared}{vs:List Value}{ns:List Int}{ts:List (Addr×Addr)}
 (KX:K.In s₁.heap) (hns:s₁.heap.Ns mainGlobals mg) (hb:s₁.heap.Ns builtinsNs mb) (hbb:∀x:Str,x≠"__name__"->mb x=bootBuiltins x) (hlim:s₁.heap.NoLimit) (hse:s₁.heap.NoSeer) (hgt:P.given.tree=none)
 (hbm:∃bm ob,mg "__builtins__"=some (.ref bm)/\bm≠builtinsNs/\s₁.heap.get? bm=some ob/\ob.cls= .type "module"/\ob.dict=some builtinsNs/\ob.data= .plain) (hT:Fj K ts s₁.heap) (hg:s₁.gens= #[])
 (ha:s₁.heap.get? a=some {cls:= .type "list",data:= .seq vs.toArray}) (hi:IntsAre vs ns) (hl:ns.length<=sizeLine) (hr:bw k callerA)
 (F:∀base:Heap,K.In base->base.Ns mainGlobals mg->aK P w K mg base (fun _ _ _ _ _ _=>False) k fa fd [x] sp) (hbind:∀(s:Shared) (u:Value),BindsTo s fd ⟨[u],[]⟩ [(x,u)])
 (hsp:∀H:Hp,Entry K ts a ns H->sp [.ref a] H (fun v _=>v= .bl true) fun _ _ _=>False):
 codeAny (model P w) callerA (.call (.ref fa) ⟨[.ref a],[]⟩) (fun r s'=>r= .ok (.ret (.bool true))/\OldK s₁.heap s'.heap/\s'.os=s₁.os/\AllBare s'.gens) s₁:=by
 have rv:=rV hi;have lenV:=hi.length
 have nta:∀q∈ts,q.2≠a:=fun q hq z=>by
  have:=hT.at' q hq;rw[z,ha]at this;cases this
 let sc:Option HO:=match K.lookup a with
  |some _=>none
  |none=>some (.dM {cls:= .type "list",data:= .seq vs.toArray} (.lst (ns.map V.int)))
 let H:Hp:=fun b=>if b=a then sc else if b∈ts.map (·.2)then some (.jf #[])else none
 have Ha:H a=sc:=if_pos rfl
 have Ht:∀q∈ts,H q.2=some (.jf #[]):=fun q hq=>by
  show(if q.2=a then sc else if q.2∈ts.map (·.2)then some (HO.jf #[])else none)=_;rw[if_neg (nta q hq),if_pos (List.mem_map_of_mem hq)]
 have Hs:∀b u,H b=some u->(b=a/\K.lookup a=none/\u= .dM {cls:= .type "list",data:= .seq vs.toArray} (.lst (ns.map V.int)))\/(∃q∈ts,q.2=b/\u= .jf #[]):=fun b u e=>by
  have e':(if b=a then sc else if b∈ts.map (·.2)then some (HO.jf #[])else none)=some u:=e;by_cases hba:b=a
  . rw[if_pos hba]at e'
    have e2:(match K.lookup a with
     |some _=>none
     |none=>some (HO.dM {cls:= .type "list",data:= .seq vs.toArray} (.lst (ns.map V.int))))=some u:=e'
    cases q:K.lookup a with
    |some o=>rw[q]at e2;cases e2
    |none=>rw[q]at e2;cases e2;exact .inl ⟨hba,rfl,rfl⟩
  . rw[if_neg hba]at e';by_cases hbt:b∈ts.map (·.2)
    . rw[if_pos hbt]at e';cases e';obtain⟨q,hq,e⟩:=List.mem_map.mp hbt;exact .inr ⟨q,hq,e,rfl⟩
    . rw[if_neg hbt]at e';cases e'
 have aw:dE P w H s₁.heap:=fun b u e=>by
  rcases Hs b u e with⟨rfl,_,rfl⟩|⟨q,hq,rfl,rfl⟩
  . exact⟨ha,by rw[List.length_map];exact hl,vs,_,rv,ha⟩
  . exact hT.at' q hq
 have hE:Entry K ts a ns H:=by
  refine⟨?_,fun q hq=>⟨Ht q hq,nta q hq⟩⟩;cases q:K.lookup a with
  |some o=>
   have e:=KX a o q;rw[ha]at e;cases e;exact .inr ⟨_,vs.toArray,_,q,rfl,rfl,rfl,by rw[List.size_toArray,lenV];exact hl,by simpa using rv⟩
  |none=>
   refine .inl (.inr ⟨{cls:= .type "list",data:= .seq vs.toArray},?_⟩);rw[Ha]
   show(match K.lookup a with
    |some _=>none
    |none=>some (HO.dM {cls:= .type "list",data:= .seq vs.toArray} (.lst (ns.map V.int))))=_
   rw[q]
 have dictNo:∀ {b:Addr} {o:Obj},s₁.heap.get? b=some o->(∀es ep,o.data≠ .seq es ep)->o.cls≠ .none->H b=none:=fun{b o} e d1 d2=>by
  cases q:H b with
  |none=>rfl
  |some u=>
   rcases Hs b u q with⟨rfl,_,_⟩|⟨t,ht,rfl,_⟩
   . rw[ha]at e;cases e;exact absurd rfl (d1 _ _)
   . rw[hT.at' t ht]at e;cases e;exact absurd rfl d2
 have nsK:∀ {b:Addr} {m:Str->Option Value},s₁.heap.Ns b m->(kG s₁.heap H).Ns b m:=fun{b m} ⟨o,es,ep,e,d,r⟩=>by
  refine⟨o,es,ep,lI e ?_,d,r⟩;cases q:H b with
  |none=>rfl
  |some u=>
   rcases Hs b u q with⟨rfl,_,_⟩|⟨t,ht,rfl,_⟩
   . rw[ha]at e;cases e;cases d
   . rw[hT.at' t ht]at e;cases e;cases d
 have hKb:K.In (kG s₁.heap H):=fun b o e=>lI (KX b o e) (by
  cases q:H b with
  |none=>rfl
  |some u=>
   rcases Hs b u q with⟨rfl,z,_⟩|⟨t,ht,rfl,_⟩
   . rw[z]at e;cases e
   . rw[hT.no t ht]at e;cases e)
 obtain⟨bm,ob,b1,b2,b3,b4,b5,b6⟩:=hbm;have hbmK:(kG s₁.heap H).get? bm=some ob:=lI b3 (dictNo b3 (fun es ep z=>by rw[b6]at z;cases z) (fun z=>by rw[b4]at z;cases z))
 have seK:(kG s₁.heap H).NoSeer:=by
  obtain⟨⟨m1,a1,a2⟩,⟨m2,c1,c2⟩,⟨m3,d1,d2⟩,⟨mg',bm',ob',e1,e2,e3,e4,e5⟩⟩:=hse;refine⟨⟨m1,nsK a1,a2⟩,⟨m2,nsK c1,c2⟩,⟨m3,nsK d1,d2⟩,⟨mg',bm',ob',nsK e1,e2,lI e3 ?_,e4,e5⟩⟩;cases q:H bm' with
  |none=>rfl
  |some u=>
   rcases Hs bm' u q with⟨rfl,_,_⟩|⟨t,ht,rfl,_⟩
   . rw[ha]at e3;cases e3;exact absurd (show Value.type "list"=Value.type "module" from e4) (by intro z;injection z with z;exact absurd z (by decide))
   . rw[hT.at' t ht]at e3;cases e3;cases e4
 have hM:Mod K mg (kG s₁.heap H):=⟨hKb,nsK hns,⟨mb,nsK hb,hbb⟩,let⟨mc,h1,h2⟩:=hlim;⟨mc,nsK h1,h2⟩,seK,⟨bm,ob,b1,b2,hbmK,b4,b5,b6⟩⟩
 have e0:o8 P w K mg (kG s₁.heap H) callerA [] s₁ H:=⟨rfl,hM,fun b o e=>DW e,Nat.le_of_eq (yR _ _),trivial,fun b hb=>absurd (show b∈([]:List Addr)from hb) (by simp),aw,.of_eq hg,hgt⟩
 refine codeAny_mono ((F _ hKb (nsK hns)).run callerA [] s₁ H ⟨[.ref a],[]⟩ [.ref a] [.ref a] _ _ hr e0 (hbind s₁ (.ref a)) (.cons rfl .nil) (hsp H hE)) fun r s' h=>?_;cases r with
 |error e=>exact False.elim h
 |ok fl=>
  cases fl with
  |next=>exact False.elim h
  |brk=>exact False.elim h
  |cont=>exact False.elim h
  |ret u=>
   obtain⟨v,H',os,bare,un,hok',r',q⟩:=h;have q':v= .bl true:=q;subst q';obtain rfl:u=Value.bool true:=r';have noF:∀b:Addr,b∉di ([]:List Env):=fun b z=>absurd (show b∈([]:List Addr)from z) (by simp);refine⟨rfl,⟨fun b o e=>?_,fun b o e=>un.there b o e (by simp)⟩,os,bare⟩;cases q:H b with
   |none=>exact .inl (un.keep b o e q (noF b) (by simp))
   |some u=>
    rcases Hs b u q with⟨rfl,_,rfl⟩|⟨t,ht,rfl,rfl⟩
    . obtain⟨e2,_⟩:=hok' b _ (un.gZ b _ _ q);rw[ha]at e;cases e;exact .inl e2
    . obtain⟨more,e1⟩:=un.gT _ _ q;have e2:s'.heap.get? t.2=some {cls:= .none,data:= .fields (#[]++more)}:=hok' _ _ e1;have e3:=hT.at' t ht;rw[e3]at e;cases e;have C:PySem.W.CodeHd s₁.heap t.1 t.2:=PySem.W.codeHd_of_K KX (hT.hd t ht);exact .inr (.inl ⟨(C.tab e3).isCodeTable,rfl,#[],more,rfl,e2⟩)
theorem FY{l:PySem.W.OpenLaw}{n k:Nat}{q:Program}{loose:List Str}{XP:(Str->Option Value)->Heap->Prop}{YP:World->Heap->Prop}{d:DefRec}{K:Params->PySem.W.Frag}{sp:World->Sp}{x:Str}{ts:List (Addr×Addr)}
 (hn:l.most=some n) (hn2:n<=sizeLine) (hdf:d.params.defaults=[]) (hr:bw k callerA) (hq:importsNone q=true) (hgt:l.prog.given.tree=none)
 (hY:∀(w:World) (h:Heap),YP w h->(K w.params).In h/\Fj (K w.params) ts h)
 (F:∀(w:World) (mg:Str->Option Value) (fa:Addr) (h:Heap),(K w.params).In h->h.Ns mainGlobals mg->mg d.name=some (.ref fa)->
   ∃fd:FuncData,(∀(s:Shared) (u:Value),BindsTo s fd ⟨[u],[]⟩ [(x,u)])/\
    ∀base:Heap,(K w.params).In base->base.Ns mainGlobals mg->aK l.prog w (K w.params) mg base (fun _ _ _ _ _ _=>False) k fa fd [x] (sp w))
 (hsp:∀(w:World) (H:Hp) (a:Addr) (ns:List Int),ns.length<=n->Entry (K w.params) ts a ns H->sp w [.ref a] H (fun v _=>v= .bl true) fun _ _ _=>False):
 PySem.W.WalkO q loose XP YP l.row.toRowW d [] (fun f vs=>PySem.call f vs):=by
 refine Att.vd hn hdf fun w s₀ s₁ mg mb fa o pm cd doc a vs ns G Y ho hd hcd hmg hobj hints hlen hg=>?_;obtain⟨KX,hT⟩:=hY w _ Y;obtain⟨fd,hb,hF⟩:=F w mg fa _ KX G.T.g hmg;exact zU KX G.T.g G.T.b G.T.builtins G.T.nolimit (G.T.seer hq) hgt G.T.bmain hT hg hobj hints (Nat.le_trans hlen hn2) hr hF hb fun H hE=>hsp w H a ns hlen hE
end L2
namespace L3
open PySem PySem.Spec L2
open PyProof.Rows hiding St
section
variable {X:Cx}{pins:List (Addr×Obj)}{σ:L2.St}{H:Hp}{s:Shared}{p:Addr}{o o':Obj}{h':Heap}
end
section
variable {X:Cx}{pins:List (Addr×Obj)}{σ:L2.St}{R:Hp->Prop}{s:Shared}{A:Around}{E:Value->Shared->Prop}{a kS:Addr}{e1 e:Nat}{keys:Array Value}{P:PySem.Fin->Shared->Prop}
end
section
variable {X:Cx}{scope:Scope}{Nc:List Str}{fr:List (Option Nat)}{p qual:Str}{f c:Addr}{pins:List (Addr×Obj)}{σ:L2.St}{H:Hp}{s:Shared}
end
section
variable {X:Cx}{scope:Scope}{Nc:List Str}{fr:List (Option Nat)}{p x qual:Str}{params:Arguments}{e body:Expr}{te tb:DE}{lpos kpos pos ppos:Pos}{c0 T:Addr}{n0:Nat}
end
end L3
namespace L3
open PySem L2
open PySem.Spec hiding items?
open PyProof.Rows hiding St
def Ac(sc:Scope)(N gl:List Str):Bool:=
 N.all (fun x=>(sc.names.lookup x==some .local||sc.names.lookup x==some .cell)&&x != "__debug__"&&x != "__classdict__")&&gl.all (fun x=>sc.names.lookup x==some .globalImplicit&&x != "__debug__")
structure VS(sc:Scope)(N gl:List Str):Prop where
 ok:Ac sc N gl=true
theorem VS.at_{sc:Scope}{N gl:List Str}(V:VS sc N gl){i:Nat}{x:Str}(h:N[i]?=some x):Loc sc x/\(x==("__debug__":Str))=false/\(x==("__classdict__":Str))=false:=by
 have o:=V.ok;unfold Ac at o;have:=List.all_eq_true.mp (Bool.and_eq_true_iff.mp o).1 x (List.mem_of_getElem? h);simp only[Bool.and_eq_true,Bool.or_eq_true,beq_iff_eq,bne_iff_ne,ne_eq]at this;exact⟨this.1.1,beq_false_of_ne this.1.2,beq_false_of_ne this.2⟩
theorem VS.Hy{sc:Scope}{N gl:List Str}(V:VS sc N gl){i:Nat}{x:Str}(h:gl[i]?=some x):sc.names.lookup x=some .globalImplicit/\(x==("__debug__":Str))=false:=by
 have o:=V.ok;unfold Ac at o;have:=List.all_eq_true.mp (Bool.and_eq_true_iff.mp o).2 x (List.mem_of_getElem? h);simp only[Bool.and_eq_true,beq_iff_eq,bne_iff_ne,ne_eq]at this;exact⟨this.1,beq_false_of_ne this.2⟩
section
variable {X:Cx}{sc:Scope}{N gl:List Str}{x:Str}{pos:Pos}
theorem VS.nm(V:VS X.env.scope X.N gl)(i:Nat)(h:X.N[i]?=some x:=by rfl):JE X (.Name x pos) (ah i):=
 let q:=V.at_ h
 zI q.2.1 q.2.2 (q.1.elim .inl fun z=> .inr (.inl z)) h
theorem VS.l(V:VS sc N gl)(i:Nat)(h:N[i]?=some x:=by rfl):Loc sc x:=(V.at_ h).1
theorem VS.g(V:VS sc N gl)(i:Nat)(h:gl[i]?=some x:=by rfl):sc.names.lookup x=some .globalImplicit:=(V.Hy h).1
theorem VS.d(V:VS sc N gl)(i:Nat)(h:gl[i]?=some x:=by rfl):(x==("__debug__":Str))=false:=(V.Hy h).2
theorem c8{n:Nat}(hN:X.N[n]?=some x:=by rfl)(hd:((x==("__debug__":Str))||(x==("__classdict__":Str)))=false:=by decide+kernel)
 (hv:pF X.env.scope x:=by first|exact Or.inl rfl|exact Or.inr (Or.inl rfl)|exact Or.inr (Or.inr rfl)):JE X (.Name x pos) (ah n):=
 zI (Bool.or_eq_false_iff.mp hd).1 (Bool.or_eq_false_iff.mp hd).2 hv hN
end
def yI(tl:List (Addr×Pos×Str)):cu:=fun ds st K=>∃ns:List Int,ds=[.lst (ns.map .int)]/\ns.length<=63/\st=tl.map (fun q=> .tab q.1 q.2.1 q.2.2 false)/\∀st',K (.bl true) st'
def zN(K:PySem.W.Frag)(ts:List (Addr×Addr)):Sp:=fun vs H Q _=>∃(a:Addr) (ns:List Int),vs=[.ref a]/\Entry K ts a ns H/\ns.length<=63/\∀H',Q (.bl true) H'
theorem zw{K:PySem.W.Frag}{ts:List (Addr×Addr)}{tl:List (Addr×Pos×Str)}(nl:yx K=true)(hts:ts.map (·.2)=tl.map (·.1))(nd:(tl.map (·.1)).Nodup){vs:List V}{H:Hp}{Q:VK}{E:XK}(h:zN K ts vs H Q E):cK (yI tl) vs H Q E:=by
 obtain⟨a,ns,rfl,hE,hl,q⟩:=h
 have tabs:∀q∈tl,H q.1=some (.jf #[])/\q.1≠a:=fun q hq=>by
  have h1:q.1∈ts.map (·.2):=by rw[hts];exact List.mem_map_of_mem hq
  obtain⟨t,ht,e⟩:=List.mem_map.mp h1;rw[<-e];exact hE.tab t ht
 have at_:∀(i:Nat) (x:Addr),(tl.map fun q=>some q.1)[i]?=some (some x)->∃q,tl[i]?=some q/\q.1=x:=fun i x e=>by
  rw[List.getElem?_map]at e;cases z:tl[i]? with
  |none=>rw[z]at e;cases e
  |some w=>rw[z]at e;simp at e;exact⟨w,rfl,e⟩
 have nota:some a∉tl.map fun q=>some q.1:=fun z=>by
  obtain⟨w,hw,e⟩:=List.mem_map.mp z;exact(tabs w hw).2 (Option.some.inj e)
 rcases hE.lst with hS|⟨o,aj,n,e,hc,_⟩
 . refine⟨tl.map fun q=>some q.1,[.lst (ns.map .int)],tl.map (fun q=> .tab q.1 q.2.1 q.2.2 false),fun d _=>d= .bl true,H,fun _=>none,⟨fun b=>by cases H b<;>rfl,fun _ _ _=>rfl⟩,?_,⟨by simp,fun i j x e1 e2=>?_,fun n c e=>?_⟩,⟨ns,rfl,hl,rfl,fun _=>rfl⟩,?_⟩
   . unfold ax;refine⟨.ref a,[],rfl,?_,by unfold ax;rfl⟩;unfold Rep;exact⟨a,ns.map V.int,rfl,nota,hS,so ns⟩
   . obtain⟨p,hp,e3⟩:=at_ i x e1;obtain⟨r,hr,e4⟩:=at_ j x e2;have k1:(tl.map (·.1))[i]?=some x:=by rw[List.getElem?_map,hp,<-e3];rfl
     have k2:(tl.map (·.1))[j]?=some x:=by rw[List.getElem?_map,hr,<-e4];rfl
     have hi:=(List.getElem?_eq_some_iff.mp k1).1;exact(List.getElem?_inj hi nd).mp (k1.trans k2.symm)
   . rw[List.getElem?_map]at e;cases z:tl[n]? with
     |none=>rw[z]at e;cases e
     |some w=>
      rw[z]at e;have e':Cell.tab w.1 w.2.1 w.2.2 false=c:=Option.some.inj e;subst e';refine .inr ⟨w.1,by rw[List.getElem?_map,z];rfl,rfl,#[],(tabs w (List.mem_of_getElem? z)).1,trivial,.inl ⟨rfl,rfl⟩⟩
   . rintro d st' rfl α' G' H' v _ _ _ r;unfold Rep at r;subst r;exact q H'
 . exact absurd hc (sP nl e)
section
variable {K:PySem.W.Frag}{x qual p1 p2 p3 p4 p5:Str}{st:Stmt}{f:Addr}{fd:FuncData}
abbrev qA(x qual:Str)(st:Stmt)(kV doc pm:Value)(an:Option Addr)(cdv ct:Value):FuncData:=PySem.W.fnOf x qual (hV st) (eN st) (ai st) .none kV doc pm an cdv ct
theorem d9{α:Type}{n:Nat}{us:List α}(h:us.length=n+1):∃a r,us=a::r/\r.length=n:=by
 cases us with
 |nil=>cases h
 |cons a r=>exact⟨a,r,rfl,Nat.succ.inj h⟩
theorem oi{α:Type}{us:List α}(h:us.length=0):us=[]:=List.length_eq_zero_iff.mp h
theorem Jl(F:i_ K x qual st f fd)(h:∀kV doc pm an cdv ct a,bindArgs (qA x qual st kV doc pm an cdv ct) ⟨[a],[]⟩=pure [(p1,a)]):Binds K fd [p1] []:=
 F.binds fun kV doc pm an cdv ct us hl=>by
  obtain⟨a,r1,rfl,h1⟩:=d9 hl;cases oi h1;exact h kV doc pm an cdv ct a
theorem HP(F:i_ K x qual st f fd)(h:∀kV doc pm an cdv ct a b,bindArgs (qA x qual st kV doc pm an cdv ct) ⟨[a,b],[]⟩=pure [(p1,a),(p2,b)]):Binds K fd [p1,p2] []:=
 F.binds fun kV doc pm an cdv ct us hl=>by
  obtain⟨a,r1,rfl,h1⟩:=d9 hl;obtain⟨b,r2,rfl,h2⟩:=d9 h1;cases oi h2;exact h kV doc pm an cdv ct a b
theorem Jp(F:i_ K x qual st f fd)(h:∀kV doc pm an cdv ct a b c,bindArgs (qA x qual st kV doc pm an cdv ct) ⟨[a,b,c],[]⟩=pure [(p1,a),(p2,b),(p3,c)]):Binds K fd [p1,p2,p3] []:=
 F.binds fun kV doc pm an cdv ct us hl=>by
  obtain⟨a,r1,rfl,h1⟩:=d9 hl;obtain⟨b,r2,rfl,h2⟩:=d9 h1;obtain⟨c,r3,rfl,h3⟩:=d9 h2;cases oi h3;exact h kV doc pm an cdv ct a b c
theorem Jn(F:i_ K x qual st f fd)(h:∀kV doc pm an cdv ct a b c d,bindArgs (qA x qual st kV doc pm an cdv ct) ⟨[a,b,c,d],[]⟩=pure [(p1,a),(p2,b),(p3,c),(p4,d)]):Binds K fd [p1,p2,p3,p4] []:=
 F.binds fun kV doc pm an cdv ct us hl=>by
  obtain⟨a,r1,rfl,h1⟩:=d9 hl;obtain⟨b,r2,rfl,h2⟩:=d9 h1;obtain⟨c,r3,rfl,h3⟩:=d9 h2;obtain⟨d,r4,rfl,h4⟩:=d9 h3;cases oi h4;exact h kV doc pm an cdv ct a b c d
end
section
variable {X:Cx}
def cx(X:Cx):Cx:={X with xe:=fun _ _=>False}
end
variable {st:aa}{K:D->aa->Prop}{i j:Int}
section
variable {X:Cx}{pos:Pos}
end
end L3
namespace L3
open PySem L2
structure ClsAt(K:PySem.W.Frag)(mg:Str->Option Value)(x:Str)(C:Addr):Prop where
 cl:rM K C
 mg:mg x=some (.ref C)
 HJ:PySem.W.makesIn K C=true
 kp:PySem.W.keepIn K (.ref C)=true
structure MethAt(K:PySem.W.Frag)(C:Addr)(m qual:Str)(st:Stmt)(ps:List Str)(f:Addr)(fd:FuncData):Prop where
 fn:i_ K m qual st f fd
 me:Meth K C m f
 bd:Binds K fd ps []
end L3
namespace Hd
open PySem PySem.W L2 L3
open PySem.Spec hiding items?
open PyProof.Rows hiding St
section
variable {K:Frag}{mg:Str->Option Value}{h:Heap}{x q:Str}{st:Stmt}{f c C:Addr}{pm:Value}{p1 p2 p3 p4 p5 p6:Str}
abbrev Ed(K:Frag)(x:Str)(st:Stmt)(f:Addr)(pm:Value)(c:Addr):Prop:=(nsIn K mainGlobals x,K.lookup f,codeIn K (.ref c) x,keepIn K (.ref f))=(some (some (.ref f)),some (fq st x x pm c),true,true)
abbrev Em(K:Frag)(C:Addr)(x q:Str)(st:Stmt)(f:Addr)(pm:Value)(c:Addr):Prop:=(findIn K (.ref C) x,isFn K (.ref f),K.lookup f,codeIn K (.ref c) q,keepIn K (.ref f))=(some (some (.ref f)),true,some (fq st x q pm c),true,true)
theorem Ed.fn(e:Ed K x st f pm c):i_ K x x st f (fd st x x pm c)/\nsIn K mainGlobals x=some (some (.ref f)):=by
 obtain⟨e1,e2,e3,e4⟩:_/\_/\_/\_:=by simpa only[Prod.mk.injEq]using e
 exact⟨zE (st:=st) e2 e3 e4,e1⟩
theorem Em.fn(e:Em K C x q st f pm c):i_ K x q st f (fd st x q pm c)/\Meth K C x f:=by
 obtain⟨e1,e2,e3,e4,e5⟩:_/\_/\_/\_/\_:=by simpa only[Prod.mk.injEq]using e
 exact⟨zE (st:=st) e3 e4 e5,e1,e2,e5⟩
theorem mY(X:K.In h)(G:h.Ns mainGlobals mg)(e:Ed K x st f pm c)(b:∀kV doc pm an cdv ct a,bindArgs (qA x x st kV doc pm an cdv ct) ⟨[a],[]⟩=pure [(p1,a)]):a_ K mg x x st [p1] f (fd st x x pm c):=⟨e.fn.1,mg_of X G e.fn.2,Jl e.fn.1 b⟩
theorem mj(X:K.In h)(G:h.Ns mainGlobals mg)(e:Ed K x st f pm c)(b:∀kV doc pm an cdv ct a1 a2,bindArgs (qA x x st kV doc pm an cdv ct) ⟨[a1,a2],[]⟩=pure [(p1,a1),(p2,a2)]):a_ K mg x x st [p1,p2] f (fd st x x pm c):=⟨e.fn.1,mg_of X G e.fn.2,HP e.fn.1 b⟩
theorem yw(X:K.In h)(G:h.Ns mainGlobals mg)(e:Ed K x st f pm c)(b:∀kV doc pm an cdv ct a1 a2 a3,bindArgs (qA x x st kV doc pm an cdv ct) ⟨[a1,a2,a3],[]⟩=pure [(p1,a1),(p2,a2),(p3,a3)]):a_ K mg x x st [p1,p2,p3] f (fd st x x pm c):=⟨e.fn.1,mg_of X G e.fn.2,Jp e.fn.1 b⟩
theorem El(X:K.In h)(G:h.Ns mainGlobals mg)(e:Ed K x st f pm c)(b:∀kV doc pm an cdv ct a1 a2 a3 a4,bindArgs (qA x x st kV doc pm an cdv ct) ⟨[a1,a2,a3,a4],[]⟩=pure [(p1,a1),(p2,a2),(p3,a3),(p4,a4)]):a_ K mg x x st [p1,p2,p3,p4] f (fd st x x pm c):=⟨e.fn.1,mg_of X G e.fn.2,Jn e.fn.1 b⟩
theorem HI(e:Em K C x q st f pm c)(b:∀kV doc pm an cdv ct a1 a2,bindArgs (qA x q st kV doc pm an cdv ct) ⟨[a1,a2],[]⟩=pure [(p1,a1),(p2,a2)]):MethAt K C x q st [p1,p2] f (fd st x q pm c):=⟨e.fn.1,e.fn.2,HP e.fn.1 b⟩
theorem na{a:Str}(e:findIn K (.ref C) a=some none):fD K C a:=e
end
end Hd
namespace L3
open PySem L2
open PySem.Spec hiding items?
open PyProof.Rows hiding St
section
variable {X:Cx}{pos:Pos}
end
end L3
namespace L3
open PySem L2
open PySem.Spec hiding items?
end L3
namespace L2
open PySem PySem.Spec PyProof.Rows PySem.W
section
variable {P:Program}{w:World}{H H':Hp}{h h':Heap}
theorem dE.BX(x:dE P w H h)(k:∀b o u,H b=some o->h.get? b=some u->h'.get? b=some u):dE P w H h':=fun a o e=>
 (x a o e).kE (fun b u hb q=>by
   rcases hb with rfl|hb
   . exact k _ _ u e q
   . exact k _ _ u hb q) (fun _ q=>q) fun _ _ q=>q
end
structure Still(P:Program)(w:World)(outer:List Env)(H H':Hp)(h B:Heap):Prop where
 aw:dE P w H' B
 keep:∀b o,h.get? b=some o->H b=none->b∉di outer->B.get? b=some o
 there:∀b o,h.get? b=some o->b∉di outer->∃o',B.get? b=some o'
theorem sZ{fs:List Addr}{H H':Hp}{h h1 h2 B:Heap}(U:Un fs [] H H' h h1)(hs:B.StaysIn h2)(keep:∀b o,h.get? b=some o->H b=none->b∉fs->B.get? b=some o)
 (there:∀b o,h.get? b=some o->b∉fs->∃o',B.get? b=some o') (hu:h1.UpToSlots h2) (hf:∀b∈fs,H b=none/\∀o,h.get? b=some o->∀vs,o.data≠ .fields vs):Un fs [] H H' h h2 where
 keep:=fun b o e n hb _=>hs b o (keep b o e n hb)
 slot:=fun b o e n hb hx=>by
  obtain⟨sl,q⟩:=U.slot b o e n hb hx;obtain⟨sl2,q2⟩:=hu b _ q ((hf b hb).2 o e);exact⟨sl2,q2⟩
 free:=U.free
 there:=fun b o e hx=>by
  by_cases hb:b∈fs
  . obtain⟨sl,q⟩:=U.slot b o e (hf b hb).1 hb hx;obtain⟨sl2,q2⟩:=hu b _ q ((hf b hb).2 o e);exact⟨_,q2⟩
  . obtain⟨o',q⟩:=there b o e hb;exact⟨o',hs b o' q⟩
 iI:=U.iI
 gZ:=U.gZ
 gT:=U.gT
def bX(P:Program)(w:World):jL:=fun outer H s E e s'=>∃(a C t:Addr) (H':Hp) (B:Heap),e= .ref a/\s'.os=s.os/\AllBare s'.gens/\Un (di outer) [] H H' s.heap s'.heap/\
 Still P w outer H H' s.heap B/\B.FlyingW outer a (.ref C) (.ref t) s'.heap/\E (.ref C) none H'
theorem lS{h base:Heap}{l:List Env}(hl:h.FunFrames base l){b:Addr}(hb:b∈di l){o:Obj}(e:h.get? b=some o):∀vs,o.data≠ .fields vs:=by
 obtain⟨_,o',ho,hd⟩:=hl.mem hb;rw[e]at ho;cases ho;exact hd
section
variable {CX:jL}{P:Program}{w:World}{K:PySem.W.Frag}{mg:Str->Option Value}{base:Heap}{N:List Str}{qual:Str}{scope:Scope}{f:Addr}{cd:Value}{A:Around}{outer:List Env}{s s1:Shared}{H H1:Hp}{E:XK}{σ:St}{pins:List (Addr×Obj)}
theorem xT{e C:Addr}{vs:List Value}{s2:Shared}(I:Inv (bx (bX P w) P w K mg base N qual scope f cd A outer s H E) pins σ H1 s1)(hx:Heap.MadeExcOf s1.heap s2.heap e (.ref C) vs)(ho:s2.os=s1.os)(hg:s2.gens=s1.gens)(q:E (.ref C) none H1):
 (bx (bX P w) P w K mg base N qual scope f cd A outer s H E).xe (.ref e) s2:=by
 have hst:(bx (bX P w) P w K mg base N qual scope f cd A outer s H E).stack=envOfC qual scope s.heap.objs.size f cd::outer:=rfl;have hfr:=I.ok.frames;have hfun:=I.stack;have hfree:=I.kP;have hl:∀b∈di (envOfC qual scope s.heap.objs.size f cd::outer),b=s.heap.objs.size\/b∈di outer:=fun b hb=>List.mem_cons.mp hb;have hin:∀env∈(envOfC qual scope s.heap.objs.size f cd::outer),∀b,env.frame=some b->b∈di (envOfC qual scope s.heap.objs.size f cd::outer):=fun env he b hb=>List.mem_filterMap.mpr ⟨env,he,hb⟩;refine wpAny_leaves_madeW (base:=hideAll s1.heap (di (envOfC qual scope s.heap.objs.size f cd::outer))) hfr rfl (fun b o e=>of_hideAll _ e) (funFrames_hide hfun hin) hx fun h' t x1 x2 x3 x4=>?_;have nL:∀b o,s.heap.get? b=some o->b≠s.heap.objs.size:=fun b o e z=>by subst z;exact absurd (Heap.lt_size e) (Nat.lt_irrefl _)
 have S:Still P w outer H H1 s.heap (hideAll s1.heap (di (envOfC qual scope s.heap.objs.size f cd::outer))):=by
  refine⟨I.aw.BX fun b o u e g=>hideAll_get _ g fun hb=>?_,fun b o e n hb=>hideAll_get _ (I.base.keep b o e n hb (by exact List.not_mem_nil)) fun z=>?_,fun b o e hb=>?_⟩
  . rw[hfree b hb]at e;cases e
  . exact(hl b z).elim (nL b o e) hb
  . obtain⟨o',g⟩:=I.base.there b o e (by exact List.not_mem_nil);exact⟨o',hideAll_get _ g fun z=>(hl b z).elim (nL b o e) hb⟩
 have U:Un (di outer) [] H H1 s.heap s1.heap:=I.base;have U2:=sZ U x1.1 S.keep S.there (((Heap.UpToSlots.of_keeps hx.keeps)).trans x4) fun b hb=>⟨I.ok.mX b hb,fun o e=>lS I.ok.fX hb e⟩
 exact⟨e,C,t,H1,_,rfl,ho.trans I.os,by show AllBare s2.gens;rw[hg];exact I.bare,U2,S,x1,q⟩
theorem qI{E':XK}(hE:∀c t H',E c t H'->E' c t H'):Passes (bX P w) (bx (bX P w) P w K mg base N qual scope f cd A outer s H E') E:=by
 rintro pins σ H1 s1 e s2 I ⟨a,C,t,H2,B,rfl,ho,hg,U,S,fly,q⟩;have hfr:=I.ok.frames;refine wpAny_leaves_onW (base:=B) hfr rfl fly fun h' fly' x4=>?_;have hl:∀b∈di (envOfC qual scope s.heap.objs.size f cd::outer),b=s.heap.objs.size\/b∈di outer:=fun b hb=>List.mem_cons.mp hb;have nL:∀b o,s.heap.get? b=some o->b≠s.heap.objs.size:=fun b o e z=>by subst z;exact absurd (Heap.lt_size e) (Nat.lt_irrefl _)
 have no:∀b o,s.heap.get? b=some o->b∉di outer->b∉di (envOfC qual scope s.heap.objs.size f cd::outer):=fun b o e hb z=>(hl b z).elim (nL b o e) hb
 have S2:Still P w outer H H2 s.heap B:=⟨S.aw,fun b o e n hb=>S.keep b o (I.base.keep b o e n hb (by exact List.not_mem_nil)) (I.base.free b o e n (by exact List.not_mem_nil)) (no b o e hb),fun b o e hb=>by
  obtain⟨o',g⟩:=I.base.there b o e (by exact List.not_mem_nil);exact S.there b o' g (no b o e hb)⟩
 have J:=I.qi ho U (S.aw.kept fun b u e=>fly.1 b u e) hg (ch:=[]) (fun b z=>absurd z List.not_mem_nil);have U2:Un (di outer) [] H H2 s.heap s2.heap:=J.base;exact⟨a,C,t,H2,B,rfl,ho.trans I.os,hg,sZ U2 fly'.1 S2.keep S2.there x4 fun b hb=>⟨I.ok.mX b hb,fun o e=>lS I.ok.fX hb e⟩,S2,fly',hE _ _ _ q⟩
end
abbrev HX:List Value:=[.type "ValueError",.type "Exception",.type "BaseException",.type "object"]
def H0(h:Heap)(C:Addr)(bm:List Value):Prop:=∃N nm q bs hdct sn sub ab col dd k0 k1 k2 k3 k5 mN,h.get? C=some (excClassObj nm q C N bs bm hdct sn sub ab col dd k0 k1 k2 k3 k5 "ValueError.__new__")/\h.Ns N mN/\mN "__init__"=none/\OwnTail h HX bm
def gO(K:Frag)(C:Addr)(bm:List Value):Bool:=match K.lookup C with
 |some ⟨.type "type",_,.cls cd,sl⟩=>(match sl.toList with
  | [_,_,_,_,some (.builtin n),_]=>cd.mro== .ref C::bm&&n=="ValueError.__new__"&& !cd.hasDel&&tailIn K HX bm&&nsOkIn K cd.ns&&nsIn K cd.ns "__init__"==some none
  |_=>false)
 |_=>false
theorem gE{K:Frag}{h:Heap}{C:Addr}{bm:List Value}(X:K.In h)(q:gO K C bm=true):H0 h C bm:=by
 unfold gO at q;split at q
 . rename_i dd cd sl ho;split at q
   . rename_i k0 k1 k2 k3 n k5 hs;simp only[Bool.and_eq_true,beq_iff_eq,Bool.not_eq_true']at q;obtain⟨⟨⟨⟨⟨hm,rfl⟩,hdel⟩,ht⟩,aw⟩,hni⟩:=q;obtain⟨nm,bs,mro,ns,qn,hd,sn,sub,ab,col,del⟩:=cd;dsimp only at hm hdel aw hni;subst hm hdel
     have hsl:sl= #[k0,k1,k2,k3,some (.builtin "ValueError.__new__"),k5]:=by
      obtain⟨l⟩:=sl;simp only at hs;rw[hs]
     subst hsl;exact⟨ns,nm,qn,bs,hd,sn,sub,ab,col,dd,k0,k1,k2,k3,k5,_,X _ _ ho,.of_isNs (isNs_of_in X aw),nsMap_none_of_in X aw hni,tail_of_in X ht⟩
   . cases q
 . cases q
section
variable {P:Program}{w:World}{K:PySem.W.Frag}{mg:Str->Option Value}{base:Heap}{N:List Str}{qual:Str}{scope:Scope}{f:Addr}{cd:Value}{A:Around}{outer:List Env}{s:Shared}{H:Hp}{E:XK}
def Ej(C:Addr)(E:XK)(t:TA):TS:=fun _ σ H=>t σ H fun vs H1=>vs.length<=sizeLine/\E (.ref C) none H1
theorem Af{x:Str}{C:Addr}{bm:List Value}{np cpos pos:Pos}{e:Expr}{es:List Expr}{t:TA}(hC:gO K C bm=true)(hm:mg x=some (.ref C))
 (hg:Gl (bx (bX P w) P w K mg base N qual scope f cd A outer s H E) x) (ha:PA (bx (bX P w) P w K mg base N qual scope f cd A outer s H E) (e::es) t)
 (hd:(x==("__debug__":Str))=false:=by decide)
 (he:starEach (e::es) (envOfC qual scope s.heap.objs.size f cd)=(false,eval e (envOfC qual scope s.heap.objs.size f cd))::starEach es (envOfC qual scope s.heap.objs.size f cd):=by rfl)
 (hpl:(backTo cpos (starEach es (envOfC qual scope s.heap.objs.size f cd))).any (·.1)=false:=by rfl):
 PS (bx (bX P w) P w K mg base N qual scope f cd A outer s H E) (.Raise (some (.Call (.Name x np) (e::es) [] cpos)) none pos) (Ej C E t):=by
 intro pins s1 σ H1 D I h;obtain⟨NN,nm,q,bs,hdct,sn,sub,ab,col,dd,k0,k1,k2,k3,k5,mN,hCo,hN,hni,T⟩:=gE I.ok.mod.t_ hC;have hk1:∀b o,base.get? b=some o->s1.heap.get? b=some o:=I.bk
 refine wpAny_Raise_call_subT (C:=C) (nm:=nm) (q:=q) (N:=NN) (bs:=bs) (bm:=bm) (hdct:=hdct) (sn:=sn) (sub:=sub) (ab:=ab) (col:=col) (dd:=dd) (k0:=k0) (k1:=k1) (k2:=k2) (k3:=k3) (k5:=k5)
  PySem.F.excBase_ValueError (mN:=mN) (T.hasType PySem.F.excBase_ValueError.hasBase) (I.ok.hd rfl) (by
   show(backTo cpos (starEach (e::es) (envOfC qual scope s.heap.objs.size f cd))).any (·.1)=false;rw[he];show(false||(backTo cpos (starEach es (envOfC qual scope s.heap.objs.size f cd))).any (·.1))=false;rw[hpl];rfl) hni (iE I hg hm ⟨rfl,?_⟩ hd)
 have a:=ha cpos pins s1 σ H1 _ I h;show wpAny _ _ (evalArgs (.ref C) true (backTo cpos (starEach (e::es) (envOfC qual scope s.heap.objs.size f cd))) []) _ _ _;have a':wpAny (model P w) (A.deeper (envOfC qual scope s.heap.objs.size f cd)) (spliced (backTo cpos (starEach (e::es) (envOfC qual scope s.heap.objs.size f cd)))) _ _ s1:=a;rw[he]at a'⊢;refine Calls.evalArgs_plain (wpAny_mono a' (fun us s2 h2=>?_) fun _ _ y=>y);obtain⟨vs,H2,I2,r,hl,hE⟩:=h2;have hk2:∀b o,base.get? b=some o->s2.heap.get? b=some o:=I2.bk;exact⟨rfl,by rw[<-r.length];exact hl,hk2 _ _ hCo,hN.keeps hk2,T.keeps hk2,fun h' a hx=>xT I2 hx rfl rfl hE⟩
end
section
variable {M:Model}{A:Around}{E:Value->Shared->Prop}
theorem oO{C L N NL:Addr}{nm q nmL qL:Str}{bs bm bsL bmL:List Value}{hdct hdL:Bool}{sn snL:List Str}{sub subL:List Value}{ab abL:Bool}{col colL:Option Bool}{dd ddL:Option Addr}{k0 k1 k2 k3 k5 l0 l1 l2 l3 l5:Option Value}{newId newL:String}
 {h:Heap} {g:Array GenState} {d:Drawn} {t:Nat} {os:OsState} {e:Addr} {oe:Obj} {Q:Bool->Shared->Prop}
 (hC:h.get? C=some (excClassObj nm q C N bs bm hdct sn sub ab col dd k0 k1 k2 k3 k5 newId)) (hL:h.get? L=some (excClassObj nmL qL L NL bsL bmL hdL snL subL abL colL ddL l0 l1 l2 l3 l5 newL))
 (he:h.get? e=some oe) (hcls:oe.cls= .ref C) (hbase:bmL.contains (.type "BaseException")=true) (hin:(Value.ref C::bm).contains (.ref L)=true)
 (hq:Q true ⟨h,g,d,t,os⟩):wpAny M A (excMatches (.ref e) (.ref L)) Q E ⟨h,g,d,t,os⟩:=by
 have hcB:(Value.ref L::bmL).contains (.type "BaseException")=true:=by rw[List.contains_cons,hbase,Bool.or_true]
 have f:=tc_notTuple;unfold excMatches;repeat(first|(with_reducible refine wpAny_loadPart_at he ?_;rw[hcls])|with_reducible refine wpAny_loadPart_at hL ?_|(with_reducible refine wpAny_isSubtype_exc hL ?_;rw[hcB])|(with_reducible refine wpAny_isSubtype_exc hC ?_;rw[hin])|wp_step)
 exact hq
end
abbrev Cx.mark(X:Cx)(e:Value):Cx:={X with A:=X.A.mark (some e),calm:=false,xe:=fun _ _=>False}
theorem Inv.mark{X:Cx}{pins:List (Addr×Obj)}{σ:St}{H:Hp}{s:Shared}(I:Inv X pins σ H s)(e:Value):Inv (X.mark e) pins σ H s:=
 ⟨⟨I.ok.mod,I.ok.kind,I.ok.glob,I.ok.blt,I.ok.above,I.ok.inj,I.ok.has,I.ok.ui,fun z=>(nomatch z),I.ok.frames,I.ok.wy,I.ok.y9,I.ok.bs,I.ok.oG,I.ok.pq,I.ok.oU,I.ok.fX,I.ok.mX,I.ok.gt⟩,I.os,I.bare,I.base,I.loc,I.cell,I.free,I.ft,I.pin,I.aw,I.len⟩
theorem Inv.unmark{X:Cx}{pins:List (Addr×Obj)}{σ:St}{H:Hp}{s:Shared}{e:Value}(I:Inv (X.mark e) pins σ H s)(ok:X.Ok):Inv X pins σ H s:=
 ⟨ok,I.os,I.bare,I.base,I.loc,I.cell,I.free,I.ft,I.pin,I.aw,I.len⟩
def excAt(a C:Addr):HO:= .ext fun h=>∃o vs,h.get? a=some o/\o.cls= .ref C/\o.data= .fields vs
section
variable {X:Cx}{pins:List (Addr×Obj)}{σ:St}{H1:Hp}{s1 s':Shared}{E:XK}
theorem qr{a C t:Addr}{H2:Hp}{B:Heap}{s6:Shared}(I:Inv X pins σ H1 s1)(ho:s6.os=s1.os)(hg:AllBare s6.gens)(U:Un (di X.stack) [] H1 H2 s1.heap s'.heap)(S:Still X.prog X.w X.stack H1 H2 s1.heap B)
 (fly:B.FlyingW X.stack a (.ref C) (.ref t) s6.heap) (sm:s'.heap.UpToSlots s6.heap):Inv X pins σ (upd H2 a (excAt a C)) s6/\H2 a=none:=by
 have frd:∀b∈di X.stack,H1 b=none/\∀o,s1.heap.get? b=some o->∀vs,o.data≠ .fields vs:=fun b hb=>⟨I.kP b hb,fun o e=>lS I.stack hb e⟩
 have U6:=sZ U fly.1 S.keep S.there sm frd;obtain⟨oe,vs,hoe,hoc,hod,_⟩:=fly.first
 have fresh:s1.heap.get? a=none:=by
  cases q:s1.heap.get? a with
  |none=>rfl
  |some o=>
   by_cases hb:a∈di X.stack
   . obtain⟨sl,q2⟩:=U6.slot a o q (frd a hb).1 hb List.not_mem_nil;rw[hoe]at q2;cases q2;exact absurd hod ((frd a hb).2 o q vs)
   . obtain⟨o',q2⟩:=S.there a o q hb;rw[fly.2.1]at q2;cases q2
 have inB:∀b o,H2 b=some o->b≠a:=fun b o e z=>by
  subst z;have hlt:=S.aw b o e
  have hb:∃u,B.get? b=some u:=by
   have:=hlt.lt;cases o with
   |lst xs=>obtain⟨_,_,_,_,e⟩:=hlt;exact⟨_,e⟩
   |tup xs=>obtain⟨_,_,_,ob,e,_⟩:=hlt;exact⟨_,e⟩
   |dK kvs=>obtain⟨_,_,_,_,o,_,_,e,_⟩:=hlt;exact⟨_,e⟩
   |dT kvs=>obtain⟨_,_,_,_,o,_,_,e,_⟩:=hlt;exact⟨_,e⟩
   |set S n=>obtain⟨o,_,_,_,e,_⟩:=hlt;exact⟨_,e⟩
   |ins C dx fs=>obtain⟨_,_,_,e,_⟩:=hlt;exact⟨_,e⟩
   |own y=>exact hlt
   |xd fs=>obtain⟨_,⟨_,_,_,e,_⟩,_⟩:=hlt;exact⟨_,e⟩
   |B9 lo hi=>obtain⟨_,_,_,e⟩:=hlt;exact⟨_,e⟩
   |dM ob u=>obtain⟨e,_⟩:=hlt;exact⟨_,e⟩
   |jf ps=>exact⟨_,hlt⟩
   |met f y=>exact⟨_,hlt⟩
   |ext φ=>obtain⟨_,e,_⟩:=hlt;exact e
  obtain⟨u,hu⟩:=hb;rw[fly.2.1]at hu;cases hu
 have na:H2 a=none:=by
  cases q:H2 a with
  |none=>rfl
  |some o=>exact absurd rfl (inB a o q)
 have ne1:∀b o,s1.heap.get? b=some o->b≠a:=fun b o e z=>by rw[z,fresh]at e;cases e
 have U7:Un (di X.stack) [] H1 (upd H2 a (excAt a C)) s1.heap s6.heap:=⟨U6.keep,U6.slot,fun b o e n hx=>by rw[aq (ne1 b o e)];exact U6.free b o e n hx,U6.there,fun b xs e=>by
  have:=U6.iI b xs e;rw[aq (inB b _ this)];exact this,fun b o u e=>by
  have:=U6.gZ b o u e;rw[aq (inB b _ this)];exact this,fun b ps e=>by
  obtain⟨more,this⟩:=U6.gT b ps e;exact⟨more,by rw[aq (inB b _ this)];exact this⟩⟩
 have K7:dE X.prog X.w (upd H2 a (excAt a C)) s6.heap:=fun b o e=>by
  by_cases hb:b=a
  . subst hb;rw[aD]at e;cases e;exact⟨⟨oe,vs,hoe,hoc,hod⟩,⟨oe,hoe⟩,fun h1 h2 ⟨o,vs,q1,q2,q3⟩ k=>⟨o,vs,k o q1,q2,q3⟩⟩
  . rw[aq hb]at e;exact(S.aw b o e).kE (fun c u _ q=>fly.1 c u q) (fun c q=>by rw[aq (inB c _ q)];exact q) fun c xs q=>by rw[aq (inB c _ q)];exact q
 exact⟨I.qi ho U7 K7 hg (ch:=[]) (fun b z=>absurd z List.not_mem_nil),na⟩
end
section
variable {X:Cx}{pins:List (Addr×Obj)}{σ:St}{H:Hp}{s:Shared}
theorem C0{M:Model}{A:Around}{E:Value->Shared->Prop}{i:Nat}{x:Str}{pos:Pos}{Q:Unit->Shared->Prop}(I:Inv X pins σ H s)(hN:X.N.Nodup)(hi:X.N[i]?=some x)(hk:X.env.scope.names.lookup x=some .local)
 (h:∀s',Inv X pins (σ.set i none) H s'->Q () s'):wpAny M A (do bindName X.env x .none;unbindBehindTheSuite X.env x pos) Q E s:=by
 obtain⟨m,hn,hl⟩:=id I.loc;have hcls:(X.env.scope.kind== .class||(X.env.scope.kind== .module&&X.env.locals != X.env.globals))=false:=by rw[I.ok.kind];rfl
 have ni:=I.ni;refine wpAny_nameGoes_keeps hk hn hcls fun h' v hn' hs=>h _ ?_;obtain⟨oL,_,_,hoL,_⟩:=id hn;have tracked:dE X.prog X.w H h':=I.aw.BX fun b o u e q=>(hs.2 b (fun z=>by rw[z,I.free]at e;cases e)).trans q;refine⟨I.ok,I.os,I.bare,⟨fun b o e n hb hx=>?_,fun b o e n hb hx=>?_,I.base.free,fun b o e hx=>?_,I.base.iI,I.base.gZ,I.base.gT⟩,⟨_,hn',fun j y v' e1 e2 e3=>?_⟩,fun y c e=>?_,I.free,I.ft,fun p hp=>?_,tracked,by simpa using I.len⟩
 . exact(hs.2 b (Nat.ne_of_lt (Nat.lt_of_lt_of_le (Heap.lt_size e) I.ok.above))).trans (I.base.keep b o e n hb hx)
 . obtain⟨sl,e1⟩:=I.base.slot b o e n hb hx;exact⟨sl,(hs.2 b (Nat.ne_of_lt (Nat.lt_of_lt_of_le (Heap.lt_size e) I.ok.above))).trans e1⟩
 . obtain⟨o',e1⟩:=I.base.there b o e hx;exact⟨o',(hs.2 b (Nat.ne_of_lt (Nat.lt_of_lt_of_le (Heap.lt_size e) I.ok.above))).trans e1⟩
 . by_cases hj:j=i
   . subst hj;by_cases hlt:j<σ.length
     . rw[List.getElem?_set_self hlt]at e2;cases e2
     . rw[List.getElem?_eq_none (by rw[List.length_set];omega)]at e2;cases e2
   . rw[List.getElem?_set_ne (Ne.symm hj)]at e2;obtain⟨u',r',q⟩:=hl j y v' e1 e2 e3;refine⟨u',r',?_⟩;rcases q with⟨k,e⟩|⟨k,c,e,z⟩
     . refine .inl ⟨k,?_⟩;have:y≠x:=fun e=>hj (oS hN e1 (e▸hi));simp[this,e]
     . exact .inr ⟨k,c,e,z.sameBut hs (ni y c e)⟩
 . obtain⟨w',z⟩:=I.cell y c e;exact⟨w',z.sameBut hs (ni y c e)⟩
 . obtain⟨e,n,ne,nf,d⟩:=I.pin p hp;exact⟨(hs.2 p.1 ne).trans e,n,ne,nf,d⟩
theorem yq{CX:jL}{k:Nat}{f:Addr}{fd:FuncData}{ps:List Str}{sp:Sp}{E:XK}{Q:VK}{us:List Value}{vs:List V}{XE:Value->Shared->Prop}(F:aK X.prog X.w X.K X.mg X.base CX k f fd ps sp)(hr:bw k X.A)(hb:Binds X.K fd ps [])
 (I:Inv X pins σ H s) (r:Vals vs us) (h:sp vs H Q E) (hx:∀e s',CX X.stack H s E e s'->XE e s'):wpAny (model X.prog X.w) X.A (call (.ref f) us) (EP X pins σ Q) XE s:=by
 have hl:(us++[]).length=ps.length:=by rw[List.append_nil,<-r.length];exact F.len _ _ _ _ h
 have q:=hb s us I.dG hl;rw[List.append_nil]at q;refine wpAny_call (codeAny_mono (F.run X.A X.stack s H ⟨us,[]⟩ us vs Q E hr I.Bg q r h) fun r s' hq=>?_);cases r with
 |error e=>exact hx e s' hq
 |ok fl=>
  cases fl with
  |ret u=>exact I.after hq
  |_=>exact hq.elim
end
section
variable {X:Cx}
theorem yV{CX:jL}{k:Nat}{f:Addr}{fd:FuncData}{ps:List Str}{sp:Sp}{x:Str}{p pos:Pos}{e:Expr}{es:List Expr}{t:TA}{E:XK}{XE:Value->Shared->Prop}(σ0:St)(ps0:List (Addr×Obj))(F:aK X.prog X.w X.K X.mg X.base CX k f fd ps sp)(hr:bw k X.A)(hg:Gl X x)(hm:X.mg x=some (.ref f))(hk:PySem.W.keepIn X.K (.ref f)=true)(hb:Binds X.K fd ps [])
 (ha:PA X.cx (e::es) t) (hx:∀H s e s',Inv X ps0 σ0 H s->CX X.stack H s E e s'->XE e s') {s:Shared} {H:Hp} {Q:VK} (I:Inv X ps0 σ0 H s) (h:lC sp [] E t σ0 H Q)
 (hdb:(x==("__debug__":Str))=false:=by decide) (he:starEach (e::es) X.env=(false,eval e X.env)::starEach es X.env:=by rfl) (hpl:(backTo pos (starEach es X.env)).any (·.1)=false:=by rfl):
 wpAny (model X.prog X.w) X.A (eval (.Call (.Name x p) (e::es) [] pos) X.env) (EP X ps0 σ0 Q) XE s:=by
 refine wpAny_Call_Name_kw (iE I hg hm ?_ hdb);refine PySem.W.callWith_K (h₀:=X.base) I.ok.mod.t_ hk (wpAny_mono (ha pos ps0 s σ0 H _ (I.fW _) h) (fun us s1 ⟨vs,H1,I1,r,q⟩=>⟨I1.cL.dG,?_⟩) fun _ _ z=>z.elim) he hpl;have q:sp (vs++[]) H1 Q E:=q;rw[List.append_nil]at q;exact yq F hr hb I1.cL r q fun e s' c=>hx H1 s1 e s' I1.cL c
end
end L2
namespace L2
open PySem PySem.Spec PyProof.Rows PySem.W PySem.Calls
section
variable {prog:Program}{w:World}{A:Around}{E:Value->Shared->Prop}{h:Heap}{g:Array GenState}{d:Drawn}{t:Nat}{os:OsState}{a C:Addr}{o:Obj}{K:Frag}{bm:List Value}
 {nm q:Str} {N:Addr} {bs:List Value} {hdct:Bool} {sn:List Str} {sub:List Value} {ab:Bool} {col:Option Bool} {dd:Option Addr} {k0 k1 k2 k3 k5:Option Value} {newId:String}
theorem Fw{R:Result->Shared->Prop}(hC:h.get? C=some (excClassObj nm q C N bs bm hdct sn sub ab col dd k0 k1 k2 k3 k5 newId))(ho:bm.contains (.type "object")=true)(hx:h.get? a=some o)(hc:o.cls= .ref C)(hq:R (.ok (.ret (.ref C))) ⟨h,g,d,t,os⟩):
 codeAny (model prog w) A (.call (.builtin "getset_descriptor.__get__") ⟨[.builtin "object.__class__",.ref a,.ref C],[]⟩) R ⟨h,g,d,t,os⟩:=by
 have hT5:(⟨h,g,d,t,os⟩:Shared).TypeIs (.builtin "object.__class__") "getset_descriptor":=F.typeOf_object_class
 have hcB:(Value.ref C::bm).contains (.type (".".intercalate ("object.__class__".cutAt '.').dropLast))=true:=by
  rw[F.owner_object_class,List.contains_cons,ho];rfl
 refine codeAny_call_builtin F.slot_gs_get.plain F.entry_gs_get (F.slot_gs_get.check _ _ _ _ _ _ _ _ hT5 (F.args_gs_get _ _ _) ?_);repeat(any_goals (first|assumption|(with_reducible refine wpAny_loadPart_at hx ?_;rw[hc])|(with_reducible refine wpAny_isSubtype_exc hC ?_;rw[hcB])|wp_step))
 refine⟨Code.quiet_builtin _ (by decide+kernel),codeAny_builtin F.entry_object_class ?_⟩;repeat(any_goals (first|assumption|(with_reducible refine wpAny_loadPart_at hx ?_;rw[hc])|wp_step))
theorem Ay{tk:Tok}{Q:Fin->Shared->Prop}(X:K.In h)(fc:findIn K (.ref C) "__class__"=some (some (.builtin "object.__class__")))(hC:h.get? C=some (excClassObj nm q C N bs bm hdct sn sub ab col dd k0 k1 k2 k3 k5 newId))(ho:bm.contains (.type "object")=true)(hx:h.get? a=some o)(hc:o.cls= .ref C)(hq:Q (.done (.ret (.ref C))) ⟨h,g,d,t,os⟩):
 wpAny (model prog w) A (Builtin.«object.__getattribute__» ⟨[.ref a,.str "__class__" tk],[]⟩) Q E ⟨h,g,d,t,os⟩:=by
 have hT5:(⟨h,g,d,t,os⟩:Shared).TypeIs (.builtin "object.__class__") "getset_descriptor":=F.typeOf_object_class;have f5:=F.typeOf_object_class;have f6:=F.slot_gs_get.lookup;have f7:=F.slot_gs_set.lookup;have L1:=looks_findIn (M:=model prog w) X fc;repeat(any_goals (first|assumption|(with_reducible refine wpAny_loadPart_at hx ?_;rw[hc])|with_reducible refine L1.at ?_|wp_step))
 refine Fw hC ho hx hc ?_;repeat(any_goals (first|assumption|wp_step))
theorem Bi{M:Model}{nameV:Value}{Q:Unit->Shared->Prop}(hC:h.get? C=some (excClassObj nm q C N bs bm hdct sn sub ab col dd k0 k1 k2 k3 k5 newId))(hb:bm.contains (.type "BaseException")=true)
 (hx:h.get? a=some o) (hc:o.cls= .ref C) (hq:Q () ⟨h,g,d,t,os⟩):wpAny M A (checkBuiltinCall "BaseException.__getattribute__" ⟨[.ref a,nameV],[]⟩) Q E ⟨h,g,d,t,os⟩:=by
 have hk:builtinKind "BaseException.__getattribute__"=some .slot:=by decide+kernel
 have hsplit:splitId "BaseException.__getattribute__"=some ("BaseException","__getattribute__"):=by decide+kernel
 have hcB:(Value.ref C::bm).contains (.type "BaseException")=true:=by rw[List.contains_cons,hb];rfl
 have ha:=F.args_bexc_ga (.ref a) nameV;simp only[checkBuiltinCall,hk,hsplit];refine wpAny_bind ?_
 . unfold isInstance;repeat(first|(with_reducible refine wpAny_loadPart_at hx ?_;rw[hc])|(with_reducible refine wpAny_isSubtype_exc hC ?_;rw[hcB])|wp_step)
   exact hq
theorem F9{tk:Tok}{Q:Value->Shared->Prop}(X:K.In h)(fc:findIn K (.ref C) "__class__"=some (some (.builtin "object.__class__")))(fg:findIn K (.ref C) "__getattribute__"=some (some (.builtin "BaseException.__getattribute__")))(fa:findIn K (.ref C) "__getattr__"=some none)
 (hC:h.get? C=some (excClassObj nm q C N bs bm hdct sn sub ab col dd k0 k1 k2 k3 k5 newId)) (ho:bm.contains (.type "object")=true) (hb:bm.contains (.type "BaseException")=true) (hx:h.get? a=some o) (hc:o.cls= .ref C) (hq:Q (.ref C) ⟨h,g,d,t,os⟩):
 wpAny (model prog w) A (getAttrBy (.ref a) (.str "__class__" tk) false) Q E ⟨h,g,d,t,os⟩:=by
 have f3:=PySem.F.attr_ValueError.ga.bind (.ref a);have hx2:(Value.builtin "BaseException.__getattribute__"==Value.builtin "object.__getattribute__")=false:=by decide+kernel
 have hx1:(onTheHeap (Value.ref C)&&Value.builtin "BaseException.__getattribute__"==Value.builtin "object.__getattribute__")=false:=by rw[hx2];rfl
 have L1:=looks_findIn (M:=model prog w) X fg;have L2:=looks_findIn (M:=model prog w) X fa;repeat(any_goals (first|assumption|(with_reducible refine wpAny_loadPart_at hx ?_;rw[hc])|with_reducible refine L1.at ?_|with_reducible refine L2.at ?_|wp_step))
 refine codeAny_call_builtin PySem.F.attr_ValueError.ga.plain F.entry_bexc_ga (Bi hC hb hx hc (Ay X fc hC ho hx hc ?_));repeat(any_goals (first|assumption|wp_step))
theorem C5{Q:Option Value->Shared->Prop}(X:K.In h)(fc:findIn K (.ref C) "__class__"=some (some (.builtin "object.__class__")))(fg:findIn K (.ref C) "__getattribute__"=some (some (.builtin "BaseException.__getattribute__")))(fa:findIn K (.ref C) "__getattr__"=some none)
 (hC:h.get? C=some (excClassObj nm q C N bs bm hdct sn sub ab col dd k0 k1 k2 k3 k5 newId)) (ho:bm.contains (.type "object")=true) (hb:bm.contains (.type "BaseException")=true) (hx:h.get? a=some o) (hc:o.cls= .ref C) (hq:Q (some (.ref C)) ⟨h,g,d,t+1,os⟩):
 wpAny (model prog w) A (getAttr? (.ref a) "__class__") Q E ⟨h,g,d,t,os⟩:=by
 unfold getAttr? getAttrBy?;repeat(any_goals (first|assumption|with_reducible apply F9 X fc fg fa hC ho hb hx hc|wp_step))
end
def xM(K:Frag)(C:Addr):Bool:=findIn K (.ref C) "__class__"==some (some (.builtin "object.__class__"))&&findIn K (.ref C) "__getattribute__"==some (some (.builtin "BaseException.__getattribute__"))&&findIn K (.ref C) "__getattr__"==some none
theorem Bk{K:Frag}{a C:Addr}{bm:List Value}(hC:gO K C bm=true)(e:xM K C=true):KitX K (.ref a) (.ref C) (fun h=>∃o vs,h.get? a=some o/\o.cls= .ref C/\o.data= .fields vs) where
 ty:=fun M h _ ⟨o,vs,h1,h2,_⟩=>h2▸(Looks.ld h1).andThen .now
 it:=fun M h X _=>by
  obtain⟨NC,nm,qn,bs,hdct,sn,sub,ab,col,dd,k0,k1,k2,k3,k5,mN,hCo,_,_,_⟩:=gE X hC;intro A' Q' E' s' k q;unfold isType loadHead;exact wpAny_bind (wpAny_loadPart (k _ _ hCo) (wpAny_pure q))
 ne:=fun h tp dd aj n sl X htp=>by
  obtain⟨NC,nm,qn,bs,hdct,sn,sub,ab,col,dd,k0,k1,k2,k3,k5,mN,hCo,_,_,_⟩:=gE X hC;refine Bool.eq_false_iff.mpr fun q=>?_;have e:C=tp:=Value.ref.inj (beq_iff_eq.mp q);subst e;have z:Value.type "type"=Value.type "tuple":=congrArg Obj.cls (Option.some.inj (hCo.symm.trans htp));exact absurd (Value.type.inj z) (by decide)
 ca:=fun{prog w A E Q s} X ⟨o,vs,h1,h2,_⟩ k=>by
  obtain⟨NC,nm,qn,bs,hdct,sn,sub,ab,col,dd,k0,k1,k2,k3,k5,mN,hCo,_,_,T⟩:=gE X hC;unfold xM at e;simp only[Bool.and_eq_true,beq_iff_eq]at e;obtain⟨h,g,d,t,os⟩:=s;exact C5 X e.1.1 e.1.2 e.2 hCo (T.hasType rfl) (T.hasType rfl) h1 h2 k
end L2
namespace L3
open PySem PySem.Spec L2
open PyProof.Rows hiding St
abbrev eA:=e9->(Addr->aa->Prop)->aR->aa->Prop
def LX(α:List (Option Addr))(G F:Hp)(ex:Addr->aa->Prop)(E:XK):Prop:=∀C st',ex C st'->∀α' G' H',Step α G α' G'->a7 G' F H'->aB α' st' G'->E (.ref C) none H'
theorem LX.at{α α1:List (Option Addr)}{G F G1:Hp}{ex:Addr->aa->Prop}{E:XK}(h:LX α G F ex E)(s:Step α G α1 G1):LX α1 G1 F ex E:=fun C st' k α' G' H' s' P S=>h C st' k α' G' H' (s.trans s') P S
inductive Ee(E:XK)(t:eA)(D:Ends)(σ:L2.St)(H:Hp):Prop
 |mk (α:List (Option Addr)) (σd:aR) (st:aa) (DD:e9) (ex:Addr->aa->Prop) (G F:Hp) (P:a7 G F H) (R:bS α G σd σ) (S:aB α st G) (h:t DD ex σd st) (k:pG α G F DD D) (kx:LX α G F ex E):Ee E t D σ H
def jg(E:XK)(t:eA):TS:=Ee E t
def i6(t:DS):eA:=fun DD _ σ st=>t DD σ st
def gR(t u:eA):eA:=fun DD ex σ st=>t {DD with nx:=u DD ex} ex σ st
def ER(c:DT)(t u:eA):eA:=fun DD ex σ st=>c σ st fun b st1=>if b=true then t DD ex σ st1 else u DD ex σ st1
def uu(C:Addr)(t:DA):eA:=fun _ ex σ st=>t σ st fun ds st1=>ds.length<=sizeLine/\ex C st1
section
variable {X:Cx}{E:XK}{st:Stmt}{sts:List Stmt}{t u:eA}{pos:Pos}
theorem GZ{t:DS}(h:PS X st (LS t)):PS X st (jg E (i6 t)):=PS.imp h fun D σ H ⟨α,σd,st,DD,ex,G,F,P,R,S,t,k,kx⟩=>⟨α,σd,st,DD,G,F,P,R,S,t,k⟩
theorem EY{t:DS}(h:cM X sts (LS t)):cM X sts (jg E (i6 t)):=cM.imp h fun D σ H ⟨α,σd,st,DD,ex,G,F,P,R,S,t,k,kx⟩=>⟨α,σd,st,DD,G,F,P,R,S,t,k⟩
theorem DU(h:PS X st (jg E t)):cM X [st] (jg E t):=jE h
theorem AO(h:PS X st (jg E t))(h2:cM X sts (jg E u)):cM X (st::sts) (jg E (gR t u)):=cM.imp (jU h h2) fun D σ H ⟨α,σd,st,DD,ex,G,F,P,R,S,t,k,kx⟩=>
 ⟨α,σd,st,_,ex,G,F,P,R,S,t,⟨fun σd' st' q α' G' H' σ' s' P' R' S'=>⟨α',σd',st',DD,ex,G',F,P',R',S',q,k.at s',kx.at s'⟩,k.rt,k.bk,k.ct⟩,kx⟩
theorem GQ{c:Expr}{x y:List Stmt}{tc:DT}(hc:PT X c (LT tc))(ha:cM X x (jg E t))(hb:cM X y (jg E u)):PS X (.If c x y pos) (jg E (ER tc t u)):=PS.imp (tx hc ha hb) fun D σ H ⟨α,σd,st,DD,ex,G,F,P,R,S,t,k,kx⟩=>by
 refine⟨α,σd,st,_,G,F,P,R,S,t,fun b st1 q α1 G1 H1 s1 P1 S1=>?_⟩;cases b with
 |true=>exact⟨α1,σd,st1,DD,ex,G1,F,P1,R.step s1,S1,q,k.at s1,kx.at s1⟩
 |false=>exact⟨α1,σd,st1,DD,ex,G1,F,P1,R.step s1,S1,q,k.at s1,kx.at s1⟩
end
section
variable {P:Program}{w:World}{K:PySem.W.Frag}{mg:Str->Option Value}{base:Heap}{N:List Str}{qual:Str}{scope:Scope}{f:Addr}{cd:Value}{A:Around}{outer:List Env}{s:Shared}{H:Hp}{E:XK}
theorem A7{x:Str}{C:Addr}{bm:List Value}{np cpos pos:Pos}{e:Expr}{es:List Expr}{t:DA}(hC:gO K C bm=true)(hm:mg x=some (.ref C))
 (hg:Gl (bx (bX P w) P w K mg base N qual scope f cd A outer s H E) x) (ha:PA (bx (bX P w) P w K mg base N qual scope f cd A outer s H E) (e::es) (LA t))
 (hd:(x==("__debug__":Str))=false:=by decide)
 (he:starEach (e::es) (envOfC qual scope s.heap.objs.size f cd)=(false,eval e (envOfC qual scope s.heap.objs.size f cd))::starEach es (envOfC qual scope s.heap.objs.size f cd):=by rfl)
 (hpl:(backTo cpos (starEach es (envOfC qual scope s.heap.objs.size f cd))).any (·.1)=false:=by rfl):
 PS (bx (bX P w) P w K mg base N qual scope f cd A outer s H E) (.Raise (some (.Call (.Name x np) (e::es) [] cpos)) none pos) (jg E (uu C t)):=
 PS.imp (Af hC hm hg ha hd he hpl) fun D σ H ⟨α,σd,st,DD,ex,G,F,P,R,S,t,k,kx⟩=>⟨α,σd,st,_,G,F,P,R,S,t,fun ds st1 q α1 G1 H1 vs s1 P1 S1 r1=>⟨by rw[<-r1.length];exact q.1,kx C st1 q.2 α1 G1 H1 s1 P1 S1⟩⟩
abbrev dn:=List D->aa->DK->(Addr->aa->Prop)->Prop
inductive pS(T:dn)(vs:List V)(H:Hp)(Q:VK)(E:XK):Prop
 |mk (α:List (Option Addr)) (ds:List D) (st:aa) (K:DK) (ex:Addr->aa->Prop) (G F:Hp) (P:a7 G F H) (rx:ax α G ds vs) (S:aB α st G) (h:T ds st K ex) (k:LK α G F K Q) (kx:LX α G F ex E):pS T vs H Q E
def iH(S:dn):Sp:=fun vs H Q E=>pS S vs H Q E
theorem Fo{x:Str}{st:Stmt}{fd:FuncData}{ps:List Str}{k:Nat}{sp:dn}{t:eA}(F:i_ K x qual st f fd)(S:aG N ps (ai st))
 (hbody:∀(cdv:Value) (A:Around) (outer:List Env) (s:Shared) (H:Hp) (E:XK),bw k (A.deeper (envOfC qual (ai st) s.heap.objs.size f cdv))->cM (bx (bX P w) P w K mg base N qual (ai st) f cdv A outer s H E) (eN st) (jg E t))
 (hsp:∀ds st K ex,sp ds st K ex->ds.length=ps.length/\t {nx:=fun _ st'=>K .ay st',rt:=K} ex (aJ N ds) st):aK P w K mg base (bX P w) (k+1) f fd ps (iH sp):=by
 obtain⟨oc,od,kV,doc,pm,an,cdv,ct,osl,rfl,lk,hcd⟩:=F.ex;refine BV lk hcd S (fun vs H Q E h=>?_) fun A outer s H vs Q E hr h=>⟨_,hbody cdv A outer s H E hr,?_⟩
 . obtain⟨α,ds,st,K,ex,G,F,P,r,S,q,k,kx⟩:=h;rw[<-r.length];exact(hsp ds st K ex q).1
 . obtain⟨α,ds,st,K,ex,G,F,P,r,S,q,k,kx⟩:=h;refine⟨α,aJ N ds,st,_,ex,G,F,P,bS.start r,S,(hsp ds st K ex q).2,⟨?_,k,?_,?_⟩,kx⟩
   . intro σd' st' kk α' G' H' σ' s' P' R' S';exact k .ay st' kk α' G' H' .ay s' P' S' (by unfold Rep;rfl)
   . intro σd' st' kk;exact kk.elim
   . intro σd' st' kk;exact kk.elim
end
end L3
namespace L2
open PySem PySem.Spec PyProof.Rows PySem.W
def xS(K:Frag):List V->Hp->VK->Prop:=fun vs H Q=>∃a C bm c b,vs=[.ref a,c]/\H a=some (excAt a C)/\gO K C bm=true/\xM K C=true/\
 ((∀u,RelV c u->kitOne K (.ref C) u=some b)\/∃tp xs,c= .ref tp/\H tp=some (.tup xs)/\∀us,Vals xs us->kitAny K (.ref C) us=some b)/\Q (.bl b) H
theorem xo{X:Cx}:aU X (.builtin "isinstance") (xS X.K):=by
 rintro pins s σ H xs us Q I r ⟨a,C,bm,c,b,rfl,ha,hC,hcx,hb,q⟩
 obtain⟨u,rfl,rc⟩:∃u,us=[.ref a,u]/\RelV c u:=by
  cases r with
  |cons p r=>
   cases p;cases r with
   |cons p r=>
    cases r;exact⟨_,rfl,p⟩
 have Z:=Bk (a:=a) hC hcx;have p:∃o vs,s.heap.get? a=some o/\o.cls= .ref C/\o.data= .fields vs:=(I.aw a _ ha).1;rcases hb with h1|⟨tp,ys,rfl,ht,h1⟩
 . exact kia_one Z I.dG p (h1 u rc) (by intro z;cases z) fun tk=>⟨.bl b,H,I.tok tk,rfl,q⟩
 . cases rc;obtain⟨_,aj,rv,ob,ho,hc,n,hd⟩:=I.aw tp _ ht;obtain⟨cl,dd,dat,sl⟩:=ob;cases hc;cases hd;exact kia_tup Z I.dG p ho (h1 aj rv) (by intro z;cases z) fun tk=>⟨.bl b,H,I.tok tk,rfl,q⟩
end L2
namespace L3
open PySem PySem.Spec L2
open PyProof.Rows hiding St
end L3
namespace L3
open PySem L2
open PySem.Spec hiding items?
open PyProof.Rows hiding St
@[irreducible] def JX(X:Cx)(E:XK)(s:Stmt)(t:eA):Prop:=PS X s (jg E t)
@[irreducible] def j_(X:Cx)(E:XK)(s:List Stmt)(t:eA):Prop:=cM X s (jg E t)
section
variable {X:Cx}{E:XK}{c e:Expr}{es:List Expr}{t:DT}{pos p pos':Pos}{s:Stmt}{ss x y:List Stmt}{T U:eA}{V:DS}
theorem PS.cx{st:Stmt}{t:TS}(h:PS X.cx st t):PS X st t:=fun pins s σ H D I hw=>
 wpAny_mono (h pins s σ H D (I.fW _) hw) (fun _ _ q=>q.cL) fun _ _ z=>False.elim z
theorem PA.cx{t:TA}(h:PA X.cx es t):PA X es t:=fun pos pins s σ H Q I hw=>
 wpAny_mono (h pos pins s σ H Q (I.fW _) hw) (fun _ _ ⟨vs,H',I',r,q⟩=>⟨vs,H',I'.cL,r,q⟩) fun _ _ z=>False.elim z
theorem gk(h:JS X.cx s V):JX X E s (i6 V):=by unfold JX;unfold JS at h;exact GZ (PS.cx h)
theorem CD:j_ X E [] (i6 dm):=by unfold j_;exact EY wk
theorem ig(h:JX X E s T):j_ X E [s] T:=by unfold j_;unfold JX at h;exact DU h
theorem dc(h:JX X E s T)(h2:j_ X E ss U):j_ X E (s::ss) (gR T U):=by unfold j_ at*;unfold JX at h;exact AO h h2
theorem Gj(hc:JT X.cx c t)(ha:j_ X E x T)(hb:j_ X E y U):JX X E (.If c x y pos) (ER t T U):=by unfold JX;unfold j_ at*;unfold JT at hc;exact GQ (PT.cx hc) ha hb
end
section
variable {P:Program}{w:World}{K:PySem.W.Frag}{mg:Str->Option Value}{base:Heap}{N:List Str}{qual:Str}{scope:Scope}{f:Addr}{cd:Value}{A:Around}{outer:List Env}{s:Shared}{H:Hp}{E:XK}
theorem AG{x:Str}{C:Addr}{bm:List Value}{np cpos pos:Pos}{e:Expr}{es:List Expr}{t:DA}(hC:gO K C bm=true)(hm:mg x=some (.ref C))
 (ha:JA (bx (bX P w) P w K mg base N qual scope f cd A outer s H E).cx (e::es) t) (hd:(x==("__debug__":Str))=false) (hg:Gl (bx (bX P w) P w K mg base N qual scope f cd A outer s H E).cx x)
 (hs:notStar e=true:=by rfl) (hs2:cF es=true:=by rfl):
 JX (bx (bX P w) P w K mg base N qual scope f cd A outer s H E) E (.Raise (some (.Call (.Name x np) (e::es) [] cpos)) none pos) (uu C t):=by
 unfold JX;unfold JA at ha;exact A7 hC hm hg (PA.cx ha) hd (a8 hs) (d5 hs2)
theorem nA{x:Str}{st:Stmt}{fd:FuncData}{ps:List Str}{k:Nat}{sp:dn}{t:eA}(F:i_ K x qual st f fd)(S:aG N ps (ai st))
 (hbody:∀(cdv:Value) (A:Around) (outer:List Env) (s:Shared) (H:Hp) (E:XK),bw k (A.deeper (envOfC qual (ai st) s.heap.objs.size f cdv))->j_ (bx (bX P w) P w K mg base N qual (ai st) f cdv A outer s H E) E (eN st) t)
 (hsp:∀ds st K ex,sp ds st K ex->ds.length=ps.length/\t {nx:=fun _ st'=>K .ay st',rt:=K} ex (aJ N ds) st):aK P w K mg base (bX P w) (k+1) f fd ps (iH sp):=by
 unfold j_ at hbody;exact Fo F S hbody hsp
end
def g9(tg:dg)(body:eA)(ok:aa->Prop)(E:e9)(ex:Addr->aa->Prop):List D->aR->aa->Prop
 | [],σ,st=>ok st/\E.nx σ st
 |x::xs,σ,st=>ok st/\∃σ1,tg x σ=some σ1/\body {E with nx:=g9 tg body ok E ex xs,ct:=g9 tg body ok E ex xs,bk:=E.nx} ex σ1 st
def Aw(src:DI)(tg:dg)(body:eA):eA:=fun D ex σ st=>src σ st fun xs ok st1=>g9 tg body ok D ex xs σ st1
theorem FG{X:Cx}{E:XK}{st:Stmt}{t:eA}{src:DI}{tg:dg}(h:PS X st (AR (LI src) (LG tg) (jg E t))):PS X st (jg E (Aw src tg t)):=PS.imp h fun D σ H ⟨α,σd,st,DD,ex,G,F,P,R,S,tt,k,kx⟩=>by
 refine⟨α,σd,st,_,G,F,P,R,S,tt,fun xs ok st1 q J α1 G1 H1 s1 P1 S1 it=>?_⟩;refine⟨fun i m σ' H'=>∃α' σd' st' G',Step α1 G1 α' G'/\a7 G' F H'/\bS α' G' σd' σ'/\aB α' st' G'/\g9 tg t ok DD ex (xs.drop i) σd' st'/\m=xs.length-i,⟨xs.length,α1,σd,st1,G1,Step.refl,P1,R.step s1,S1,q,rfl⟩,?_⟩;rintro i m σ2 H2 ⟨α2,σd2,st2,G2,s2,P2,R2,S2,q2,rfl⟩;cases e:xs[i]? with
 |none=>
  have hl:xs.length<=i:=List.getElem?_eq_none_iff.mp e;rw[List.drop_eq_nil_of_le hl]at q2;unfold g9 at q2;exact .inl ⟨it.stop i α2 G2 F H2 st2 s2 P2 S2 q2.1 hl,((k.nx.at s1).at s2).here P2 q2.2 R2 S2⟩
 |some d=>
  have hl:i<xs.length:=(List.getElem?_eq_some_iff.mp e).1
  have ed:xs.drop i=d::xs.drop (i+1):=by
   rw[List.drop_eq_getElem_cons hl];congr 1;rw[List.getElem?_eq_getElem hl]at e;exact Option.some.inj e
  rw[ed]at q2;unfold g9 at q2;obtain⟨aw,σ3,e3,q3⟩:=q2;refine .inr ⟨it.go i d α2 G2 F H2 st2 s2 P2 S2 aw e,fun σ' H'=>∃α' σd' st' G',Step α1 G1 α' G'/\a7 G' F H'/\bS α' G' σd' σ'/\aB α' st' G'/\g9 tg t ok DD ex (xs.drop (i+1)) σd' st',?_,?_⟩
  . rintro σ' H' ⟨α',σd',st',G',z1,z2,z3,z4,z5⟩;exact⟨xs.length-(i+1),by omega,α',σd',st',G',z1,z2,z3,z4,z5,rfl⟩
  . intro x H' y;obtain⟨G3,s3,P3,S3,r3⟩:=it.kh i d α2 G2 F H2 st2 x H' s2 P2 S2 aw e y;refine⟨α2,σd2,st2,d,fun σ' st'=>σ'=σ3/\st'=st2,G3,F,P3,R2.step s3,S3,r3,⟨σ3,e3,rfl,rfl⟩,?_⟩;rintro σ' st' ⟨rfl,rfl⟩ α4 G4 H4 σ4 s4 P4 R4 S4;have s24:=(s2.trans s3).trans s4;refine⟨α4,σ',st',_,ex,G4,F,P4,R4,S4,q3,⟨?_,((k.rt.at s1).at s24),(k.nx.at s1).at s24,?_⟩,(kx.at s1).at s24⟩
    . intro σd5 st5 q5 α5 G5 H5 σ5 s5 P5 R5 S5;exact⟨α5,σd5,st5,G5,s24.trans s5,P5,R5,S5,q5⟩
    . intro σd5 st5 q5 α5 G5 H5 σ5 s5 P5 R5 S5;exact⟨α5,σd5,st5,G5,s24.trans s5,P5,R5,S5,q5⟩
theorem uW{tg:dg}{body:eA}{ok:aa->Prop}{E:e9}{ex:Addr->aa->Prop}(I:List D->aR->aa->Prop)(hend:∀σ st,I [] σ st->ok st/\E.nx σ st)
 (hstep:∀x xs σ st,I (x::xs) σ st->(∀σ' st',I xs σ' st'->g9 tg body ok E ex xs σ' st')->ok st/\∃σ1,tg x σ=some σ1/\body {E with nx:=g9 tg body ok E ex xs,ct:=g9 tg body ok E ex xs,bk:=E.nx} ex σ1 st):
 ∀xs σ st,I xs σ st->g9 tg body ok E ex xs σ st
 | [],σ,st,h=>by unfold g9;exact hend σ st h
 |x::xs,σ,st,h=>by unfold g9;exact hstep x xs σ st h fun σ' st' h'=>uW I hend hstep xs σ' st' h'
def xX(i:Nat)(S:dn)(t:DA):eA:=fun DD ex σ st=>t σ st fun ds st1=>S ds st1 (fun d st2=>DD.nx (σ.set i (some d)) st2) ex
section
variable {P:Program}{w:World}{K:PySem.W.Frag}{mg:Str->Option Value}{base:Heap}{N:List Str}{qual:Str}{scope:Scope}{f:Addr}{cd:Value}{A:Around}{outer:List Env}{s:Shared}{H:Hp}{E:XK}
theorem Ds{src:DI}{tg:dg}{t:eA}{tgE iter:Expr}{body:List Stmt}{pos:Pos}(hi:JI (bx (bX P w) P w K mg base N qual scope f cd A outer s H E) tgE iter src)(hg:JG (bx (bX P w) P w K mg base N qual scope f cd A outer s H E) tgE tg)(hb:j_ (bx (bX P w) P w K mg base N qual scope f cd A outer s H E) E body t)(hs:∀x,foldedSetIterable iter (envOfC qual scope s.heap.objs.size f cd) x=pure x:=by intro _;rfl):
 JX (bx (bX P w) P w K mg base N qual scope f cd A outer s H E) E (.For tgE iter body [] pos) (Aw src tg t):=by
 unfold JX;unfold JI at hi;unfold JG at hg;unfold j_ at hb;exact FG (uR PassesOwn.leaving rfl hi hg hb hs)
variable {k:Nat}{g:Addr}{fd:FuncData}{ps:List Str}{S:dn}{x y:Str}{np pos p pos':Pos}{e:Expr}{es:List Expr}{t:DA}
theorem vQ{i:Nat}{qual':Str}{st:Stmt}(D:a_ K mg x qual' st ps g fd)(F:aK P w K mg base (bX P w) k g fd ps (iH S))(hr:bw k (A.deeper (envOfC qual scope s.heap.objs.size f cd)))(hN:N.Nodup)(hx:Loc scope y)
 (ha:JA (bx (bX P w) P w K mg base N qual scope f cd A outer s H E).cx (e::es) t) (hdb:(x==("__debug__":Str))=false) (hg:Gl (bx (bX P w) P w K mg base N qual scope f cd A outer s H E).cx x)
 (hi:N[i]?=some y:=by rfl) (hs:notStar e=true:=by rfl) (hs2:cF es=true:=by rfl) (hsw:swapsWith (.Call (.Name x p) (e::es) [] np) (some (.Name y pos')) pos.line (envOfC qual scope s.heap.objs.size f cd)=pure false:=by rfl):
 JX (bx (bX P w) P w K mg base N qual scope f cd A outer s H E) E (.Assign [.Name y pos'] (.Call (.Name x p) (e::es) [] np) pos) (xX i S t):=by
 unfold JX;unfold JA at ha;refine PS.imp (pZ (X:=bx (bX P w) P w K mg base N qual scope f cd A outer s H E) hN hi hx (kR F hr hg D.mg D.fn.kp D.bd .nil (qI (E:=E) fun _ _ _ z=>z) (PA.cx ha) hdb (a8 hs) (d5 hs2)) hsw (.inl rfl)) fun D σ H ⟨α,σd,st,DD,ex,G,F,P,R,S,t,k,kx⟩=>?_;refine⟨α,σd,st,_,G,F,P,R,S,t,fun ds st1 q α1 G1 H1 vs s1 P1 S1 r1=>?_⟩;show pS _ (vs++[]) H1 _ _;rw[List.append_nil];exact⟨α1,ds,st1,_,ex,G1,F,P1,r1,S1,q,fun d st2 q2 α2 G2 H2 v s2 P2 S2 r2=>((k.nx.at s1).at s2).here P2 q2 (((R.step s1).step s2).set i r2) S2,kx.at s1⟩
end
theorem tM{X:Cx}{tg:Expr}:PG X tg (fun _ _ _ _=>False):=fun _ _ _ _ _ _ _ _ _ h=>h.elim
def Co(S:dn)(t:DA):eA:=fun _ ex σ st=>t σ st fun ds st1=>S ds st1 (fun _ _=>False) ex
def Cd(C:Addr)(S:dn)(t:DA):eA:=fun _ ex σ st=>t σ st fun ds st1=>S (.ref st1.length::ds) (st1++[.ins C []]) (fun _ _=>False) ex
section
variable {P:Program}{w:World}{K:PySem.W.Frag}{mg:Str->Option Value}{base:Heap}{N:List Str}{qual:Str}{scope:Scope}{f:Addr}{cd:Value}{A:Around}{outer:List Env}{s:Shared}{H:Hp}{E:XK}
variable {k:Nat}{g:Addr}{fd:FuncData}{ps:List Str}{S:dn}{x:Str}{np pos p:Pos}{e tg:Expr}{es:List Expr}{t:DA}
theorem DG{qual':Str}{st:Stmt}(D:a_ K mg x qual' st ps g fd)(F:aK P w K mg base (bX P w) k g fd ps (iH S))(hr:bw k (A.deeper (envOfC qual scope s.heap.objs.size f cd)))
 (ha:JA (bx (bX P w) P w K mg base N qual scope f cd A outer s H E).cx (e::es) t) (hdb:(x==("__debug__":Str))=false) (hg:Gl (bx (bX P w) P w K mg base N qual scope f cd A outer s H E).cx x)
 (hs:notStar e=true:=by rfl) (hs2:cF es=true:=by rfl)
 (h1:swapsWithSole [tg] (.Call (.Name x p) (e::es) [] np) pos.line (envOfC qual scope s.heap.objs.size f cd)=pure false:=by rfl) (h2:swappedStores [tg] (.Call (.Name x p) (e::es) [] np) (envOfC qual scope s.heap.objs.size f cd)=pure none:=by rfl)
 (h3:(assignEach [tg] (envOfC qual scope s.heap.objs.size f cd)).map (·.2)=[assign tg (envOfC qual scope s.heap.objs.size f cd)]:=by rfl):
 JX (bx (bX P w) P w K mg base N qual scope f cd A outer s H E) E (.Assign [tg] (.Call (.Name x p) (e::es) [] np) pos) (Co S t):=by
 unfold JX;unfold JA at ha;refine PS.imp (vb (X:=bx (bX P w) P w K mg base N qual scope f cd A outer s H E) (kR F hr hg D.mg D.fn.kp D.bd .nil (qI (E:=E) fun _ _ _ z=>z) (PA.cx ha) hdb (a8 hs) (d5 hs2)) tM h1 h2 h3) fun D σ H ⟨α,σd,st,DD,ex,G,F,P,R,S,t,k,kx⟩=>?_;refine⟨α,σd,st,_,G,F,P,R,S,t,fun ds st1 q α1 G1 H1 vs s1 P1 S1 r1=>?_⟩;show pS _ (vs++[]) H1 _ _;rw[List.append_nil];exact⟨α1,ds,st1,_,ex,G1,F,P1,r1,S1,q,fun d st2 q2=>q2.elim,kx.at s1⟩
theorem Cv{C:Addr}(M:Mk K C g)(F:aK P w K mg base (bX P w) k g fd ps (iH S))(hr:bw (k+1) (A.deeper (envOfC qual scope s.heap.objs.size f cd)))(hmg:mg x=some (.ref C))(hb:Binds K fd ps [])
 (ha:JA (bx (bX P w) P w K mg base N qual scope f cd A outer s H E).cx (e::es) t) (hdb:(x==("__debug__":Str))=false) (hg:Gl (bx (bX P w) P w K mg base N qual scope f cd A outer s H E).cx x)
 (hs:notStar e=true:=by rfl) (hs2:cF es=true:=by rfl)
 (h1:swapsWithSole [tg] (.Call (.Name x p) (e::es) [] np) pos.line (envOfC qual scope s.heap.objs.size f cd)=pure false:=by rfl) (h2:swappedStores [tg] (.Call (.Name x p) (e::es) [] np) (envOfC qual scope s.heap.objs.size f cd)=pure none:=by rfl)
 (h3:(assignEach [tg] (envOfC qual scope s.heap.objs.size f cd)).map (·.2)=[assign tg (envOfC qual scope s.heap.objs.size f cd)]:=by rfl):
 JX (bx (bX P w) P w K mg base N qual scope f cd A outer s H E) E (.Assign [tg] (.Call (.Name x p) (e::es) [] np) pos) (Cd C S t):=by
 unfold JX;unfold JA at ha;refine PS.imp (vb (X:=bx (bX P w) P w K mg base N qual scope f cd A outer s H E) (wF M F hr hg hmg hb .nil (qI (E:=E) fun _ _ _ z=>z) (PA.cx ha) hdb (a8 hs) (d5 hs2)) tM h1 h2 h3) fun D σ H ⟨α,σd,st,DD,ex,G,F,P,R,Sr,t,k,kx⟩=>?_;refine⟨α,σd,st,_,G,F,P,R,Sr,t,fun ds st1 q α1 G1 H1 us s1 P1 S1 r1=>?_⟩;intro x dx hx hdx hne;have hgd:=(P1.none hdx).1;have P2:=P1.laid (o:= .own x) hdx;have S2:=S1.laid (o:= .own x) hgd;have hx2:upd H1 dx (.own x) x=none:=by rw[aq (Ne.symm hne)];exact hx
 have hg2:=(P2.none hx2).1;have P3:=P2.laid (o:= .ins C dx []) hx2;have S3:=S2.cell (o:= .ins C dx []) (c:= .ins C []) hg2 ⟨dx,[],aD,.nil⟩;have s2:Step α1 G1 α1 (upd G1 dx (.own x)):=Step.laid hgd;have s3:Step α1 (upd G1 dx (.own x)) (α1++[some x]) (upd (upd G1 dx (.own x)) x (.ins C dx [])):=Step.cell hg2
 have rx:Rep (α1++[some x]) (upd (upd G1 dx (.own x)) x (.ins C dx [])) (.ref st1.length) (.ref x):=by
  unfold Rep;refine .inr ⟨x,?_,rfl⟩;rw[List.getElem?_append_right (by rw[S1.len];exact Nat.le_refl _),S1.len,Nat.sub_self];rfl
 rw[List.append_nil];exact⟨α1++[some x],.ref st1.length::ds,st1++[.ins C []],_,ex,_,F,P3,by unfold ax;exact⟨_,_,rfl,rx,(r1.step s2).step s3⟩,S3,q,fun d st2 q2=>q2.elim,((kx.at s1).at s2).at s3⟩
end
end L3
namespace L2
open PySem PySem.Spec PyProof.Rows PySem.W
section
variable {X:Cx}
theorem xa{CX:jL}{k:Nat}{f:Addr}{fd:FuncData}{ps:List Str}{sp:Sp}{iv:Nat}{x:Str}{p pos:Pos}{e:Expr}{es:List Expr}{t:TA}{E:XK}{XE:Value->Shared->Prop}(σ0:St)(ps0:List (Addr×Obj))(F:aK X.prog X.w X.K X.mg X.base CX k f fd ps sp)(hr:bw k X.A)(hv:X.N[iv]?=some x)(lv:pF X.env.scope x)(hσ:σ0[iv]?=some (some (.ref f)))(hk:PySem.W.keepIn X.K (.ref f)=true)(hb:Binds X.K fd ps [])
 (ha:PA X.cx (e::es) t) (hx:∀H s e s',Inv X ps0 σ0 H s->CX X.stack H s E e s'->XE e s') {s:Shared} {H:Hp} {Q:VK} (I:Inv X ps0 σ0 H s) (h:lC sp [] E t σ0 H Q)
 (hdb:(x==("__debug__":Str))=false:=by decide) (hcd:(x==("__classdict__":Str))=false:=by decide) (he:starEach (e::es) X.env=(false,eval e X.env)::starEach es X.env:=by rfl) (hpl:(backTo pos (starEach es X.env)).any (·.1)=false:=by rfl):
 wpAny (model X.prog X.w) X.A (eval (.Call (.Name x p) (e::es) [] pos) X.env) (EP X ps0 σ0 Q) XE s:=by
 refine wpAny_Call_Name_kw (wpAny_mono (qo (X:=X.cx) (pos:=p) hv lv hdb hcd ps0 s σ0 H (fun v H'=>v= .ref f/\H'=H) (I.fW _) ⟨_,hσ,rfl,rfl⟩) (fun u s0 ⟨v,H',I',r,hv',hH⟩=>?_) fun _ _ z=>z.elim);subst hv' hH;cases r;have I0:=I'.cL;refine PySem.W.callWith_K (h₀:=X.base) I0.ok.mod.t_ hk (wpAny_mono (ha pos ps0 s0 σ0 _ _ (I0.fW _) h) (fun us s1 ⟨vs,H1,I1,r,q⟩=>⟨I1.cL.dG,?_⟩) fun _ _ z=>z.elim) he hpl;have q:sp (vs++[]) H1 Q E:=q;rw[List.append_nil]at q;exact yq F hr hb I1.cL r q fun e s' c=>hx H1 s1 e s' I1.cL c
def Cj(L:Addr)(K:Frag)(iv inn iz:Nat)(ok:Addr->Prop)(sp:Addr->Sp)(t:TA):TS:=fun D σ H=>∃f,ok f/\σ[iv]?=some (some (.ref f))/\lC (sp f) [] (fun c _ H2=>∃C bm,c= .ref C/\gO K C bm=true/\(Value.ref C::bm).contains (.ref L)=true/\
 ∀a,H2 a=none->D.nx (((σ.set inn (some (.ref a))).set iz (some (.ref a))).set inn none) (upd H2 a (excAt a C))) t σ H fun _ H2=>D.nx σ H2
theorem DV{L:Addr}{bmL:List Value}{ok:Addr->Prop}{sp:Addr->Sp}{x lx n z:Str}{iv inn iz:Nat}{p pc pa np pz pn pb ph pos:Pos}{e:Expr}{es:List Expr}{t:TA}
 (hN:X.N.Nodup) (hst:X.stack=X.env::X.outer) (hfr:X.env.frame=some X.env.locals) (hF:∀f,ok f->∃k fd ps,aK X.prog X.w X.K X.mg X.base (bX X.prog X.w) k f fd ps (sp f)/\bw k X.A/\PySem.W.keepIn X.K (.ref f)=true/\Binds X.K fd ps [])
 (hv:X.N[iv]?=some x) (lv:pF X.env.scope x) (ha:PA X.cx (e::es) t) (hL:gO X.K L bmL=true) (hgL:Gl X lx) (hmL:X.mg lx=some (.ref L)) (hn:X.N[inn]?=some n) (hz:X.N[iz]?=some z)
 (ln:X.env.scope.names.lookup n=some .local) (lz:X.env.scope.names.lookup z=some .local)
 (hdb:(x==("__debug__":Str))=false:=by decide) (hcd:(x==("__classdict__":Str))=false:=by decide) (hdL:(lx==("__debug__":Str))=false:=by decide) (hdn:(n==("__debug__":Str))=false:=by decide) (hcn:(n==("__classdict__":Str))=false:=by decide)
 (hs1:swapsWith (.Call (.Name x p) (e::es) [] pc) none pa.line X.env=pure false:=by rfl) (hs2:swapsWith (.Name n pn) (some (.Name z pz)) pb.line X.env=pure false:=by rfl)
 (he:starEach (e::es) X.env=(false,eval e X.env)::starEach es X.env:=by rfl) (hpl:(backTo pc (starEach es X.env)).any (·.1)=false:=by rfl):
 PS X (.Try [.Expr (.Call (.Name x p) (e::es) [] pc) pa] [.ExceptHandler (some (.Name lx np)) (some n) [.Assign [.Name z pz] (.Name n pn) pb] ph] [] [] pos) (Cj L X.K iv inn iz ok sp t):=by
 rintro pins s σ H D I ⟨f,hf,hσ,h⟩;obtain⟨k,fd,ps,F,hr,hk,hb⟩:=hF f hf;refine wpAny_Try_except ?_;refine wpAny_execs_cons (wpAny_Expr_any (wpAny_mono (xa (pos:=pc) σ pins F hr hv lv hσ hk hb ha (XE:=fun e s₁=>wpAny (model X.prog X.w) X.A (noteFrame e X.env) (fun _ s₂=>wpAny (model X.prog X.w) X.A (setFlight e none) (fun _ s₃=>wpAny (model X.prog X.w) X.A (handleBy e X.env [.ExceptHandler (some (.Name lx np)) (some n) [.Assign [.Name z pz] (.Name n pn) pb] ph]) (SP X pins D) X.xe s₃) X.xe s₂) X.xe s₁) ?_ I h hdb hcd he hpl) (fun v s1 ⟨y',H1,I1,r1,q1⟩=>?_) fun _ _ z=>z) I.quiet hs1)
 . rintro H1 s1 ev s' I1 ⟨a,C,t',H2,B,rfl,ho,hg',U,S,fly,C',bm,hcc,hC,hin,q⟩;cases hcc;have hfs:X.A.frames=some (X.env::X.outer):=by rw[I1.ok.frames,hst]
   refine wpAny_looks_onW hfs hfr (by rw[<-hst];exact fly) fun h4 held sm4=>wpAny_landsW held fun h5 fly5 sm5=>?_;rw[<-hst]at fly5;have I5:=(qr I1 (s6:={s' with heap:=h5}) ho hg' U S fly5 (sm4.trans sm5)).1;refine wpAny_handleBy_cons (codeAny_handlers_test (iE (I5.mark (.ref a)) hgL hmL ?_ hdL)) (by intro q;cases q);obtain⟨NC,nm,qn,bs,hdct,sn,sub,ab,col,dd,k0,k1,k2,k3,k5,mN,hCo,_,_,_⟩:=gE I5.dG hC;obtain⟨NL,nm',qn',bs',hdct',sn',sub',ab',col',dd',k0',k1',k2',k3',k5',mN',hLo,_,_,TL⟩:=gE I5.dG hL;obtain⟨oe,hoe,hoc⟩:=fly5.there;refine oO hCo hLo hoe hoc (TL.hasType PySem.F.excBase_ValueError.hasBase) hin (codeAny_handlers_suite_as ?_);refine lands_againW (s:={s' with heap:=h5}) fly5 fun h6 fly6 sm6=>?_;obtain⟨I6,na⟩:=qr I1 (s6:={s' with heap:=h6}) ho hg' U S fly6 ((sm4.trans sm5).trans sm6);refine pe (v:= .ref a) I6 hN hn (.inl ln) rfl (fun s7 I7=>?_) (.inr ln);have ps:PS (X.mark (.ref a)) (.Assign [.Name z pz] (.Name n pn) pb) (jS (kF inn) (eR iz)):=pZ hN hz (.inl lz) (qo hn (.inl ln) hdn hcn) hs2 (.inr lz);have hlt:inn<σ.length:=by rw[I1.len];exact(List.getElem?_eq_some_iff.mp hn).1
   refine wpAny_execs_cons (wpAny_mono (ps pins s7 _ _ {nx:=fun σ' H'=>σ'=(σ.set inn (some (.ref a))).set iz (some (.ref a))/\H'=upd H2 a (excAt a C),rt:=fun _ _=>False} (I7.mark (.ref a)) ?_) (fun fl s8 h8=>?_) fun _ _ z=>z.elim)
   . exact⟨.ref a,List.getElem?_set_self hlt,rfl,rfl⟩
   . cases fl with
     |next=>
      obtain⟨σ',H',I8,rfl,rfl⟩:=h8;refine wpAny_execs_nil ?_;exact C0 (I8.unmark I1.ok) hN hn ln fun s9 I9=>⟨_,_,I9,q a na⟩
     |brk=>obtain⟨_,_,_,z⟩:=h8;exact z.elim
     |cont=>obtain⟨_,_,_,z⟩:=h8;exact z.elim
     |ret u=>obtain⟨_,_,_,_,_,z⟩:=h8;exact z.elim
 . exact wpAny_execs_nil (wpAny_execs_nil ⟨_,H1,I1,q1⟩)
theorem oE{pins:List (Addr×Obj)}{σ:St}{H1:Hp}{s1 s':Shared}{a C t:Addr}{H2:Hp}{B:Heap}{s6:Shared}(I:Inv X pins σ H1 s1)(ho:s6.os=s1.os)(hg:AllBare s6.gens)(U:Un (di X.stack) [] H1 H2 s1.heap s'.heap)(S:Still X.prog X.w X.stack H1 H2 s1.heap B)
 (fly:B.FlyingW X.stack a (.ref C) (.ref t) s6.heap) (sm:s'.heap.UpToSlots s6.heap):Inv X pins σ H2 s6:=
 I.qi ho (sZ U fly.1 S.keep S.there sm fun b hb=>⟨I.kP b hb,fun o e=>lS I.stack hb e⟩) (S.aw.kept fun b u e=>fly.1 b u e) hg (ch:=[]) (fun b z=>absurd z List.not_mem_nil)
def GP(L:Addr)(K:Frag)(sp:Sp)(t:TA):TS:=fun D σ H=>lC sp [] (fun c _ H2=>∃C bm,c= .ref C/\gO K C bm=true/\(Value.ref C::bm).contains (.ref L)=true/\D.rt (.bl false) H2) t σ H D.rt
theorem CH{k:Nat}{f L:Addr}{bmL:List Value}{fd:FuncData}{ps:List Str}{sp:Sp}{x lx:Str}{p pc pa np pb ph pk pos:Pos}{jk:Nat}{e:Expr}{es:List Expr}{t:TA}
 (hst:X.stack=X.env::X.outer) (hfr:X.env.frame=some X.env.locals) (F:aK X.prog X.w X.K X.mg X.base (bX X.prog X.w) k f fd ps sp) (hr:bw k X.A) (hg:Gl X x) (hm:X.mg x=some (.ref f)) (hk:PySem.W.keepIn X.K (.ref f)=true) (hb:Binds X.K fd ps [])
 (ha:PA X.cx (e::es) t) (hL:gO X.K L bmL=true) (hgL:Gl X lx) (hmL:X.mg lx=some (.ref L))
 (hdb:(x==("__debug__":Str))=false:=by decide) (hdL:(lx==("__debug__":Str))=false:=by decide)
 (he:starEach (e::es) X.env=(false,eval e X.env)::starEach es X.env:=by rfl) (hpl:(backTo pc (starEach es X.env)).any (·.1)=false:=by rfl):
 PS X (.Try [.Return (some (.Call (.Name x p) (e::es) [] pc)) pa] [.ExceptHandler (some (.Name lx np)) none [.Return (some (.Constant (.bool false) jk pk)) pb] ph] [] [] pos) (GP L X.K sp t):=by
 intro pins s σ H D I h;refine wpAny_Try_except ?_;refine wpAny_execs_cons (wpAny_Return_some (wpAny_mono (yV (pos:=pc) σ pins F hr hg hm hk hb ha (XE:=fun e s₁=>wpAny (model X.prog X.w) X.A (noteFrame e X.env) (fun _ s₂=>wpAny (model X.prog X.w) X.A (setFlight e none) (fun _ s₃=>wpAny (model X.prog X.w) X.A (handleBy e X.env [.ExceptHandler (some (.Name lx np)) none [.Return (some (.Constant (.bool false) jk pk)) pb] ph]) (SP X pins D) X.xe s₃) X.xe s₂) X.xe s₁) ?_ I h hdb he hpl) (fun v s1 ⟨y',H1,I1,r1,q1⟩=>?_) fun _ _ z=>z))
 . rintro H1 s1 ev s' I1 ⟨a,C,t',H2,B,rfl,ho,hg',U,S,fly,C',bm,hcc,hC,hin,q⟩;cases hcc;have hfs:X.A.frames=some (X.env::X.outer):=by rw[I1.ok.frames,hst]
   refine wpAny_looks_onW hfs hfr (by rw[<-hst];exact fly) fun h4 held sm4=>wpAny_landsW held fun h5 fly5 sm5=>?_;rw[<-hst]at fly5;have I5:=oE I1 (s6:={s' with heap:=h5}) ho hg' U S fly5 (sm4.trans sm5);refine wpAny_handleBy_cons (codeAny_handlers_test (iE (I5.mark (.ref a)) hgL hmL ?_ hdL)) (by intro q;cases q);obtain⟨NC,nm,qn,bs,hdct,sn,sub,ab,col,dd,k0,k1,k2,k3,k5,mN,hCo,_,_,_⟩:=gE I5.dG hC;obtain⟨NL,nm',qn',bs',hdct',sn',sub',ab',col',dd',k0',k1',k2',k3',k5',mN',hLo,_,_,TL⟩:=gE I5.dG hL;obtain⟨oe,hoe,hoc⟩:=fly5.there;refine oO hCo hLo hoe hoc (TL.hasType PySem.F.excBase_ValueError.hasBase) hin (codeAny_handlers_suite ?_);refine lands_againW (s:={s' with heap:=h5}) fly5 fun h6 fly6 sm6=>?_;have I6:=oE I1 (s6:={s' with heap:=h6}) ho hg' U S fly6 ((sm4.trans sm5).trans sm6);have ps:PS (X.mark (.ref a)) (.Return (some (.Constant (.bool false) jk pk)) pb) (ur (tC (.bl false))):=mS tm;refine wpAny_execs_cons (wpAny_mono (ps pins {s' with heap:=h6} σ H2 {nx:=fun _ _=>False,rt:=fun v H'=>v= .bl false/\H'=H2} (I6.mark (.ref a)) ⟨rfl,rfl⟩) (fun fl s8 h8=>?_) fun _ _ z=>z.elim);cases fl with
   |next=>obtain⟨_,_,_,z⟩:=h8;exact z.elim
   |brk=>obtain⟨_,_,_,z⟩:=h8;exact z.elim
   |cont=>obtain⟨_,_,_,z⟩:=h8;exact z.elim
   |ret u=>
    obtain⟨v,σ',H',I8,r,rfl,rfl⟩:=h8;exact⟨_,_,_,I8.unmark I1.ok,r,q⟩
 . exact⟨y',σ,H1,I1,r1,q1⟩
end
end L2
namespace L3
open PySem L2
open PySem.Spec hiding items?
open PyProof.Rows hiding St
def xR(Cs:List Addr)(S:dn)(t:DA):DS:=fun DD σ st=>t σ st fun ds st1=>S ds st1 DD.rt fun C st2=>C∈Cs/\DD.rt (.bl false) st2
theorem Dc{X:Cx}{k:Nat}{f L:Addr}{bmL:List Value}{fd:FuncData}{ps:List Str}{S:dn}{x lx qual':Str}{st:Stmt}{p pc pa np pb ph pk pos:Pos}{jk:Nat}{e:Expr}{es:List Expr}{t:DA}
 (D:a_ X.K X.mg x qual' st ps f fd) (F:aK X.prog X.w X.K X.mg X.base (bX X.prog X.w) k f fd ps (iH S)) (hr:bw k X.A) (ha:JA X.cx (e::es) t) (hL:gO X.K L bmL=true) (hmL:X.mg lx=some (.ref L)) (hdb:(x==("__debug__":Str))=false) (hg:Gl X x) (hdL:(lx==("__debug__":Str))=false) (hgL:Gl X lx) {Cs:List Addr} (hCs:∀C∈Cs,∃bm,gO X.K C bm=true/\(Value.ref C::bm).contains (.ref L)=true)
 (hst:X.stack=X.env::X.outer:=by rfl) (hfr:X.env.frame=some X.env.locals:=by rfl) (hs:notStar e=true:=by rfl) (hs2:cF es=true:=by rfl):
 JS X (.Try [.Return (some (.Call (.Name x p) (e::es) [] pc)) pa] [.ExceptHandler (some (.Name lx np)) none [.Return (some (.Constant (.bool false) jk pk)) pb] ph] [] [] pos) (xR Cs S t):=by
 unfold JS;unfold JA at ha;refine PS.imp (CH hst hfr F hr hg D.mg D.fn.kp D.bd ha hL hgL hmL hdb hdL (a8 hs) (d5 hs2)) fun D σ H ⟨α,σd,st,DD,G,F,P,R,S,t,k⟩=>?_;refine⟨α,σd,st,_,G,F,P,R,S,t,fun ds st1 q α1 G1 H1 vs s1 P1 S1 r1=>?_⟩;show pS _ (vs++[]) H1 _ _;rw[List.append_nil];refine⟨α1,ds,st1,_,_,G1,F,P1,r1,S1,q,k.rt.at s1,?_⟩;rintro C st' ⟨hC,q2⟩ α' G' H' s' P' S';obtain⟨bm,h1,h2⟩:=hCs C hC;exact⟨C,bm,rfl,h1,h2,((k.rt.at s1).at s').here P' q2 S' (by unfold Rep;rfl)⟩
end L3
namespace L3
open PySem PySem.Spec L2
open PyProof.Rows hiding St
def Cz(K:PySem.W.Frag)(L T c2 c3:Addr)(ok:Addr->Prop)(S:Addr->dn):TS:=
 xJ (jS (tC .ay) (eR 2)) (xJ (Cj L K 0 3 2 ok (fun f=>iH (S f)) (eV (kF 1) mR))
  (xJ (Bd (B1 (xB (tB (vG (xS K) (eV (kF 2) (eV (tC (.ref T)) mR))))) (xB (tB (vG (xS K) (eV (kF 2) (eV (tC (.ty "ValueError")) mR)))))) (ur (tC (.bl false))) xq)
    (ur (Bw (vG (xS K) (eV (kF 2) (eV (AS (eV (tC (.ref c2)) (eV (tC (.ref c3)) mR))) mR)))))))
def z9(S:dn)(T:Addr):cu:=fun ds st K=>∃d,ds=[d]/\S [d] st (fun _ _=>False) fun C st'=>C=T/\K (.bl true) st'
def tD(ok:Addr->Prop)(S:Addr->dn)(T:Addr):Sp:=fun vs H Q _=>∃f v,vs=[.ref f,v]/\ok f/\Bb (z9 (S f) T) [v] H Q
theorem yN{K:PySem.W.Frag}{L T c2 c3:Addr}{bm:List Value}{ok:Addr->Prop}{S:Addr->dn}(hT:gO K T bm=true)(hc:xM K T=true)(hL:(Value.ref T::bm).contains (.ref L)=true)(h1:PySem.W.kitOne K (.ref T) (.ref T)=some true)
 (h2:PySem.W.kitOne K (.ref T) (.type "ValueError")=some true) (h3:PySem.W.kitAny K (.ref T) [.ref c2,.ref c3]=some false) {vs:List V} {H:Hp} {Q:VK} {E:XK} (h:tD ok S T vs H Q E) {N:List Str} (hN:N.length=4):
 Cz K L T c2 c3 ok S {nx:=fun _ H'=>Q .ay H',rt:=Q} (L2.start N vs) H:=by
 obtain⟨f,v,rfl,hf,α,ds,st,K',G,F,P,rx,St,⟨d,rfl,q⟩,k⟩:=h
 have hs:L2.start N [.ref f,v]=[some (.ref f),some v,none,none]:=by
  unfold L2.start;rw[hN];rfl
 rw[hs];refine⟨f,hf,rfl,v,rfl,α,[d],st,_,_,G,F,P,rx,St,q,fun d' st' kk=>kk.elim,?_⟩;rintro C st' ⟨rfl,kk⟩ α' G' H' s' P' S';refine⟨C,bm,rfl,hT,hL,fun a ha=>?_⟩;have hG:=(P'.none ha).1;have P1:a7 (upd G' a (excAt a C)) F (upd H' a (excAt a C)):=P'.laid ha;have ea:upd H' a (excAt a C) a=some (excAt a C):=aD;refine⟨.ref a,rfl,a,C,bm,_,true,rfl,ea,hT,hc,.inl (fun u r=>by cases r;exact h1),true,rfl,?_⟩;refine⟨.ref a,rfl,a,C,bm,_,true,rfl,ea,hT,hc,.inl (fun u r=>by cases r;exact h2),true,rfl,?_⟩;refine⟨.ref a,rfl,Nat.le_of_ble_eq_true rfl,fun p hp=>?_⟩;have na:a≠p:=fun z=>by rw[<-z,ea]at hp;cases hp
 refine⟨a,C,bm,_,false,rfl,by rw[aq na];exact ea,hT,hc,.inr ⟨p,_,rfl,aD,fun us r=>?_⟩,false,rfl,?_⟩
 . cases r with
   |cons r1 r=>
    cases r1;cases r with
    |cons r1 r=>
     cases r1;cases r;exact h3
 . have P2:a7 (upd (upd G' a (excAt a C)) p (.tup [.ref c2,.ref c3])) F (upd (upd H' a (excAt a C)) p (.tup [.ref c2,.ref c3])):=P1.laid hp;exact k (.bl true) st' kk α' _ _ _ (s'.trans ((Step.laid hG).trans (Step.laid (P1.none hp).1))) P2 ((S'.laid hG).laid (P1.none hp).1) (by unfold Rep;rfl)
def mJ(S:Addr->dn)(T:Addr)(dh dr:D):List Addr->aa->(aa->Prop)->Prop
 | [],st,K=>K st
 |f::fs,st,K=>z9 (S f) T [dh] st fun b st1=>b= .bl true/\z9 (S f) T [dr] st1 fun b st2=>b= .bl true/\mJ S T dh dr fs st2 K
def vI(iw ih ir:Nat)(fs:List Addr)(S:Addr->dn)(T:Addr):DS:=fun DD σ st=>∃dh dr,σ[iw]?=some none/\σ[ih]?=some (some dh)/\σ[ir]?=some (some dr)/\mJ S T dh dr fs st fun st'=>DD.nx σ st'
theorem bS.free{α:List (Option Addr)}{H:Hp}{σd:aR}{σ:L2.St}(h:bS α H σd σ){i:Nat}(e:σd[i]?=some none)(v:V):bS α H σd (σ.set i (some v)):=by
 refine⟨by rw[List.length_set];exact h.len,fun j d q=>?_⟩;have hj:i≠j:=fun z=>by rw[<-z,e]at q;cases q
 rw[List.getElem?_set_ne hj];exact h.at' j d q
abbrev Bs(iw ix:Nat)(sp:Sp):TT:=xB (tB (lC sp [] E0 (eV (kF iw) (eV (kF ix) mR))))
abbrev BD(iw ih ir:Nat)(sp:Sp):TS:=Bd (B1 (Bs iw ih sp) (Bs iw ir sp)) (ur (tC (.bl false))) xq
theorem wo{α:List (Option Addr)}{G:Hp}{d:D}{v:V}(r:Rep α G d v):ax α G [d] [v]:=by
 unfold ax;exact⟨v,[],rfl,r,by unfold ax;rfl⟩
theorem zy{X:Cx}{ok:Addr->Prop}{S:Addr->dn}{T f1 f2 f3:Addr}{tg iter:Expr}{body:List Stmt}{pos:Pos}{iw ih ir:Nat}(hp:PassesOwn (model X.prog X.w) X.A X.env X.xe)(hc:X.calm=true)(hi:PI X tg iter (FU X.K (AS (eV (tC (.ref f1)) (eV (tC (.ref f2)) (eV (tC (.ref f3)) mR))))))
 (hg:PG X tg (eR iw)) (hb:cM X body (BD iw ih ir (tD ok S T))) (h1:ok f1) (h2:ok f2) (h3:ok f3) (hs:∀x,foldedSetIterable iter X.env x=pure x:=by intro _;rfl):
 JS X (.For tg iter body [] pos) (vI iw ih ir [f1,f2,f3] S T):=by
 unfold JS;refine PS.imp (uR hp hc hi hg hb hs) fun D σ H ⟨α,σd,st,DD,G,F,P,R,S0,⟨dh,dr,e0,e1,e2,q⟩,k⟩=>?_;refine⟨Nat.le_of_ble_eq_true rfl,fun p hp=>⟨p,rfl,⟨_,.inl (.inl aD)⟩,?_⟩⟩
 have aw:∀f∈[f1,f2,f3],ok f:=fun f hf=>by
  simp only[List.mem_cons,List.not_mem_nil,or_false]at hf;rcases hf with rfl|rfl|rfl
  . exact h1
  . exact h2
  . exact h3
 have Fp:F p=none:=(P.none hp).2;have hlt:iw<σ.length:=by rw[<-R.len];exact(List.getElem?_eq_some_iff.mp e0).1
 have nh:iw≠ih:=fun z=>by rw[z,e1]at e0;cases e0
 have nr:iw≠ir:=fun z=>by rw[z,e2]at e0;cases e0
 obtain⟨vh,eh,_⟩:=R.at' ih _ e1;obtain⟨vr,er,_⟩:=R.at' ir _ e2
 let tup:HO:= .tup [.ref f1,.ref f2,.ref f3]
 refine⟨fun i m σ' H'=>m+i=3/\(σ'=σ\/∃v,σ'=σ.set iw (some v))/\∃α1 G1 st1,Step α G α1 G1/\a7 G1 (upd F p tup) H'/\aB α1 st1 G1/\mJ S T dh dr ([f1,f2,f3].drop i) st1 fun st'=>DD.nx σd st',⟨3,rfl,.inl rfl,α,G,st,Step.refl,P.hide hp,S0,q⟩,?_⟩;rintro i m σ' H' ⟨hm,hσ,α1,G1,st1,s1,P1,S1,q1⟩;have et:H' p=some tup:=(P1.frame aD).1
 have R1:bS α1 G1 σd σ':=by
  have:=R.step s1;rcases hσ with rfl|⟨v,rfl⟩
  . exact this
  . exact this.free e0 v
 by_cases h:i=3
 . subst h;refine .inl ⟨⟨_,.inl (.inl et),Nat.le_refl _⟩,?_⟩;have hG:G1 p=none:=(P1.frame aD).2;exact k.nx σd st1 q1 α1 (upd G1 p tup) H' σ' (s1.trans (Step.laid hG)) (P1.show Fp) (R1.step (Step.laid hG)) (S1.laid hG)
 . have hi3:i<3:=by omega
   obtain⟨f,hf,ed⟩:∃f,[f1,f2,f3][i]?=some f/\ [f1,f2,f3].drop i=f::[f1,f2,f3].drop (i+1):=by
    have:i< [f1,f2,f3].length:=hi3;exact⟨_,List.getElem?_eq_getElem this,List.drop_eq_getElem_cons this⟩
   have hv: [V.ref f1,V.ref f2,V.ref f3][i]?=some (.ref f):=by
    have: [V.ref f1,V.ref f2,V.ref f3]=[f1,f2,f3].map V.ref:=rfl;rw[this,List.getElem?_map,hf];rfl
   refine .inr ⟨⟨_,_,.inl (.inl et),hv⟩,fun σ2 H2=>(σ2=σ\/∃v,σ2=σ.set iw (some v))/\∃α1 G1 st1,Step α G α1 G1/\a7 G1 (upd F p tup) H2/\aB α1 st1 G1/\mJ S T dh dr ([f1,f2,f3].drop (i+1)) st1 fun st'=>DD.nx σd st',fun σ2 H2 hn=>⟨m-1,by omega,by omega,hn⟩,?_⟩;rintro x H'' ⟨rfl,hx⟩;have ex:=hx _ (.inl (.inl et));rw[hv]at ex;cases ex
   have es:σ'.set iw (some (V.ref f))=σ.set iw (some (.ref f)):=by
    rcases hσ with rfl|⟨v,rfl⟩
    . rfl
    . rw[List.set_set]
   show BD iw ih ir (tD ok S T) _ (σ'.set iw (some (V.ref f))) H'';rw[es];rw[ed]at q1;have w1:(σ.set iw (some (V.ref f)))[iw]?=some (some (.ref f)):=List.getElem?_set_self hlt;have w2:(σ.set iw (some (V.ref f)))[ih]?=some (some vh):=by rw[List.getElem?_set_ne nh];exact eh
   have w3:(σ.set iw (some (V.ref f)))[ir]?=some (some vr):=by rw[List.getElem?_set_ne nr];exact er
   have hkf:=aw f (List.mem_of_getElem? hf);obtain⟨v1,z1,r1⟩:=(R.step s1).at' ih _ e1;rw[eh]at z1;cases z1;refine⟨_,w1,_,w2,f,_,rfl,hkf,α1,[dh],st1,_,G1,_,P1,wo r1,S1,q1,?_⟩;rintro d st2 ⟨rfl,q2⟩ α2 G2 H2 u s2 P2 S2 ru;unfold Rep at ru;subst ru;refine⟨true,rfl,?_⟩;obtain⟨v2,z2,r2⟩:=(R.step (s1.trans s2)).at' ir _ e2;rw[er]at z2;cases z2;refine⟨_,w1,_,w3,f,_,rfl,hkf,α2,[dr],st2,_,G2,_,P2,wo r2,S2,q2,?_⟩;rintro d st3 ⟨rfl,q3⟩ α3 G3 H3 u s3 P3 S3 ru;unfold Rep at ru;subst ru;refine⟨true,rfl,?_⟩;exact⟨.inr ⟨_,rfl⟩,α3,G3,st3,(s1.trans s2).trans s3,P3,S3,q3⟩
theorem A6{P:Program}{w:World}{K:PySem.W.Frag}{mg:Str->Option Value}{base:Heap}{N:List Str}{qual:Str}{scope:Scope}{f0:Addr}{cd:Value}{A:Around}{outer:List Env}{s:Shared}{H:Hp}{E:XK}{k:Nat}{f L:Addr}{bmL:List Value}{fd:FuncData}{ps:List Str}{S:dn}{x lx qual':Str}{st:Stmt}{p pc pa np pb ph pk pos:Pos}{jk:Nat}{e:Expr}{es:List Expr}{t:DA}
 (D:a_ K mg x qual' st ps f fd) (F:aK P w K mg base (bX P w) k f fd ps (iH S)) (hr:bw k (A.deeper (envOfC qual scope s.heap.objs.size f0 cd))) (ha:JA (bx b_ P w K mg base N qual scope f0 cd A outer s H E).cx (e::es) t) (hL:gO K L bmL=true) (hmL:mg lx=some (.ref L)) (hdb:(x==("__debug__":Str))=false) (hg:Gl (bx b_ P w K mg base N qual scope f0 cd A outer s H E).cx x) (hdL:(lx==("__debug__":Str))=false) (hgL:Gl (bx b_ P w K mg base N qual scope f0 cd A outer s H E).cx lx) {Cs:List Addr} (hCs:∀C∈Cs,∃bm,gO K C bm=true/\(Value.ref C::bm).contains (.ref L)=true)
 (hs:notStar e=true:=by rfl) (hs2:cF es=true:=by rfl):
 JS (bx b_ P w K mg base N qual scope f0 cd A outer s H E).cx (.Try [.Return (some (.Call (.Name x p) (e::es) [] pc)) pa] [.ExceptHandler (some (.Name lx np)) none [.Return (some (.Constant (.bool false) jk pk)) pb] ph] [] [] pos) (xR Cs S t):=
 Dc (X:=(bx b_ P w K mg base N qual scope f0 cd A outer s H E).cx) D F hr ha hL hmL hdb hg hdL hgL hCs rfl rfl hs hs2
end L3
namespace Mx
def S:Nat->(Nat->Int)->Int
 |0,_=>0
 |n+1,f=>S n f+f n
theorem bb{n:Nat}{f g:Nat->Int}(h:∀i,i<n->f i=g i):S n f=S n g:=by
 induction n with
 |zero=>rfl
 |succ n ih=>unfold S;rw[ih fun i hi=>h i (by omega),h n (by omega)]
theorem iY{n:Nat}{f:Nat->Int}(h:∀i,i<n->f i=0):S n f=0:=by
 induction n with
 |zero=>rfl
 |succ n ih=>unfold S;rw[ih fun i hi=>h i (by omega),h n (by omega)];rfl
theorem lO(n:Nat)(f g:Nat->Int):S n (fun i=>f i+g i)=S n f+S n g:=by
 induction n with
 |zero=>rfl
 |succ n ih=>unfold S;rw[ih];dsimp only;omega
theorem fo(n:Nat)(c:Int)(f:Nat->Int):S n (fun i=>c*f i)=c*S n f:=by
 induction n with
 |zero=>unfold S;rw[Int.mul_zero]
 |succ n ih=>unfold S;rw[ih,Int.mul_add]
theorem FQ(n:Nat)(c:Int)(f:Nat->Int):S n (fun i=>f i*c)=S n f*c:=by
 induction n with
 |zero=>unfold S;rw[Int.zero_mul]
 |succ n ih=>unfold S;rw[ih,Int.add_mul]
theorem B6(n:Nat)(f:Nat->Int):S n (fun i=> -f i)= -S n f:=by
 induction n with
 |zero=>rfl
 |succ n ih=>unfold S;rw[ih];dsimp only;omega
theorem yU(m n:Nat)(f:Nat->Nat->Int):S m (fun i=>S n fun j=>f i j)=S n fun j=>S m fun i=>f i j:=by
 induction m with
 |zero=>exact(iY (n:=n) (fun i _=>rfl)).symm
 |succ m ih=>
  have:S n (fun j=>S (m+1) fun i=>f i j)=S n fun j=>(S m fun i=>f i j)+f m j:=bb fun j _=>rfl;rw[this,lO,<-ih];rfl
theorem jh{n:Nat}{k:Nat}(hk:k<n){f:Nat->Int}(h:∀i,i<n->i≠k->f i=0):S n f=f k:=by
 induction n with
 |zero=>omega
 |succ n ih=>
  unfold S;by_cases e:k=n
  . subst e;rw[iY fun i hi=>h i (by omega) (by omega),Int.zero_add]
  . rw[ih (by omega) fun i hi hn=>h i (by omega) hn,h n (by omega) (by omega),Int.add_zero]
theorem uC(n:Nat)(f:Nat->Int):S (n+1) f=f 0+S n fun i=>f (i+1):=by
 induction n with
 |zero=>unfold S S;omega
 |succ n ih=>
  have:S (n+1+1) f=S (n+1) f+f (n+1):=rfl;rw[this,ih];have:S (n+1) (fun i=>f (i+1))=S n (fun i=>f (i+1))+f (n+1):=rfl;rw[this];omega
def dl(i j:Nat):Int:=if i=j then 1 else 0
theorem fI(i:Nat):dl i i=1:=if_pos rfl
theorem gQ{i j:Nat}(h:i≠j):dl i j=0:=if_neg h
theorem t4{n k:Nat}(hk:k<n)(f:Nat->Int):S n (fun i=>dl k i*f i)=f k:=by
 rw[jh hk (fun i _ h=>by rw[gQ (Ne.symm h),Int.zero_mul]),fI,Int.one_mul]
theorem zT{n k:Nat}(hk:k<n)(f:Nat->Int):S n (fun i=>f i*dl i k)=f k:=by
 rw[jh hk (fun i _ h=>by rw[gQ h,Int.mul_zero]),fI,Int.mul_one]
abbrev Row:=List Int
abbrev Rows:=List (List Int)
def g(A:Rows)(i j:Nat):Int:=(A.getD i []).getD j 0
structure eQ(m n:Nat)(A:Rows):Prop where
 len:A.length=m
 gg:∀r∈A,r.length=n
theorem aP{α:Type}{l:List α}{i:Nat}{d:α}(h:i<l.length):l.getD i d=l[i]:=by
 rw[List.getD_eq_getElem?_getD,List.getElem?_eq_getElem h];rfl
theorem nS{α:Type}{l:List α}{i:Nat}{d:α}(h:l.length<=i):l.getD i d=d:=by
 rw[List.getD_eq_getElem?_getD,List.getElem?_eq_none h];rfl
theorem DM{a b:Row}{n:Nat}(ha:a.length=n)(hb:b.length=n)(h:∀j,j<n->a.getD j 0=b.getD j 0):a=b:=by
 refine List.ext_getElem (by omega) fun i h1 h2=>?_;have:=h i (by omega);rwa [aP h1,aP h2]at this
theorem eQ.row{m n:Nat}{A:Rows}(h:eQ m n A){i:Nat}(hi:i<m):(A.getD i []).length=n:=by
 have hl:=h.len;rw[aP (by omega)];exact h.gg _ (List.getElem_mem _)
theorem eQ.ext{m n:Nat}{A B:Rows}(ha:eQ m n A)(hb:eQ m n B)(h:∀i j,i<m->j<n->g A i j=g B i j):A=B:=by
 have h1:=ha.len;have h2:=hb.len;refine List.ext_getElem (by omega) fun i hi hj=>?_;have e1:=ha.row (i:=i) (by omega);have e2:=hb.row (i:=i) (by omega);have:=DM e1 e2 fun j hj=>h i j (by omega) hj;rwa [aP hi,aP hj]at this
def jJ(r:Row)(t:Int)(s:Row):Row:=List.zipWith (fun a b=>a+t*b) r s
theorem l6{r s:Row}{t:Int}(h:r.length=s.length):(jJ r t s).length=r.length:=by unfold jJ;simp[h]
theorem C_{r s:Row}{t:Int}(h:r.length=s.length)(j:Nat):(jJ r t s).getD j 0=r.getD j 0+t*s.getD j 0:=by
 unfold jJ;by_cases hj:j<r.length
 . rw[aP (by simp;omega),aP hj,aP (by omega)];simp
 . rw[nS (by simp;omega),nS (by omega),nS (by omega)];simp
def ck:Row->Rows->Row->Row
 |w::ws,r::rs,acc=>ck ws rs (jJ acc w r)
 |_,_,acc=>acc
theorem mG{n:Nat}:∀ {ws:Row} {rs:Rows} {acc:Row},acc.length=n->(∀r∈rs,r.length=n)->(ck ws rs acc).length=n
 | [],_,acc,h,_=>by unfold ck;exact h
 |_::_,[],acc,h,_=>by unfold ck;exact h
 |w::ws,r::rs,acc,h,hr=>by
  unfold ck;refine mG ?_ fun r hr'=>hr r (List.mem_cons_of_mem _ hr');rw[l6 (by rw[h,hr r List.mem_cons_self]),h]
theorem o5{n:Nat}:∀ {ws:Row} {rs:Rows} {acc:Row} (j:Nat),acc.length=n->(∀r∈rs,r.length=n)->ws.length=rs.length->(ck ws rs acc).getD j 0=acc.getD j 0+S rs.length fun k=>ws.getD k 0*g rs k j
 | [],[],acc,j,h,_,_=>by unfold ck;show _=_+(0:Int);rw[Int.add_zero]
 | [],_::_,acc,j,h,_,hl=>by cases hl
 |_::_,[],acc,j,h,_,hl=>by cases hl
 |w::ws,r::rs,acc,j,h,hr,hl=>by
  have e1:acc.length=r.length:=by rw[h,hr r List.mem_cons_self]
  unfold ck;rw[o5 j (by rw[l6 e1,h]) (fun r hr'=>hr r (List.mem_cons_of_mem _ hr')) (by simpa using hl),C_ e1,List.length_cons,uC]
  have:(fun k=>(w::ws).getD (k+1) 0*g (r::rs) (k+1) j)=fun k=>ws.getD k 0*g rs k j:=by
   funext k;unfold g;simp
  rw[this];unfold g;simp;omega
def mulM(A B:Rows)(n:Nat):Rows:=A.map fun w=>ck w B (List.replicate n 0)
theorem cJ(n j:Nat):(List.replicate n (0:Int)).getD j 0=0:=by
 by_cases h:j<n
 . rw[aP (by simpa using h)];simp
 . rw[nS (by simp;omega)]
theorem DX{m p n:Nat}{A B:Rows}(ha:eQ m p A)(hb:eQ p n B):eQ m n (mulM A B n):=by
 refine⟨by unfold mulM;rw[List.length_map];exact ha.len,fun r hr=>?_⟩;unfold mulM at hr;obtain⟨w,_,rfl⟩:=List.mem_map.mp hr;exact mG (by simp) hb.gg
theorem map_getD{α:Type}{f:Row->List α}{A:Rows}{i:Nat}(h:i<A.length):(A.map f).getD i []=f (A.getD i []):=by
 rw[aP (by simpa using h),aP h];simp
theorem Dq{m p n:Nat}{A B:Rows}(ha:eQ m p A)(hb:eQ p n B){i:Nat}(hi:i<m)(j:Nat):g (mulM A B n) i j=S p fun k=>g A i k*g B k j:=by
 have hl:=ha.len;show((mulM A B n).getD i []).getD j 0=_;unfold mulM;rw[map_getD (by omega),o5 (n:=n) j (by simp) hb.gg (by rw[ha.row hi,hb.len]),cJ,Int.zero_add,hb.len];rfl
def dQ(n i:Nat):Row:=(List.range n).map fun k=>dl k i
def units(n:Nat):Rows:=(List.range n).map fun i=>dQ n i
theorem range_getD{α:Type}{f:Nat->α}{n i:Nat}{d:α}(h:i<n):((List.range n).map f).getD i d=f i:=by
 rw[aP (by simpa using h)];simp
theorem l9(n:Nat):eQ n n (units n):=⟨by simp[units],fun r hr=>by unfold units at hr;obtain⟨i,_,rfl⟩:=List.mem_map.mp hr;simp[dQ]⟩
theorem uU{n i j:Nat}(hi:i<n)(hj:j<n):g (units n) i j=dl i j:=by
 unfold g units dQ;rw[range_getD hi,range_getD hj];unfold dl;by_cases h:i=j
 . subst h;rfl
 . rw[if_neg (Ne.symm h),if_neg h]
theorem oF{m n:Nat}{A:Rows}(ha:eQ m n A):mulM (units m) A n=A:=
 (DX (l9 m) ha).ext ha fun i j hi hj=>by
   rw[Dq (l9 m) ha hi];have:S m (fun k=>g (units m) i k*g A k j)=S m fun k=>dl i k*g A k j:=bb fun k hk=>by rw[uU hi hk]
   rw[this,t4 hi]
def lT:Row->Row->Int
 |a::as,b::bs=>a*b+lT as bs
 |_,_=>0
theorem yT:∀ {a b:Row},a.length=b.length->lT a b=S b.length fun k=>a.getD k 0*b.getD k 0
 | [],[],_=>rfl
 | [],_::_,h=>by cases h
 |_::_,[],h=>by cases h
 |x::a,y::b,h=>by
  unfold lT;rw[yT (by simpa using h),List.length_cons,uC];simp
theorem Dm(i j:Nat):dl i j=dl j i:=by
 unfold dl;by_cases h:i=j
 . rw[if_pos h,if_pos h.symm]
 . rw[if_neg h,if_neg (Ne.symm h)]
def sw(i j k:Nat):Nat:=if k=i then j else if k=j then i else k
abbrev Fn:=Nat->Nat->Int
def sk(j c:Nat):Nat:=if c<j then c else c+1
def sg(j:Nat):Int:=if j%2=0 then 1 else-1
theorem qQ(j:Nat):sg (j+1)= -sg j:=by unfold sg;split<;>split<;>omega
theorem qD:sg 0=1:=rfl
theorem gK{j c n:Nat}(h:c<n):sk j c<n+1:=by unfold sk;split<;>omega
theorem Hg{j k c:Nat}(h:k<j):sk j (sk k c)=sk k (sk (j-1) c):=by unfold sk;grind
def D:Nat->Fn->Int
 |0,_=>1
 |n+1,M=>S (n+1) fun j=>sg j*M 0 j*D n fun r c=>M (r+1) (sk j c)
theorem p0(M:Fn):D 0 M=1:=rfl
theorem cc(n:Nat)(M:Fn):D (n+1) M=S (n+1) fun j=>sg j*M 0 j*D n fun r c=>M (r+1) (sk j c):=rfl
theorem bF:∀ {n:Nat} {M M':Fn},(∀r c,r<n->c<n->M r c=M' r c)->D n M=D n M'
 |0,_,_,_=>rfl
 |n+1,M,M',h=>by
  rw[cc,cc];refine bb fun j hj=>?_;have e:D n (fun r c=>M (r+1) (sk j c))=D n (fun r c=>M' (r+1) (sk j c)):=bF fun r c hr hc=>h (r+1) (sk j c) (by omega) (gK hc);rw[h 0 j (by omega) hj,e]
theorem Ci:∀ {n:Nat} {M P Q:Fn} {a b:Int} {i:Nat},i<n->(∀c,c<n->M i c=a*P i c+b*Q i c)->(∀r c,r<n->c<n->r≠i->M r c=P r c/\M r c=Q r c)->D n M=a*D n P+b*D n Q
 |0,_,_,_,_,_,_,h,_,_=>by omega
 |n+1,M,P,Q,a,b,0,_,h0,h=>by
  rw[cc,cc,cc,<-fo,<-fo,<-lO];refine bb fun j hj=>?_;have e1:D n (fun r c=>M (r+1) (sk j c))=D n (fun r c=>P (r+1) (sk j c)):=bF fun r c hr hc=>(h (r+1) (sk j c) (by omega) (gK hc) (by omega)).1;have e2:D n (fun r c=>M (r+1) (sk j c))=D n (fun r c=>Q (r+1) (sk j c)):=bF fun r c hr hc=>(h (r+1) (sk j c) (by omega) (gK hc) (by omega)).2;rw[h0 j hj,<-e1,<-e2];grind
 |n+1,M,P,Q,a,b,i+1,hi,h0,h=>by
  rw[cc,cc,cc,<-fo,<-fo,<-lO];refine bb fun j hj=>?_;have e:=Ci (n:=n) (M:=fun r c=>M (r+1) (sk j c)) (P:=fun r c=>P (r+1) (sk j c)) (Q:=fun r c=>Q (r+1) (sk j c)) (a:=a) (b:=b) (i:=i) (by omega) (fun c hc=>h0 (sk j c) (gK hc)) fun r c hr hc hne=>h (r+1) (sk j c) (by omega) (gK hc) (by omega);have p:=h 0 j (by omega) hj (by omega);rw[e,<-p.1,<-p.2];grind
theorem Iz{n:Nat}{M:Fn}(h:∀c,c<n+2->M 0 c=M 1 c):D (n+2) M=0:=by
 let T:Nat->Nat->Int:=fun j k=>sg j*M 0 j*(sg k*M 1 (sk j k)*D n fun r c=>M (r+2) (sk j (sk k c)))
 have e1:∀j,j<n+2->sg j*M 0 j*D (n+1) (fun r c=>M (r+1) (sk j c))=S (n+1) fun k=>T j k:=fun j hj=>by
  rw[cc,<-fo]
 rw[cc,bb e1]
 have e2:∀j,j<n+2->S (n+1) (fun k=>T j k)=S (n+1) (fun k=>if k<j then T j k else 0)+S (n+1) (fun k=>if k<j then 0 else T j k):=fun j _=>by
  rw[<-lO];refine bb fun k _=>?_;split<;>omega
 rw[bb e2,lO]
 have e3:∀j k,j<n+2->k<n+1->¬k<j->T j k= -T (k+1) j:=fun j k hj hk hjk=>by
  have s1:sk (k+1) j=j:=by unfold sk;rw[if_pos (by omega)]
  have s2:sk j k=k+1:=by unfold sk;rw[if_neg hjk]
  have s3:(fun r c=>M (r+2) (sk (k+1) (sk j c)))=fun r c=>M (r+2) (sk j (sk k c)):=by
   funext r c;rw[Hg (show j<k+1 by omega)];rfl
  show sg j*M 0 j*(sg k*M 1 (sk j k)*D n fun r c=>M (r+2) (sk j (sk k c)))= -(sg (k+1)*M 0 (k+1)*(sg j*M 1 (sk (k+1) j)*D n fun r c=>M (r+2) (sk (k+1) (sk j c))));rw[s1,s2,s3,qQ,<-h j hj,<-h (k+1) (by omega)];grind
 have e4:S (n+2) (fun j=>S (n+1) fun k=>if k<j then 0 else T j k)= -S (n+2) (fun j=>S (n+1) fun k=>if k<j then T j k else 0):=by
  rw[yU,uC (n+1) (fun j=>S (n+1) fun k=>if k<j then T j k else 0)];have z:S (n+1) (fun k=>if k<0 then T 0 k else 0)=0:=iY fun k _=>if_neg (by omega);rw[z,Int.zero_add,<-B6];refine bb fun k hk=>?_;have:S (n+2) (fun j=>if k<j then 0 else T j k)=S (n+1) (fun j=>if k<j then 0 else T j k)+(if k<n+1 then 0 else T (n+1) k):=rfl;rw[this,if_pos hk,Int.add_zero,<-B6];refine bb fun j hj=>?_;by_cases hkj:k<j
  . rw[if_pos hkj,if_neg (by omega)];rfl
  . rw[if_neg hkj,if_pos (by omega)];exact e3 j k (by omega) hk hkj
 rw[e4];omega
theorem BU:∀ {n:Nat} {M:Fn} {i:Nat},i+1<n->(∀c,c<n->M i c=M (i+1) c)->D n M=0
 |0,_,_,h,_=>by omega
 |1,_,_,h,_=>by omega
 |n+2,M,0,_,h=>Iz h
 |n+2,M,i+1,hi,h=>by
  rw[cc];refine iY fun j hj=>?_;rw[BU (n:=n+1) (M:=fun r c=>M (r+1) (sk j c)) (i:=i) (by omega) fun c hc=>h (sk j c) (gK hc),Int.mul_zero]
structure Alt(n:Nat)(φ:Fn->Int):Prop where
 cg:∀M M':Fn,(∀r c,r<n->c<n->M r c=M' r c)->φ M=φ M'
 kJ:∀(i:Nat) (M P Q:Fn) (a b:Int),i<n->(∀c,c<n->M i c=a*P i c+b*Q i c)->(∀r c,r<n->c<n->r≠i->M r c=P r c/\M r c=Q r c)->φ M=a*φ P+b*φ Q
 alt:∀(i j:Nat) (M:Fn),i<n->j<n->i≠j->(∀c,c<n->M i c=M j c)->φ M=0
def upd(M:Fn)(i:Nat)(x:Nat->Int):Fn:=fun r c=>if r=i then x c else M r c
theorem aW(M:Fn)(i:Nat)(x:Nat->Int)(c:Nat):upd M i x i c=x c:=if_pos rfl
theorem aq{M:Fn}{i r:Nat}{x:Nat->Int}(h:r≠i)(c:Nat):upd M i x r c=M r c:=if_neg h
theorem HS{n i j:Nat}{φ:Fn->Int}(cg:∀M M':Fn,(∀r c,r<n->c<n->M r c=M' r c)->φ M=φ M')
 (kJ:∀(i:Nat) (M P Q:Fn) (a b:Int),i<n->(∀c,c<n->M i c=a*P i c+b*Q i c)->(∀r c,r<n->c<n->r≠i->M r c=P r c/\M r c=Q r c)->φ M=a*φ P+b*φ Q)
 (hi:i<n) (hj:j<n) (hij:i≠j) (alt:∀N:Fn,(∀c,c<n->N i c=N j c)->φ N=0) (M:Fn):φ (fun r=>M (sw i j r))= -φ M:=by
 have l1:φ (upd (upd M i fun c=>M i c+M j c) j fun c=>M i c+M j c)=1*φ (upd (upd M i (M i)) j fun c=>M i c+M j c)+1*φ (upd (upd M i (M j)) j fun c=>M i c+M j c):=
  kJ i _ _ _ 1 1 hi (fun c _=>by rw[aq hij,aq hij,aq hij,aW,aW,aW];omega) fun r c _ _ hr=>by
   unfold upd;grind
 have l2:∀x:Nat->Int,φ (upd (upd M i x) j fun c=>M i c+M j c)=1*φ (upd (upd M i x) j (M i))+1*φ (upd (upd M i x) j (M j)):=fun x=>
  kJ j _ _ _ 1 1 hj (fun c _=>by rw[aW,aW,aW];omega) fun r c _ _ hr=>by
   rw[aq hr,aq hr,aq hr];exact⟨rfl,rfl⟩
 have z0:φ (upd (upd M i fun c=>M i c+M j c) j fun c=>M i c+M j c)=0:=alt _ fun c _=>by rw[aq hij,aW,aW]
 have z1:φ (upd (upd M i (M i)) j (M i))=0:=alt _ fun c _=>by rw[aq hij,aW,aW]
 have z2:φ (upd (upd M i (M j)) j (M j))=0:=alt _ fun c _=>by rw[aq hij,aW,aW]
 have s1:φ (upd (upd M i (M i)) j (M j))=φ M:=cg _ _ fun r c _ _=>by
  unfold upd;split
  . rename_i e;rw[e]
  . split
    . rename_i e;rw[e]
    . rfl
 have s2:φ (upd (upd M i (M j)) j (M i))=φ (fun r=>M (sw i j r)):=cg _ _ fun r c _ _=>by
  unfold upd sw;by_cases h1:r=j
  . rw[if_pos h1];by_cases h2:r=i
    . omega
    . rw[if_neg h2,if_pos h1]
  . rw[if_neg h1];by_cases h2:r=i
    . rw[if_pos h2,if_pos h2]
    . rw[if_neg h2,if_neg h2,if_neg h1]
 have a1:=l2 (M i);have a2:=l2 (M j);rw[z1,s1]at a1;rw[z2,s2]at a2;rw[z0,a1,a2]at l1;omega
theorem Alt.swap{n i j:Nat}{φ:Fn->Int}(A:Alt n φ)(hi:i<n)(hj:j<n)(hij:i≠j)(M:Fn):φ (fun r=>M (sw i j r))= -φ M:=
 HS A.cg A.kJ hi hj hij (fun N h=>A.alt i j N hi hj hij h) M
theorem pM{n:Nat}{φ:Fn->Int}(cg:∀M M':Fn,(∀r c,r<n->c<n->M r c=M' r c)->φ M=φ M')
 (kJ:∀(i:Nat) (M P Q:Fn) (a b:Int),i<n->(∀c,c<n->M i c=a*P i c+b*Q i c)->(∀r c,r<n->c<n->r≠i->M r c=P r c/\M r c=Q r c)->φ M=a*φ P+b*φ Q)
 (adj:∀(i:Nat) (M:Fn),i+1<n->(∀c,c<n->M i c=M (i+1) c)->φ M=0):Alt n φ:=by
 have far:∀(d i:Nat) (M:Fn),i+d+1<n->(∀c,c<n->M i c=M (i+d+1) c)->φ M=0:=by
  intro d;induction d with
  |zero=>exact fun i M h1 h2=>adj i M h1 h2
  |succ d ih=>
   intro i M h1 h2;have hs:=HS cg kJ (i:=i+d+1) (j:=i+d+1+1) (by omega) (by omega) (by omega) (fun N h=>adj (i+d+1) N (by omega) h) M
   have:φ (fun r=>M (sw (i+d+1) (i+d+1+1) r))=0:=ih i _ (by omega) fun c hc=>by
    have e1:sw (i+d+1) (i+d+1+1) i=i:=by unfold sw;rw[if_neg (by omega),if_neg (by omega)]
    have e2:sw (i+d+1) (i+d+1+1) (i+d+1)=i+d+1+1:=by unfold sw;rw[if_pos rfl]
    rw[e1,e2];exact h2 c hc
   omega
 refine⟨cg,kJ,fun i j M hi hj hij h=>?_⟩;by_cases hlt:i<j
 . obtain⟨d,rfl⟩:∃d,j=i+d+1:=⟨j-i-1,by omega⟩
   exact far d i M hj h
 . obtain⟨d,rfl⟩:∃d,i=j+d+1:=⟨i-j-1,by omega⟩
   exact far d j M hi fun c hc=>(h c hc).symm
theorem iK(n:Nat):Alt n (D n):=pM (fun _ _ h=>bF h) (fun _ _ _ _ _ _ hi h0 h=>Ci hi h0 h) fun _ _ h1 h2=>BU h1 h2
theorem Alt.xy{n i:Nat}{φ:Fn->Int}(A:Alt n φ)(hi:i<n){M:Fn}(h:∀c,c<n->M i c=0):φ M=0:=by
 have:=A.kJ i M M M 0 0 hi (fun c hc=>by rw[h c hc];rfl) fun _ _ _ _ _=>⟨rfl,rfl⟩
 omega
theorem Alt.jb{n i:Nat}{φ:Fn->Int}(A:Alt n φ)(hi:i<n)(M:Fn)(t:Int)(x:Nat->Int):φ (upd M i fun c=>t*x c)=t*φ (upd M i x):=by
 have:=A.kJ i (upd M i fun c=>t*x c) (upd M i x) (upd M i x) t 0 hi (fun c hc=>by rw[aW,aW];omega) fun r c _ _ hr=>by rw[aq hr,aq hr];exact⟨rfl,rfl⟩
 omega
theorem Alt.nc{n i:Nat}{φ:Fn->Int}(A:Alt n φ)(hi:i<n)(M:Fn)(x y:Nat->Int):φ (upd M i fun c=>x c+y c)=φ (upd M i x)+φ (upd M i y):=by
 have:=A.kJ i (upd M i fun c=>x c+y c) (upd M i x) (upd M i y) 1 1 hi (fun c hc=>by rw[aW,aW,aW];omega) fun r c _ _ hr=>by rw[aq hr,aq hr,aq hr];exact⟨rfl,rfl⟩
 omega
theorem Alt.nt{n i:Nat}{φ:Fn->Int}(A:Alt n φ)(hi:i<n)(M:Fn)(a:Nat->Int)(x:Nat->Nat->Int):∀m,φ (upd M i fun c=>S m fun j=>a j*x j c)=S m fun j=>a j*φ (upd M i (x j))
 |0=>A.xy hi fun c _=>by rw[aW];rfl
 |m+1=>by
  have:(fun c=>S (m+1) fun j=>a j*x j c)=fun c=>(S m fun j=>a j*x j c)+a m*x m c:=rfl;rw[this,A.nc hi,A.nt hi M a x m,A.jb hi];rfl
theorem Alt.more{n i:Nat}{φ:Fn->Int}(A:Alt n φ)(hi:i<n)(M:Fn)(x:Nat->Int)(a:Nat->Int)(m:Nat)(hm:m<=n)(him:m<=i):φ (upd M i fun c=>x c+S m fun j=>a j*M j c)=φ (upd M i x):=by
 rw[A.nc hi,A.nt hi M a (fun j=>M j) m,iY fun j hj=>?_,Int.add_zero];rw[A.alt i j _ hi (by omega) (by omega) fun c _=>by rw[aW,aq (by omega)],Int.mul_zero]
def un(j c:Nat):Nat:=if c<j then c else c-1
def grow(j:Nat)(B:Fn):Fn:=fun r c=>if r=0 then dl j c else if c=j then 0 else B (r-1) (un j c)
theorem pB{n j c:Nat}(hj:j<n+1)(hc:c<n+1)(h:c≠j):un j c<n:=by unfold un;split<;>omega
theorem xF{j c:Nat}(h:c≠j):sk j (un j c)=c:=by unfold sk un;grind
theorem Alt.grow{n j:Nat}{φ:Fn->Int}(A:Alt (n+1) φ)(hj:j<n+1):Alt n fun B=>φ (Mx.grow j B) where
 cg:=fun M M' h=>A.cg _ _ fun r c hr hc=>by
  have:=h (r-1) (un j c);have:=pB (c:=c) hj hc;unfold Mx.grow;grind
 kJ:=fun i M P Q a b hi h0 h=>A.kJ (i+1) _ _ _ a b (by omega) (fun c hc=>by
  have:=h0 (un j c);have:=pB (c:=c) hj hc;have e:i+1-1=i:=by omega
  unfold Mx.grow;rw[e];grind) fun r c hr hc hne=>by
  have:=h (r-1) (un j c);have:=pB (c:=c) hj hc;unfold Mx.grow;grind
 alt:=fun i k M hi hk hik h=>A.alt (i+1) (k+1) _ (by omega) (by omega) (by omega) fun c hc=>by
  have:=h (un j c);have:=pB (c:=c) hj hc;have e:i+1-1=i:=by omega
  have e2:k+1-1=k:=by omega
  unfold Mx.grow;rw[e,e2];grind
theorem Alt.units{n:Nat}{φ:Fn->Int}(A:Alt (n+1) φ):∀j,j<n+1->φ (Mx.grow j dl)=sg j*φ dl
 |0,_=>by
  rw[qD,Int.one_mul];refine A.cg _ _ fun r c hr hc=>?_;unfold Mx.grow un dl;grind
 |j+1,hj=>by
  have ih:=A.units j (by omega);have s:=A.swap (i:=0) (j:=j+1) (by omega) hj (by omega) (Mx.grow j dl);rw[qQ,Int.neg_mul,<-ih,<-s];refine A.cg _ _ fun r c hr hc=>?_;unfold Mx.grow un dl sw;grind
theorem Alt.Ib{n i k:Nat}{φ:Fn->Int}(A:Alt n φ)(hi:i<n)(hk:k<n)(hik:i≠k)(M:Fn)(x:Nat->Int)(t:Int):φ (upd M i fun c=>x c+t*M k c)=φ (upd M i x):=by
 rw[A.nc hi,A.jb hi M t (M k),A.alt i k (upd M i (M k)) hi hk hik fun c _=>by rw[aW,aq (Ne.symm hik)],Int.mul_zero,Int.add_zero]
def zr(j m:Nat)(M:Fn):Fn:=fun r c=>if r=0 then dl j c else if r<=m/\c=j then 0 else M r c
theorem Alt.zr{n j:Nat}{φ:Fn->Int}(A:Alt (n+1) φ)(M:Fn):∀m,m<=n->φ (Mx.zr j m M)=φ (upd M 0 (dl j))
 |0,_=>A.cg _ _ fun r c hr hc=>by unfold Mx.zr upd;grind
 |m+1,hm=>by
  rw[<-A.zr M m (by omega)];have e:=A.Ib (i:=m+1) (k:=0) (by omega) (by omega) (by omega) (Mx.zr j m M) (M (m+1)) (-M (m+1) j)
  have e1:φ (Mx.zr j (m+1) M)=φ (upd (Mx.zr j m M) (m+1) fun c=>M (m+1) c+ -M (m+1) j*Mx.zr j m M 0 c):=A.cg _ _ fun r c hr hc=>by
   unfold upd Mx.zr dl;by_cases h0:r=m+1
   . subst h0;by_cases h1:c=j
     . subst h1;simp;omega
     . have:¬j=c:=fun z=>h1 z.symm;simp[h1,this]
   . rw[if_neg h0];grind
  have e2:φ (upd (Mx.zr j m M) (m+1) (M (m+1)))=φ (Mx.zr j m M):=A.cg _ _ fun r c hr hc=>by
   unfold upd Mx.zr;grind
  rw[e1,e,e2]
theorem xD:∀ {n:Nat} {φ:Fn->Int},Alt n φ->∀M,φ M=φ dl*D n M
 |0,φ,A,M=>by rw[p0,Int.mul_one];exact A.cg _ _ fun r c hr=>by omega
 |n+1,φ,A,M=>by
  have h1:φ M=S (n+1) fun j=>M 0 j*φ (upd M 0 (dl j)):=by
   rw[<-A.nt (by omega) M (M 0) dl (n+1)];refine A.cg _ _ fun r c hr hc=>?_;by_cases h0:r=0
   . subst h0;rw[aW,zT hc]
   . rw[aq h0]
  have h2:∀j,j<n+1->φ (upd M 0 (dl j))=φ (Mx.grow j fun r c=>M (r+1) (sk j c)):=fun j hj=>by
   rw[<-A.zr M n (Nat.le_refl _)];refine A.cg _ _ fun r c hr hc=>?_;unfold Mx.grow Mx.zr;by_cases h0:r=0
   . rw[if_pos h0,if_pos h0]
   . rw[if_neg h0,if_neg h0];by_cases h3:c=j
     . rw[if_pos ⟨by omega,h3⟩,if_pos h3]
     . rw[if_neg (by omega),if_neg h3];dsimp only;rw[xF h3,show r-1+1=r by omega]
  rw[h1,cc,<-fo];refine bb fun j hj=>?_;have h3:=xD (A.grow hj) fun r c=>M (r+1) (sk j c);have h4:=A.units j hj;have h5:φ (Mx.grow j fun r c=>M (r+1) (sk j c))=φ (Mx.grow j dl)*D n fun r c=>M (r+1) (sk j c):=h3;rw[h2 j hj,h5,h4];grind
theorem wz:∀n,D n dl=1
 |0=>rfl
 |n+1=>by
  rw[cc,jh (k:=0) (by omega) fun j hj h0=>by rw[gQ (Ne.symm h0),Int.mul_zero,Int.zero_mul]]
  have:D n (fun r c=>dl (r+1) (sk 0 c))=D n dl:=bF fun r c _ _=>by
   unfold dl sk;grind
  rw[this,wz n,fI];rfl
theorem Gu(n:Nat)(A B:Fn):D n (fun r c=>S n fun k=>A r k*B k c)=D n A*D n B:=by
 have al:Alt n fun A=>D n (fun r c=>S n fun k=>A r k*B k c):=by
  refine⟨fun M M' h=>bF fun r c hr hc=>bb fun k hk=>by rw[h r k hr hk],fun i M P Q a b hi h0 h=>(iK n).kJ i _ _ _ a b hi (fun c hc=>?_) fun r c hr hc hne=>⟨bb fun k hk=>by rw[(h r k hr hk hne).1],bb fun k hk=>by rw[(h r k hr hk hne).2]⟩,fun i j M hi hj hij h=>(iK n).alt i j _ hi hj hij fun c hc=>bb fun k hk=>by rw[h k hk]⟩;show(S n fun k=>M i k*B k c)=a*(S n fun k=>P i k*B k c)+b*S n fun k=>Q i k*B k c;rw[<-fo,<-fo,<-lO];refine bb fun k hk=>?_;rw[h0 k hk];grind
 have h:=xD al A;have e:D n (fun r c=>S n fun k=>dl r k*B k c)=D n B:=bF fun r c hr hc=>t4 hr fun k=>B k c;rw[h,e,Int.mul_comm]
theorem yE:∀ {n:Nat} {M P Q:Fn} {a b:Int} {i:Nat},i<n->(∀r,r<n->M r i=a*P r i+b*Q r i)->(∀r c,r<n->c<n->c≠i->M r c=P r c/\M r c=Q r c)->D n M=a*D n P+b*D n Q
 |0,_,_,_,_,_,_,h,_,_=>by omega
 |n+1,M,P,Q,a,b,i,hi,h0,h=>by
  rw[cc,cc,cc,<-fo,<-fo,<-lO];refine bb fun j hj=>?_;by_cases hij:j=i
  . subst hij;have hs:∀c,sk j c≠j:=fun c=>by unfold sk;split<;>omega
    have e1:D n (fun r c=>M (r+1) (sk j c))=D n (fun r c=>P (r+1) (sk j c)):=bF fun r c hr hc=>(h (r+1) (sk j c) (by omega) (gK hc) (hs c)).1;have e2:D n (fun r c=>M (r+1) (sk j c))=D n (fun r c=>Q (r+1) (sk j c)):=bF fun r c hr hc=>(h (r+1) (sk j c) (by omega) (gK hc) (hs c)).2;rw[h0 0 (by omega),<-e1,<-e2];grind
  . have p:=h 0 j (by omega) hj hij;have hu:sk j (un j i)=i:=xF (Ne.symm hij);have hs:∀c,c≠un j i->sk j c≠i:=fun c hc=>by unfold sk;unfold un at hc;grind
    have hlt:un j i<n:=pB hj hi (Ne.symm hij)
    have e:=yE (n:=n) (M:=fun r c=>M (r+1) (sk j c)) (P:=fun r c=>P (r+1) (sk j c)) (Q:=fun r c=>Q (r+1) (sk j c)) (a:=a) (b:=b) (i:=un j i) hlt (fun r hr=>by
     rw[hu];exact h0 (r+1) (by omega)) fun r c hr hc hne=>h (r+1) (sk j c) (by omega) (gK hc) (hs c hne)
    rw[e,<-p.1,<-p.2];grind
theorem zm:∀ {n:Nat} {M:Fn} {i:Nat},i+1<n->(∀r,r<n->M r i=M r (i+1))->D n M=0
 |0,_,_,h,_=>by omega
 |n+1,M,i,hi,h=>by
  rw[cc]
  have key:∀j,j<n+1->j≠i->j≠i+1->D n (fun r c=>M (r+1) (sk j c))=0:=fun j hj h1 h2=>by
   refine zm (i:=un j i) (by unfold un;split<;>omega) fun r hr=>?_;have e1:sk j (un j i)=i:=xF (Ne.symm h1);have e2:sk j (un j i+1)=i+1:=by unfold sk un;grind
   rw[e1,e2];exact h (r+1) (by omega)
  have e:D n (fun r c=>M (r+1) (sk i c))=D n (fun r c=>M (r+1) (sk (i+1) c)):=bF fun r c hr hc=>by
   by_cases hc2:c=i
   . subst hc2;have a1:sk c c=c+1:=by unfold sk;rw[if_neg (by omega)]
     have a2:sk (c+1) c=c:=by unfold sk;rw[if_pos (by omega)]
     rw[a1,a2];exact(h (r+1) (by omega)).symm
   . have a1:sk i c=sk (i+1) c:=by unfold sk;grind
     rw[a1]
  have two:∀(m:Nat) (f:Nat->Int),i+1<m->(∀j,j<m->j≠i->j≠i+1->f j=0)->S m f=f i+f (i+1):=fun m=>by
   induction m with
   |zero=>intro f h;omega
   |succ m ih=>
    intro f hm hf;show S m f+f m=_;by_cases hmi:m=i+1
    . subst hmi;rw[jh (k:=i) (by omega) fun j hj hne=>hf j (by omega) hne (by omega)]
    . rw[ih f (by omega) fun j hj h1 h2=>hf j (by omega) h1 h2,hf m (by omega) (by omega) hmi,Int.add_zero]
  rw[two (n+1) _ hi fun j hj h1 h2=>by rw[key j hj h1 h2,Int.mul_zero],e,qQ,h 0 (by omega)];grind
def tr(M:Fn):Fn:=fun r c=>M c r
theorem q_(n:Nat)(M:Fn):D n (tr M)=D n M:=by
 have al:Alt n fun A=>D n (tr A):=pM (fun M M' h=>bF fun r c hr hc=>h c r hc hr)
  (fun i M P Q a b hi h0 h=>yE hi (fun r hr=>h0 r hr) fun r c hr hc hne=>h c r hc hr hne)
  fun i M hi h=>zm hi fun r hr=>h r hr
 have h:=xD al M;have e:D n (tr dl)=D n dl:=bF fun r c _ _=>Dm c r;have h2:D n (tr M)=D n (tr dl)*D n M:=h;rw[h2,e,wz,Int.one_mul]
theorem pY:∀ {n:Nat} {M:Fn},(∀c,c<n+1->M n c=dl n c)->D (n+1) M=D n M
 |0,M,h=>by
  rw[cc];show 0+sg 0*M 0 0*D 0 _=1;rw[h 0 (by omega),fI,qD,p0];omega
 |n+1,M,h=>by
  have e1:∀j,j<n+1->D (n+1) (fun r c=>M (r+1) (sk j c))=D n (fun r c=>M (r+1) (sk j c)):=fun j hj=>pY fun c hc=>by
   rw[h (sk j c) (gK hc)];unfold dl sk;grind
  have e2:D (n+1) (fun r c=>M (r+1) (sk (n+1) c))=0:=(iK (n+1)).xy (i:=n) (by omega) fun c hc=>by
   have s:sk (n+1) c=c:=by unfold sk;rw[if_pos (by omega)]
   rw[s,h c (by omega),gQ (by omega)]
  have e3:D (n+1+1) M=(S (n+1) fun j=>sg j*M 0 j*D (n+1) fun r c=>M (r+1) (sk j c))+sg (n+1)*M 0 (n+1)*D (n+1) (fun r c=>M (r+1) (sk (n+1) c)):=cc (n+1) M;rw[e3,e2,Int.mul_zero,Int.add_zero,cc];exact bb fun j hj=>by rw[e1 j hj]
theorem jV{M:Fn}{i j:Nat}{x y:Nat->Int}(h:i≠j):upd (upd M i x) j y=upd (upd M j y) i x:=by
 funext r c;unfold upd;grind
def gx(R:Fn)(p:Nat)(x:Nat->Int)(j:Nat):Int:=D (p+1) fun r c=>if r<p then R r (if c<p then c else j)else x (if c<p then c else j)
theorem En{R:Fn}{p j:Nat}{x:Nat->Int}(h:j<p):gx R p x j=0:=by
 unfold gx;rw[<-q_];refine(iK (p+1)).alt j p _ (by omega) (by omega) (by omega) fun c hc=>?_;unfold tr;dsimp only;rw[if_pos h,if_neg (Nat.lt_irrefl p)]
def bt(R:Fn)(p:Nat)(x:Nat->Int)(k:Nat):Int:=D (p+1) (upd (fun c r=>if r<p then R r c else x c) p (dl k))
theorem B_(R:Fn)(p:Nat)(x:Nat->Int)(j:Nat):gx R p x j=D p R*x j+S p fun k=>bt R p x k*R k j:=by
 have e1:gx R p x j=D (p+1) (upd (fun c r=>if r<p then R r c else x c) p fun r=>S (p+1) fun k=>(if k<p then R k j else x j)*dl k r):=by
  unfold gx;rw[<-q_];refine bF fun c r hc hr=>?_;unfold tr upd;by_cases h:c=p
  . subst h;rw[if_pos rfl];dsimp only;rw[zT hr,if_neg (Nat.lt_irrefl _)]
  . rw[if_neg h];dsimp only;rw[if_pos (show c<p by omega)]
 rw[e1,(iK (p+1)).nt (by omega)]
 have e2:D (p+1) (upd (fun c r=>if r<p then R r c else x c) p (dl p))=D p R:=by
  rw[pY fun c _=>aW _ _ _ _];rw[<-q_];refine bF fun r c hr hc=>?_;unfold tr;rw[aq (by omega),if_pos (by omega)]
 have e3:(S (p+1) fun k=>(if k<p then R k j else x j)*D (p+1) (upd (fun c r=>if r<p then R r c else x c) p (dl k)))=(S p fun k=>(if k<p then R k j else x j)*D (p+1) (upd (fun c r=>if r<p then R r c else x c) p (dl k)))+(if p<p then R p j else x j)*D (p+1) (upd (fun c r=>if r<p then R r c else x c) p (dl p)):=rfl;rw[e3,e2,if_neg (Nat.lt_irrefl p),Int.add_comm,Int.mul_comm];congr 1;refine bb fun k hk=>?_;rw[if_pos hk,Int.mul_comm];rfl
def cl(p j1 j2 c:Nat):Nat:=if c<p then c else if c=p then j1 else j2
def gy(R:Fn)(p:Nat)(x y:Nat->Int)(j1 j2:Nat):Int:=D (p+2) (upd (upd (fun r c=>R r (cl p j1 j2 c)) p fun c=>x (cl p j1 j2 c)) (p+1) fun c=>y (cl p j1 j2 c))
theorem F_{R:Fn}{p j1 j2:Nat}{x y:Nat->Int}(hd:D p R≠0):gx R p x j1*gx R p y j2-gx R p y j1*gx R p x j2=D p R*gy R p x y j1 j2:=by
 have A:=iK (p+2)
 let B:Fn:=fun r c=>R r (cl p j1 j2 c)
 let ps:(Nat->Int)->(Nat->Int)->Int:=fun u v=>D (p+2) (upd (upd B p u) (p+1) v)
 have s1:∀u,ps u (fun c=>gx R p y (cl p j1 j2 c))=D p R*ps u fun c=>y (cl p j1 j2 c):=fun u=>by
  have e:(fun c=>gx R p y (cl p j1 j2 c))=fun c=>(fun c=>D p R*y (cl p j1 j2 c)) c+S p fun k=>bt R p y k*upd B p u k c:=by
   funext c;rw[B_];congr 1;refine bb fun k hk=>?_;rw[aq (by omega)]
  show D (p+2) (upd (upd B p u) (p+1) fun c=>gx R p y (cl p j1 j2 c))=_;rw[e,A.more (i:=p+1) (by omega) (upd B p u) (fun c=>D p R*y (cl p j1 j2 c)) (bt R p y) p (by omega) (by omega),A.jb (by omega)]
 have s2:∀v,ps (fun c=>gx R p x (cl p j1 j2 c)) v=D p R*ps (fun c=>x (cl p j1 j2 c)) v:=fun v=>by
  have e:(fun c=>gx R p x (cl p j1 j2 c))=fun c=>(fun c=>D p R*x (cl p j1 j2 c)) c+S p fun k=>bt R p x k*upd B (p+1) v k c:=by
   funext c;rw[B_];congr 1;refine bb fun k hk=>?_;rw[aq (by omega)]
  show D (p+2) (upd (upd B p fun c=>gx R p x (cl p j1 j2 c)) (p+1) v)=D p R*D (p+2) (upd (upd B p fun c=>x (cl p j1 j2 c)) (p+1) v);rw[jV (by omega),e,A.more (i:=p) (by omega) (upd B (p+1) v) (fun c=>D p R*x (cl p j1 j2 c)) (bt R p x) p (by omega) (by omega),A.jb (by omega),jV (by omega)]
 have lhs:ps (fun c=>gx R p x (cl p j1 j2 c)) (fun c=>gx R p y (cl p j1 j2 c))=D p R*(D p R*gy R p x y j1 j2):=by
  rw[s1,s2];rfl
 have two:∀z:Nat->Int,∀c,c<p+2->gx R p z (cl p j1 j2 c)=gx R p z j1*dl p c+gx R p z j2*dl (p+1) c:=fun z c hc=>by
  unfold cl;by_cases h1:c<p
  . rw[if_pos h1,En h1,gQ (by omega),gQ (by omega)];omega
  . rw[if_neg h1];by_cases h2:c=p
    . rw[if_pos h2,h2,fI,gQ (by omega)];omega
    . rw[if_neg h2,show c=p+1 by omega,fI,gQ (by omega)];omega
 have lin2:∀u a b,ps u (fun c=>a*dl p c+b*dl (p+1) c)=a*ps u (dl p)+b*ps u (dl (p+1)):=fun u a b=>by
  show D (p+2) (upd (upd B p u) (p+1) fun c=>a*dl p c+b*dl (p+1) c)=_;rw[A.nc (by omega),A.jb (by omega),A.jb (by omega)]
 have lin1:∀v a b,ps (fun c=>a*dl p c+b*dl (p+1) c) v=a*ps (dl p) v+b*ps (dl (p+1)) v:=fun v a b=>by
  show D (p+2) (upd (upd B p fun c=>a*dl p c+b*dl (p+1) c) (p+1) v)=a*D (p+2) (upd (upd B p (dl p)) (p+1) v)+b*D (p+2) (upd (upd B p (dl (p+1))) (p+1) v);rw[jV (by omega),A.nc (by omega),A.jb (by omega),A.jb (by omega),jV (by omega),jV (show p+1≠p by omega)]
 have z1:∀u,ps u u=0:=fun u=>A.alt p (p+1) _ (by omega) (by omega) (by omega) fun c _=>by rw[aq (by omega),aW,aW]
 have z2:ps (dl (p+1)) (dl p)= -ps (dl p) (dl (p+1)):=by
  have h:=A.swap (i:=p) (j:=p+1) (by omega) (by omega) (by omega) (upd (upd B p (dl p)) (p+1) (dl (p+1)));rw[<-h];refine bF fun r c hr hc=>?_;unfold upd sw;grind
 have z3:ps (dl p) (dl (p+1))=D p R:=by
  show D (p+2) (upd (upd B p (dl p)) (p+1) (dl (p+1)))=_;rw[pY fun c _=>aW _ _ _ _];have e:D (p+1) (upd (upd B p (dl p)) (p+1) (dl (p+1)))=D (p+1) (upd B p (dl p)):=bF fun r c hr hc=>aq (by omega) c;rw[e,pY fun c _=>aW _ _ _ _];refine bF fun r c hr hc=>?_;rw[aq (by omega)];show R r (cl p j1 j2 c)=R r c;unfold cl;rw[if_pos hc]
 have rhs:ps (fun c=>gx R p x (cl p j1 j2 c)) (fun c=>gx R p y (cl p j1 j2 c))=D p R*(gx R p x j1*gx R p y j2-gx R p y j1*gx R p x j2):=by
  have e:ps (fun c=>gx R p x (cl p j1 j2 c)) (fun c=>gx R p y (cl p j1 j2 c))=ps (fun c=>gx R p x j1*dl p c+gx R p x j2*dl (p+1) c) (fun c=>gx R p y j1*dl p c+gx R p y j2*dl (p+1) c):=bF fun r c hr hc=>by
   unfold upd;by_cases h1:r=p+1
   . rw[if_pos h1,if_pos h1];exact two y c hc
   . rw[if_neg h1,if_neg h1];by_cases h2:r=p
     . rw[if_pos h2,if_pos h2];exact two x c hc
     . rw[if_neg h2,if_neg h2]
  rw[e,lin1,lin2,lin2,z1,z1,z2,z3];grind
 have:=lhs.symm.trans rhs;exact(Int.eq_of_mul_eq_mul_left hd this).symm
theorem x6{n:Nat}{f:Nat->Int}{m:Nat}(h:∀i,i<n->(f i).natAbs<=m):(S n f).natAbs<=n*m:=by
 induction n with
 |zero=>simp[S]
 |succ n ih=>
  have h1:=ih fun i hi=>h i (by omega);have h2:=h n (by omega);show(S n f+f n).natAbs<=_;rw[Nat.succ_mul];omega
theorem wJ{m:Nat}:∀ {n:Nat} {M:Fn},n<=8->(∀r c,r<n->c<n->(M r c).natAbs<=m)->(D n M).natAbs<=(8*m)^n
 |0,_,_,_=>by simp[D]
 |n+1,M,hn,h=>by
  rw[cc]
  have key:∀j,j<n+1->(sg j*M 0 j*D n fun r c=>M (r+1) (sk j c)).natAbs<=m*(8*m)^n:=fun j hj=>by
   have a:=wJ (n:=n) (M:=fun r c=>M (r+1) (sk j c)) (by omega) fun r c hr hc=>h (r+1) (sk j c) (by omega) (gK hc);have b:=h 0 j (by omega) hj;have s:(sg j).natAbs=1:=by unfold sg;split<;>rfl
   rw[Int.natAbs_mul,Int.natAbs_mul,s,Nat.one_mul];exact Nat.mul_le_mul b a
  have e:=x6 key;refine Nat.le_trans e ?_;rw[Nat.pow_succ,Nat.mul_comm ((8*m)^n),Nat.mul_assoc];have:(n+1)*(m*(8*m)^n)<=8*(m*(8*m)^n):=Nat.mul_le_mul_right _ hn;exact this
theorem D0(R:Fn)(x:Nat->Int)(j:Nat):gx R 0 x j=x j:=by
 unfold gx;rw[cc];show 0+sg 0*_*D 0 _=_;rw[qD,p0,if_neg (by omega),if_neg (by omega)];omega
theorem vH(R:Fn)(p:Nat):gx R p (R p) p=D (p+1) R:=bF fun r c hr hc=>by
 have e2:(if c<p then c else p)=c:=by split<;>omega
 rw[e2];split
 . rfl
 . have:r=p:=by omega
   rw[this]
theorem GS(R:Fn)(p:Nat)(y:Nat->Int)(j:Nat):gy R p (R p) y p j=gx R (p+1) y j:=by
 unfold gy gx;refine bF fun r c hr hc=>?_;have ec:cl p p j c=if c<p+1 then c else j:=by unfold cl;grind
 unfold upd;dsimp only;rw[ec];by_cases a1:r=p+1
 . rw[if_pos a1,if_neg (show¬r<p+1 by omega)]
 . rw[if_neg a1,if_pos (show r<p+1 by omega)];by_cases a2:r=p
   . rw[if_pos a2,a2]
   . rw[if_neg a2]
theorem Ct{R:Fn}{p:Nat}(hd:D p R≠0)(y:Nat->Int)(j:Nat):D (p+1) R*gx R p y j-gx R p y p*gx R p (R p) j=D p R*gx R (p+1) y j:=by
 rw[<-GS,<-F_ hd,vH]
theorem Fm{G:Fn}(sym:∀i j,G i j=G j i)(p k j:Nat):gx G p (G k) j=gx G p (G j) k:=by
 unfold gx;rw[<-q_];refine bF fun r c hr hc=>?_;unfold tr;by_cases h1:c<p
 . by_cases h2:r<p
   . simp only[if_pos h1,if_pos h2];exact sym _ _
   . simp only[if_pos h1,if_neg h2];exact sym _ _
 . by_cases h2:r<p
   . simp only[if_neg h1,if_pos h2];exact sym _ _
   . simp only[if_neg h1,if_neg h2];exact sym _ _
theorem Eb{G:Fn}{n m p i j:Nat}(hn:n<=8)(hb:∀r c,r<n->c<n->(G r c).natAbs<=m)(hp:p<n)(hi:i<n)(hj:j<n):(gx G p (G i) j).natAbs<=(8*m)^(p+1):=
 wJ (by omega) fun r c hr hc=>by
  split
  . exact hb _ _ (by omega) (by split<;>omega)
  . exact hb _ _ hi (by split<;>omega)
def lam(G:Fn)(i j:Nat):Int:=gx G j (G i) j
theorem uh(G:Fn)(i:Nat):lam G i i=D (i+1) G:=vH G i
theorem AV{G:Fn}(sym:∀i j,G i j=G j i){k:Nat}(hd:D k G≠0)(i j:Nat):(D (k+1) G*gx G k (G i) j-lam G i k*lam G j k).fdiv (D k G)=gx G (k+1) (G i) j:=by
 have h:=Ct hd (G i) j;rw[Fm sym k k j]at h;unfold lam;rw[h,Int.mul_fdiv_cancel_left _ hd]
def bI(A:Rows):Fn:=fun i j=>lT (A.getD i []) (A.getD j [])
theorem uI:∀a b:Row,lT a b=lT b a
 | [],[]=>rfl
 | [],_::_=>rfl
 |_::_,[]=>rfl
 |a::as,b::bs=>by
  unfold lT;rw[uI as bs,Int.mul_comm]
theorem Ai(A:Rows)(i j:Nat):bI A i j=bI A j i:=uI _ _
def fL(G:Fn)(i:Nat):Row:=(List.range (i+1)).map fun j=>lam G i j
def fi(G:Fn)(n:Nat):Rows:=(List.range n).map (fL G)
theorem kv(G:Fn)(i:Nat):(fL G i).length=i+1:=by unfold fL;simp
theorem pj(G:Fn){i j:Nat}(h:j<=i):(fL G i).getD j 0=lam G i j:=by
 unfold fL;rw[aP (by simp;omega),List.getElem_map,List.getElem_range]
theorem ij(G:Fn)(n:Nat):(fi G n).length=n:=by unfold fi;simp
theorem wa(G:Fn){n i:Nat}(h:i<n):(fi G n).getD i []=fL G i:=by
 unfold fi;rw[aP (by simpa using h),List.getElem_map,List.getElem_range]
theorem yP(G:Fn)(n:Nat):fi G (n+1)=fi G n++[fL G n]:=by unfold fi;rw[List.range_succ,List.map_append];rfl
def RA(A:Rows)(N:Nat):Fn:=fun i j=>if j<N then bI A i j else(A.getD i []).getD (j-N) 0
def ev(A:Rows)(N i k c:Nat):Int:=gx (RA A N) k (RA A N i) (N+c)
section
variable {A:Rows}{N w:Nat}
end
def Jc(M:Fn)(k j:Nat)(q:Int):Fn:=fun a b=>if a=k then M a b-q*M j b else M a b
def IZ(M:Fn)(k j:Nat)(q:Int):Fn:=fun a b=>if b=k then M a b-q*M a j else M a b
def tk(G:Fn)(k j:Nat)(q:Int):Fn:=IZ (Jc G k j q) k j q
section
variable {G:Fn}{t:Nat}(sym:∀i j,G i j=G j i)
include sym
end
section
variable {A:Rows}{N w:Nat}
theorem rl(hA:eQ N w A){i:Nat}(hi:i<N):(A.getD i []).length=w:=hA.gg _ (by have:=hA.len;rw[aP (by omega)];exact List.getElem_mem _)
theorem tT(hA:eQ N w A){i j:Nat}(hi:i<N)(hj:j<N):bI A i j=S w fun c=>(A.getD i []).getD c 0*(A.getD j []).getD c 0:=by
 unfold bI;rw[yT (by rw[rl hA hi,rl hA hj]),rl hA hj]
end
theorem EN{N j:Nat}{G:Fn}{u x:Nat->Int}(hj:j<N)(hx:∀c,c<N->x c=S N fun k=>u k*G k c):D N (upd G j x)=u j*D N G:=by
 have e1:D N (upd G j x)=D N (upd G j fun c=>S N fun k=>u k*G k c):=bF fun r c hr hc=>by
  unfold upd;by_cases h:r=j
  . rw[if_pos h,if_pos h];exact hx c hc
  . rw[if_neg h,if_neg h]
 rw[e1,(iK N).nt hj G u G N,jh hj fun k hk hkj=>?_]
 . congr 1;refine bF fun r c hr hc=>?_;unfold upd;by_cases h:r=j
   . rw[if_pos h,h]
   . rw[if_neg h]
 . have:D N (upd G j (G k))=0:=(iK N).alt j k _ hj hk (Ne.symm hkj) fun c _=>by rw[aW,aq hkj]
   rw[this,Int.mul_zero]
structure B3 where
 A:Rows
 U:Rows
 C:Rows
def qn(x y:Int):Int:=(2*x+y).fdiv (2*y)
def SU(f:Nat->Nat):Nat->Nat
 |0=>0
 |n+1=>SU f n+f n
def mu(A:Rows)(N p:Nat):Nat:=SU (fun i=>(g A i p).natAbs) N
def Sm(b:B3)(N m:Nat):Prop:=∀i c,i<N->(g b.A i c).natAbs<=m/\(g b.U i c).natAbs<=m/\(g b.C i c).natAbs<=m
def nl(A:Rows)(N t p:Nat):Nat:=SU (fun i=>if t<=i/\g A i p≠0 then 1 else 0) N
theorem BY{n:Nat}{f:Nat->Int}:∀ {N:Nat},n<=N->(∀i,n<=i->i<N->f i=0)->S N f=S n f
 |0,h,_=>by rw[Nat.le_zero.mp h]
 |N+1,h,z=>by
  by_cases e:n=N+1
  . rw[e]
  . have hn:n<=N:=by omega
    show S N f+f N=_;rw[z N hn (Nat.lt_succ_self N),Int.add_zero];exact BY hn fun i h1 h2=>z i h1 (Nat.lt_succ_of_lt h2)
theorem nX{X:Rows}{r:Row}{k:Nat}(hk:k<=X.length)(i:Nat):(X.take k++r::X.drop k).getD i []=if i<k then X.getD i []else if i=k then r else X.getD (i-1) []:=by
 have lt:(X.take k).length=k:=by rw[List.length_take];omega
 rw[List.getD_eq_getElem?_getD,List.getD_eq_getElem?_getD,List.getD_eq_getElem?_getD];by_cases h:i<k
 . rw[if_pos h,List.getElem?_append_left (by rw[lt];exact h),List.getElem?_take_of_lt h]
 . rw[if_neg h,List.getElem?_append_right (by rw[lt];omega),lt];by_cases h2:i=k
   . rw[if_pos h2,h2,Nat.sub_self];rfl
   . rw[if_neg h2];have:i-k=(i-1-k)+1:=by omega
     rw[this,List.getElem?_cons_succ,List.getElem?_drop];congr 2;omega
theorem uj{A:Rows}{N w j:Nat}{z:Nat->Int}(hA:eQ N w A)(hj:j<N)(hz:z j≠0)(h:∀c,c<w->S N (fun k=>z k*g A k c)=0):D N (bI A)=0:=by
 have e:D N (upd (bI A) j fun _=>0)=z j*D N (bI A):=EN hj fun c hc=>by
  have e1:S N (fun k=>z k*bI A k c)=S N fun k=>S w fun q=>z k*g A k q*g A c q:=bb fun k hk=>by
   rw[tT hA hk hc,<-fo];exact bb fun q _=>(Int.mul_assoc _ _ _).symm
  rw[e1,yU];refine(iY fun q hq=>?_).symm;rw[FQ,h q hq,Int.zero_mul]
 rw[(iK N).xy hj fun c _=>aW _ _ _ _]at e;rcases Int.mul_eq_zero.mp e.symm with h|h
 . exact absurd h hz
 . exact h
theorem yz{A:Rows}{N w:Nat}(hA:eQ N w A)(h:w<N):D N (bI A)=0:=by
 let M:Fn:=fun r k=>if k<w then g A r k else 0
 have e:D N (bI A)=D N fun r c=>S N fun k=>M r k*tr M k c:=bF fun r c hr hc=>by
  rw[tT hA hr hc]
  have e1:S N (fun k=>M r k*tr M k c)=S w fun k=>M r k*tr M k c:=BY (Nat.le_of_lt h) fun i h1 _=>by
   show(if i<w then g A r i else 0)*_=0;rw[if_neg (by omega),Int.zero_mul]
  rw[e1];refine bb fun k hk=>?_;show _=(if k<w then g A r k else 0)*(if k<w then g A c k else 0);rw[if_pos hk,if_pos hk];rfl
 rw[e,Gu,q_]
 have z:D N M=0:=by
  rw[<-q_];exact(iK N).xy h fun c _=>if_neg (Nat.lt_irrefl w)
 rw[z,Int.zero_mul]
theorem BF{at_:Nat}{f:Nat->Int}{x:Int}:∀ {n:Nat},at_<=n->S (n+1) (fun i=>if i<at_ then f i else if i=at_ then x else f (i-1))=S n f+x
 |0,h=>by
  have:at_=0:=by omega
  subst this;show 0+(if 0<0 then f 0 else if 0=0 then x else f (0-1))=0+x;rw[if_neg (by decide),if_pos rfl]
 |n+1,h=>by
  by_cases e:at_=n+1
  . subst e;show S (n+1) _+(if n+1<n+1 then f (n+1)else if n+1=n+1 then x else f (n+1-1))=_;rw[if_neg (Nat.lt_irrefl _),if_pos rfl,bb (g:=f) fun i hi=>if_pos hi]
  . have ih:=BF (f:=f) (x:=x) (n:=n) (at_:=at_) (by omega);show S (n+1) _+(if n+1<at_ then f (n+1)else if n+1=at_ then x else f (n+1-1))=S n f+f n+x;rw[ih,if_neg (by omega),if_neg (by omega),Nat.add_sub_cancel];omega
theorem zX{B:Rows}{r:Row}{n w k:Nat}{y:Nat->Int}{t:Int}(hB:eQ n w B)(hr:r.length=w)(hk:k<=n)(ht:t≠0)(h:∀c,c<w->t*r.getD c 0=S n fun i=>y i*g B i c):eQ (n+1) w (B.take k++r::B.drop k)/\D (n+1) (bI (B.take k++r::B.drop k))=0:=by
 have lB:=hB.len
 have is:eQ (n+1) w (B.take k++r::B.drop k):=by
  refine⟨by rw[List.length_append,List.length_cons,List.length_take,List.length_drop];omega,fun q hq=>?_⟩;rcases List.mem_append.mp hq with z|z
  . exact hB.gg q (List.mem_of_mem_take z)
  . rcases List.mem_cons.mp z with z|z
    . rw[z];exact hr
    . exact hB.gg q (List.mem_of_mem_drop z)
 refine⟨is,uj (z:=fun i=>if i<k then-y i else if i=k then t else-y (i-1)) is (j:=k) (by omega) ?_ fun c hc=>?_⟩
 . show(if k<k then-y k else if k=k then t else-y (k-1))≠0;rw[if_neg (Nat.lt_irrefl _),if_pos rfl];exact ht
 . have e:S (n+1) (fun i=>(if i<k then-y i else if i=k then t else-y (i-1))*g (B.take k++r::B.drop k) i c)=S (n+1) fun i=>if i<k then(fun i=> -(y i*g B i c)) i else if i=k then t*r.getD c 0 else(fun i=> -(y i*g B i c)) (i-1):=bb fun i hi=>by
    have eg:g (B.take k++r::B.drop k) i c=if i<k then g B i c else if i=k then r.getD c 0 else g B (i-1) c:=by
     unfold g;rw[nX (by omega)];split
     . rfl
     . split<;>rfl
    rw[eg];by_cases h1:i<k
    . simp only[if_pos h1];exact Int.neg_mul _ _
    . simp only[if_neg h1];by_cases h2:i=k
      . simp only[if_pos h2]
      . simp only[if_neg h2];exact Int.neg_mul _ _
   rw[e,BF hk,h c hc]
   have e2:S n (fun i=> -(y i*g B i c))= -S n fun i=>y i*g B i c:=by
    have:=fo n (-1) fun i=>y i*g B i c;rw[Int.neg_mul,Int.one_mul]at this;rw[<-this];exact bb fun i _=>by rw[Int.neg_mul,Int.one_mul]
   rw[e2];omega
end Mx
namespace Prog
open PySem L2 L3
open PySem.Spec hiding items?
open PyProof.Rows hiding St
theorem gH{i j:Int}(h1: -(2^64)<i)(h2:i<2^64):IntMulOk i j:= .of_left (intBits_le_64 h1 h2)
theorem qH{i j:Int}(h1: -(2^64)<j)(h2:j<2^64):IntMulOk i j:= .of_right (intBits_le_64 h1 h2)
def Any(st:aa)(d:D):Prop:=∃t,cR st d=some t
structure Thing(st:aa)(d:D):Prop where
 any:Any st d
 aj:∀xs,items? st d=some xs->(∀x∈xs,Any st x)/\xs.length<=sizeLine
def isInt:D->Bool
 | .int _=>true
 |_=>false
theorem A5{st:aa}{d:D}{t:String}(h:cR st d=some t):(t=="int")=isInt d:=by
 cases d<;>unfold cR at h<;>first|(cases h;done)|(cases h;rfl)|(simp only at h;split at h<;>first|(cases h;rfl)|cases h)
theorem za{st:aa}{d:D}{t:String}(h:cR st d=some t):(t=="list"||t=="tuple")=(items? st d).isSome:=by
 cases d<;>unfold cR at h<;>first|(cases h;done)|(cases h;rfl)|(simp only at h;split at h<;>first|(cases h;rename_i q;rw[gG q];rfl)|cases h)
def fJ(st:aa)(d:D)(m:Int):Bool:=match items? st d with
 |some xs=>decide ((xs.length:Int)=m)&&xs.all isInt
 |none=>false
theorem oB{tg:dg}{te:DE}{ok:aa->Prop}{σc:aR}{st:aa}{K:List D->aa->Prop}{g:D->D}(aw:ok st):∀(xs acc:List D),(∀x∈xs,∀K',K' (g x) st->∃σ2,tg x σc=some σ2/\te σ2 st K')->K (acc++xs.map g) st->bU tg bK te ok σc xs acc st K
 | [],acc,_,h=>by unfold bU;exact⟨aw,by simpa using h⟩
 |x::xs,acc,hx,h=>by
  unfold bU;obtain⟨σ2,e,q⟩:=hx x List.mem_cons_self (fun y st2=>bU tg bK te ok σc xs (acc++[y]) st2 K) (oB aw xs (acc++[g x]) (fun y hy=>hx y (List.mem_cons_of_mem _ hy)) (by simpa using h));exact⟨aw,σ2,e,q⟩
theorem mD{f:D->Bool}:∀xs:List D,i9 (xs.map fun x=>D.bl (f x))=some (xs.map f)
 | []=>rfl
 |x::xs=>by simp[i9,mD xs]
abbrev av(r:List Int):List D:=r.map D.int
abbrev bz(r:List Int):D:= .tup (av r)
abbrev bc(r:List Int):D:= .lst (av r)
abbrev cZ(A:List (List Int)):D:= .tup (A.map bz)
abbrev ql(A:List (List Int)):D:= .lst (A.map bc)
def aY(st:aa):List D->List (List Int)->Prop
 | [],[]=>True
 |d::ds,r::rs=>items? st d=some (av r)/\aY st ds rs
 |_,_=>False
structure bQ(st:aa)(d:D)(A:List (List Int)):Prop where
 ex:∃ds,items? st d=some ds/\aY st ds A
theorem aY.len{st:aa}:∀ {ds:List D} {A:List (List Int)},aY st ds A->ds.length=A.length
 | [],[],_=>rfl
 |_::_,_::_,h=>by simp[aY.len h.2]
theorem aY.tup{st:aa}:∀ {A:List (List Int)},aY st (A.map bz) A
 | []=>trivial
 |_::_=>⟨rfl,aY.tup⟩
theorem aY.lst{st:aa}:∀ {A:List (List Int)},aY st (A.map bc) A
 | []=>trivial
 |_::_=>⟨rfl,aY.lst⟩
theorem aY.get{st:aa}:∀ {ds:List D} {A:List (List Int)} {i:Nat} {d:D},aY st ds A->ds[i]?=some d->∃r,A[i]?=some r/\items? st d=some (av r)
 |_::_,r::_,0,_,h,e=>by simp at e;subst e;exact⟨r,rfl,h.1⟩
 |_::_,_::_,i+1,d,h,e=>by
  obtain⟨r,e1,e2⟩:=aY.get (i:=i) (d:=d) h.2 (by simpa using e);exact⟨r,by simpa using e1,e2⟩
theorem iA{st:aa}{A:List (List Int)}:bQ st (cZ A) A:=⟨_,rfl,aY.tup⟩
theorem v_{st:aa}{A:List (List Int)}:bQ st (ql A) A:=⟨_,rfl,aY.lst⟩
structure Ext(st st':aa):Prop where
 len:st.length<=st'.length
 same:∀m,m<st.length->st'[m]?=st[m]?
theorem Ext.refl{st:aa}:Ext st st:=⟨Nat.le_refl _,fun _ _=>rfl⟩
theorem Ext.trans{st st1 st2:aa}(a:Ext st st1)(b:Ext st1 st2):Ext st st2:=⟨Nat.le_trans a.len b.len,fun m h=>(b.same m (Nat.lt_of_lt_of_le h a.len)).trans (a.same m h)⟩
theorem Ext.push{st:aa}{c:List Cell}:Ext st (st++c):=⟨by simp,fun m h=>List.getElem?_append_left h⟩
theorem Ext.set{st:aa}{n:Nat}{c:Cell}{st0:aa}(a:Ext st0 st)(h:st0.length<=n):Ext st0 (st.set n c):=⟨by rw[List.length_set];exact a.len,fun m hm=>by rw[List.getElem?_set_ne (by omega)];exact a.same m hm⟩
theorem Ext.items{st st':aa}{d:D}{xs:List D}(x:Ext st st')(e:items? st d=some xs):items? st' d=some xs:=by
 cases d with
 |ref n=>
  unfold items? at e⊢;simp only at e⊢;cases q:st[n]? with
  |none=>rw[q]at e;cases e
  |some c=>
   have hn:=(List.getElem?_eq_some_iff.mp q).1;rw[x.same n hn];exact e
 |_=>exact e
theorem Ext.yM{st st':aa}(x:Ext st st'):∀ {ds:List D} {A:List (List Int)},aY st ds A->aY st' ds A
 | [],[],_=>trivial
 |_::_,_::_,h=>⟨x.items h.1,x.yM h.2⟩
theorem Ext.wO{st st':aa}(x:Ext st st'){d:D}{A:List (List Int)}(h:bQ st d A):bQ st' d A:=by
 obtain⟨ds,e,r⟩:=h.ex;exact⟨ds,x.items e,x.yM r⟩
theorem getD_mem{r:List Int}{k:Nat}(h:k<r.length):r.getD k 0∈r:=by rw[Mx.aP h];exact List.getElem_mem _
theorem aY.at{st:aa}{ds:List D}{A:List (List Int)}{k:Nat}(h:aY st ds A)(hk:k<A.length):∃d,dY ds (k:Int)=some d/\items? st d=some (av (A.getD k [])):=by
 have hl:=h.len;have e:ds[k]?=some ds[k]:=List.getElem?_eq_getElem (by omega);obtain⟨r,er,hr⟩:=h.get e;refine⟨ds[k],kQ e,?_⟩;rw[Mx.aP hk];rw[List.getElem?_eq_getElem hk]at er;cases er;exact hr
theorem ints_app{r:List Int}{x:Int}:av r++[D.int x]=av (r++[x]):=by simp[av]
theorem Ao{A:List (List Int)}{r:List Int}:A.map bz++[bz r]=(A++[r]).map bz:=by simp
theorem oX{r s:List Int}{d:D}(h:d∈dN (av r) (av s)):∃a b,a∈r/\b∈s/\d= .tup [.int a,.int b]:=by
 obtain⟨n,hn,e⟩:=List.mem_iff_getElem.mp h;have e':(dN (av r) (av s))[n]?=some d:=by rw[List.getElem?_eq_getElem hn,e]
 obtain⟨x,y,ex,ey,rfl⟩:=o4 e';rw[List.getElem?_map]at ex ey;cases q1:r[n]? with
 |none=>rw[q1]at ex;cases ex
 |some a=>
  cases q2:s[n]? with
  |none=>rw[q2]at ey;cases ey
  |some b=>
   rw[q1]at ex;rw[q2]at ey;cases ex;cases ey;exact⟨a,b,List.mem_of_getElem? q1,List.mem_of_getElem? q2,rfl⟩
theorem lD(n:Nat):(List.replicate n [D.int 0]).flatten=av (List.replicate n 0):=by
 induction n with
 |zero=>rfl
 |succ n ih=>rw[List.replicate_succ,List.flatten_cons,ih];rfl
theorem sG:∀r:List Int,(av r).map (fun x=>match x with| .int i=>i|_=>0)=r
 | []=>rfl
 |a::r=>by rw[av,List.map_cons,List.map_cons,sG r]
theorem oY{d:D}{ds:List D}:dY (d::ds) 0=some d:=kQ (j:=0) rfl
def intsOf(st:aa)(d:D):List Int:=match items? st d with
 |some xs=>xs.map fun x=>match x with| .int i=>i|_=>0
 |none=>[]
theorem j8{st:aa}{d:D}{r:List Int}(h:items? st d=some (av r)):intsOf st d=r:=by
 unfold intsOf;rw[h];exact sG r
theorem rW{x y:D}{xs ys:List D}:dN (x::xs) (y::ys)= .tup [x,y]::dN xs ys:=rfl
theorem vW{n:Nat}{r:List Int}:(av r).all (pl n)=true:=by
 refine List.all_eq_true.mpr fun d hd=>?_;obtain⟨i,_,rfl⟩:=List.mem_map.mp hd;cases n<;>rfl
theorem AH{n:Nat}{A:List (List Int)}:pl (n+2) (ql A)=true:=by
 unfold pl;refine List.all_eq_true.mpr fun d hd=>?_;obtain⟨r,_,rfl⟩:=List.mem_map.mp hd;unfold pl;exact vW
def g8:Addr:=31
def dv:Addr:=44
def m8:Addr:=56
def sf:Addr:=75
def bT:Addr:=318
def fB:Addr:=393
def kD:cu:=fun ds st K=>∃d,ds=[d]/\Any st d/\K (.bl (isInt d)) st
def iJ:List Str:=["thing"]
def vv:DS:=(bp (og (bD l7 (ag (ah 0) (ag (dC (.ty "int")) ao))) (xm (bL (bD l7 (ag (ah 0) (ag (dC (.ty "bool")) ao)))))))
theorem ud:∀ds st K,kD ds st K->ds.length=1/\vv {nx:=fun _ st'=>K .ay st',rt:=K} (aJ iJ ds) st:=by
 rintro ds st K ⟨d,rfl,⟨t,ht⟩,k⟩;refine⟨rfl,?_⟩;rw[<-A5 ht]at k;have hm:=lq ht;refine uK ht (by decide) ?_;simp only[jG,List.mem_cons,List.not_mem_nil,or_false]at hm;rcases hm with rfl|rfl|rfl|rfl|rfl|rfl
 . exact k
 . refine ia (uK ht (by decide) ?_);exact k
 . refine ia (uK ht (by decide) ?_);exact k
 . exact k
 . exact k
 . exact k
def gf:cu:=fun ds st K=>∃d,ds=[d]/\Any st d/\K (.bl (items? st d).isSome) st
def iO:List Str:=["thing"]
def vt:DS:=(bp (bD l7 (ag (ah 0) (ag (lH (ag (dC (.ty "list")) (ag (dC (.ty "tuple")) ao))) ao))))
theorem u4:∀ds st K,gf ds st K->ds.length=1/\vt {nx:=fun _ st'=>K .ay st',rt:=K} (aJ iO ds) st:=by
 rintro ds st K ⟨d,rfl,⟨t,ht⟩,k⟩;refine⟨rfl,?_⟩;rw[<-za ht]at k;have hm:=lq ht;refine⟨Nat.le_of_ble_eq_true rfl,DB ht rfl (by decide) ?_⟩;simp only[jG,List.mem_cons,List.not_mem_nil,or_false]at hm;rcases hm with rfl|rfl|rfl|rfl|rfl|rfl<;>exact k
def fT:cu:=fun ds st K=>∃d m,ds=[d,.int m]/\Any st d/\K (.bl (match items? st d with|some xs=>decide ((xs.length:Int)=m)|none=>false)) st
def fS:List Str:=["thing","many"]
def qS:DS:=(bp (og (aC gf (ag (ah 0) ao)) (az gd (bD gq (ag (ah 0) ao)) (ah 1))))
theorem qs:∀ds st K,fT ds st K->ds.length=2/\qS {nx:=fun _ st'=>K .ay st',rt:=K} (aJ fS ds) st:=by
 rintro ds st K ⟨d,m,rfl,ha,k⟩;refine⟨rfl,?_⟩;cases e:items? st d with
 |none=>
  rw[e]at k;exact⟨d,rfl,ha,by rw[e];exact k⟩
 |some xs=>
  rw[e]at k;refine⟨d,rfl,ha,?_⟩;rw[e];refine ia (fx e (uV ?_));exact k
def gn:cu:=fun ds st K=>∃d m,ds=[d,.int m]/\Thing st d/\K (.bl (fJ st d m)) st
def gh:List Str:=["thing","many"]
def sI:DS:=(bp (og (aC fT (ag (ah 0) (ag (ah 1) ao))) (bD oQ (ag (cA (dJ (ah 0)) [none] (bC 0) bK (aC kD (ag (ah 0) ao))) ao))))
theorem rE:∀ds st K,gn ds st K->ds.length=2/\sI {nx:=fun _ st'=>K .ay st',rt:=K} (aJ gh ds) st:=by
 rintro ds st K ⟨d,m,rfl,ha,k⟩;refine⟨rfl,?_⟩;refine⟨d,m,rfl,ha.any,?_⟩;unfold fJ at k;cases e:items? st d with
 |none=>rw[e]at k;exact k
 |some xs=>
  rw[e]at k;obtain⟨h1,h2⟩:=ha.aj xs e;by_cases hl:(xs.length:Int)=m
  . simp only[hl,decide_true,Bool.true_and]at k⊢;rw[if_pos trivial];refine ny e fun ok aw=>?_;refine⟨h2,oB (g:=fun x=> .bl (isInt x)) aw xs [] (fun x hx K' q=>⟨_,rfl,⟨x,rfl,h1 x hx,q⟩⟩) ?_⟩;refine yH (mD xs) ?_;simpa using k
  . simp only[hl,decide_false,Bool.false_and]at k⊢;exact k
def nF:cu:=fun ds st K=>∃(d:D) (A:List (List Int)),ds=[d]/\bQ st d A/\A.length<=1000/\K (cZ A) st
def kn:List Str:=["rows"]
def zB:DS:=(bp (bD bW (ag (cA (dJ (ah 0)) [none] (bC 0) bK (bD bW (ag (ah 0) ao))) ao)))
theorem fP{tg:dg}{te:DE}{ok:aa->Prop}{σc:aR}{st:aa}{K:List D->aa->Prop}{ds:List D}{A:List (List Int)}(f:List Int->D)(aw:ok st)(hr:aY st ds A)(hx:∀d r,r∈A->items? st d=some (av r)->∀K',K' (f r) st->∃σ2,tg d σc=some σ2/\te σ2 st K')(k:K (A.map f) st):bU tg bK te ok σc ds [] st K:=by
 refine h7 (fun rest acc st'=>∃(A1 A2:List (List Int)),st=st'/\A1++A2=A/\aY st rest A2/\acc=A1.map f) ?_ ?_ _ _ _ ⟨[],A,rfl,rfl,hr,rfl⟩
 . rintro acc st' ⟨A1,A2,rfl,he,h,rfl⟩;match A2,h with
   | [],_=>
     rw[List.append_nil]at he;subst he;exact⟨aw,k⟩
 . rintro d rest acc st' ⟨A1,A2,rfl,he,h,rfl⟩ next
   match A2,h with
   |r::A2,h=>
    obtain⟨σ2,e2,q⟩:=hx d r (by rw[<-he];simp) h.1 (fun y st2=>bU tg bK te ok σc rest (A1.map f++[y]) st2 K) (next _ _ ⟨A1++[r],A2,rfl,by rw[<-he];simp,h.2,by simp⟩);exact⟨aw,σ2,e2,q⟩
theorem wV:∀ds st K,nF ds st K->ds.length=1/\zB {nx:=fun _ st'=>K .ay st',rt:=K} (aJ kn ds) st:=by
 rintro ds st K ⟨d,A,rfl,⟨da,hd,ra⟩,hl,k⟩;refine⟨rfl,?_⟩;refine ny hd fun ok aw=>⟨bG (by rw[ra.len];exact hl),?_⟩
 refine fP bz aw ra (fun e r hr he K' q=>⟨_,rfl,cO he q⟩) ?_;exact cO rfl k
def qT:cu:=fun ds st K=>∃x y t r s,ds=[x,.int t,y]/\items? st x=some (av r)/\items? st y=some (av s)/\r.length<=1000/\(∀b∈s,IntMulOk t b)/\K (bc (Mx.jJ r t s)) st
def nP:List Str:=["row","times","other"]
def CJ:DS:=(bp (cA (nC (ag (ah 0) (ag (ah 2) ao))) [none,none,some 1] (gN 0 1) bK (az bJ (ah 0) (az cf (ah 2) (ah 1)))))
theorem mI{t:Int}:∀(r s:List Int),(dN (av r) (av s)).map (fun d=>match d with| .tup [.int a,.int b]=> .int (a+t*b)|_=> .ay)=av (Mx.jJ r t s)
 | [],_=>rfl
 |_::_,[]=>rfl
 |a::r,b::s=>by
  have:=mI (t:=t) r s;unfold dN Mx.jJ at this⊢;simp only[av,List.map_cons,List.zip_cons_cons,List.zipWith_cons_cons]at this⊢;rw[this]
theorem AZ:∀ds st K,qT ds st K->ds.length=3/\CJ {nx:=fun _ st'=>K .ay st',rt:=K} (aJ nP ds) st:=by
 rintro ds st K ⟨x,y,t,r,s,rfl,hx,hy,hl,hm,k⟩;refine⟨rfl,?_⟩;refine kO hx hy fun ok aw=>⟨bG (by rw[lX];simp;omega),?_⟩
 refine comp_map (g:=fun d=>match d with| .tup [.int a,.int b]=> .int (a+t*b)|_=> .ay) (aw st hx hy) _ (fun d hd K' q=>?_) ?_
 . obtain⟨a,b,ha,hb,rfl⟩:=oX hd;exact⟨_,rfl,eH (hm b hb) (cV q)⟩
 . rw[mI];exact k
def oW:cu:=fun ds st K=>∃(x y:D) (n:Nat) (ws:List Int) (A:List (List Int)),ds=[x,y,.int n]/\items? st x=some (av ws)/\bQ st y A/\(∀r∈A,r.length=n)/\n<=1000/\(∀w∈ws,∀r∈A,∀b∈r,IntMulOk w b)/\K (bz (Mx.ck ws A (List.replicate n 0))) st
def ll:List Str:=["weights","rows","wide","total","weight","row"]
def Ag:DS:=(aH (bf 3 (az cf (fY (ag (dC (.int 0)) ao)) (ah 2)))
 (aH (jY (nC (ag (ah 0) (ag (ah 1) ao))) (gN 4 5) (bf 3 (aC qT (ag (ah 3) (ag (ah 4) (ag (ah 5) ao))))))
 (bp (bD bW (ag (ah 3) ao)))))
theorem yX:∀ds st K,oW ds st K->ds.length=3/\Ag {nx:=fun _ st'=>K .ay st',rt:=K} (aJ ll ds) st:=by
 rintro ds st K ⟨x,y,n,ws,A,rfl,hx,⟨dr,hy,hr⟩,hw,hn,hm,k⟩;refine⟨rfl,?_⟩;refine BB (Nat.le_of_ble_eq_true rfl) (qM ⟨by omega,by omega,bG (by simp;omega)⟩ ?_);rw[Int.toNat_natCast,lD];refine kO hx hy fun ok aw=>?_
 refine gA (fun rest σ st'=>∃(v4 v5:Option D) (ws':List Int) (ds':List D) (A':List (List Int)) (acc:List Int),st=st'/\rest=dN (av ws') ds'/\aY st ds' A'/\σ=[some x,some y,some (.int n),some (bc acc),v4,v5]/\acc.length=n/\(∀r∈A',r∈A)/\(∀w∈ws',w∈ws)/\Mx.ck ws' A' acc=Mx.ck ws A (List.replicate n 0)) ?_ ?_ _ _ _
  ⟨none,none,ws,dr,A,List.replicate n 0,rfl,rfl,hr,rfl,by simp,fun _ h=>h,fun _ h=>h,rfl⟩
 . rintro σ st1 ⟨v4,v5,ws',ds',A',acc,rfl,he,hr',rfl,hl,_,_,hs⟩;refine⟨aw _ hx hy,cO rfl ?_⟩
   have:Mx.ck ws' A' acc=acc:=by
    match ws',ds',A',hr',he with
    | [],_,_,_,_=>unfold Mx.ck;rfl
    |_::_,[],[],_,_=>unfold Mx.ck;rfl
    |_::_,_::_,_::_,_,he=>cases he
   rw[this]at hs;rw[hs];exact k
 . rintro d rest σ st1 ⟨v4,v5,ws',ds',A',acc,rfl,he,hr',rfl,hl,ha,hw',hs⟩ next
   match ws',ds',A',hr',he with
   |w::ws',e::ds',r::A',hr',he=>
    simp only[av,List.map_cons,rW,List.cons.injEq]at he;obtain⟨rfl,rfl⟩:=he;refine⟨aw _ hx hy,_,rfl,?_⟩;have hrl:=hw r (ha r List.mem_cons_self);refine⟨_,_,_,acc,r,rfl,rfl,hr'.1,by omega,fun b hb=>hm w (hw' w List.mem_cons_self) r (ha r List.mem_cons_self) b hb,?_⟩;refine next _ _ ⟨_,_,ws',ds',A',Mx.jJ acc w r,rfl,rfl,hr'.2,rfl,by rw[Mx.l6 (by omega)];exact hl,fun q hq=>ha q (List.mem_cons_of_mem _ hq),fun q hq=>hw' q (List.mem_cons_of_mem _ hq),?_⟩
    rw[<-hs];rfl
   | [],_,_,_,he=>cases he
   |_::_,[],[],_,he=>cases he
def j7:cu:=fun ds st K=>∃(x y:D) (n:Nat) (A B:List (List Int)),ds=[x,y]/\bQ st x A/\bQ st y B/\B≠ []/\(∀r∈B,r.length=n)/\n<=1000/\A.length<=1000/\(∀w∈A,∀c∈w,∀r∈B,∀b∈r,IntMulOk c b)/\K (cZ (Mx.mulM A B n)) st
def kc:List Str:=["one","other","wide"]
def zS:DS:=(aH (bf 2 (bD gq (ag (az fC (ah 1) (dC (.int 0))) ao)))
 (bp (bD bW (ag (cA (dJ (ah 0)) [none,some 1,some 2] (bC 0) bK (aC oW (ag (ah 0) (ag (ah 1) (ag (ah 2) ao))))) ao))))
theorem t8{st:aa}{n:Nat}{B:List (List Int)}{f:D->D}:∀ {ds:List D} {A:List (List Int)},aY st ds A->(∀d r,items? st d=some (av r)->f d=bz (Mx.ck r B (List.replicate n 0)))->ds.map f=(Mx.mulM A B n).map bz
 | [],[],_,_=>rfl
 |d::ds,r::A,h,hf=>by
  rw[List.map_cons,hf d r h.1,t8 h.2 hf];rfl
theorem xY:∀ds st K,j7 ds st K->ds.length=2/\zS {nx:=fun _ st'=>K .ay st',rt:=K} (aJ kc ds) st:=by
 rintro ds st K ⟨x,y,n,A,B,rfl,⟨da,hx,ra⟩,hy,hB,hw,hn,hl,hm,k⟩;refine⟨rfl,?_⟩;obtain⟨db,ey,rb⟩:=hy.ex;match B,db,rb,hB,hw,hm,hy,k,ey with
 |r0::B,d0::db,rb,_,hw,hm,hy,k,ey=>
  have h0:r0.length=n:=hw r0 List.mem_cons_self;refine bV ey oY (fx rb.1 ?_);rw[List.length_map,h0];refine ny hx fun ok aw=>⟨bG (by rw[ra.len];exact hl),?_⟩
  refine comp_map (g:=fun d=>bz (Mx.ck (intsOf st d) (r0::B) (List.replicate n 0))) aw da (fun d hd K' q=>?_) ?_
  . obtain⟨i,hi,ed⟩:=List.mem_iff_getElem.mp hd;obtain⟨r,er,hr⟩:=ra.get (i:=i) (d:=d) (by rw[List.getElem?_eq_getElem hi,ed]);refine⟨_,rfl,d,y,n,r,r0::B,rfl,hr,hy,hw,hn,fun c hc=>hm r (List.mem_of_getElem? er) c hc,?_⟩;rw[j8 hr]at q;exact q
  . refine cO rfl ?_;rw[t8 ra (n:=n) (B:=r0::B) fun d r h=>by rw[j8 h]];exact k
 |_::_,[],rb,_,_,_,_,_,_=>exact rb.elim
def lh:cu:=fun ds st K=>∃(n i:Nat),ds=[.int n,.int i]/\n<=1000/\K (bz (Mx.dQ n i)) st
def ji:List Str:=["n","place"]
def xN:DS:=(bp (bD bW (ag (cA (eF (ag (ah 0) ao)) [none,some 1] (bC 0) bK (EG (bL (az gd (ah 0) (ah 1))) (dC (.int 1)) (dC (.int 0)))) ao)))
theorem vA:∀ds st K,lh ds st K->ds.length=2/\xN {nx:=fun _ st'=>K .ay st',rt:=K} (aJ ji ds) st:=by
 rintro ds st K ⟨n,i,rfl,hn,k⟩;refine⟨rfl,?_⟩;refine hW ⟨by omega,by omega⟩ ⟨bG (by rw[dk];omega),?_⟩;rw[Int.toNat_natCast];refine jt (fun j=> .int (Mx.dl j i)) n (fun j hj K' q=>⟨_,rfl,?_⟩) ?_
 . refine eq2 (fun h=>ia ?_) fun h=>?_
   . have:j=i:=by omega
     subst this;rw[Mx.fI]at q;exact q
   . rw[Mx.gQ (by omega)]at q;exact q
 . have:(List.range n).map (fun j=>D.int (Mx.dl j i))=av (Mx.dQ n i):=by unfold Mx.dQ av;rw[List.map_map];rfl
   rw[this];exact cO rfl k
def gb:cu:=fun ds st K=>∃(n:Nat),ds=[.int n]/\n<=1000/\K (cZ (Mx.units n)) st
def iN:List Str:=["n"]
def vz:DS:=(bp (bD bW (ag (cA (eF (ag (ah 0) ao)) [none,some 0] (bC 0) bK (aC lh (ag (ah 1) (ag (ah 0) ao)))) ao)))
theorem tY:∀ds st K,gb ds st K->ds.length=1/\vz {nx:=fun _ st'=>K .ay st',rt:=K} (aJ iN ds) st:=by
 rintro ds st K ⟨n,rfl,hn,k⟩;refine⟨rfl,?_⟩;refine hW ⟨by omega,by omega⟩ ⟨bG (by rw[dk];omega),?_⟩;rw[Int.toNat_natCast];refine jt (fun i=>bz (Mx.dQ n i)) n (fun i hi K' q=>⟨_,rfl,n,i,rfl,hn,q⟩) ?_;have:(List.range n).map (fun i=>bz (Mx.dQ n i))=(Mx.units n).map bz:=by unfold Mx.units;rw[List.map_map];rfl
 rw[this];exact cO rfl k
def tf:cu:=fun ds st K=>∃(x y:D) (r s:List Int),ds=[x,y]/\items? st x=some (av r)/\items? st y=some (av s)/\r.length<=1000/\(∀a∈r,∀b∈s,IntMulOk a b)/\K (.int (Mx.lT r s)) st
def td:List Str:=["one","other"]
def G8:DS:=(bp (bD tU (ag (cA (nC (ag (ah 0) (ag (ah 1) ao))) [none,none] (gN 0 1) bK (az cf (ah 0) (ah 1))) ao)))
theorem wj:∀(r s:List Int),∃ns:List Int,(dN (av r) (av s)).map (fun d=>match d with| .tup [.int a,.int b]=> .int (a*b)|_=> .ay)=av ns/\ns.sum=Mx.lT r s
 | [],_=>⟨[],rfl,rfl⟩
 |_::_,[]=>⟨[],rfl,rfl⟩
 |a::r,b::s=>by
  obtain⟨ns,h1,h2⟩:=wj r s;refine⟨a*b::ns,?_,?_⟩
  . have e:dN (av (a::r)) (av (b::s))= .tup [.int a,.int b]::dN (av r) (av s):=rfl;rw[e,List.map_cons,h1];rfl
  . rw[List.sum_cons,h2];rfl
theorem Fz:∀ds st K,tf ds st K->ds.length=2/\G8 {nx:=fun _ st'=>K .ay st',rt:=K} (aJ td ds) st:=by
 rintro ds st K ⟨x,y,r,s,rfl,hx,hy,hl,hm,k⟩;refine⟨rfl,?_⟩;refine kO hx hy fun ok aw=>⟨bG (by rw[lX];simp;omega),?_⟩
 obtain⟨ns,h1,h2⟩:=wj r s;refine comp_map (g:=fun d=>match d with| .tup [.int a,.int b]=> .int (a*b)|_=> .ay) (aw st hx hy) _ (fun d hd K' q=>?_) ?_
 . obtain⟨a,b,ha,hb,rfl⟩:=oX hd;exact⟨_,rfl,eH (hm a ha b hb) q⟩
 . rw[h1];refine E8 (ints_map _) ?_;rw[h2];exact k
structure gU(st:aa)(d:D):Prop where
 any:Any st d
 aj:∀xs,items? st d=some xs->(∀x∈xs,Thing st x)/\xs.length<=sizeLine
def kN(n:Nat)(m:D):Bool:=match m with
 | .int i=>decide ((n:Int)=i)
 |_=>true
def cC(st:aa)(d m:D)(w:Int):Bool:=match items? st d with
 |some xs=>kN xs.length m&&xs.all fun r=>fJ st r w
 |none=>false
def gu:cu:=fun ds st K=>∃d m w,ds=[d,m,.int w]/\gU st d/\(m= .ay\/∃i,m= .int i)/\K (.bl (cC st d m w)) st
def ja:List Str:=["thing","many","wide"]
def zA:DS:=(aH (fj (iR (bL (aC gf (ag (ah 0) ao)))) (bp (dC (.bl false))) dm)
 (aH (fj (pD (bL (az ka (ah 1) (dC .ay))) (bL (az sH (bD gq (ag (ah 0) ao)) (ah 1)))) (bp (dC (.bl false))) dm)
 (bp (bD oQ (ag (cA (dJ (ah 0)) [none,some 2] (bC 0) bK (aC gn (ag (ah 0) (ag (ah 1) ao)))) ao)))))
theorem vx{st:aa}{d m:D}{w:Int}(e:items? st d=none):cC st d m w=false:=by unfold cC;rw[e]
theorem vo{st:aa}{d m:D}{w:Int}{xs:List D}(e:items? st d=some xs):cC st d m w=(kN xs.length m&&xs.all fun r=>fJ st r w):=by unfold cC;rw[e]
theorem x8:∀ds st K,gu ds st K->ds.length=3/\zA {nx:=fun _ st'=>K .ay st',rt:=K} (aJ ja ds) st:=by
 rintro ds st K ⟨d,m,w,rfl,hd,hm,k⟩;refine⟨rfl,?_⟩;refine⟨d,rfl,hd.any,?_⟩;cases e:items? st d with
 |none=>rw[vx e]at k;exact k
 |some xs=>
  rw[vo e]at k;obtain⟨h1,h2⟩:=hd.aj xs e
  have fin:kN xs.length m=true->bp (bD oQ (ag (cA (dJ (ah 0)) [none,some 2] (bC 0) bK (aC gn (ag (ah 0) (ag (ah 1) ao)))) ao)) {nx:=fun _ st'=>K .ay st',rt:=K} (aJ ja [d,m,.int w]) st:=by
   intro hk;rw[hk,Bool.true_and]at k;refine ny e fun ok aw=>⟨h2,comp_map (g:=fun r=> .bl (fJ st r w)) aw xs (fun x hx K' q=>⟨_,rfl,x,w,rfl,h1 x hx,q⟩) ?_⟩
   refine yH (mD xs) ?_;simpa using k
  rcases hm with rfl|⟨i,rfl⟩
  . exact yj rfl (fin rfl)
  . refine yj rfl (fx e (ne2 (fun h=>?_) fun h=>?_))
    . have:kN xs.length (.int i)=false:=decide_eq_false h;rw[this]at k;exact k
    . exact fin (decide_eq_true h)
theorem zY{a:Int}{m:Nat}(h:a.natAbs<2^m):Builtin.Int.intBits a<=m:=by
 unfold Builtin.Int.intBits;by_cases h0:a.natAbs=0
 . have:a=0:=by omega
   subst this;simp
 . have:=(Nat.log2_lt h0).mpr h;split<;>omega
theorem CM{a b:Int}{m n:Nat}(ha:a.natAbs<=2^m)(hb:b.natAbs<=2^n)(h:m+n<=130000000):IntMulOk a b:=by
 have q:∀ {x:Int} {k:Nat},x.natAbs<=2^k->Builtin.Int.intBits x<=k+1:=fun{x k} h=>zY (Nat.lt_of_le_of_lt h (Nat.pow_lt_pow_right (by decide) (Nat.lt_succ_self k)));have h1:=q ha;have h2:=q hb;have e:(2:Nat)^27=134217728:=by decide
 have z:Builtin.Int.intTooBig (Builtin.Int.intBits a+Builtin.Int.intBits b)=false:=by
  unfold Builtin.Int.intTooBig bitsLine;exact decide_eq_false (by omega)
 unfold IntMulOk;rw[z];simp
theorem C7{n:Nat}{r:List Int}:pl (n+1) (bz r)=true:=by
 unfold pl;exact vW
theorem lL{n:Nat}{A:List (List Int)}:pl (n+2) (cZ A)=true:=by
 unfold pl;refine List.all_eq_true.mpr fun d hd=>?_;obtain⟨r,_,rfl⟩:=List.mem_map.mp hd;exact C7
theorem si:∀(r s:List Int),dz (av r) (av s)=decide (r=s)
 | [],[]=>by unfold dz;rfl
 | [],_::_=>by unfold dz;rfl
 |_::_,[]=>by unfold dz;rfl
 |a::r,b::s=>by
  have ih:=si r s;unfold av at ih⊢;rw[List.map_cons,List.map_cons];unfold dz;rw[ih];unfold bH;by_cases h1:a=b
  . subst h1;simp
  . have:(a==b)=false:=by simpa using h1
    rw[this,Bool.false_and];exact(decide_eq_false fun h=>h1 (List.cons.inj h).1).symm
theorem sj:∀(A B:List (List Int)),dz (A.map bz) (B.map bz)=decide (A=B)
 | [],[]=>by unfold dz;rfl
 | [],_::_=>by unfold dz;rfl
 |_::_,[]=>by unfold dz;rfl
 |a::r,b::s=>by
  have ih:=sj r s;rw[List.map_cons,List.map_cons];unfold dz;rw[ih];unfold bz bH;rw[si];by_cases h1:a=b
  . subst h1;simp
  . rw[decide_eq_false h1,Bool.false_and];exact(decide_eq_false fun h=>h1 (List.cons.inj h).1).symm
theorem uv(A B:List (List Int)):bH (cZ A) (cZ B)=decide (A=B):=by
 unfold cZ bH;exact sj A B
def rowsOf(st:aa)(d:D):List (List Int):=match items? st d with
 |some xs=>xs.map (intsOf st)
 |none=>[]
theorem all_ints:∀ {xs:List D},xs.all isInt=true->xs=av (xs.map fun x=>match x with| .int i=>i|_=>0)
 | [],_=>rfl
 |x::xs,h=>by
  rw[List.all_cons,Bool.and_eq_true]at h;have ih:=all_ints h.2;cases x<;>first|(cases h.1;done)|skip
  rename_i i;show D.int i::xs=D.int i::_;rw[<-av,<-ih]
theorem jR{st:aa}{r:D}{w:Int}(h:fJ st r w=true):items? st r=some (av (intsOf st r))/\((intsOf st r).length:Int)=w:=by
 unfold fJ at h;cases e:items? st r with
 |none=>rw[e]at h;cases h
 |some xs=>
  rw[e]at h;simp only[Bool.and_eq_true,decide_eq_true_eq]at h;have e2:=all_ints h.2;have e3:=j8 (e.trans (congrArg some e2));rw[e3];exact⟨congrArg some e2,by rw[List.length_map];exact h.1⟩
theorem qf{st:aa}{w:Int}:∀ {xs:List D},(xs.all fun r=>fJ st r w)=true->aY st xs (xs.map (intsOf st))
 | [],_=>trivial
 |x::xs,h=>by
  rw[List.all_cons,Bool.and_eq_true]at h;exact⟨(jR h.1).1,qf h.2⟩
theorem oJ{st:aa}{d:D}{n:Nat}(h:cC st d (.int n) n=true):bQ st d (rowsOf st d)/\Mx.eQ n n (rowsOf st d):=by
 unfold cC at h;cases e:items? st d with
 |none=>rw[e]at h;cases h
 |some xs=>
  rw[e]at h;simp only[Bool.and_eq_true]at h;have e1:rowsOf st d=xs.map (intsOf st):=by unfold rowsOf;rw[e]
  rw[e1];refine⟨⟨xs,e,qf h.2⟩,⟨?_,fun r hr=>?_⟩⟩
  . have:((xs.length:Int)=(n:Int)):=of_decide_eq_true h.1;rw[List.length_map];omega
  . obtain⟨x,hx,rfl⟩:=List.mem_map.mp hr;have:=(jR (List.all_eq_true.mp h.2 x hx)).2;omega
structure mO(st:aa)(d:D):Prop where
 le:∀xs,items? st d=some xs->xs.length<=1000
 sm:∀xs,items? st d=some xs->∀x∈xs,∀ys,items? st x=some ys->∀i,D.int i∈ys->i.natAbs<=2^65000000
theorem mO.rows{st:aa}{d m:D}{w:Int}(h:mO st d)(hr:cC st d m w=true):∀r∈rowsOf st d,∀c∈r,c.natAbs<=2^65000000:=fun r hr1 c hc=>by
 unfold cC at hr;cases e:items? st d with
 |none=>rw[e]at hr;cases hr
 |some xs=>
  rw[e]at hr;simp only[Bool.and_eq_true]at hr;have e1:rowsOf st d=xs.map (intsOf st):=by unfold rowsOf;rw[e]
  rw[e1]at hr1;obtain⟨x,hx,rfl⟩:=List.mem_map.mp hr1;have e2:=(jR (List.all_eq_true.mp hr.2 x hx)).1;exact h.sm xs e x hx _ e2 c (List.mem_map.mpr ⟨c,hc,rfl⟩)
def B7(st:aa)(x y:D)(n:Nat):Bool:=cC st y (.int n) n&&decide (Mx.mulM (rowsOf st x) (rowsOf st y) n=Mx.units n)
def l8:cu:=fun ds st K=>∃(x y:D) (n:Nat),ds=[x,y]/\gU st x/\gU st y/\mO st x/\mO st y/\cC st x (.int n) n=true/\1<=n/\n<=1000/\K (.bl (B7 st x y n)) st
def jz:List Str:=["turn","back","many"]
def w4:DS:=(aH (fj (iR (bL (aC gf (ag (ah 0) ao)))) (bp (dC (.bl false))) dm)
 (aH (bf 2 (bD gq (ag (ah 0) ao)))
 (aH (fj (rj (iR (bL (aC gu (ag (ah 0) (ag (ah 2) (ag (ah 2) ao)))))) (iR (bL (aC gu (ag (ah 1) (ag (ah 2) (ag (ah 2) ao))))))) (bp (dC (.bl false))) dm)
 (bp (AF (az gd (ah 2) (dC (.int 0))) (az gd (aC j7 (ag (ah 0) (ag (ah 1) ao))) (aC gb (ag (ah 2) ao))))))))
theorem vk:∀ds st K,l8 ds st K->ds.length=2/\w4 {nx:=fun _ st'=>K .ay st',rt:=K} (aJ jz ds) st:=by
 rintro ds st K ⟨x,y,n,rfl,hx,hy,sx,sy,e1,hn1,hn,k⟩;refine⟨rfl,?_⟩;obtain⟨R1,M1⟩:=oJ e1;obtain⟨xs,e,rx⟩:=R1.ex;have l1:=M1.len;have lx:xs.length=n:=by rw[rx.len];exact l1
 refine⟨x,rfl,hx.any,?_⟩;rw[e];refine fx e ?_;rw[lx];refine⟨x,_,_,rfl,hx,Or.inr ⟨_,rfl⟩,?_⟩;rw[e1];refine⟨y,_,_,rfl,hy,Or.inr ⟨_,rfl⟩,?_⟩;unfold B7 at k;cases e2:cC st y (.int n) n with
 |false=>rw[e2]at k;exact k
 |true=>
  rw[e2]at k;obtain⟨R2,M2⟩:=oJ e2;have l2:=M2.len;refine FC (by omega) ?_;have hB:rowsOf st y≠ []:=fun z=>by rw[z]at l2;simp at l2;omega
  have b1:=sx.rows e1;have b2:=sy.rows e2;refine⟨x,y,n,_,_,rfl,R1,R2,hB,M2.gg,hn,by omega,fun w hw c hc r hr b hb=>CM (b1 w hw c hc) (b2 r hr b hb) (by decide),?_⟩;refine⟨n,rfl,hn,?_⟩;refine xU lL lL ?_;rw[uv];exact k
def Ca(st:aa)(x y:D)(n:Nat):Bool:=cC st x (.int n) n&&B7 st x y n
def jN:cu:=fun ds st K=>∃(x y:D) (n:Nat),ds=[x,y,.int n]/\gU st x/\gU st y/\mO st x/\mO st y/\1<=n/\n<=1000/\K (.bl (Ca st x y n)) st
def gY:List Str:=["turn","back","many"]
def uH:DS:=(bp (og (aC gu (ag (ah 0) (ag (ah 2) (ag (ah 2) ao)))) (aC l8 (ag (ah 0) (ag (ah 1) ao)))))
theorem sN:∀ds st K,jN ds st K->ds.length=3/\uH {nx:=fun _ st'=>K .ay st',rt:=K} (aJ gY ds) st:=by
 rintro ds st K ⟨x,y,n,rfl,hx,hy,sx,sy,hn1,hn,k⟩;refine⟨rfl,?_⟩;refine⟨x,_,_,rfl,hx,Or.inr ⟨_,rfl⟩,?_⟩;unfold Ca at k;cases e1:cC st x (.int n) n with
 |false=>rw[e1]at k;exact k
 |true=>
  rw[e1]at k;exact⟨x,y,n,rfl,hx,hy,sx,sy,e1,hn1,hn,k⟩
def jO:cu:=fun ds st K=>∃(dA d0 d1 d2:D) (A:List (List Int)) (N w:Nat),ds=[dA,d0,d1,d2]/\bQ st dA A/\Mx.eQ N w A/\1<=N/\N<=8/\w<=8/\(∀r∈A,∀x∈r,x.natAbs<=2^20)/\((gU st d0/\cC st d0 (.int N) w=false/\K (.bl false) st)\/(bQ st d0 A/\bQ st d1 (Mx.units N)/\bQ st d2 (Mx.units N)/\K (.bl true) st))
def gX:List Str:=["rows","made","turn","back","many"]
def tZ:DS:=(aH (bf 4 (bD gq (ag (ah 0) ao)))
 (aH (fj (rj (iR (bL (aC gu (ag (ah 1) (ag (ah 4) (ag (bD gq (ag (az fC (ah 0) (dC (.int 0))) ao)) ao)))))) (iR (bL (aC jN (ag (ah 2) (ag (ah 3) (ag (ah 4) ao))))))) (bp (dC (.bl false))) dm)
 (bp (az gd (aC nF (ag (ah 1) ao)) (aC j7 (ag (ah 2) (ag (ah 0) ao)))))))
theorem ko{st:aa}{d:D}{xs:List D}(e:items? st d=some xs):Any st d:=by
 cases d<;>first|(cases e;done)|exact⟨_,rfl⟩|exact⟨_,D3 (mU e)⟩
theorem jj{st:aa}:∀ {xs:List D} {F:List (List Int)},aY st xs F->∀x∈xs,∃r∈F,items? st x=some (av r)
 | [],[],_,x,hx=>by cases hx
 |y::xs,r::F,h,x,hx=>by
  rcases List.mem_cons.mp hx with rfl|hx
  . exact⟨r,List.mem_cons_self,h.1⟩
  . obtain⟨r',h1,h2⟩:=jj h.2 x hx;exact⟨r',List.mem_cons_of_mem _ h1,h2⟩
theorem qv{st:aa}:∀ {xs:List D} {F:List (List Int)},aY st xs F->xs.map (intsOf st)=F
 | [],[],_=>rfl
 |_::_,_::_,h=>by rw[List.map_cons,j8 h.1,qv h.2]
theorem kC{st:aa}{d:D}{F:List (List Int)}(h:bQ st d F)(hl:F.length<=1000)(hw:∀r∈F,r.length<=1000):gU st d:=by
 obtain⟨xs,e,ri⟩:=h.ex;refine⟨ko e,fun ys e'=>?_⟩;rw[e]at e';cases e';refine⟨fun x hx=>?_,bG (by rw[ri.len];exact hl)⟩;obtain⟨r,hr,er⟩:=jj ri x hx;refine⟨ko er,fun zs ez=>?_⟩;rw[er]at ez;cases ez;refine⟨fun z hz=>?_,bG (by rw[List.length_map];exact hw r hr)⟩;obtain⟨i,_,rfl⟩:=List.mem_map.mp hz;exact⟨_,rfl⟩
theorem y6{st:aa}{d:D}{F:List (List Int)}(h:bQ st d F)(hl:F.length<=1000)(hb:∀r∈F,∀x∈r,x.natAbs<=2^60000003):mO st d:=by
 obtain⟨xs,e,ri⟩:=h.ex;refine⟨fun ys e'=>?_,fun ys e' x hx zs ez i hi=>?_⟩
 . rw[e]at e';cases e';rw[ri.len];exact hl
 . rw[e]at e';cases e';obtain⟨r,hr,er⟩:=jj ri x hx;rw[er]at ez;cases ez;obtain⟨j,hj,ej⟩:=List.mem_map.mp hi;cases ej;exact Nat.le_trans (hb r hr _ hj) (Nat.pow_le_pow_right (by decide) (by decide))
theorem o6{st:aa}{d m:D}{F:List (List Int)}{w:Nat}(h:bQ st d F)(hw:∀r∈F,r.length=w)(hm:kN F.length m=true):cC st d m w=true/\rowsOf st d=F:=by
 obtain⟨xs,e,ri⟩:=h.ex;refine⟨?_,by unfold rowsOf;rw[e];exact qv ri⟩;unfold cC;rw[e];show(kN xs.length m&&_)=true;rw[ri.len,hm,Bool.true_and];refine List.all_eq_true.mpr fun x hx=>?_;obtain⟨r,hr,er⟩:=jj ri x hx;unfold fJ;rw[er];show(decide (((av r).length:Int)=w)&&(av r).all isInt)=true;rw[List.length_map,hw r hr,decide_eq_true rfl,Bool.true_and];refine List.all_eq_true.mpr fun z hz=>?_;obtain⟨i,_,rfl⟩:=List.mem_map.mp hz;rfl
theorem sQ:∀ds st K,jO ds st K->ds.length=4/\tZ {nx:=fun _ st'=>K .ay st',rt:=K} (aJ gX ds) st:=by
 rintro ds st K ⟨dA,d0,d1,d2,A,N,w,rfl,hA,is,n1,n8,w8,bd,hc⟩;refine⟨rfl,?_⟩;obtain⟨da,hda,ra⟩:=hA.ex;have lA:=is.len;have ld:da.length=N:=by rw[ra.len];exact lA
 obtain⟨e0,ee0,he0⟩:=ra.at (k:=0) (by omega);refine fx hda ?_;rw[ld];refine bV hda ee0 (fx he0 ?_);rw[List.length_map,is.row (i:=0) n1];rcases hc with⟨ht,hf,k⟩|⟨h0,h1,h2,k⟩
 . refine⟨d0,_,_,rfl,ht,.inr ⟨_,rfl⟩,?_⟩;rw[hf];exact k
 . have iu:=Mx.l9 N;have uw:∀r∈Mx.units N,r.length<=1000:=fun r hr=>by rw[iu.gg r hr];omega
   have ub:∀r∈Mx.units N,∀x∈r,x.natAbs<=1:=fun r hr x hx=>by
    obtain⟨i,hi,rfl⟩:=List.mem_iff_getElem.mp hr;obtain⟨c,hc,rfl⟩:=List.mem_iff_getElem.mp hx;have li:i<N:=by rw[<-iu.len];exact hi
    have lc:c<N:=by rw[<-iu.gg _ hr];exact hc
    have e:=Mx.uU li lc;unfold Mx.g at e;rw[Mx.aP hi,Mx.aP hc]at e;rw[e];unfold Mx.dl;split<;>decide
   refine⟨d0,_,_,rfl,kC h0 (by omega) (fun r hr=>by rw[is.gg r hr];omega),.inr ⟨_,rfl⟩,?_⟩;rw[(o6 (m:= .int N) h0 is.gg (by rw[lA];exact decide_eq_true rfl)).1];have big:∀ {d:D},bQ st d (Mx.units N)->mO st d:=fun h=>y6 h (by rw[iu.len];omega) fun r hr x hx=>Nat.le_trans (ub r hr x hx) Nat.one_le_two_pow;have th:∀ {d:D},bQ st d (Mx.units N)->gU st d:=fun h=>kC h (by rw[iu.len];omega) uw;refine⟨d1,d2,N,rfl,th h1,th h2,big h1,big h2,n1,by omega,?_⟩
   have hi:Ca st d1 d2 N=true:=by
    obtain⟨a1,a2⟩:=o6 (m:= .int N) h1 iu.gg (by rw[iu.len];exact decide_eq_true rfl);obtain⟨b1,b2⟩:=o6 (m:= .int N) h2 iu.gg (by rw[iu.len];exact decide_eq_true rfl);unfold Ca B7;rw[a1,b1,a2,b2,Mx.oF iu,decide_eq_true rfl];rfl
   rw[hi];refine⟨d0,A,rfl,h0,by omega,?_⟩;have hAn:A≠ []:=fun z=>by rw[z]at lA;simp at lA;omega
   refine⟨d1,dA,w,_,A,rfl,h1,hA,hAn,is.gg,by omega,by rw[iu.len];omega,fun q hq c hc r hr y hy=>gH (by have:=ub q hq c hc;omega) (by have:=ub q hq c hc;omega),?_⟩;rw[Mx.oF is];refine xU lL lL ?_;rw[uv,decide_eq_true rfl];exact k
def EB:Nat:=1237940039285380274899124224
theorem HZ{p:Nat}(h:p<=8):(8*EB)^p<=2^744:=by
 have e:8*EB=2^93:=by decide
 rw[e,<-Nat.pow_mul];exact Nat.pow_le_pow_right (by decide) (by omega)
theorem bits_le{a:Int}{m:Nat}(h:a.natAbs<2^m):Builtin.Int.intBits a<=m:=by
 unfold Builtin.Int.intBits;by_cases h0:a.natAbs=0
 . have:a=0:=by omega
   subst this;simp
 . have:=(Nat.log2_lt h0).mpr h;split<;>omega
theorem vN{a b:Int}(ha:a.natAbs<=2^744)(hb:b.natAbs<=2^744):IntMulOk a b:=by
 have l:(2:Nat)^744<2^745:=Nat.pow_lt_pow_right (by decide) (by decide);have l2:745<=2^20:=by decide
 exact .of_bits (Nat.le_trans (bits_le (Nat.lt_of_le_of_lt ha l)) l2) (Nat.le_trans (bits_le (Nat.lt_of_le_of_lt hb l)) l2)
theorem F3{a:Int}(ha:a.natAbs<=2^744)(h0:a≠0):a.natAbs.log2<9000:=by
 have l:(2:Nat)^744<2^745:=Nat.pow_lt_pow_right (by decide) (by decide);have:=(Nat.log2_lt (show a.natAbs≠0 by omega)).mpr (Nat.lt_of_le_of_lt ha l);omega
structure Gm(G:Mx.Fn)(n:Nat):Prop where
 le:n<=8
 bd:∀r c,r<n->c<n->(G r c).natAbs<=EB
 sym:∀i j,G i j=G j i
theorem Gm.gx{G:Mx.Fn}{n p i j:Nat}(h:Gm G n)(hp:p<n)(hi:i<n)(hj:j<n):(Mx.gx G p (G i) j).natAbs<=2^744:=Nat.le_trans (Mx.Eb h.le h.bd hp hi hj) (HZ (by have:=h.le;omega))
theorem Gm.D{G:Mx.Fn}{n p:Nat}(h:Gm G n)(hp:p<=n):(Mx.D p G).natAbs<=2^744:=Nat.le_trans (Mx.wJ (by have:=h.le;omega) fun r c hr hc=>h.bd r c (by omega) (by omega)) (HZ (by have:=h.le;omega))
def ku:cu:=fun ds st K=>∃(G:Mx.Fn) (n i j:Nat) (m:Nat) (o1 o2:List Int) (dt d1 d2:D),ds=[.int (G i j),dt,d1,d2]/\items? st dt=some ((Mx.fi G m).map bc)/\items? st d1=some (av o1)/\items? st d2=some (av o2)/\o1.length=j/\j<=o2.length/\j<=m/\(∀k,k<j->o1.getD k 0=Mx.lam G i k/\o2.getD k 0=Mx.lam G j k)/\(∀k,k<j->Mx.D k G≠0)/\Gm G n/\i<n/\j<n/\K (.int (Mx.gx G j (G i) j)) st
def ke:List Str:=["together","table","one","other","divisor","line","left","right"]
def yQ:DS:=(aH (bf 4 (dC (.int 1)))
 (aH (jY (wM (ag (ah 1) (ag (ah 2) (ag (ah 3) ao)))) (nJ 5 6 7) (aH (bf 0 (az oj (az hJ (az cf (az fC (ah 5) (nD ip (dC (.int 1)))) (ah 0)) (az cf (ah 6) (ah 7))) (ah 4)))
 (bf 4 (az fC (ah 5) (nD ip (dC (.int 1)))))))
 (bp (ah 0))))
theorem qZ{r:List Int}{n:Nat}(h:r.length=n+1):dY (av r) (-1)=some (.int (r.getD n 0)):=by
 have e:r=r.take n++[r.getD n 0]:=by
  rw[Mx.aP (by omega),<-List.take_succ_eq_append_getElem (by omega),List.take_of_length_le (by omega)]
 have e2:av r=av (r.take n)++[.int (r.getD n 0)]:=by
  conv=>lhs;rw[e]
  simp[av]
 rw[e2];exact AA _ _
theorem rR{T:List (List Int)}{o1 o2:List Int}{k:Nat}(h1:k<T.length)(h2:k<o1.length)(h3:k<o2.length):dq ((T.drop k).map bc) (av (o1.drop k)) (av (o2.drop k))= .tup [bc (T.getD k []),.int (o1.getD k 0),.int (o2.getD k 0)]::dq ((T.drop (k+1)).map bc) (av (o1.drop (k+1))) (av (o2.drop (k+1))):=by
 rw[List.drop_eq_getElem_cons h1,List.drop_eq_getElem_cons h2,List.drop_eq_getElem_cons h3,Mx.aP h1,Mx.aP h2,Mx.aP h3];rfl
theorem yf:∀ds st K,ku ds st K->ds.length=4/\yQ {nx:=fun _ st'=>K .ay st',rt:=K} (aJ ke ds) st:=by
 rintro ds st K ⟨G,n,i,j,m,o1,o2,dt,d1,d2,rfl,ht,h1,h2,l1,l2,l3,ho,hD,g,hi,hj,k⟩;refine⟨rfl,?_⟩;have hg:=g.le;refine C1 ht h1 h2 fun ok aw=>?_;refine gA (fun rest σ st'=>st'=st/\∃(q:Nat) (v5 v6 v7:Option D),q<=j/\σ=[some (.int (Mx.gx G q (G i) j)),some dt,some d1,some d2,some (.int (Mx.D q G)),v5,v6,v7]/\rest=dq (((Mx.fi G m).drop q).map bc) (av (o1.drop q)) (av (o2.drop q))) ?_ ?_ _ _ _ ⟨rfl,0,none,none,none,Nat.zero_le _,by rw[Mx.D0];rfl,rfl⟩
 . rintro σ st' ⟨rfl,q,v5,v6,v7,hq,rfl,hr⟩;refine⟨aw _ ht h1 h2,?_⟩
   have:q=j:=by
    by_cases h:q<j
    . rw[rR (by rw[Mx.ij];omega) (by omega) (by omega)]at hr;cases hr
    . omega
   subst this;exact k
 . rintro x rest σ st' ⟨rfl,q,v5,v6,v7,hq,rfl,hr⟩ next
   have hqj:q<j:=by
    by_cases h:q<j
    . exact h
    . have:o1.drop q=[]:=List.drop_eq_nil_of_le (by omega);rw[this]at hr
      have e:dq (((Mx.fi G m).drop q).map bc) (av []) (av (o2.drop q))=[]:=by
       cases ((Mx.fi G m).drop q)<;>rfl
      rw[e]at hr;cases hr
   rw[rR (by rw[Mx.ij];omega) (by omega) (by omega),List.cons.injEq]at hr;obtain⟨rfl,rfl⟩:=hr;refine⟨aw _ ht h1 h2,_,rfl,?_⟩;rw[Mx.wa G (show q<m by omega),(ho q hqj).1,(ho q hqj).2];have eL:(Mx.fL G q).getD q 0=Mx.D (q+1) G:=by rw[Mx.pj G (Nat.le_refl _),Mx.uh]
   have b1:=g.D (p:=q+1) (by omega);have b2:=g.gx (p:=q) (i:=i) (j:=j) (by omega) hi hj;have b3:(Mx.lam G i q).natAbs<=2^744:=g.gx (by omega) hi (by omega);have b4:(Mx.lam G j q).natAbs<=2^744:=g.gx (by omega) hj (by omega);have b5:=g.D (p:=q) (by omega);refine i5 (bV rfl (qZ (Mx.kv G q)) ?_);rw[eL];refine eH (vN b1 b2) (eH (vN b3 b4) (jT (vM (hD q hqj) (F3 b5 (hD q hqj)) ?_)));rw[Mx.AV g.sym (hD q hqj)];refine i5 (bV rfl (qZ (Mx.kv G q)) ?_);rw[eL];exact next _ _ ⟨rfl,q+1,_,_,_,hqj,rfl,rfl⟩
structure St(A:List (List Int))(N w:Nat):Prop where
 is:Mx.eQ N w A
 wd:w<=1000
 sm:∀r∈A,∀x∈r,x.natAbs<2^64
 gm:Gm (Mx.bI A) N
theorem St.mem{A:List (List Int)}{N w i:Nat}(h:St A N w)(hi:i<N):A.getD i []∈A:=by
 have:=h.is.len;rw[Mx.aP (by omega)];exact List.getElem_mem _
def mQ:cu:=fun ds st K=>∃(A:List (List Int)) (N w i:Nat) (dt dA dr:D),ds=[dt,dA,dr]/\items? st dt=some ((Mx.fi (Mx.bI A) i).map bc)/\bQ st dA A/\St A N w/\i<N/\items? st dr=some (av (A.getD i []))/\(∀k,k<=i->Mx.D k (Mx.bI A)≠0)/\∀st',Ext st st'->K (bc (Mx.fL (Mx.bI A) i)) st'
def kg:List Str:=["table","steps","row","made","line","step"]
def zu:DS:=(aH (bf 3 (oV ao))
 (aH (jY (nC (ag (ah 0) (ag (ah 1) ao))) (gN 4 5) (nM (iD (ah 3) (aC ku (ag (aC tf (ag (ah 2) (ag (ah 5) ao))) (ag (ah 0) (ag (ah 3) (ag (ah 4) ao))))))))
 (aH (nM (iD (ah 3) (aC ku (ag (aC tf (ag (ah 2) (ag (ah 2) ao))) (ag (ah 0) (ag (ah 3) (ag (ah 3) ao)))))))
 (nW 3 (bp (ah 3))))))
theorem tL{xs:List (List Int)}{da:List D}{q:Nat}(h1:q<xs.length)(h2:q<da.length):dN ((xs.drop q).map bc) (da.drop q)= .tup [bc (xs.getD q []),da[q]]::dN ((xs.drop (q+1)).map bc) (da.drop (q+1)):=by
 rw[List.drop_eq_getElem_cons h1,List.drop_eq_getElem_cons h2,Mx.aP h1];rfl
theorem yG{A:List (List Int)}{N w i j:Nat}(h:St A N w)(hi:i<N)(hj:j<N):∀a∈A.getD i [],∀b∈A.getD j [],IntMulOk a b:=fun a ha b _=>by
 have:=h.sm _ (h.mem hi) a ha;exact gH (by omega) (by omega)
theorem tO(G:Mx.Fn)(i q:Nat):av ((List.range q).map fun j=>Mx.lam G i j)++[.int (Mx.lam G i q)]=av ((List.range (q+1)).map fun j=>Mx.lam G i j):=by rw[List.range_succ,List.map_append];simp[av]
theorem rh(G:Mx.Fn){i q k:Nat}(h:k<q):((List.range q).map fun j=>Mx.lam G i j).getD k 0=Mx.lam G i k:=by rw[Mx.aP (by simpa using h),List.getElem_map,List.getElem_range]
theorem xj:∀ds st K,mQ ds st K->ds.length=3/\zu {nx:=fun _ st'=>K .ay st',rt:=K} (aJ kg ds) st:=by
 rintro ds st K ⟨A,N,w,i,dt,dA,dr,rfl,ht,⟨da,hda,ra⟩,hS,hi,hr,hD,k⟩;refine⟨rfl,?_⟩;have hl:=hS.is.len;have hla:=ra.len;have h8:=hS.gm.le;have wi:=hS.is.gg _ (hS.mem hi);have hw:=hS.wd;refine⟨Nat.le_of_ble_eq_true rfl,?_⟩;have X0:Ext st (st++[.lst []]):=Ext.push;have e0:(st++[Cell.lst []])[st.length]?=some (.lst (av ((List.range 0).map fun j=>Mx.lam (Mx.bI A) i j))):=by simp
 refine kO (X0.items ht) (X0.items hda) fun ok aw=>?_;refine gA (fun rest σ st'=>∃(q:Nat) (v4 v5:Option D),q<=i/\σ=[some dt,some dA,some dr,some (.ref st.length),v4,v5]/\rest=dN (((Mx.fi (Mx.bI A) i).drop q).map bc) (da.drop q)/\Ext st st'/\st'[st.length]?=some (.lst (av ((List.range q).map fun j=>Mx.lam (Mx.bI A) i j)))) ?_ ?_ _ _ _ ⟨0,none,none,Nat.zero_le _,rfl,rfl,X0,e0⟩
 . rintro σ st1 ⟨q,v4,v5,hq,rfl,hrest,X,e⟩;refine⟨aw _ (X.items ht) (X.items hda),?_⟩
   have hqi:q=i:=by
    by_cases h:q<i
    . rw[tL (by rw[Mx.ij];exact h) (by omega)]at hrest;cases hrest
    . omega
   subst hqi;refine uf (by rfl) e ?_;refine⟨_,_,A.getD q [],A.getD q [],rfl,X.items hr,X.items hr,by omega,yG hS hi hi,?_⟩;refine⟨Mx.bI A,N,q,q,q,(List.range q).map fun j=>Mx.lam (Mx.bI A) q j,(List.range q).map fun j=>Mx.lam (Mx.bI A) q j,dt,.ref st.length,.ref st.length,rfl,X.items ht,gG e,gG e,by simp,by simp,Nat.le_refl _,fun k hk=>⟨rh _ hk,rh _ hk⟩,fun k hk=>hD k (by omega),hS.gm,hi,hi,?_⟩;refine rp e (by rw[sizeLine_eq];simp;omega) ?_;have hlt:=(List.getElem?_eq_some_iff.mp e).1
   have e2:(st1.set st.length (.lst (av ((List.range q).map fun j=>Mx.lam (Mx.bI A) q j)++[.int (Mx.gx (Mx.bI A) q (Mx.bI A q) q)])))[st.length]?=some (.lst (av (Mx.fL (Mx.bI A) q))):=by
    rw[List.getElem?_set_self hlt];have:=tO (Mx.bI A) q q;unfold Mx.lam at this⊢;unfold Mx.fL Mx.lam;rw[this]
   refine Fb (by rfl) e2 ?_;exact k _ ((X.set (Nat.le_refl _)).set (Nat.le_refl _))
 . rintro x rest σ st1 ⟨q,v4,v5,hq,rfl,hrest,X,e⟩ next
   have hqi:q<i:=by
    by_cases h:q<i
    . exact h
    . have:(Mx.fi (Mx.bI A) i).drop q=[]:=List.drop_eq_nil_of_le (by rw[Mx.ij];omega);rw[this]at hrest;cases hrest
   rw[tL (by rw[Mx.ij];exact hqi) (by omega),List.cons.injEq,Mx.wa _ hqi]at hrest;obtain⟨rfl,rfl⟩:=hrest;refine⟨aw _ (X.items ht) (X.items hda),_,rfl,?_⟩;obtain⟨rq,erq,hrq⟩:=ra.get (List.getElem?_eq_getElem (show q<da.length by omega))
   have erq2:rq=A.getD q []:=by
    rw[List.getElem?_eq_getElem (by omega)]at erq;cases erq;rw[Mx.aP (by omega)]
   subst erq2;refine uf (by rfl) e ?_;refine⟨_,_,A.getD i [],A.getD q [],rfl,X.items hr,X.items hrq,by omega,yG hS hi (by omega),?_⟩;refine⟨Mx.bI A,N,i,q,i,(List.range q).map fun j=>Mx.lam (Mx.bI A) i j,Mx.fL (Mx.bI A) q,dt,.ref st.length,bc (Mx.fL (Mx.bI A) q),rfl,X.items ht,gG e,rfl,by simp,by rw[Mx.kv];omega,by omega,fun k hk=>⟨rh _ hk,Mx.pj _ (by omega)⟩,fun k hk=>hD k (by omega),hS.gm,hi,by omega,?_⟩;refine rp e (by rw[sizeLine_eq];simp;omega) ?_;have hlt:=(List.getElem?_eq_some_iff.mp e).1;refine next _ _ ⟨q+1,_,_,hqi,rfl,rfl,X.set (Nat.le_refl _),?_⟩
   rw[List.getElem?_set_self hlt];have:=tO (Mx.bI A) i q;unfold Mx.lam at this⊢;rw[this]
structure Rf(st:aa)(d:D):Prop where
 ex:∃(A:List (List Int)) (N w:Nat),bQ st d A/\St A N w/\1<=N/\Mx.D N (Mx.bI A)=0
def eY:dn:=fun ds st _ ex=>∃d,ds=[d]/\Rf st d/\∀st',Ext st st'->ex dv st'
def jy:List Str:=["steps","table","step","line"]
def xn:eA:=(gR (i6 (bf 1 (oV ao)))
 (gR (Aw (dJ (ah 0)) (bC 2) (gR (i6 (bf 3 (aC mQ (ag (ah 1) (ag (ah 0) (ag (ah 2) ao))))))
 (gR (ER (bL (az gd (az fC (ah 3) (nD ip (dC (.int 1)))) (dC (.int 0)))) (uu dv (ag (dC (.str "a row is a sum of the others by fractions")) ao)) (i6 dm))
 (i6 (nM (iD (ah 1) (ah 3)))))))
 (i6 g0)))
theorem Rf.ext{st st':aa}{d:D}(h:Rf st d)(X:Ext st st'):Rf st' d:=by
 obtain⟨A,N,w,hA,r⟩:=h.ex;exact⟨A,N,w,X.wO hA,r⟩
theorem zC{i:Nat}{σ:aR}{st:aa}{K:DK}{d:D}(h:σ[i]?=some (some d))(k:K d st):ah i σ st K:=by
 unfold ah;simp only[h];exact k
theorem vq:∀ds st K ex,eY ds st K ex->ds.length=1/\xn {nx:=fun _ st'=>K .ay st',rt:=K} ex (aJ jy ds) st:=by
 rintro ds st K ex ⟨dA,rfl,⟨A,N,w,hA,hS,n1,hz⟩,k⟩;refine⟨rfl,?_⟩;obtain⟨da,hda,ra⟩:=hA.ex;have hl:=hS.is.len;have hla:=ra.len;have h8:=hS.gm.le;refine⟨Nat.le_of_ble_eq_true rfl,?_⟩;have X0:Ext st (st++[.lst []]):=Ext.push;have e0:(st++[Cell.lst []])[st.length]?=some (.lst ((Mx.fi (Mx.bI A) 0).map bc)):=by simp[Mx.fi]
 refine DF (X0.items hda) fun ok aw=>?_;refine uW (fun rest σ st'=>∃(q:Nat) (v2 v3:Option D),q<=N/\σ=[some dA,some (.ref st.length),v2,v3]/\rest=da.drop q/\Ext st st'/\st'[st.length]?=some (.lst ((Mx.fi (Mx.bI A) q).map bc))/\∀k,k<=q->Mx.D k (Mx.bI A)≠0) ?_ ?_ _ _ _ ⟨0,none,none,Nat.zero_le _,rfl,rfl,X0,e0,fun k hk=>by rw[Nat.le_zero.mp hk,Mx.p0];decide⟩
 . rintro σ st1 ⟨q,v2,v3,hq,rfl,hrest,X,e,hD⟩
   have hqN:q=N:=by
    have:=congrArg List.length hrest;simp at this;omega
   subst hqN;exact absurd hz (hD q (Nat.le_refl _))
 . rintro x rest σ st1 ⟨q,v2,v3,hq,rfl,hrest,X,e,hD⟩ next
   have hqN:q<N:=by
    have:=congrArg List.length hrest;simp at this;omega
   rw[List.drop_eq_getElem_cons (show q<da.length by omega),List.cons.injEq]at hrest;obtain⟨rfl,rfl⟩:=hrest;refine⟨aw _ (X.items hda),_,rfl,?_⟩;obtain⟨rq,erq,hrq⟩:=ra.get (List.getElem?_eq_getElem (show q<da.length by omega))
   have erq2:rq=A.getD q []:=by
    rw[List.getElem?_eq_getElem (by omega)]at erq;cases erq;rw[Mx.aP (by omega)]
   subst erq2;refine⟨A,N,w,q,.ref st.length,dA,_,rfl,gG e,X.wO hA,hS,hqN,X.items hrq,hD,fun st2 X2=>?_⟩;have X3:=X.trans X2;have e2:st2[st.length]?=some (.lst ((Mx.fi (Mx.bI A) q).map bc)):=(X2.same _ (List.getElem?_eq_some_iff.mp e).1).trans e;refine i5 (bV rfl (qZ (Mx.kv _ q)) ?_);rw[Mx.pj _ (Nat.le_refl q),Mx.uh];by_cases h0:Mx.D (q+1) (Mx.bI A)=0
   . refine eqT h0 (ia ?_);exact⟨Nat.le_of_ble_eq_true rfl,k _ X3⟩
   . refine FC h0 ?_;refine uf (by rfl) e2 (zC rfl (rp e2 (by rw[sizeLine_eq,List.length_map,Mx.ij];omega) ?_));have hlt:=(List.getElem?_eq_some_iff.mp e2).1;refine next _ _ ⟨q+1,_,_,hqN,rfl,rfl,X3.set (Nat.le_refl _),?_,fun k hk=>?_⟩
     . rw[List.getElem?_set_self hlt,Mx.yP,List.map_append];rfl
     . by_cases h:k=q+1
       . rw[h];exact h0
       . exact hD k (by omega)
abbrev il:dn:=eY
def l4:List Str:=["steps","table"]
def Ar:eA:=(gR (xX 1 eY (ag (ah 0) ao))
 (i6 g0))
theorem zo:∀ds st K ex,il ds st K ex->ds.length=1/\Ar {nx:=fun _ st'=>K .ay st',rt:=K} ex (aJ l4 ds) st:=by
 rintro ds st K ex ⟨d,rfl,h,k⟩;exact⟨rfl,d,rfl,h,k⟩
structure Bn(st:aa)(b xb xu xc:Nat)(A U C:List (List Int)):Prop where
 eb:st[b]?=some (Cell.ins bT [("body",.ref xb),("turn",.ref xu),("back_columns",.ref xc)])
 e1:st[xb]?=some (Cell.lst (A.map bc))
 e2:st[xu]?=some (Cell.lst (U.map bc))
 e3:st[xc]?=some (Cell.lst (C.map bc))
 n1:xb≠xu
 n2:xb≠xc
 n3:xu≠xc
def gr:cu:=fun ds st K=>∃(b N:Nat) (d:D) (A:List (List Int)),ds=[.ref b,d]/\st[b]?=some (.ins bT [])/\bQ st d A/\A.length=N/\N<=8/\∀st',Bn st' b st.length (st.length+1) (st.length+2) A (Mx.units N) (Mx.units N)->st'.length=st.length+3->(∀m,m<st.length->m≠b->st'[m]?=st[m]?)->K .ay st'
def eW:List Str:=["self","rows"]
def pA:DS:=(aH (nU bT "body" (ah 0) (m4 (dJ (ah 1)) [none] (bC 0) bK (bD fV (ag (ah 0) ao))))
 (aH (nU bT "turn" (ah 0) (m4 (dJ (aC gb (ag (bD gq (ag (ah 1) ao)) ao))) [none] (bC 0) bK (bD fV (ag (ah 0) ao))))
 (nU bT "back_columns" (ah 0) (m4 (dJ (aC gb (ag (bD gq (ag (ah 1) ao)) ao))) [none] (bC 0) bK (bD fV (ag (ah 0) ao))))))
theorem la(f:Str)(v:D):∀fs:List (Str×D),(putD f v fs).length<=fs.length+1
 | []=>by simp[putD]
 |(g,x)::r=>by
  unfold putD;split
  . simp
  . have:=la f v r;simp only[List.length_cons];omega
theorem ug{st:aa}{A:List (List Int)}:aY st (A.map bz) A:=aY.tup
theorem rS(n:Nat):(Mx.units n).length=n:=by unfold Mx.units;simp
theorem oq:∀ds st K,gr ds st K->ds.length=2/\pA {nx:=fun _ st'=>K .ay st',rt:=K} (aJ eW ds) st:=by
 rintro ds st K ⟨b,N,d,A,rfl,eb,hA,hl,hN,k⟩;refine⟨rfl,?_⟩;have hb:b<st.length:=(List.getElem?_eq_some_iff.mp eb).1;obtain⟨da,hd,ra⟩:=hA.ex;have hdl:=ra.len;have lst:∀(e:D) (r:List Int),True:=fun _ _=>trivial;refine ny hd fun ok aw=>⟨bG (by omega),?_⟩
 refine fP bc aw ra (fun e r hr he K' q=>⟨_,rfl,iy he q⟩) ?_;have eb1:(st++[Cell.lst (A.map bc)])[b]?=some (.ins bT []):=by rw[List.getElem?_append_left hb];exact eb
 refine oa eb1 (by decide) ?_;generalize hs1:(st++[Cell.lst (A.map bc)]).set b (.ins bT (putD "body" (.ref st.length) []))=st1;have l1:st1.length=st.length+1:=by rw[<-hs1];simp
 have f1:∀m,m<st.length->m≠b->st1[m]?=st[m]?:=fun m hm hmb=>by rw[<-hs1,List.getElem?_set_ne (Ne.symm hmb),List.getElem?_append_left hm]
 have b1:st1[b]?=some (.ins bT (putD "body" (.ref st.length) [])):=by rw[<-hs1,List.getElem?_set_self (by simp;omega)]
 have x1:st1[st.length]?=some (.lst (A.map bc)):=by rw[<-hs1,List.getElem?_set_ne (by omega)];simp
 clear hs1
 have itd:∃da',items? st1 d=some da'/\da'.length=N:=by
  cases d with
  |ref n=>
   by_cases hnb:n=b
   . subst hnb;unfold items? at hd;simp only[eb]at hd;cases hd
   . have hn:n<st.length:=by
      unfold items? at hd;simp only at hd;cases q:st[n]? with
      |none=>rw[q]at hd;cases hd
      |some c=>exact(List.getElem?_eq_some_iff.mp q).1
     refine⟨da,?_,by omega⟩;unfold items? at hd⊢;simp only at hd⊢;rw[f1 n hn hnb];exact hd
  |_=>exact⟨da,hd,by omega⟩
 obtain⟨da1,hd1,hdl1⟩:=itd;refine fx hd1 ?_;rw[hdl1];refine⟨N,rfl,by omega,?_⟩;refine hZ ⟨bG (by rw[List.length_map,rS];omega),?_⟩;refine fP bc trivial ug (fun e r hr he K' q=>⟨_,rfl,iy he q⟩) ?_;have b2:(st1++[Cell.lst ((Mx.units N).map bc)])[b]?=some (.ins bT (putD "body" (.ref st.length) [])):=by rw[List.getElem?_append_left (by omega)];exact b1
 refine oa b2 (by have:=la "body" (.ref st.length) [];simp only[List.length_nil]at this;omega) ?_;generalize hs2:(st1++[Cell.lst ((Mx.units N).map bc)]).set b (.ins bT (putD "turn" (.ref st1.length) (putD "body" (.ref st.length) [])))=st2;have l2:st2.length=st.length+2:=by rw[<-hs2];simp;omega
 have f2:∀m,m<st1.length->m≠b->st2[m]?=st1[m]?:=fun m hm hmb=>by rw[<-hs2,List.getElem?_set_ne (Ne.symm hmb),List.getElem?_append_left hm]
 have b2':st2[b]?=some (.ins bT (putD "turn" (.ref st1.length) (putD "body" (.ref st.length) []))):=by rw[<-hs2,List.getElem?_set_self (by simp;omega)]
 have x2:st2[st1.length]?=some (.lst ((Mx.units N).map bc)):=by rw[<-hs2,List.getElem?_set_ne (by omega)];simp
 clear hs2
 have itd2:items? st2 d=some da1:=by
  cases d with
  |ref n=>
   by_cases hnb:n=b
   . subst hnb;unfold items? at hd1;simp only[b1]at hd1;cases hd1
   . have hn:n<st1.length:=by
      unfold items? at hd1;simp only at hd1;cases q:st1[n]? with
      |none=>rw[q]at hd1;cases hd1
      |some c=>exact(List.getElem?_eq_some_iff.mp q).1
     unfold items? at hd1⊢;simp only at hd1⊢;rw[f2 n hn hnb];exact hd1
  |_=>exact hd1
 refine fx itd2 ?_;rw[hdl1];refine⟨N,rfl,by omega,?_⟩;refine hZ ⟨bG (by rw[List.length_map,rS];omega),?_⟩;refine fP bc trivial ug (fun e r hr he K' q=>⟨_,rfl,iy he q⟩) ?_;have b3:(st2++[Cell.lst ((Mx.units N).map bc)])[b]?=some (.ins bT (putD "turn" (.ref st1.length) (putD "body" (.ref st.length) []))):=by rw[List.getElem?_append_left (by omega)];exact b2'
 refine oa b3 (by have h1:=la "body" (.ref st.length) [];have h2:=la "turn" (.ref st1.length) (putD "body" (.ref st.length) []);simp only[List.length_nil]at h1;omega) ?_;refine k _ ⟨?_,?_,?_,?_,by omega,by omega,by omega⟩ (by simp;omega) fun m hm hmb=>?_
 . rw[List.getElem?_set_self (by simp;omega),l1,l2];rfl
 . rw[List.getElem?_set_ne (by omega),List.getElem?_append_left (by omega),f2 _ (by omega) (by omega)];exact x1
 . rw[List.getElem?_set_ne (by omega),List.getElem?_append_left (by omega)];rw[l1]at x2;exact x2
 . rw[List.getElem?_set_ne (by omega)];rw[show st.length+2=st2.length by omega];simp
 . rw[List.getElem?_set_ne (Ne.symm hmb),List.getElem?_append_left (by omega),f2 m (by omega) hmb,f1 m hm hmb]
abbrev lK:dn:=eY
def jm:List Str:=["steps","told","squares","own"]
def x9:eA:=(gR (xX 1 il (ag (ah 0) ao))
 (gR (i6 g0)
 (gR (i6 g0)
 (i6 g0))))
theorem vm:∀ds st K ex,lK ds st K ex->ds.length=1/\x9 {nx:=fun _ st'=>K .ay st',rt:=K} ex (aJ jm ds) st:=by
 rintro ds st K ex ⟨d,rfl,h,k⟩;exact⟨rfl,d,rfl,h,k⟩
theorem mz{st st':aa}(f:∀(m:Nat) (xs:List D),st[m]?=some (Cell.lst xs)->st'[m]?=some (Cell.lst xs)):∀ {ds:List D} {A:List (List Int)},aY st ds A->aY st' ds A
 | [],[],_=>trivial
 |d::_,_::_,h=>⟨by
  have h1:=h.1;cases d with
  |ref n=>
   unfold items? at h1⊢;simp only at h1⊢;split at h1
   . rename_i xs e;rw[f n xs e];exact h1
   . cases h1
  |_=>exact h1,mz f h.2⟩
theorem vp{st st':aa}(f:∀(m:Nat) (xs:List D),st[m]?=some (Cell.lst xs)->st'[m]?=some (Cell.lst xs)){d:D}{A:List (List Int)}(h:bQ st d A):bQ st' d A:=by
 obtain⟨ds,e,r⟩:=h.ex;refine⟨ds,?_,mz f r⟩;cases d with
 |ref n=>
  unfold items? at e⊢;simp only at e⊢;split at e
  . rename_i xs e';rw[f n xs e'];exact e
  . cases e
 |_=>exact e
def f9:dn:=fun ds st _ ex=>∃(s:Nat) (d:D),ds=[.ref s,d]/\st[s]?=some (.ins fB [])/\Rf st d/\∀st',st.length<=st'.length->(∀m,m<st.length->m≠s->st'[m]?=st[m]?)->ex dv st'
def eD:List Str:=["self","steps"]
def ou:eA:=(gR (i6 (nU fB "bench" (ah 0) (xp bT gr (ag (ah 1) ao))))
 (Co eY (ag (ah 1) ao)))
theorem mE:∀ds st K ex,f9 ds st K ex->ds.length=2/\ou {nx:=fun _ st'=>K .ay st',rt:=K} ex (aJ eD ds) st:=by
 rintro ds st K ex ⟨s,d,rfl,es,⟨A,N,w,hA,hS,hN⟩,k⟩;refine⟨rfl,?_⟩;have hs:s<st.length:=(List.getElem?_eq_some_iff.mp es).1;have X0:Ext st (st++[.ins bT []]):=Ext.push;have e0:(st++[Cell.ins bT []]).length=st.length+1:=by simp
 refine⟨st.length,N,d,A,rfl,by simp,X0.wO hA,hS.is.len,hS.gm.le,fun st1 B l1 f1=>⟨rfl,?_⟩⟩;rw[e0]at B l1 f1;have g1:∀m,m<st.length->st1[m]?=st[m]?:=fun m hm=>by rw[f1 m (by omega) (by omega),X0.same m hm]
 have es1:st1[s]?=some (.ins fB []):=(g1 s hs).trans es;refine oa es1 (by decide) ?_;generalize hs2:st1.set s _=st2;have l2:st2.length=st.length+4:=by rw[<-hs2,List.length_set];omega
 have f2:∀m,m≠s->st2[m]?=st1[m]?:=fun m hm=>by rw[<-hs2,List.getElem?_set_ne (Ne.symm hm)]
 clear hs2
 have hA2:bQ st2 d A:=vp (fun m xs e=>by
  have hm:m<st.length:=(List.getElem?_eq_some_iff.mp e).1;have hms:m≠s:=fun z=>by rw[z,es]at e;cases e
  rw[f2 m hms,g1 m hm];exact e) hA
 refine⟨d,rfl,⟨A,N,w,hA2,hS,hN⟩,fun st3 X3=>k st3 (by have:=X3.len;omega) fun m hm hms=>?_⟩;rw[X3.same m (by omega),f2 m hms,g1 m hm]
abbrev vT:dn:=eY
def oh:List Str:=["steps","stairs","bench"]
def Du:eA:=(gR (Cd fB f9 (ag (ah 0) ao))
 (gR (i6 g0)
 (gR (i6 g0)
 (i6 g0))))
theorem Av:∀ds st K ex,vT ds st K ex->ds.length=1/\Du {nx:=fun _ st'=>K .ay st',rt:=K} ex (aJ oh ds) st:=by
 rintro ds st K ex ⟨d,rfl,h,k⟩;refine⟨rfl,st.length,d,rfl,by simp,h.ext Ext.push,fun st' hl hf=>k st' ⟨?_,fun m hm=>?_⟩⟩
 . have:(st++[Cell.ins fB []]).length=st.length+1:=by simp
   omega
 . rw[hf m (by simp;omega) (by omega),List.getElem?_append_left hm]
inductive Np(st:aa)(A:List (List Int))(N w:Nat)(x:D):Prop
 |D7 (h:Any st x) (e:(match items? st x with|some xs=>decide ((xs.length:Int)=3)|none=>false)=false)
 |less (d0 d1 d2:D) (e:items? st x=some [d0,d1,d2]) (h:gU st d0) (h2:cC st d0 (.int N) w=false)
 |same (d0 d1 d2:D) (e:items? st x=some [d0,d1,d2]) (h0:bQ st d0 A) (h1:bQ st d1 (Mx.units N)) (h2:bQ st d2 (Mx.units N))
def je:cu:=fun ds st K=>∃(dA x:D) (A:List (List Int)) (N w:Nat),ds=[dA,x]/\bQ st dA A/\St A N w/\1<=N/\w<=8/\(∀r∈A,∀x∈r,x.natAbs<=2^20)/\Mx.D N (Mx.bI A)=0/\Np st A N w x/\∀st',Ext st st'->K (.bl false) st'
def gj:List Str:=["steps","told"]
def sL:DS:=(aH (fj (rj (iR (bL (aC fT (ag (ah 1) (ag (dC (.int 3)) ao))))) (iR (bL (aC jO (ag (ah 0) (ag (az fC (ah 1) (dC (.int 0))) (ag (az fC (ah 1) (dC (.int 1))) (ag (az fC (ah 1) (dC (.int 2))) ao)))))))) (bp (dC (.bl false))) dm)
 (xR [dv] lK (ag (az fC (ah 1) (dC (.int 0))) ao)))
theorem qC:∀ds st K,je ds st K->ds.length=2/\sL {nx:=fun _ st'=>K .ay st',rt:=K} (aJ gj ds) st:=by
 rintro ds st K ⟨dA,x,A,N,w,rfl,hA,hS,n1,w8,bd,hz,hx,k⟩;refine⟨rfl,?_⟩;have n8:=hS.gm.le;cases hx with
 |D7 h e=>
  refine⟨x,3,rfl,h,?_⟩;rw[e];exact k st Ext.refl
 |less d0 d1 d2 e h h2=>
  refine⟨x,3,rfl,ko e,?_⟩;rw[e];refine bV e rfl (bV e rfl (bV e rfl ?_));exact⟨dA,d0,d1,d2,A,N,w,rfl,hA,hS.is,n1,n8,w8,bd,.inl ⟨h,h2,k st Ext.refl⟩⟩
 |same d0 d1 d2 e h0 h1 h2=>
  refine⟨x,3,rfl,ko e,?_⟩;rw[e];refine bV e rfl (bV e rfl (bV e rfl ?_));refine⟨dA,d0,d1,d2,A,N,w,rfl,hA,hS.is,n1,n8,w8,bd,.inr ⟨h0,h1,h2,?_⟩⟩;refine bV e rfl ?_;exact⟨d0,rfl,⟨A,N,w,h0,hS,n1,hz⟩,fun st' X=>⟨List.mem_singleton.mpr rfl,k st' X⟩⟩
structure Upd(st:aa)(n:Nat)(st':aa):Prop where
 len:st'.length=st.length
 same:∀m,m≠n->st'[m]?=st[m]?
theorem Upd.refl{st:aa}{n:Nat}:Upd st n st:=⟨rfl,fun _ _=>rfl⟩
theorem Upd.trans{st st1 st2:aa}{n:Nat}(a:Upd st n st1)(b:Upd st1 n st2):Upd st n st2:=⟨b.len.trans a.len,fun m h=>(b.same m h).trans (a.same m h)⟩
theorem Upd.set{st:aa}{n:Nat}{c:Cell}:Upd st n (st.set n c):=⟨List.length_set,fun m h=>List.getElem?_set_ne (Ne.symm h)⟩
structure Lf(st:aa)(n:Nat):Prop where
 ex:∃x,st[n]?=some (.lst [.int x])/\0<=x
def pd:cu:=fun ds st K=>∃(ns:List Int) (k:Int),ds=[.lst (ns.map .int),.int k]/\0<=k/\∀c,K (.int c) st
def l_:List Str:=["_law_script","_law_k"]
def z8:DS:=(aH (fj (bL (az r_ (ah 1) (bD gq (ag (ah 0) ao)))) (bp (az fC (ah 0) (ah 1))) dm)
 (bp (dC (.int 0))))
theorem CZ{ns:List Int}{k:Int}(h0:0<=k)(h:k<ns.length):∃c,dY (ns.map D.int) k=some (.int c):=by
 have hk:k.toNat<ns.length:=by omega
 refine⟨ns[k.toNat],?_⟩;have e:(ns.map D.int)[k.toNat]?=some (.int ns[k.toNat]):=by simp[hk]
 have:=kQ e;rw[Int.toNat_of_nonneg h0]at this;exact this
theorem yO:∀ds st K,pd ds st K->ds.length=2/\z8 {nx:=fun _ st'=>K .ay st',rt:=K} (aJ l_ ds) st:=by
 rintro ds st K ⟨ns,k,rfl,hk0,q⟩;refine⟨rfl,?_⟩;refine fx rfl ?_;rw[List.length_map];refine I_ (fun h=>?_) fun h=>q 0;obtain⟨c,e⟩:=CZ hk0 h;exact ia (bV rfl e (q c))
def lb:cu:=fun ds st K=>∃(ns:List Int) (k:Int),ds=[.lst (ns.map .int),.int k]/\0<=k/\k<=1000/\∀x:Int,0<=x->K (.ref st.length) (st++[.lst [.int x]])
def jw:List Str:=["_law_script","_law_k","_law_cell","_law_number_here","_law_wide","_law_j"]
def xV:DS:=(aH (bf 2 (aC pd (ag (ah 0) (ag (ah 1) ao))))
 (aH (fj (bL (az rO (bD qG (ag (ah 2) ao)) (az o9 (dC (.int 10)) (dC (.int 18))))) (bp (oV (ag (bD qG (ag (ah 2) ao)) ao))) dm)
 (aH (bf 3 (az ib (az cf (az bJ (az bJ (az ib (ah 2) (dC (.int 2147483647))) (az cf (dC (.int 7919)) (ah 1))) (dC (.int 11))) (dC (.int 48271))) (dC (.int 2147483629))))
 (aH (bf 4 (dC (.int 0)))
 (aH (jY (eF (ag (dC (.int 9)) ao)) (bC 5) (aH (bf 3 (az ib (az bJ (az bJ (az cf (ah 3) (ah 3)) (az cf (dC (.int 69621)) (ah 5))) (dC (.int 7))) (dC (.int 1999999973))))
 (bf 4 (az bJ (az cf (ah 4) (dC (.int 1999999973))) (ah 3)))))
 (bp (oV (ag (ah 4) ao))))))))
def A_:DS:=(aH (bf 4 (dC (.int 0)))
 (aH (jY (eF (ag (dC (.int 9)) ao)) (bC 5) (aH (bf 3 (az ib (az bJ (az bJ (az cf (ah 3) (ah 3)) (az cf (dC (.int 69621)) (ah 5))) (dC (.int 7))) (dC (.int 1999999973))))
 (bf 4 (az bJ (az cf (ah 4) (dC (.int 1999999973))) (ah 3)))))
 (bp (oV (ag (ah 4) ao)))))
theorem yu{d0 d1 d2:D}{u:Int}{st:aa}{E:e9}(h0:0<=u)(h1:u<2^62)(k:∀x:Int,0<=x->E.rt (.ref st.length) (st++[.lst [.int x]])):A_ E [some d0,some d1,some d2,some (.int u),none,none] st:=by
 refine hW ⟨by decide,by decide⟩ ?_;refine sC 9 (fun _ σ st'=>st'=st/\∃(u w:Int) (v:Option D),0<=u/\u<2^62/\0<=w/\σ=[some d0,some d1,some d2,some (.int u),some (.int w),v]) ?_ ?_ ⟨rfl,u,0,none,h0,h1,Int.le_refl _,rfl⟩
 . rintro σ st' ⟨rfl,u,w,v,a1,a2,a3,rfl⟩;exact⟨Nat.le_of_ble_eq_true rfl,k w a3⟩
 . rintro j σ st' rest hj ⟨rfl,u,w,v,a1,a2,a3,rfl⟩ next
   refine⟨_,rfl,?_⟩;refine eH (gH (by omega) (by omega)) (eH (gH (by decide) (by decide)) (cV (cV (m5 (by decide) ?_))));have u1:=Int.fmod_nonneg_of_pos (u*u+69621*(j:Int)+7) (show(0:Int)<1999999973 by decide);have u2:=Int.fmod_lt_of_pos (u*u+69621*(j:Int)+7) (show(0:Int)<1999999973 by decide);generalize(u*u+69621*(j:Int)+7).fmod 1999999973=t at u1 u2;refine eH (qH (by decide) (by decide)) (cV ?_);have hw:0<=w*1999999973+t:=Int.add_nonneg (Int.mul_nonneg a3 (by decide)) u1;generalize w*1999999973+t=w2 at hw;exact next _ _ ⟨rfl,t,w2,_,u1,by omega,hw,rfl⟩
def Ev(A:DE)(σ:aR)(st:aa)(d:D):Prop:=∀K:DK,K d st->A σ st K
theorem nH{x:D->D->aa->DK->Prop}{A B:DE}{σ:aR}{st:aa}{a b d:D}(hA:Ev A σ st a)(hB:Ev B σ st b)(hx:∀K:DK,K d st->x a b st K):Ev (az x A B) σ st d:=fun K k=>hA _ (hB _ (hx K k))
theorem uY{σ:aR}{st:aa}{d:D}:Ev (dC d) σ st d:=fun K k=>k
theorem y8{i:Nat}{σ:aR}{st:aa}{d:D}(h:σ[i]?=some (some d)):Ev (ah i) σ st d:=fun K k=>zC h k
theorem yY{σ:aR}{st:aa}{c k:Int}(h2:σ[2]?=some (some (.int c)))(h1:σ[1]?=some (some (.int k))):Ev (az ib (az cf (az bJ (az bJ (az ib (ah 2) (dC (.int 2147483647))) (az cf (dC (.int 7919)) (ah 1))) (dC (.int 11))) (dC (.int 48271))) (dC (.int 2147483629))) σ st (.int (((c.fmod 2147483647+7919*k+11)*48271).fmod 2147483629)):=by
 have a1:Ev (az ib (ah 2) (dC (.int 2147483647))) σ st (.int (c.fmod 2147483647)):=nH (y8 h2) uY fun K k=>m5 (by decide) k;have a2:Ev (az cf (dC (.int 7919)) (ah 1)) σ st (.int (7919*k)):=nH uY (y8 h1) fun K k=>eH (gH (by decide) (by decide)) k;have a3:=nH (d:= .int (c.fmod 2147483647+7919*k)) a1 a2 fun K k=>cV k;have a4:=nH (d:= .int (c.fmod 2147483647+7919*k+11)) a3 (uY (d:= .int 11)) fun K k=>cV k;have a5:=nH (d:= .int ((c.fmod 2147483647+7919*k+11)*48271)) a4 (uY (d:= .int 48271)) fun K k=>eH (qH (by decide) (by decide)) k;exact nH a5 (uY (d:= .int 2147483629)) fun K k=>m5 (by decide) k
theorem D4{i:Nat}{A:DE}{B:DS}{E:e9}{σ:aR}{st:aa}{d:D}(h:Ev A σ st d)(k:B E (σ.set i (some d)) st):aH (bf i A) B E σ st:=h _ k
theorem vj:∀ds st K,lb ds st K->ds.length=2/\xV {nx:=fun _ st'=>K .ay st',rt:=K} (aJ jw ds) st:=by
 rintro ds st K ⟨ns,k,rfl,hk0,hk1,q⟩;refine⟨rfl,?_⟩;refine⟨ns,k,rfl,hk0,fun c=>?_⟩;refine zx (t9 ⟨by decide,by decide,by decide⟩ ?_);generalize(10:Int)^(18:Int).toNat=big;refine IX (fun h=>ia (zx ⟨Nat.le_of_ble_eq_true rfl,q _ (by omega)⟩)) fun h=>?_;refine D4 (σ:=[some (.lst (ns.map .int)),some (.int k),some (.int c),none,none,none]) (yY (c:=c) (k:=k) rfl rfl) ?_;have u1:=Int.fmod_nonneg_of_pos ((c.fmod 2147483647+7919*k+11)*48271) (show(0:Int)<2147483629 by decide);have u2:=Int.fmod_lt_of_pos ((c.fmod 2147483647+7919*k+11)*48271) (show(0:Int)<2147483629 by decide);generalize((c.fmod 2147483647+7919*k+11)*48271).fmod 2147483629=u at u1 u2;exact yu (E:={nx:=fun _ st'=>K .ay st',rt:=K}) u1 (by omega) q
def aN:cu:=fun ds st K=>∃(n:Nat) (m:Int),ds=[.ref n,.int m]/\Lf st n/\0<m/\m<2^62/\∀r st',0<=r->r<m->Lf st' n->Upd st n st'->K (.int r) st'
def iL:List Str:=["_law_left_here","_law_many","_law_digit_here"]
def vi:DS:=(aH (bf 2 (az ib (az fC (ah 0) (dC (.int 0))) (ah 1)))
 (aH (pN (ah 0) (dC (.int 0)) (az oj (az fC (ah 0) (dC (.int 0))) (ah 1)))
 (bp (ah 2))))
theorem zF{m:Int}(h0:0<m)(h:m<2^62):m.natAbs.log2<9000:=by
 have:m.natAbs.log2<62:=(Nat.log2_lt (by omega)).mpr (by omega);omega
theorem uk:∀ds st K,aN ds st K->ds.length=2/\vi {nx:=fun _ st'=>K .ay st',rt:=K} (aJ iL ds) st:=by
 rintro ds st K ⟨n,m,rfl,⟨x,e,hx⟩,hm0,hm1,k⟩;refine⟨rfl,?_⟩;have hn:n<st.length:=(List.getElem?_eq_some_iff.mp e).1;have it:items? st (.ref n)=some [.int x]:=gG e;refine bV it oY (m5 (by omega) (bV it oY (vM (by omega) (zF hm0 hm1) (Ec e (by rfl) ?_))));refine k _ _ (Int.fmod_nonneg_of_pos _ hm0) (Int.fmod_lt_of_pos _ hm0) ⟨_,List.getElem?_set_self hn,?_⟩ Upd.set;rw[Int.fdiv_eq_ediv_of_nonneg _ (by omega)];exact Int.ediv_nonneg hx (by omega)
def Sm(x:Int):Prop:= -1000<=x/\x<=1000
def g4:cu:=fun ds st K=>∃(n:Nat) (kd:Int),ds=[.ref n,.int kd]/\Lf st n/\0<=kd/\kd<3/\∀r st',Sm r->Lf st' n->Upd st n st'->K (.int r) st'
def gJ:List Str:=["_law_left_here","_law_kind","_law_size"]
def u7:DS:=(aH (fj (bL (az gd (ah 1) (dC (.int 3)))) (bp (az bJ (az hJ (aC aN (ag (ah 0) (ag (az hJ (az cf (dC (.int 2)) (az o9 (dC (.int 10)) (dC (.int 12)))) (dC (.int 1))) ao))) (az o9 (dC (.int 10)) (dC (.int 12)))) (dC (.int 1)))) dm)
 (aH (fj (pD (bL (az gd (ah 1) (dC (.int 2)))) (bL (az gd (aC aN (ag (ah 0) (ag (dC (.int 2)) ao))) (dC (.int 0))))) (bp (az hJ (aC aN (ag (ah 0) (ag (dC (.int 1999)) ao))) (dC (.int 999)))) dm)
 (aH (bf 2 (az fC (fY (ag (dC (.int 3)) (ag (dC (.int 9)) (ag (dC (.int 1)) (ag (dC (.int 0)) (ag (dC (.int 4)) ao)))))) (ah 1)))
 (bp (az hJ (aC aN (ag (ah 0) (ag (az bJ (az cf (dC (.int 2)) (ah 2)) (dC (.int 1))) ao))) (ah 2))))))
theorem wD{st st1:aa}{n:Nat}{kd:Int}{K:DK}(L:Lf st1 n)(U:Upd st n st1)(h0:0<=kd)(h1:kd<3)(k:∀r st',Sm r->Lf st' n->Upd st n st'->K (.int r) st'):(aH (bf 2 (az fC (fY (ag (dC (.int 3)) (ag (dC (.int 9)) (ag (dC (.int 1)) (ag (dC (.int 0)) (ag (dC (.int 4)) ao)))))) (ah 1)))
 (bp (az hJ (aC aN (ag (ah 0) (ag (az bJ (az cf (dC (.int 2)) (ah 2)) (dC (.int 1))) ao))) (ah 2)))) {nx:=fun _ st'=>K .ay st',rt:=K} [some (.ref n),some (.int kd),none] st1:=by
 have e:kd=0\/kd=1\/kd=2\/kd=3\/kd=4:=by omega
 have fin:∀s:Int,0<=s->s<=9->(bp (az hJ (aC aN (ag (ah 0) (ag (az bJ (az cf (dC (.int 2)) (ah 2)) (dC (.int 1))) ao))) (ah 2))) {nx:=fun _ st'=>K .ay st',rt:=K} [some (.ref n),some (.int kd),some (.int s)] st1:=fun s s0 s1=>by
  refine eH (gH (by decide) (by decide)) (cV ?_);exact⟨n,_,rfl,L,by omega,by omega,fun r st2 a1 a2 L2 U2=>jT (k _ _ ⟨by omega,by omega⟩ L2 (U.trans U2))⟩
 refine⟨Nat.le_of_ble_eq_true rfl,?_⟩;rcases e with rfl|rfl|rfl|rfl|rfl
 . exact bV rfl rfl (fin 3 (by decide) (by decide))
 . exact bV rfl rfl (fin 9 (by decide) (by decide))
 . exact bV rfl rfl (fin 1 (by decide) (by decide))
 . exact bV rfl rfl (fin 0 (by decide) (by decide))
 . exact bV rfl rfl (fin 4 (by decide) (by decide))
theorem sJ:∀ds st K,g4 ds st K->ds.length=2/\u7 {nx:=fun _ st'=>K .ay st',rt:=K} (aJ gJ ds) st:=by
 rintro ds st K ⟨n,kd,rfl,L,k0,k1,k⟩;refine⟨rfl,?_⟩;refine eq2 (fun h=>ia ?_) fun h=>?_
 . refine t9 ⟨by decide,by decide,by decide⟩ (eH (gH (by decide) (by decide)) (jT ?_));refine⟨n,_,rfl,L,by decide,by decide,fun r st2 c1 c2 L2 U2=>t9 ⟨by decide,by decide,by decide⟩ (jT (cV ?_))⟩;have e:(10:Int)^(12:Int).toNat=1000000000000:=by decide
   rw[e]at c2⊢;exact k _ _ ⟨by omega,by omega⟩ L2 U2
 . refine eq2 (fun h2=>ia ?_) fun h2=>wD L Upd.refl k0 k1 k;refine⟨n,2,rfl,L,by decide,by decide,fun r st2 c1 c2 L2 U2=>?_⟩;refine eq2 (fun h3=>ia ?_) fun h3=>wD L2 U2 k0 k1 k;exact⟨n,1999,rfl,L2,by decide,by decide,fun r st3 d1 d2 L3 U3=>jT (k _ _ ⟨by omega,by omega⟩ L3 (U2.trans U3))⟩
def HW(A:List (List Int)):Prop:=∀r∈A,∀x∈r,Sm x
def jq:cu:=fun ds st K=>∃(n m w:Nat) (kd:Int),ds=[.ref n,.int m,.int w,.int kd]/\Lf st n/\m<=8/\w<=8/\0<=kd/\kd<3/\∀A st',Mx.eQ m w A->HW A->Lf st' n->Upd st n st'->K (cZ A) st'
def jo:List Str:=["_law_left_here","_law_many","_law_wide","_law_kind"]
def wL:DS:=(bp (bD bW (ag (cA (eF (ag (ah 1) ao)) [none,some 2,some 0,some 3] (bC 0) bK (bD bW (ag (cA (eF (ag (ah 1) ao)) [none,some 2,some 3] (bC 0) bK (aC g4 (ag (ah 1) (ag (ah 2) ao)))) ao))) ao)))
theorem AW{n w:Nat}{kd:Int}{σc:aR}{st:aa}{te:DE}{K:List D->aa->Prop}(ei:∀(x:D) (st':aa) (K':DK),g4 [.ref n,.int kd] st' K'->te (σc.set 0 (some x)) st' K')(L:Lf st n)(k0:0<=kd)(k1:kd<3)(hs:(fun(x:D)=>bC 0 x σc)=fun x=>some (σc.set 0 (some x)))
 (k:∀r st',r.length=w->(∀x∈r,Sm x)->Lf st' n->Upd st n st'->K (av r) st'):
 bU (bC 0) bK te (fun _=>True) σc (cw 0 w) [] st K:=by
 refine h7 (fun rest acc st'=>∃r:List Int,acc=av r/\r.length+rest.length=w/\(∀x∈r,Sm x)/\Lf st' n/\Upd st n st') ?_ ?_ _ _ _ ⟨[],rfl,by rw[dk];simp,by simp,L,Upd.refl⟩
 . rintro acc st' ⟨r,rfl,hl,hr,B',U⟩;have hl:r.length=w:=by simpa using hl
   exact⟨trivial,k r st' hl hr B' U⟩
 . rintro x rest acc st' ⟨r,rfl,hl,hr,B',U⟩ next
   have hl2:r.length<w:=by simp at hl;omega
   refine⟨trivial,_,congrFun hs x,?_⟩;refine ei x st' _ ⟨n,kd,rfl,B',k0,k1,fun y st2 a B2 U2=>?_⟩;show bU _ _ _ _ _ _ _ _ _;rw[ints_app];refine next _ _ ⟨r++[y],rfl,by simp at hl⊢;omega,fun z hz=>?_,B2,U.trans U2⟩
   rcases List.mem_append.mp hz with h|h
   . exact hr z h
   . have:z=y:=by simpa using h
     subst this;exact a
theorem vf:∀ds st K,jq ds st K->ds.length=4/\wL {nx:=fun _ st'=>K .ay st',rt:=K} (aJ jo ds) st:=by
 rintro ds st K ⟨n,m,w,kd,rfl,B,hm,hw,k0,k1,k⟩;refine⟨rfl,?_⟩;refine hW ⟨by omega,by omega⟩ ⟨bG (by rw[dk];omega),?_⟩;rw[Int.toNat_natCast];refine h7 (fun rest acc st'=>∃A:List (List Int),acc=A.map bz/\A.length+rest.length=m/\(∀r∈A,r.length=w)/\HW A/\Lf st' n/\Upd st n st') ?_ ?_ _ _ _ ⟨[],rfl,by rw[dk];simp,by simp,fun _ h=>by simp at h,B,Upd.refl⟩
 . rintro acc st' ⟨A,rfl,hl,hA,hBd,B',U⟩;have hl:A.length=m:=by simpa using hl
   exact⟨trivial,cO rfl (k A st' ⟨hl,hA⟩ hBd B' U)⟩
 . rintro x rest acc st' ⟨A,rfl,hl,hA,hBd,B',U⟩ next
   have hl2:A.length<m:=by simp at hl;omega
   refine⟨trivial,_,rfl,?_⟩;refine hW ⟨by omega,by omega⟩ ⟨bG (by rw[dk];omega),?_⟩;rw[Int.toNat_natCast];refine AW (n:=n) (kd:=kd) (fun x st' K' h=>h) B' k0 k1 rfl fun r st2 hr1 hr2 B2 U2=>?_;refine cO rfl ?_;show bU _ _ _ _ _ _ _ _ _;rw[Ao];refine next _ _ ⟨A++[r],rfl,by simp at hl⊢;omega,fun q hq=>?_,fun q hq=>?_,B2,U.trans U2⟩
   . rcases List.mem_append.mp hq with h|h
     . exact hA q h
     . have:q=r:=by simpa using h
       subst this;exact hr1
   . rcases List.mem_append.mp hq with h|h
     . exact hBd q h
     . have:q=r:=by simpa using h
       subst this;exact hr2
def lp:cu:=fun ds st K=>∃(n:Nat),ds=[.int n]/\n<=1000/\K (cZ (Mx.units n)) st
def jr:List Str:=["_law_n"]
def wQ:DS:=(bp (bD bW (ag (cA (eF (ag (ah 0) ao)) [none,some 0] (bC 0) bK (bD bW (ag (cA (eF (ag (ah 1) ao)) [none,some 0] (bC 0) bK (bD uy (ag (az gd (ah 1) (ah 0)) ao))) ao))) ao)))
theorem vC:∀ds st K,lp ds st K->ds.length=1/\wQ {nx:=fun _ st'=>K .ay st',rt:=K} (aJ jr ds) st:=by
 rintro ds st K ⟨n,rfl,hn,k⟩;refine⟨rfl,?_⟩;refine hW ⟨by omega,by omega⟩ ⟨bG (by rw[dk];omega),?_⟩;rw[Int.toNat_natCast];refine jt (fun i=>bz (Mx.dQ n i)) n (fun i hi K' q=>⟨_,rfl,?_⟩) ?_
 . refine hW ⟨by omega,by omega⟩ ⟨bG (by rw[dk];omega),?_⟩;rw[Int.toNat_natCast];refine jt (fun j=> .int (Mx.dl j i)) n (fun j hj K' q=>⟨_,rfl,?_⟩) ?_
   . refine eq2 (fun h=>wG ?_) fun h=>wG ?_
     . have:i=j:=by omega
       subst this;rw[Mx.fI]at q;exact q
     . rw[Mx.gQ (by omega)]at q;exact q
   . have:(List.range n).map (fun j=>D.int (Mx.dl j i))=av (Mx.dQ n i):=by unfold Mx.dQ av;rw[List.map_map];rfl
     rw[this];exact cO rfl q
 have:(List.range n).map (fun i=>bz (Mx.dQ n i))=(Mx.units n).map bz:=by unfold Mx.units;rw[List.map_map];rfl
 rw[this];exact cO rfl k
structure Fl(A:List (List Int))(N w:Nat):Prop where
 st:St A N w
 n1:1<=N
 w1:1<=w
 w8:w<=8
 bd:∀r∈A,∀x∈r,x.natAbs<=2^20
 z:Mx.D N (Mx.bI A)=0
theorem St.of{A:List (List Int)}{N w:Nat}(hA:Mx.eQ N w A)(n8:N<=8)(w8:w<=8)(bd:∀r∈A,∀x∈r,x.natAbs<=2^20):St A N w:=by
 have ge:∀i c,i<N->c<w->(Mx.g A i c).natAbs<=2^20:=fun i c hi hc=>by
  have lA:=hA.len;have hm:A.getD i []∈A:=by rw[Mx.aP (by omega)];exact List.getElem_mem _
  exact bd _ hm _ (getD_mem (by rw[hA.gg _ hm];exact hc))
 refine⟨hA,by omega,fun r hr x hx=>Nat.lt_of_le_of_lt (bd r hr x hx) (by decide),n8,fun r c hr hc=>?_,Mx.Ai A⟩;rw[Mx.tT hA hr hc];refine Nat.le_trans (Mx.x6 (m:=2^20*2^20) fun q hq=>?_) (Nat.le_trans (Nat.mul_le_mul_right _ w8) (by decide));rw[Int.natAbs_mul];exact Nat.mul_le_mul (ge r q hr hq) (ge c q hc hq)
def h_:cu:=fun ds st K=>∃(n:Nat),ds=[.ref n]/\Lf st n/\∀A N w st',Fl A N w->Upd st n st'->K (cZ A) st'
def fO:List Str:=["_law_left_here","_law_many","_law_wide","_law_kind","_law_some","_law_often","_law_weights","_law_made","_law_weight","_law_row","_law_least","_law_way","_law_at_here"]
def qX:DS:=(aH (fj (bL (az gd (aC aN (ag (ah 0) (ag (dC (.int 8)) ao))) (dC (.int 4)))) (bp (lH (ag (az cf (lH (ag (dC (.int 0)) ao)) (az bJ (dC (.int 1)) (aC aN (ag (ah 0) (ag (dC (.int 8)) ao))))) ao))) dm)
 (aH (bf 1 (az bJ (dC (.int 1)) (aC aN (ag (ah 0) (ag (dC (.int 3)) ao)))))
 (aH (fj (bL (az gd (aC aN (ag (ah 0) (ag (dC (.int 8)) ao))) (dC (.int 7)))) (bf 1 (az bJ (dC (.int 6)) (az ib (ah 1) (dC (.int 2))))) dm)
 (aH (bf 2 (bD tK (ag (dC (.int 8)) (ag (az bJ (ah 1) (aC aN (ag (ah 0) (ag (dC (.int 3)) ao)))) ao))))
 (aH (bf 3 (aC aN (ag (ah 0) (ag (dC (.int 3)) ao))))
 (aH (fj (bL (az gd (aC aN (ag (ah 0) (ag (dC (.int 6)) ao))) (dC (.int 5)))) (bp (aC jq (ag (ah 0) (ag (az bJ (ah 1) (dC (.int 1))) (ag (bD uZ (ag (dC (.int 1)) (ag (az hJ (ah 1) (aC aN (ag (ah 0) (ag (dC (.int 2)) ao)))) ao))) (ag (ah 3) ao)))))) dm)
 (aH (bf 4 (aC jq (ag (ah 0) (ag (ah 1) (ag (ah 2) (ag (ah 3) ao))))))
 (aH (bf 5 (az bJ (dC (.int 1)) (aC aN (ag (ah 0) (ag (dC (.int 3)) ao)))))
 (aH (bf 6 (cA (dJ (ah 4)) [none,some 0] (bC 0) bK (az hJ (aC aN (ag (ah 1) (ag (dC (.int 5)) ao))) (dC (.int 2)))))
 (aH (bf 7 (az cf (fY (ag (dC (.int 0)) ao)) (ah 2)))
 (aH (jY (nC (ag (ah 6) (ag (ah 4) ao))) (gN 8 9) (bf 7 (cA (nC (ag (ah 7) (ag (ah 9) ao))) [none,none,some 8] (gN 0 1) bK (az bJ (ah 0) (az cf (ah 2) (ah 1))))))
 (aH (bf 10 (cA (dJ (az fC (ah 4) (dC (.int 0)))) [none,some 5] (bC 0) bK (az cf (ah 0) (ah 1))))
 (aH (bf 11 (aC aN (ag (ah 0) (ag (dC (.int 6)) ao))))
 (aH (bf 9 (az fC (fY (ag (az cf (fY (ag (dC (.int 0)) ao)) (ah 2)) (ag (az fC (ah 4) (nD ip (dC (.int 1)))) (ag (cA (dJ (ah 10)) [none] (bC 0) bK (nD ip (ah 0))) (ag (ah 7) (ag (ah 7) (ag (ah 7) ao))))))) (ah 11)))
 (aH (bf 4 (az bJ (fY (ag (bD bW (ag (ah 10) ao)) ao)) (bD fV (ag (dD (ah 4) (eC (dC (.int 1))) cY) ao))))
 (aH (bf 12 (aC aN (ag (ah 0) (ag (az bJ (ah 1) (dC (.int 1))) ao))))
 (bp (bD bW (ag (az bJ (az bJ (dD (ah 4) cY (eC (ah 12))) (fY (ag (bD bW (ag (ah 9) ao)) ao))) (dD (ah 4) (eC (ah 12)) cY)) ao)))))))))))))))))))
theorem FV{xs:List D}{j:Nat}:L3.cutD xs none (some (j:Int))=xs.take j:=by
 unfold L3.cutD;rw[HT.vY,HT.pf,List.drop_zero,Nat.sub_zero];by_cases h:j<=xs.length
 . rw[Nat.min_eq_left h]
 . rw[Nat.min_eq_right (by omega),List.take_length,List.take_of_length_le (by omega)]
theorem t6{xs:List D}{j:Nat}:L3.cutD xs (some (j:Int)) none=xs.drop j:=by
 unfold L3.cutD;rw[HT.vY,HT.pf];by_cases h:j<=xs.length
 . rw[Nat.min_eq_left h,List.take_of_length_le (by rw[List.length_drop];omega)]
 . rw[Nat.min_eq_right (by omega),List.drop_of_length_le (Nat.le_refl _),List.drop_of_length_le (by omega)];simp
theorem C9{A:List (List Int)}{k:Nat}(h:k<A.length):dY (A.map bz) (k:Int)=some (bz (A.getD k [])):=by
 refine kQ ?_;rw[List.getElem?_map,List.getElem?_eq_getElem h,Mx.aP h];rfl
theorem Aj{A:List (List Int)}{n:Nat}(h:A.length=n+1):dY (A.map bz) (-1)=some (bz (A.getD n [])):=by
 have e:km (n+1) (-1)=some n:=by unfold km;simp;omega
 unfold dY;rw[List.length_map,h,e];show(A.map bz)[n]?=_;rw[List.getElem?_map,List.getElem?_eq_getElem (by omega),Mx.aP (by omega)];rfl
theorem DH{B:List (List Int)}{r:List Int}{m w k:Nat}{y:Nat->Int}{t:Int}(hB:Mx.eQ m w B)(hr:r.length=w)(hk:k<=m)(m7:m<=7)(w1:1<=w)(w8:w<=8)(bB:∀q∈B,∀x∈q,x.natAbs<=2^20)(br:∀x∈r,x.natAbs<=2^20)(ht:t≠0)(h:∀c,c<w->t*r.getD c 0=Mx.S m fun i=>y i*Mx.g B i c):Fl (B.take k++r::B.drop k) (m+1) w:=by
 obtain⟨is,z⟩:=Mx.zX hB hr hk ht h
 have bd:∀q∈B.take k++r::B.drop k,∀x∈q,x.natAbs<=2^20:=fun q hq x hx=>by
  rcases List.mem_append.mp hq with z|z
  . exact bB q (List.mem_of_mem_take z) x hx
  . rcases List.mem_cons.mp z with rfl|z
    . exact br x hx
    . exact bB q (List.mem_of_mem_drop z) x hx
 exact⟨St.of is (by omega) w8 bd,by omega,w1,w8,bd,z⟩
theorem jh{n j:Nat}{x:Int}{f:Nat->Int}(hj:j<n):Mx.S n (fun i=>(if i=j then x else 0)*f i)=x*f j:=by
 have e:Mx.S n (fun i=>(if i=j then x else 0)*f i)=x*Mx.S n fun i=>Mx.dl j i*f i:=by
  rw[<-Mx.fo];refine Mx.bb fun i _=>?_;by_cases h:i=j
  . subst h;rw[if_pos rfl,Mx.fI,Int.one_mul]
  . rw[if_neg h,Mx.gQ (Ne.symm h),Int.zero_mul,Int.mul_zero]
 rw[e,Mx.t4 hj f]
theorem qz:∀ds st K,h_ ds st K->ds.length=1/\qX {nx:=fun _ st'=>K .ay st',rt:=K} (aJ fO ds) st:=by
 rintro ds st K ⟨n,rfl,L,k⟩;refine⟨rfl,?_⟩;refine⟨n,8,rfl,L,by decide,by decide,fun r1 st1 a0 a1 L1 U1=>?_⟩;refine eq2 (fun h=>ia ?_) fun h=>?_
 . refine BB (Nat.le_of_ble_eq_true rfl) ⟨n,8,rfl,L1,by decide,by decide,fun r2 st2 b0 b1 L2 U2=>cV (Dz ⟨by omega,by omega,bG (by simp;omega)⟩ ?_)⟩;obtain⟨v,rfl⟩:=Int.eq_ofNat_of_zero_le b0;rw[show(1+(v:Int)).toNat=1+v by omega,lD];refine⟨Nat.le_of_ble_eq_true rfl,?_⟩;have is:Mx.eQ 1 (1+v) [List.replicate (1+v) 0]:=⟨rfl,fun r hr=>by rw[List.mem_singleton.mp hr,List.length_replicate]⟩
   have bd:∀r∈[List.replicate (1+v) (0:Int)],∀x∈r,x.natAbs<=2^20:=fun r hr x hx=>by
    rw[List.mem_singleton.mp hr]at hx;rw[List.eq_of_mem_replicate hx];exact Nat.zero_le _
   refine k [List.replicate (1+v) 0] 1 (1+v) st2 ⟨St.of is (by decide) (by omega) bd,Nat.le_refl _,by omega,by omega,bd,?_⟩ (U1.trans U2);refine Mx.uj (z:=fun _=>1) is (j:=0) (by decide) (by decide) fun c hc=>Mx.iY fun q hq=>?_;have:q=0:=by omega
   subst this;rw[Int.one_mul];exact Mx.cJ _ _
 refine⟨n,3,rfl,L1,by decide,by decide,fun r2 st2 b0 b1 L2 U2=>cV ?_⟩;dsimp only;refine vL (A:=fj _ _ _) (fun σ st'=>∃m:Nat,σ=[some (.ref n),some (.int m),none,none,none,none,none,none,none,none,none,none,none]/\1<=m/\m<=7/\Lf st' n/\Upd st n st') (fun nx hnx=>?_) ?_
 . refine⟨n,8,rfl,L2,by decide,by decide,fun r3 st3 c0 c1 L3 U3=>?_⟩;have U:=(U1.trans U2).trans U3;refine eq2 (fun h=>ia (m5 (by decide) (cV ?_))) fun h=>?_
   . have h1:=Int.fmod_nonneg_of_pos (1+r2) (show(0:Int)<2 by decide);have h2:=Int.fmod_lt_of_pos (1+r2) (show(0:Int)<2 by decide);obtain⟨v,hv⟩:=Int.eq_ofNat_of_zero_le h1;rw[hv];exact hnx _ _ ⟨6+v,rfl,by omega,by omega,L3,U⟩
   . obtain⟨v,rfl⟩:=Int.eq_ofNat_of_zero_le b0;exact hnx _ _ ⟨1+v,rfl,by omega,by omega,L3,U⟩
 clear h a0 a1 b0 b1 L1 L2 U1 U2;rintro _ st3 ⟨m,rfl,m1,m7,L3,U3⟩;refine⟨n,3,rfl,L3,by decide,by decide,fun r4 st4 a0 a1 L4 U4=>cV (Eo ?_)⟩
 obtain⟨w,ew,w1,w8⟩:∃w:Nat,(if(m:Int)+r4<8 then(m:Int)+r4 else 8)=(w:Int)/\1<=w/\w<=8:=by
  split
  . exact⟨((m:Int)+r4).toNat,by omega,by omega,by omega⟩
  . exact⟨8,rfl,by decide,by decide⟩
 rw[ew];refine⟨n,3,rfl,L4,by decide,by decide,fun kd st5 k0 k1 L5 U5=>?_⟩;refine⟨n,6,rfl,L5,by decide,by decide,fun r6 st6 c0 c1 L6 U6=>?_⟩;have U:=(U3.trans U4).trans (U5.trans U6)
 have up:∀ {x:Int},Sm x->x.natAbs<=2^20:=fun h=>by
  have h1:=h.1;have h2:=h.2;omega
 refine eq2 (fun h=>ia ?_) fun h=>?_
 . refine cV ⟨n,2,rfl,L6,by decide,by decide,fun r7 st7 d0 d1 L7 U7=>jT (Fg ?_)⟩
   obtain⟨v,ev,v1,v7⟩:∃v:Nat,(if(m:Int)-r7>1 then(m:Int)-r7 else 1)=(v:Int)/\1<=v/\v<=m:=by
    split
    . exact⟨((m:Int)-r7).toNat,by omega,by omega,by omega⟩
    . exact⟨1,rfl,by decide,by omega⟩
   rw[ev];refine⟨n,m+1,v,kd,rfl,L7,by omega,by omega,k0,k1,fun A st8 hA bA L8 U8=>?_⟩;have bd:∀r∈A,∀x∈r,x.natAbs<=2^20:=fun r hr x hx=>up (bA r hr x hx);exact k A (m+1) v st8 ⟨St.of hA (by omega) (by omega) bd,by omega,v1,by omega,bd,Mx.yz hA (by omega)⟩ (U.trans (U7.trans U8))
 clear L3 U3 L4 U4 L5 U5 U6;refine⟨n,m,w,kd,rfl,L6,by omega,w8,k0,k1,fun A st7 hA bA L7 U7=>?_⟩;have lA:=hA.len;refine⟨n,3,rfl,L7,by decide,by decide,fun r8 st8 d0 d1 L8 U8=>cV ?_⟩;obtain⟨o',rfl⟩:=Int.eq_ofNat_of_zero_le d0;have eo:(1:Int)+(o':Int)=((1+o':Nat):Int):=rfl;rw[eo];obtain⟨o,ho⟩:∃o,1+o'=o:=⟨_,rfl⟩
 rw[ho];have o1:1<=o:=by omega
 have o3:o<=3:=by omega
 clear ho eo d0 d1;refine hZ ⟨bG (by rw[List.length_map];omega),?_⟩;refine h7 (fun rest acc st'=>∃ws:List Int,acc=av ws/\ws.length+rest.length=m/\(∀x∈ws,x.natAbs<=2)/\Lf st' n/\Upd st8 n st') ?_ ?_ _ _ _ ⟨[],rfl,by rw[List.length_map];simpa using lA,by simp,L8,Upd.refl⟩;rotate_left 1
 . rintro d rest acc st' ⟨ws,rfl,hl,h2,L',U'⟩ next
   refine⟨trivial,_,rfl,n,5,rfl,L',by decide,by decide,fun x st9 x0 x1 L9 U9=>jT ?_⟩;show bU _ _ _ _ _ _ _ _ _;rw[ints_app];refine next _ _ ⟨ws++[x-2],rfl,by simp at hl⊢;omega,fun z hz=>?_,L9,U'.trans U9⟩
   rcases List.mem_append.mp hz with hz|hz
   . exact h2 z hz
   . rw[List.mem_singleton.mp hz];omega
 rintro acc st9 ⟨ws,rfl,hl,h2,L9,U9⟩;have lw:ws.length=m:=by simpa using hl
 refine⟨trivial,?_⟩;have U9':Upd st n st9:=(U.trans U7).trans (U8.trans U9);clear U U7 U8 U9 L6 L7 L8 hl;dsimp only;refine BB (Nat.le_of_ble_eq_true rfl) (qM ⟨by omega,by omega,bG (by simp;omega)⟩ ?_);rw[Int.toNat_natCast,lD];dsimp only;refine vL (A:=jY _ _ _) (fun σ st'=>∃v8 v9:Option D,σ=[some (.ref n),some (.int m),some (.int w),some (.int kd),some (cZ A),some (.int o),some (bc ws),some (bc (Mx.ck ws A (List.replicate w 0))),v8,v9,none,none,none]/\st'=st9) (fun nx hnx=>?_) ?_
 . refine kO rfl rfl fun ok aw=>?_
   refine gA (fun rest σ st'=>∃(v8 v9:Option D) (ws':List Int) (ds':List D) (A':List (List Int)) (acc:List Int),st9=st'/\rest=dN (av ws') ds'/\aY st9 ds' A'/\σ=[some (.ref n),some (.int m),some (.int w),some (.int kd),some (cZ A),some (.int o),some (bc ws),some (bc acc),v8,v9,none,none,none]/\acc.length=w/\(∀r∈A',r∈A)/\(∀x∈ws',x∈ws)/\Mx.ck ws' A' acc=Mx.ck ws A (List.replicate w 0)) ?_ ?_ _ _ _
    ⟨none,none,ws,A.map bz,A,List.replicate w 0,rfl,rfl,aY.tup,rfl,by simp,fun _ h=>h,fun _ h=>h,rfl⟩
   . rintro σ st' ⟨v8,v9,ws',ds',A',acc,rfl,he,hr',rfl,hl,_,_,hs⟩;refine⟨aw _ rfl rfl,?_⟩
     have:Mx.ck ws' A' acc=acc:=by
      match ws',ds',A',hr',he with
      | [],_,_,_,_=>unfold Mx.ck;rfl
      |_::_,[],[],_,_=>unfold Mx.ck;rfl
      |_::_,_::_,_::_,_,he=>cases he
     rw[this]at hs;rw[hs];exact hnx _ _ ⟨_,_,rfl,rfl⟩
   . rintro d rest σ st' ⟨v8,v9,ws',ds',A',acc,rfl,he,hr',rfl,hl,ha,hw',hs⟩ next
     match ws',ds',A',hr',he with
     |x::ws',e::ds',r::A',hr',he=>
      simp only[av,List.map_cons,rW,List.cons.injEq]at he;obtain⟨rfl,rfl⟩:=he;refine⟨aw _ rfl rfl,_,rfl,?_⟩;have hrl:=hA.gg r (ha r List.mem_cons_self);have hx2:=h2 x (hw' x List.mem_cons_self);have e1:items? st9 (bc acc)=some (av acc):=rfl;refine kO e1 hr'.1 fun ok2 hok2=>⟨bG (by rw[lX];simp;omega),?_⟩
      refine comp_map (g:=fun d=>match d with| .tup [.int a,.int b]=> .int (a+x*b)|_=> .ay) (hok2 st9 e1 hr'.1) _ (fun d hd K' q=>?_) ?_
      . obtain⟨a,b,_,hb,rfl⟩:=oX hd;exact⟨_,rfl,eH (gH (by omega) (by omega)) (cV q)⟩
      have ea:(dN (av acc) (av r)).map (fun d=>match d with| .tup [.int a,.int b]=> .int (a+x*b)|_=> .ay)=av (Mx.jJ acc x r):=mI acc r;rw[ea];refine next _ _ ⟨_,_,ws',ds',A',Mx.jJ acc x r,rfl,rfl,hr'.2,rfl,by rw[Mx.l6 (by omega)];exact hl,fun q hq=>ha q (List.mem_cons_of_mem _ hq),fun q hq=>hw' q (List.mem_cons_of_mem _ hq),?_⟩
      rw[<-hs];rfl
     | [],_,_,_,he=>cases he
     |_::_,[],[],_,he=>cases he
 rintro _ st9 ⟨v8,v9,rfl,rfl⟩;have lM:(Mx.ck ws A (List.replicate w 0)).length=w:=Mx.mG (by simp) hA.gg
 have atM:∀c,(Mx.ck ws A (List.replicate w 0)).getD c 0=Mx.S m fun i=>ws.getD i 0*Mx.g A i c:=fun c=>by
  rw[Mx.o5 (n:=w) c (by simp) hA.gg (by omega),Mx.cJ,Int.zero_add,lA]
 generalize Mx.ck ws A (List.replicate w 0)=M at lM atM;have r0:=hA.row (i:=0) m1;refine bV rfl (show dY (A.map bz) 0=some (bz (A.getD 0 []))from C9 (k:=0) (by omega)) (hZ ⟨bG (by rw[List.length_map];omega),?_⟩);refine comp_map (g:=fun d=>match d with| .int x=> .int (x*(o:Int))|_=> .ay) trivial _ (fun d hd K' q=>?_) ?_
 . obtain⟨x,_,rfl⟩:=List.mem_map.mp hd;exact⟨_,rfl,eH (qH (by omega) (by omega)) q⟩
 have ea:(av (A.getD 0 [])).map (fun d=>match d with| .int x=> .int (x*(o:Int))|_=> .ay)=av ((A.getD 0 []).map fun x=>x*(o:Int)):=by unfold av;rw[List.map_map,List.map_map];rfl
 rw[ea];have lE:((A.getD 0 []).map fun x=>x*(o:Int)).length=w:=by rw[List.length_map];exact r0
 have m0:A.getD 0 []∈A:=by rw[Mx.aP (by omega)];exact List.getElem_mem _
 have bE:∀y∈(A.getD 0 []).map fun x=>x*(o:Int),y.natAbs<=3000:=fun y hy=>by
  obtain⟨x,hx,rfl⟩:=List.mem_map.mp hy;have h1:=bA _ m0 x hx;have:=h1.1;have:=h1.2;rw[Int.natAbs_mul];exact Nat.mul_le_mul (show x.natAbs<=1000 by omega) (show((o:Nat):Int).natAbs<=3 by omega)
 have atE:∀c,((A.getD 0 []).map fun x=>x*(o:Int)).getD c 0=(o:Int)*Mx.g A 0 c:=fun c=>by
  unfold Mx.g;rw[List.getD_eq_getElem?_getD,List.getElem?_map,List.getD_eq_getElem?_getD (l:=A.getD 0 [])];cases (A.getD 0 [])[c]? with
  |none=>exact(Int.mul_zero _).symm
  |some y=>exact Int.mul_comm _ _
 generalize(A.getD 0 []).map (fun x=>x*(o:Int))=E at lE bE atE;refine⟨n,6,rfl,L9,by decide,by decide,fun way sta y0 y1 La Ua=>?_⟩;have Ub:=U9'.trans Ua;clear Ua U9' L9;refine BB (Nat.le_of_ble_eq_true rfl) (qM ⟨by omega,by omega,bG (by simp;omega)⟩ ?_);rw[Int.toNat_natCast,lD];obtain⟨p,rfl⟩:∃p,m=p+1:=⟨m-1,by omega⟩
 refine i5 (bV rfl (Aj lA) (rm ⟨bG (by rw[List.length_map];omega),?_⟩));refine comp_map (g:=fun d=>match d with| .int x=> .int (-x)|_=> .ay) trivial _ (fun d hd K' q=>?_) ?_
 . obtain⟨x,_,rfl⟩:=List.mem_map.mp hd;exact⟨_,rfl,i5 q⟩
 have en:(av E).map (fun d=>match d with| .int x=> .int (-x)|_=> .ay)=av (E.map fun x=> -x):=by unfold av;rw[List.map_map,List.map_map];rfl
 rw[en];refine⟨Nat.le_of_ble_eq_true rfl,?_⟩;have tl:=hA.gg
 have iB:Mx.eQ (p+1) w (E::A.drop 1):=⟨by simp;omega,fun q hq=>by
  rcases List.mem_cons.mp hq with rfl|hq
  . exact lE
  . exact tl q (List.mem_of_mem_drop hq)⟩
 have gB:∀i c,Mx.g (E::A.drop 1) i c=if i=0 then(o:Int)*Mx.g A 0 c else Mx.g A i c:=fun i c=>by
  cases i with
  |zero=>exact atE c
  |succ i=>
   rw[if_neg (Nat.succ_ne_zero i)];unfold Mx.g
   have:(E::A.drop 1).getD (i+1) []=A.getD (i+1) []:=by
    rw[List.getD_eq_getElem?_getD,List.getElem?_cons_succ,List.getElem?_drop,List.getD_eq_getElem?_getD,Nat.add_comm]
   rw[this]
 have bB:∀q∈E::A.drop 1,∀x∈q,x.natAbs<=2^20:=fun q hq x hx=>by
  rcases List.mem_cons.mp hq with rfl|hq
  . exact Nat.le_trans (bE x hx) (by decide)
  . exact up (bA q (List.mem_of_mem_drop hq) x hx)
 have fin:∀(d:D) (R:List Int) (y:Nat->Int) (t:Int),items? sta d=some (av R)->(∀s,items? s d=items? sta d)->R.length=w->(∀x∈R,x.natAbs<=2^20)->t≠0->(∀c,c<w->t*R.getD c 0=Mx.S (p+1) fun i=>y i*Mx.g (E::A.drop 1) i c)->
  (aH (bf 4 (az bJ (fY (ag (bD bW (ag (ah 10) ao)) ao)) (bD fV (ag (dD (ah 4) (eC (dC (.int 1))) cY) ao)))) (aH (bf 12 (aC aN (ag (ah 0) (ag (az bJ (ah 1) (dC (.int 1))) ao)))) (bp (bD bW (ag (az bJ (az bJ (dD (ah 4) cY (eC (ah 12))) (fY (ag (bD bW (ag (ah 9) ao)) ao))) (dD (ah 4) (eC (ah 12)) cY)) ao))))) {nx:=fun _ st'=>K .ay st',rt:=K} [some (.ref n),some (.int ((p+1:Nat):Int)),some (.int w),some (.int kd),some (cZ A),some (.int o),some (bc ws),some (bc M),v8,some d,some (bc E),some (.int way),none] sta:=by
  intro d R y t hd hd' lR bR ht hy;refine cO rfl ⟨Nat.le_of_ble_eq_true rfl,ky ?_⟩;rw[show(1:Int)=((1:Nat):Int)from rfl,t6,<-List.map_drop];refine iy rfl (rg (bG (by rw[List.length_map,List.length_drop];simp;omega)) ?_);have e1: [bz E]++(A.drop 1).map bz=(E::A.drop 1).map bz:=rfl;rw[e1];have lB:=iB.len;generalize E::A.drop 1=B at iB bB hy lB;refine cV ⟨n,_,rfl,La,by omega,by omega,fun at_ stb z0 z1 Lb Uc=>?_⟩;obtain⟨j,rfl⟩:=Int.eq_ofNat_of_zero_le z0;refine nq ?_;rw[FV,<-List.map_take];refine cO ((hd' stb).trans hd) ⟨Nat.le_of_ble_eq_true rfl,rg (bG (by rw[List.length_map,List.length_take];simp;omega)) (nq ?_)⟩;rw[t6,<-List.map_drop];refine rg (bG (by rw[List.length_append,List.length_map,List.length_map,List.length_take,List.length_drop];simp;omega)) ?_;have e2:(B.take j).map bz++[bz R]++(B.drop j).map bz=(B.take j++R::B.drop j).map bz:=by rw[List.map_append,List.append_assoc];rfl
  rw[e2];exact cO rfl (k _ (p+1+1) w stb (DH iB lR (by omega) m7 w1 w8 bB bR ht hy) (Ub.trans Uc))
 have zero:∀c:Nat,(List.replicate w (0:Int)).getD c 0=0:=fun c=>Mx.cJ _ _;have io:((o:Nat):Int)≠0:=by omega
 have goM:(aH (bf 4 (az bJ (fY (ag (bD bW (ag (ah 10) ao)) ao)) (bD fV (ag (dD (ah 4) (eC (dC (.int 1))) cY) ao)))) (aH (bf 12 (aC aN (ag (ah 0) (ag (az bJ (ah 1) (dC (.int 1))) ao)))) (bp (bD bW (ag (az bJ (az bJ (dD (ah 4) cY (eC (ah 12))) (fY (ag (bD bW (ag (ah 9) ao)) ao))) (dD (ah 4) (eC (ah 12)) cY)) ao))))) {nx:=fun _ st'=>K .ay st',rt:=K} [some (.ref n),some (.int ((p+1:Nat):Int)),some (.int w),some (.int kd),some (cZ A),some (.int o),some (bc ws),some (bc M),v8,some (bc M),some (bc E),some (.int way),none] sta:=by
  refine fin _ M (fun i=>if i=0 then ws.getD 0 0 else(o:Int)*ws.getD i 0) o rfl (fun _=>rfl) lM (fun x hx=>?_) io fun c hc=>?_
  . obtain⟨c,hc,rfl⟩:=List.mem_iff_getElem.mp hx;have e:=atM c;rw[Mx.aP hc]at e;rw[e];refine Nat.le_trans (Mx.x6 (m:=2*1000) fun i hi=>?_) (Nat.le_trans (Nat.mul_le_mul_right _ m7) (by decide));rw[Int.natAbs_mul];have hm:A.getD i []∈A:=by rw[Mx.aP (by omega)];exact List.getElem_mem _
    refine Nat.mul_le_mul (h2 _ (getD_mem (by omega))) ?_;have h1:=bA _ hm _ (getD_mem (r:=A.getD i []) (k:=c) (by rw[tl _ hm];omega));have:=h1.1;have:=h1.2;unfold Mx.g;omega
  . rw[atM,<-Mx.fo];refine Mx.bb fun i hi=>?_;rw[gB];by_cases h:i=0
    . subst h;rw[if_pos rfl,if_pos rfl];exact Int.mul_left_comm _ _ _
    . rw[if_neg h,if_neg h];exact(Int.mul_assoc _ _ _).symm
 have:way=0\/way=1\/way=2\/way=3\/way=4\/way=5:=by omega
 rcases this with rfl|rfl|rfl|rfl|rfl|rfl
 . refine bV rfl rfl ?_
   exact fin (bc (List.replicate w 0)) (List.replicate w 0) (fun _=>0) 1 rfl (fun _=>rfl) (by simp) (fun x hx=>by rw[List.eq_of_mem_replicate hx];exact Nat.zero_le _) (by decide) fun c _=>by
    rw[zero,Int.mul_zero];exact(Mx.iY fun i _=>Int.zero_mul _).symm
 . refine bV rfl rfl ?_;have hm:A.getD p []∈A:=by rw[Mx.aP (by omega)];exact List.getElem_mem _
   have bR:∀x∈A.getD p [],x.natAbs<=2^20:=fun x hx=>up (bA _ hm x hx);by_cases hp:p=0
   . subst hp
     exact fin (bz (A.getD 0 [])) (A.getD 0 []) (fun i=>if i=0 then 1 else 0) o rfl (fun _=>rfl) r0 bR io fun c _=>by
      rw[jh (by omega),gB,if_pos rfl,Int.one_mul];rfl
   . exact fin (bz (A.getD p [])) (A.getD p []) (fun i=>if i=p then 1 else 0) 1 rfl (fun _=>rfl) (tl _ hm) bR (by decide) fun c _=>by
      rw[jh (by omega),gB,if_neg hp];rfl
 . refine bV rfl rfl ?_
   exact fin (bc (E.map fun x=> -x)) (E.map fun x=> -x) (fun i=>if i=0 then-1 else 0) 1 rfl (fun _=>rfl) (by rw[List.length_map];exact lE) (fun x hx=>by
    obtain⟨y,hy,rfl⟩:=List.mem_map.mp hx;rw[Int.natAbs_neg]
    exact Nat.le_trans (bE y hy) (by decide)) (by decide) fun c _=>by
     rw[jh (by omega),gB,if_pos rfl,<-atE,Int.one_mul,Int.neg_mul,Int.one_mul,List.getD_eq_getElem?_getD,List.getElem?_map,List.getD_eq_getElem?_getD];cases E[c]?<;>rfl
 . exact bV rfl rfl goM
 . exact bV rfl rfl goM
 . exact bV rfl rfl goM
def Jm:Addr->Prop:=fun f=>f=247\/f=341\/f=404
abbrev sM:Sp:=tD Jm (fun _=>il) dv
def mn:List Str:=["_law_which","_law_rows_here","_law_caught","e"]
/-Q_law_refusal lacks-/
abbrev BO:cu:=yI []
def tw:List Str:=["_law_script","_law_k","_law_rows_here","_law_handed","_law_which","_law_unit_here","_law_papers","_law_paper"]
def GC:DS:=(aH (jY (nK (ag (dC (.int 1)) (ag (az bJ (dC (.int 2)) (bD gq (ag (dD (ah 0) (eC (dC (.int 1))) (eC (dC (.int 5)))) ao))) ao))) (bC 1) (aH (bf 2 (aC h_ (ag (aC lb (ag (ah 0) (ag (ah 1) ao))) ao)))
 (aH (bf 3 (cA (dJ (ah 2)) [none] (bC 0) bK (bD fV (ag (ah 0) ao))))
 (aH (vI 4 3 2 [247,341,404] (fun _=>il) dv)
 (aH (bf 5 (aC lp (ag (bD gq (ag (ah 2) ao)) ao)))
 (aH (bf 6 (fY (ag (lH (ag (ah 2) (ag (ah 5) (ag (ah 5) ao)))) (ag (fY (ag (ah 3) (ag (bD fV (ag (ah 5) ao)) (ag (ah 5) ao)))) (ag (lH (ag (dD (ah 2) cY (eC (nD ip (dC (.int 1))))) (ag (dD (ah 5) cY (eC (nD ip (dC (.int 1))))) (ag (dD (ah 5) cY (eC (nD ip (dC (.int 1))))) ao)))) (ag (lH (ag (ah 2) (ag (ah 5) ao))) (ag (lH ao) ao)))))))
 (aH (jY (dJ (ah 6)) (bC 7) (fj (bL (az ka (aC je (ag (ah 2) (ag (ah 7) ao))) (dC (.bl false)))) (bp (dC (.bl false))) dm))
 (fj (bL (az rB (ah 3) (cA (dJ (ah 2)) [none] (bC 0) bK (bD fV (ag (ah 0) ao))))) (bp (dC (.bl false))) dm))))))))
 (bp (dC (.bl true))))
theorem DJ{xs:List D}{a b:Int}:(L3.cutD xs (some a) (some b)).length<=xs.length:=by
 unfold L3.cutD;rw[List.length_take,List.length_drop];omega
theorem pw{xs:List D}{n:Nat}(h:xs.length=n+1):L3.cutD xs none (some (-1))=xs.take n:=by
 unfold L3.cutD;rw[HT.pf,List.drop_zero,Nat.sub_zero,h]
 have e:HT.aZ (n+1) (n+1) (some (-1))=n:=by
  have:=HT.rF (-1) (n+1) (n+1);rw[if_pos (by decide)]at this;omega
 rw[e]
theorem vJ{A:List (List Int)}{N w:Nat}(h:Fl A N w)(K:aa->Prop)(k:∀st,K st):∀(fs:List Addr) (st:aa),mJ (fun _=>il) dv (ql A) (cZ A) fs st K
 | [],st=>k st
 |_::fs,st=>⟨_,rfl,_,rfl,⟨A,N,w,v_,h.st,h.n1,h.z⟩,fun st1 _=>⟨rfl,rfl,_,rfl,_,rfl,⟨A,N,w,iA,h.st,h.n1,h.z⟩,fun st2 _=>⟨rfl,rfl,vJ h K k fs st2⟩⟩⟩
theorem Fe:∀ds st K,BO ds st K->ds.length=1/\GC {nx:=fun _ st'=>K .ay st',rt:=K} (aJ tw ds) st:=by
 rintro ds st K ⟨ns,rfl,hl,hst,k⟩;refine⟨rfl,?_⟩;clear hst;refine nq (fx rfl (cV ?_));have hc:=DJ (xs:=ns.map D.int) (a:=1) (b:=5);rw[List.length_map]at hc;generalize(L3.cutD (ns.map D.int) (some 1) (some 5)).length=m at hc⊢;refine Dk ⟨by omega,by omega,by omega,by omega⟩ ?_
 have hm:∀d∈cw 1 (2+(m:Int)-1).toNat,∃q:Int,d= .int q/\0<=q/\q<=1000:=fun d hd=>by
  unfold cw at hd;obtain⟨i,hi,rfl⟩:=List.mem_map.mp hd;rw[List.mem_range]at hi;exact⟨_,rfl,by omega,by omega⟩
 generalize cw 1 (2+(m:Int)-1).toNat=rs at hm⊢;refine gA (fun rest σ st'=>(∀d∈rest,∃q:Int,d= .int q/\0<=q/\q<=1000)/\∃v1 v2 v3 v5 v6 v7:Option D,σ=[some (.lst (ns.map .int)),v1,v2,v3,none,v5,v6,v7]) ?_ ?_ _ _ _ ⟨hm,none,none,none,none,none,none,rfl⟩
 . rintro σ st' ⟨_,v1,v2,v3,v5,v6,v7,rfl⟩;exact⟨trivial,k _⟩
 rintro x rest σ st1 ⟨hr,v1,v2,v3,v5,v6,v7,rfl⟩ next
 obtain⟨q,rfl,q0,q1⟩:=hr x List.mem_cons_self;have hr2:∀d∈rest,∃q:Int,d= .int q/\0<=q/\q<=1000:=fun d hd=>hr d (List.mem_cons_of_mem _ hd);refine⟨trivial,_,rfl,?_⟩;refine⟨ns,q,rfl,q0,q1,fun x hx=>?_⟩;have L1:Lf (st1++[.lst [.int x]]) st1.length:=⟨x,by simp,hx⟩
 refine⟨st1.length,rfl,L1,fun A N w st3 nz _=>?_⟩;have is:=nz.st.is;have lA:=is.len;have n8:=nz.st.gm.le;have n1:=nz.n1;have w8:=nz.w8;refine hZ ⟨bG (by rw[List.length_map];omega),?_⟩;refine fP bc trivial aY.tup (fun d r _ hd K' t=>⟨_,rfl,iy hd t⟩) ?_;refine⟨ql A,cZ A,rfl,rfl,rfl,?_⟩;refine vJ nz _ (fun st4=>?_) _ _;refine fx rfl ?_;rw[List.length_map,lA];refine⟨N,rfl,by omega,?_⟩;obtain⟨p,rfl⟩:∃p,N=p+1:=⟨N-1,by omega⟩
 have iu:=Mx.l9 (p+1);have lu:((Mx.units (p+1)).map bz).length=p+1:=by rw[List.length_map];exact iu.len
 have lr:(A.map bz).length=p+1:=by rw[List.length_map];exact lA
 refine⟨Nat.le_of_ble_eq_true rfl,iy rfl ⟨Nat.le_of_ble_eq_true rfl,i5 (ky ?_)⟩⟩;rw[pw lr];refine i5 (ky ?_);rw[pw lu];refine i5 (ky ?_);rw[pw lu,<-List.map_take,<-List.map_take];refine⟨Nat.le_of_ble_eq_true rfl,Nat.le_of_ble_eq_true rfl,Nat.le_of_ble_eq_true rfl,Nat.le_of_ble_eq_true rfl,?_⟩;refine rm ?_;have hun:∀s:aa,bQ s (.lst ((Mx.units (p+1)).map bz)) (Mx.units (p+1)):=fun s=>⟨_,rfl,aY.tup⟩
 refine gA (fun rest σ st'=>(∀x∈rest,∀s,Np s A (p+1) w x)/\∃(v6:D) (v7:Option D),σ=[some (.lst (ns.map .int)),some (.int q),some (cZ A),some (ql A),none,some (cZ (Mx.units (p+1))),some v6,v7]) ?_ ?_ _ _ _ ⟨fun x hx s=>?_,_,v7,rfl⟩
 . rintro σ st5 ⟨_,v6,v7,rfl⟩;refine⟨trivial,?_⟩;refine hZ ⟨bG (by rw[List.length_map];omega),?_⟩;refine fP bc trivial aY.tup (fun d r _ hd K' t=>⟨_,rfl,iy hd t⟩) ?_;refine Ba (AH (n:=38)) ?_;exact next _ _ ⟨hr2,_,_,_,_,_,_,rfl⟩
 . rintro x rest σ st5 ⟨hx,v6,v7,rfl⟩ next2;refine⟨trivial,_,rfl,?_⟩;refine⟨cZ A,x,A,p+1,w,rfl,iA,nz.st,n1,w8,nz.bd,nz.z,hx x List.mem_cons_self st5,fun st6 X6=>G9 rfl ?_⟩;exact next2 _ _ ⟨fun y hy=>hx y (List.mem_cons_of_mem _ hy),_,_,rfl⟩
 . simp only[List.mem_cons,List.not_mem_nil,or_false]at hx;rcases hx with rfl|rfl|rfl|rfl|rfl
   . exact .same _ _ _ rfl iA iA iA
   . exact .same _ _ _ rfl v_ (hun s) iA
   . refine .less _ _ _ rfl (kC (iA (A:=A.take p)) (by rw[List.length_take];omega) fun r hr=>by rw[is.gg r (List.mem_of_mem_take hr)];omega) ?_;unfold cC;show(decide ((((A.take p).map bz).length:Int)=((p+1:Nat):Int))&&_)=false;rw[List.length_map,List.length_take,decide_eq_false (by omega),Bool.false_and]
   . exact .D7 ⟨_,rfl⟩ rfl
   . exact .D7 ⟨_,rfl⟩ rfl
end Prog
namespace Row
open PySem L2 L3 Prog
open PySem.Spec hiding items?
open PyProof.Rows hiding St
theorem zJ:(("int":Str))≠"__name__":=by decide+kernel
theorem jd:(("isinstance":Str))≠"__name__":=by decide+kernel
theorem CS:(("bool":Str))≠"__name__":=by decide+kernel
theorem cD:(("tuple":Str))≠"__name__":=by decide+kernel
theorem gC:(("list":Str))≠"__name__":=by decide+kernel
theorem fH:(("len":Str))≠"__name__":=by decide+kernel
theorem yJ:(("all":Str))≠"__name__":=by decide+kernel
theorem EW:(("sum":Str))≠"__name__":=by decide+kernel
theorem yv:(("abs":Str))≠"__name__":=by decide+kernel
theorem Ex:(("min":Str))≠"__name__":=by decide+kernel
theorem Fx:(("max":Str))≠"__name__":=by decide+kernel
structure Bl(mg:Str->Option Value):Prop where
 Bz:mg "int"=none
 eJ:mg "isinstance"=none
 Er:mg "bool"=none
 cW:mg "tuple"=none
 jc:mg "list"=none
 gI:mg "len"=none
 Bp:mg "all"=none
 lP:mg "zip"=none
 gz:mg "range"=none
 GH:mg "sum"=none
 Bm:mg "abs"=none
 Ga:mg "min"=none
 F0:mg "max"=none
 uz:mg "ValueError"=none
structure Kl(K:PySem.W.Frag)(mg:Str->Option Value):Prop where
 jD:ClsAt K mg "Bench" bT
 kZ:ClsAt K mg "Stairs" fB
 uP:fD K bT "body"
 uq:fD K bT "turn"
 ly:fD K bT "back_columns"
 rD:fD K fB "bench"
structure Yl(K:PySem.W.Frag)(mg:Str->Option Value):Prop where
 rk:gO K g8 [(.type "ValueError"),(.type "Exception"),(.type "BaseException"),(.type "object")]=true
 qY:mg "LatticeError"=some (.ref g8)
 kf:gO K dv [(.ref 31),(.type "ValueError"),(.type "Exception"),(.type "BaseException"),(.type "object")]=true
 my:mg "NoSteps"=some (.ref dv)
 HR:gO K m8 [(.ref 31),(.type "ValueError"),(.type "Exception"),(.type "BaseException"),(.type "object")]=true
 yS:mg "TooMany"=some (.ref m8)
 yW:mg "NoSheet"=some (.ref sf)
theorem cy:VS (ai ff) iJ ["int","isinstance","bool"]:=⟨by decide+kernel⟩
theorem uG:aG iJ ["thing"] (ai ff):=⟨rfl,rfl,rfl,by decide+kernel,rfl,by decide+kernel,by decide+kernel⟩
theorem ek:VS (ai fh) iO ["tuple","list","isinstance"]:=⟨by decide+kernel⟩
theorem tS:aG iO ["thing"] (ai fh):=⟨rfl,rfl,rfl,by decide+kernel,rfl,by decide+kernel,by decide+kernel⟩
theorem cN:VS (ai dw) fS ["is_listed","len"]:=⟨by decide+kernel⟩
theorem qk:aG fS ["thing","many"] (ai dw):=⟨rfl,rfl,rfl,by decide+kernel,rfl,by decide+kernel,by decide+kernel⟩
theorem c_:VS (ai c9) gh ["is_listed_of","all"]:=⟨by decide+kernel⟩
theorem rH:aG gh ["thing","many"] (ai c9):=⟨rfl,rfl,rfl,by decide+kernel,rfl,by decide+kernel,by decide+kernel⟩
theorem mW:VS (ai fG) kn ["tuple"]:=⟨by decide+kernel⟩
theorem xi:aG kn ["rows"] (ai fG):=⟨rfl,rfl,rfl,by decide+kernel,rfl,by decide+kernel,by decide+kernel⟩
theorem rf:VS (ai g6) nP ["zip"]:=⟨by decide+kernel⟩
theorem AM:aG nP ["row","times","other"] (ai g6):=⟨rfl,rfl,rfl,by decide+kernel,rfl,by decide+kernel,by decide+kernel⟩
theorem cz:VS (ai g7) ll ["zip","added","tuple"]:=⟨by decide+kernel⟩
theorem kl:aG ll ["weights","rows","wide"] (ai g7):=⟨rfl,rfl,rfl,by decide+kernel,rfl,by decide+kernel,by decide+kernel⟩
theorem fw:VS (ai fy) kc ["len","tuple"]:=⟨by decide+kernel⟩
theorem qm:aG kc ["one","other"] (ai fy):=⟨rfl,rfl,rfl,by decide+kernel,rfl,by decide+kernel,by decide+kernel⟩
theorem jv:VS (ai e8) ji ["range","tuple"]:=⟨by decide+kernel⟩
theorem vg:aG ji ["n","place"] (ai e8):=⟨rfl,rfl,rfl,by decide+kernel,rfl,by decide+kernel,by decide+kernel⟩
theorem iM:VS (ai d4) iN ["range","tuple"]:=⟨by decide+kernel⟩
theorem u9:aG iN ["n"] (ai d4):=⟨rfl,rfl,rfl,by decide+kernel,rfl,by decide+kernel,by decide+kernel⟩
theorem qh:VS (ai lZ) td ["zip","sum"]:=⟨by decide+kernel⟩
theorem EE:aG td ["one","other"] (ai lZ):=⟨rfl,rfl,rfl,by decide+kernel,rfl,by decide+kernel,by decide+kernel⟩
theorem cU:VS (ai fE) ja ["is_listed","len","all"]:=⟨by decide+kernel⟩
theorem ye:aG ja ["thing","many","wide"] (ai fE):=⟨rfl,rfl,rfl,by decide+kernel,rfl,by decide+kernel,by decide+kernel⟩
theorem aI:VS (ai fU) jz ["is_listed","len","is_rows","product","unit_rows"]:=⟨by decide+kernel⟩
theorem oK:aG jz ["turn","back"] (ai fU):=⟨rfl,rfl,rfl,by decide+kernel,rfl,by decide+kernel,by decide+kernel⟩
theorem cB:VS (ai eK) gY ["is_rows","are_back"]:=⟨by decide+kernel⟩
theorem sU:aG gY ["turn","back","many"] (ai eK):=⟨rfl,rfl,rfl,by decide+kernel,rfl,by decide+kernel,by decide+kernel⟩
theorem aF:VS (ai eE) gX ["len","is_rows","is_turn_of","as_rows","product"]:=⟨by decide+kernel⟩
theorem mi:aG gX ["rows","made","turn","back"] (ai eE):=⟨rfl,rfl,rfl,by decide+kernel,rfl,by decide+kernel,by decide+kernel⟩
theorem cm:VS (ai gD) ke ["zip"]:=⟨by decide+kernel⟩
theorem g5:aG ke ["together","table","one","other"] (ai gD):=⟨rfl,rfl,rfl,by decide+kernel,rfl,by decide+kernel,by decide+kernel⟩
theorem aV:VS (ai gF) kg ["zip","dot","cleared"]:=⟨by decide+kernel⟩
theorem kY:aG kg ["table","steps","row"] (ai gF):=⟨rfl,rfl,rfl,by decide+kernel,rfl,by decide+kernel,by decide+kernel⟩
theorem bZ:VS (ai fN) jy ["line_of","NoSteps"]:=⟨by decide+kernel⟩
theorem iS:aG jy ["steps"] (ai fN):=⟨rfl,rfl,rfl,by decide+kernel,rfl,by decide+kernel,by decide+kernel⟩
theorem lU:VS (ai hU) l4 ["table_of"]:=⟨by decide+kernel⟩
theorem rN:aG l4 ["steps"] (ai hU):=⟨rfl,rfl,rfl,by decide+kernel,rfl,by decide+kernel,by decide+kernel⟩
theorem aT:VS (ai bM) eW ["len","unit_rows"]:=⟨by decide+kernel⟩
theorem oo:aG eW ["self","rows"] (ai bM):=⟨rfl,rfl,rfl,by decide+kernel,rfl,by decide+kernel,by decide+kernel⟩
theorem js:VS (ai fM) jm ["shares"]:=⟨by decide+kernel⟩
theorem oM:aG jm ["steps"] (ai fM):=⟨rfl,rfl,rfl,by decide+kernel,rfl,by decide+kernel,by decide+kernel⟩
theorem cj:VS (ai cE) eD ["Bench","table_of"]:=⟨by decide+kernel⟩
theorem mH:aG eD ["self","steps"] (ai cE):=⟨rfl,rfl,rfl,by decide+kernel,rfl,by decide+kernel,by decide+kernel⟩
theorem qU:VS (ai jC) oh ["Stairs"]:=⟨by decide+kernel⟩
theorem AL:aG oh ["steps"] (ai jC):=⟨rfl,rfl,rfl,by decide+kernel,rfl,by decide+kernel,by decide+kernel⟩
theorem bo:VS (ai dR) gj ["is_listed_of","are_turned","is_short","NoSteps"]:=⟨by decide+kernel⟩
theorem qE:aG gj ["steps","told"] (ai dR):=⟨rfl,rfl,rfl,by decide+kernel,rfl,by decide+kernel,by decide+kernel⟩
theorem iC:VS (ai iF) l_ ["len"]:=⟨by decide+kernel⟩
theorem zv:aG l_ ["_law_script","_law_k"] (ai iF):=⟨rfl,rfl,rfl,by decide+kernel,rfl,by decide+kernel,by decide+kernel⟩
theorem aQ:VS (ai fK) jw ["_law_at","abs","range"]:=⟨by decide+kernel⟩
theorem d7:aG jw ["_law_script","_law_k"] (ai fK):=⟨rfl,rfl,rfl,by decide+kernel,rfl,by decide+kernel,by decide+kernel⟩
theorem d8:VS (ai e_) iL []:=⟨by decide+kernel⟩
theorem m9:aG iL ["_law_left_here","_law_many"] (ai e_):=⟨rfl,rfl,rfl,by decide+kernel,rfl,by decide+kernel,by decide+kernel⟩
theorem aX:VS (ai eO) gJ ["_law_digit"]:=⟨by decide+kernel⟩
theorem mr:aG gJ ["_law_left_here","_law_kind"] (ai eO):=⟨rfl,rfl,rfl,by decide+kernel,rfl,by decide+kernel,by decide+kernel⟩
theorem ju:VS (ai eZ) jo ["range","tuple"]:=⟨by decide+kernel⟩
theorem vw:aG jo ["_law_left_here","_law_many","_law_wide","_law_kind"] (ai eZ):=⟨rfl,rfl,rfl,by decide+kernel,rfl,by decide+kernel,by decide+kernel⟩
theorem jx:VS (ai eX) jr ["range","tuple"]:=⟨by decide+kernel⟩
theorem vB:aG jr ["_law_n"] (ai eX):=⟨rfl,rfl,rfl,by decide+kernel,rfl,by decide+kernel,by decide+kernel⟩
theorem af:VS (ai bN) fO ["_law_digit","min","max","_law_rows","zip","tuple","list"]:=⟨by decide+kernel⟩
theorem aL:aG fO ["_law_left_here"] (ai bN):=⟨rfl,rfl,rfl,by decide+kernel,rfl,by decide+kernel,by decide+kernel⟩
theorem cq:VS (ai dS) mn ["LatticeError","isinstance","NoSteps","ValueError","NoSheet","TooMany"]:=⟨by decide+kernel⟩
theorem h9:aG mn ["_law_which","_law_rows_here"] (ai dS):=⟨rfl,rfl,rfl,by decide+kernel,rfl,by decide+kernel,by decide+kernel⟩
theorem aM:VS (ai iU) tw ["len","range","_law_left","_law_no_steps","short","is_short","shares","_law_refusal","_law_unit","list","shows_short"]:=⟨by decide+kernel⟩
theorem iX:aG tw ["_law_script"] (ai iU):=⟨rfl,rfl,rfl,by decide+kernel,rfl,by decide+kernel,by decide+kernel⟩
structure Ev(w:World)(mg:Str->Option Value)(h:Heap):Prop where
 X:(KX w.params).In h
 G:h.Ns mainGlobals mg
section
variable {w:World}{mg:Str->Option Value}{h base:Heap}(e:Ev w mg h)
include e
theorem Bt:Bl mg:=⟨PySem.W.mg_none_of e.X e.G (by kernel_rfl),PySem.W.mg_none_of e.X e.G (by kernel_rfl),PySem.W.mg_none_of e.X e.G (by kernel_rfl),PySem.W.mg_none_of e.X e.G (by kernel_rfl),PySem.W.mg_none_of e.X e.G (by kernel_rfl),PySem.W.mg_none_of e.X e.G (by kernel_rfl),PySem.W.mg_none_of e.X e.G (by kernel_rfl),PySem.W.mg_none_of e.X e.G (by kernel_rfl),PySem.W.mg_none_of e.X e.G (by kernel_rfl),PySem.W.mg_none_of e.X e.G (by kernel_rfl),PySem.W.mg_none_of e.X e.G (by kernel_rfl),PySem.W.mg_none_of e.X e.G (by kernel_rfl),PySem.W.mg_none_of e.X e.G (by kernel_rfl),PySem.W.mg_none_of e.X e.G (by kernel_rfl)⟩
theorem Qt:Kl (KX w.params) mg:=⟨⟨⟨by kernel_rfl,by kernel_rfl,by kernel_rfl,by kernel_rfl⟩,PySem.W.mg_of e.X e.G (by kernel_rfl),by kernel_rfl,by kernel_rfl⟩,⟨⟨by kernel_rfl,by kernel_rfl,by kernel_rfl,by kernel_rfl⟩,PySem.W.mg_of e.X e.G (by kernel_rfl),by kernel_rfl,by kernel_rfl⟩,Hd.na (by kernel_rfl),Hd.na (by kernel_rfl),Hd.na (by kernel_rfl),Hd.na (by kernel_rfl)⟩
theorem Yt:Yl (KX w.params) mg:=⟨by kernel_rfl,PySem.W.mg_of e.X e.G (by kernel_rfl),by kernel_rfl,PySem.W.mg_of e.X e.G (by kernel_rfl),by kernel_rfl,PySem.W.mg_of e.X e.G (by kernel_rfl),PySem.W.mg_of e.X e.G (by kernel_rfl)⟩
theorem oy:a_ (KX w.params) mg "is_number" "is_number" ff ["thing"] 84 (Hd.fd ff "is_number" "is_number" ma 83):=Hd.mY e.X e.G (by kernel_rfl) fun _ _ _ _ _ _ _=>rfl
theorem ve:aK PW w (KX w.params) mg base b_ 1 84 (Hd.fd ff "is_number" "is_number" ma 83) ["thing"] (cK kD):=by
 have B:=Bt e;have Q:=Qt e;have Y:=Yt e;exact bY (N:=iJ) (oy e).fn uG (fun cdv A outer s H E hr=>(aE (aS (tF (d_ wK (ae (cy.nm 0) (ae (yd B.Bz rfl zJ (cy.d 0) (cy.g 0)) ak)) B.eJ rfl jd (cy.d 1) (cy.g 1)) (qd (FZ (d_ wK (ae (cy.nm 0) (ae (yd B.Er rfl CS (cy.d 2) (cy.g 2)) ak)) B.eJ rfl jd (cy.d 1) (cy.g 1)))))))) ud
theorem iQ:a_ (KX w.params) mg "is_listed" "is_listed" fh ["thing"] 91 (Hd.fd fh "is_listed" "is_listed" ma 90):=Hd.mY e.X e.G (by kernel_rfl) fun _ _ _ _ _ _ _=>rfl
theorem kI:aK PW w (KX w.params) mg base b_ 1 91 (Hd.fd fh "is_listed" "is_listed" ma 90) ["thing"] (cK gf):=by
 have B:=Bt e;have Q:=Qt e;have Y:=Yt e;exact bY (N:=iO) (iQ e).fn tS (fun cdv A outer s H E hr=>(aE (aS (d_ wK (ae (ek.nm 0) (ae (lN (ae (yd B.jc rfl gC (ek.d 1) (ek.g 1)) (ae (yd B.cW rfl cD (ek.d 0) (ek.g 0)) ak))) ak)) B.eJ rfl jd (ek.d 2) (ek.g 2))))) u4
theorem hX:a_ (KX w.params) mg "is_listed_of" "is_listed_of" dw ["thing","many"] 98 (Hd.fd dw "is_listed_of" "is_listed_of" ma 97):=Hd.mj e.X e.G (by kernel_rfl) fun _ _ _ _ _ _ _ _=>rfl
theorem kX:aK PW w (KX w.params) mg base b_ 2 98 (Hd.fd dw "is_listed_of" "is_listed_of" ma 97) ["thing","many"] (cK fT):=by
 have B:=Bt e;have Q:=Qt e;have Y:=Yt e;exact bY (N:=fS) (hX e).fn qk (fun cdv A outer s H E hr=>(aE (aS (tF (ba (iQ e) (kI e) (hr.mono (by decide)) (ae (cN.nm 0) ak) (cN.d 0) (cN.g 0)) (qd (pP (hO hr) (cp _) (d_ gL (ae (cN.nm 0) ak) B.gI rfl fH (cN.d 1) (cN.g 1)) (cN.nm 1))))))) qs
theorem mh:a_ (KX w.params) mg "are_numbers" "are_numbers" c9 ["thing","many"] 103 (Hd.fd c9 "are_numbers" "are_numbers" ma 102):=Hd.mj e.X e.G (by kernel_rfl) fun _ _ _ _ _ _ _ _=>rfl
theorem sT:aK PW w (KX w.params) mg base b_ 3 103 (Hd.fd c9 "are_numbers" "are_numbers" ma 102) ["thing","many"] (cK gn):=by
 have B:=Bt e;have Q:=Qt e;have Y:=Yt e;exact bY (N:=gh) (mh e).fn rH (fun cdv A outer s H E hr=>(aE (aS (tF (ba (hX e) (kX e) (hr.mono (by decide)) (ae (c_.nm 0) (ae (c_.nm 1) ak)) (c_.d 0) (c_.g 0)) (qd (d_ (BS rfl) (ae (dU (Nc:=["each"]) (a9.look (ai c9) ["thing","many"] (by decide+kernel)) (fk (c_.nm 0)) (fun _ _ _ _=>(dO (show(["each"]:List Str).Nodup by decide+kernel) (by first|exact Or.inl rfl|exact Or.inr rfl) (by first|exact .inl rfl|exact .inr rfl))) (fun _ _ _ _=>bO) (fun _ _ _ _=>(ba (oy e) (ve e) (hr.mono (by decide)) (ae c8 ak) (by decide+kernel) rfl)) bP) ak) B.Bp rfl yJ (c_.d 1) (c_.g 1))))))) rE
theorem sD:a_ (KX w.params) mg "as_rows" "as_rows" fG ["rows"] 143 (Hd.fd fG "as_rows" "as_rows" df 142):=Hd.mY e.X e.G (by kernel_rfl) fun _ _ _ _ _ _ _=>rfl
theorem zK:aK PW w (KX w.params) mg base b_ 1 143 (Hd.fd fG "as_rows" "as_rows" df 142) ["rows"] (cK nF):=by
 have B:=Bt e;have Q:=Qt e;have Y:=Yt e;exact bY (N:=kn) (sD e).fn xi (fun cdv A outer s H E hr=>(aE (aS (d6 dy (ae (dU (Nc:=["row"]) (a9.look (ai fG) ["rows"] (by decide+kernel)) (fk (mW.nm 0)) (fun _ _ _ _=>(dO (show(["row"]:List Str).Nodup by decide+kernel) (by first|exact Or.inl rfl|exact Or.inr rfl) (by first|exact .inl rfl|exact .inr rfl))) (fun _ _ _ _=>bO) (fun _ _ _ _=>(d6 dy (ae c8 ak) B.cW rfl cD (by decide+kernel) rfl)) bP) ak) B.cW rfl cD (mW.d 0) (mW.g 0))))) wV
theorem vX:a_ (KX w.params) mg "added" "added" g6 ["row","times","other"] 148 (Hd.fd g6 "added" "added" df 147):=Hd.yw e.X e.G (by kernel_rfl) fun _ _ _ _ _ _ _ _ _=>rfl
theorem Dl:aK PW w (KX w.params) mg base b_ 1 148 (Hd.fd g6 "added" "added" df 147) ["row","times","other"] (cK qT):=by
 have B:=Bt e;have Q:=Qt e;have Y:=Yt e;exact bY (N:=nP) (vX e).fn AM (fun cdv A outer s H E hr=>(aE (aS (dU (Nc:=["one","two","times"]) (a9.look (ai g6) ["row","times","other"] (by decide+kernel)) (nZ (rf.g 0) B.lP (ae (rf.nm 0) (ae (rf.nm 2) ak))) (fun _ _ _ _=>(nR rfl (show(["one","two","times"]:List Str).Nodup by decide+kernel) (by first|exact Or.inl rfl|exact Or.inr rfl) (by first|exact .inl rfl|exact .inr rfl) (by first|exact Or.inl rfl|exact Or.inr rfl) (by first|exact .inl rfl|exact .inr rfl))) (fun _ _ _ _=>bO) (fun _ _ _ _=>(a6 c6 c8 (a6 dX c8 c8))) rJ)))) AZ
theorem tW:a_ (KX w.params) mg "sum_by" "sum_by" g7 ["weights","rows","wide"] 155 (Hd.fd g7 "sum_by" "sum_by" df 154):=Hd.yw e.X e.G (by kernel_rfl) fun _ _ _ _ _ _ _ _ _=>rfl
theorem Be:aK PW w (KX w.params) mg base b_ 2 155 (Hd.fd g7 "sum_by" "sum_by" df 154) ["weights","rows","wide"] (cK oW):=by
 have B:=Bt e;have Q:=Qt e;have Y:=Yt e
 exact bY (N:=ll) (tW e).fn kl (fun cdv A outer s H E hr=>(aA (bh kl.nd (cz.l 3) (a6 dX (jn (ae au ak)) (cz.nm 2)))
  (aA (jP (nZ (cz.g 0) B.lP (ae (cz.nm 0) (ae (cz.nm 1) ak))) (nR rfl kl.nd (by first|exact Or.inl rfl|exact Or.inr rfl) (by first|exact .inl rfl|exact .inr rfl) (by first|exact Or.inl rfl|exact Or.inr rfl) (by first|exact .inl rfl|exact .inr rfl)) (aE (bh kl.nd (cz.l 3) (ba (vX e) (Dl e) (hr.mono (by decide)) (ae (cz.nm 3) (ae (cz.nm 4) (ae (cz.nm 5) ak))) (cz.d 1) (cz.g 1)))))
  (aE (aS (d6 dy (ae (cz.nm 3) ak) B.cW rfl cD (cz.d 2) (cz.g 2))))))) yX
theorem mB:a_ (KX w.params) mg "product" "product" fy ["one","other"] 160 (Hd.fd fy "product" "product" df 159):=Hd.mj e.X e.G (by kernel_rfl) fun _ _ _ _ _ _ _ _=>rfl
theorem su:aK PW w (KX w.params) mg base b_ 3 160 (Hd.fd fy "product" "product" df 159) ["one","other"] (cK j7):=by
 have B:=Bt e;have Q:=Qt e;have Y:=Yt e
 exact bY (N:=kc) (mB e).fn qm (fun cdv A outer s H E hr=>(aA (bh qm.nd (fw.l 2) (d_ gL (ae (f_ (fw.nm 1) au) ak) B.gI rfl fH (fw.d 0) (fw.g 0)))
  (aE (aS (d6 dy (ae (dU (Nc:=["weights","other","wide"]) (a9.look (ai fy) ["one","other","wide"] (by decide+kernel)) (fk (fw.nm 0)) (fun _ _ _ _=>(dO (show(["weights","other","wide"]:List Str).Nodup by decide+kernel) (by first|exact Or.inl rfl|exact Or.inr rfl) (by first|exact .inl rfl|exact .inr rfl))) (fun _ _ _ _=>bO) (fun _ _ _ _=>(ba (tW e) (Be e) (hr.mono (by decide)) (ae c8 (ae c8 (ae c8 ak))) (by decide+kernel) rfl)) bP) ak) B.cW rfl cD (fw.d 1) (fw.g 1)))))) xY
theorem qt:a_ (KX w.params) mg "unit_row" "unit_row" e8 ["n","place"] 175 (Hd.fd e8 "unit_row" "unit_row" df 174):=Hd.mj e.X e.G (by kernel_rfl) fun _ _ _ _ _ _ _ _=>rfl
theorem wI:aK PW w (KX w.params) mg base b_ 1 175 (Hd.fd e8 "unit_row" "unit_row" df 174) ["n","place"] (cK lh):=by
 have B:=Bt e;have Q:=Qt e;have Y:=Yt e;exact bY (N:=ji) (qt e).fn vg (fun cdv A outer s H E hr=>(aE (aS (d6 dy (ae (dU (Nc:=["k","place"]) (a9.look (ai e8) ["n","place"] (by decide+kernel)) (gp (jv.g 0) B.gz (ae (jv.nm 0) ak)) (fun _ _ _ _=>(dO (show(["k","place"]:List Str).Nodup by decide+kernel) (by first|exact Or.inl rfl|exact Or.inr rfl) (by first|exact .inl rfl|exact .inr rfl))) (fun _ _ _ _=>bO) (fun _ _ _ _=>(Hj (dZ (hO hr) (cp _) c8 c8) au au)) bP) ak) B.cW rfl cD (jv.d 1) (jv.g 1))))) vA
theorem iV:a_ (KX w.params) mg "unit_rows" "unit_rows" d4 ["n"] 180 (Hd.fd d4 "unit_rows" "unit_rows" df 179):=Hd.mY e.X e.G (by kernel_rfl) fun _ _ _ _ _ _ _=>rfl
theorem kH:aK PW w (KX w.params) mg base b_ 2 180 (Hd.fd d4 "unit_rows" "unit_rows" df 179) ["n"] (cK gb):=by
 have B:=Bt e;have Q:=Qt e;have Y:=Yt e;exact bY (N:=iN) (iV e).fn u9 (fun cdv A outer s H E hr=>(aE (aS (d6 dy (ae (dU (Nc:=["place","n"]) (a9.look (ai d4) ["n"] (by decide+kernel)) (gp (iM.g 0) B.gz (ae (iM.nm 0) ak)) (fun _ _ _ _=>(dO (show(["place","n"]:List Str).Nodup by decide+kernel) (by first|exact Or.inl rfl|exact Or.inr rfl) (by first|exact .inl rfl|exact .inr rfl))) (fun _ _ _ _=>bO) (fun _ _ _ _=>(ba (qt e) (wI e) (hr.mono (by decide)) (ae c8 (ae c8 ak)) (by decide+kernel) rfl)) bP) ak) B.cW rfl cD (iM.d 1) (iM.g 1))))) tY
theorem x5:a_ (KX w.params) mg "dot" "dot" lZ ["one","other"] 185 (Hd.fd lZ "dot" "dot" df 184):=Hd.mj e.X e.G (by kernel_rfl) fun _ _ _ _ _ _ _ _=>rfl
theorem Br:aK PW w (KX w.params) mg base b_ 1 185 (Hd.fd lZ "dot" "dot" df 184) ["one","other"] (cK tf):=by
 have B:=Bt e;have Q:=Qt e;have Y:=Yt e;exact bY (N:=td) (x5 e).fn EE (fun cdv A outer s H E hr=>(aE (aS (d_ (Hr rfl) (ae (dU (Nc:=["left","right"]) (a9.look (ai lZ) ["one","other"] (by decide+kernel)) (nZ (qh.g 0) B.lP (ae (qh.nm 0) (ae (qh.nm 1) ak))) (fun _ _ _ _=>(nR rfl (show(["left","right"]:List Str).Nodup by decide+kernel) (by first|exact Or.inl rfl|exact Or.inr rfl) (by first|exact .inl rfl|exact .inr rfl) (by first|exact Or.inl rfl|exact Or.inr rfl) (by first|exact .inl rfl|exact .inr rfl))) (fun _ _ _ _=>bO) (fun _ _ _ _=>(a6 dX c8 c8)) rJ) ak) B.GH rfl EW (qh.d 1) (qh.g 1))))) Fz
theorem i0:a_ (KX w.params) mg "is_rows" "is_rows" fE ["thing","many","wide"] 190 (Hd.fd fE "is_rows" "is_rows" df 189):=Hd.yw e.X e.G (by kernel_rfl) fun _ _ _ _ _ _ _ _ _=>rfl
theorem j9:aK PW w (KX w.params) mg base b_ 4 190 (Hd.fd fE "is_rows" "is_rows" df 189) ["thing","many","wide"] (cK gu):=by
 have B:=Bt e;have Q:=Qt e;have Y:=Yt e
 exact bY (N:=ja) (i0 e).fn ye (fun cdv A outer s H E hr=>(aA (e7 (i4 (iW (ba (iQ e) (kI e) (hr.mono (by decide)) (ae (cU.nm 0) ak) (cU.d 0) (cU.g 0)))) (aE (aS kA)) dF)
  (aA (e7 (qj (yL (dZ zh (cp _) (cU.nm 1) Ge) (we (dZ IK (cp _) (d_ gL (ae (cU.nm 0) ak) B.gI rfl fH (cU.d 1) (cU.g 1)) (cU.nm 1))))) (aE (aS kA)) dF)
  (aE (aS (d_ (BS rfl) (ae (dU (Nc:=["row","wide"]) (a9.look (ai fE) ["thing","many","wide"] (by decide+kernel)) (fk (cU.nm 0)) (fun _ _ _ _=>(dO (show(["row","wide"]:List Str).Nodup by decide+kernel) (by first|exact Or.inl rfl|exact Or.inr rfl) (by first|exact .inl rfl|exact .inr rfl))) (fun _ _ _ _=>bO) (fun _ _ _ _=>(ba (mh e) (sT e) (hr.mono (by decide)) (ae c8 (ae c8 ak)) (by decide+kernel) rfl)) bP) ak) B.Bp rfl yJ (cU.d 2) (cU.g 2))))))) x8
theorem qp:a_ (KX w.params) mg "are_back" "are_back" fU ["turn","back"] 197 (Hd.fd fU "are_back" "are_back" df 196):=Hd.mj e.X e.G (by kernel_rfl) fun _ _ _ _ _ _ _ _=>rfl
theorem yb:aK PW w (KX w.params) mg base b_ 5 197 (Hd.fd fU "are_back" "are_back" df 196) ["turn","back"] (cK l8):=by
 have B:=Bt e;have Q:=Qt e;have Y:=Yt e
 exact bY (N:=jz) (qp e).fn oK (fun cdv A outer s H E hr=>(aA (e7 (i4 (iW (ba (iQ e) (kI e) (hr.mono (by decide)) (ae (aI.nm 0) ak) (aI.d 0) (aI.g 0)))) (aE (aS kA)) dF)
  (aA (bh oK.nd (aI.l 2) (d_ gL (ae (aI.nm 0) ak) B.gI rfl fH (aI.d 1) (aI.g 1)))
  (aA (e7 (qj (wH (i4 (iW (ba (i0 e) (j9 e) (hr.mono (by decide)) (ae (aI.nm 0) (ae (aI.nm 2) (ae (aI.nm 2) ak))) (aI.d 2) (aI.g 2)))) (uF (i4 (iW (ba (i0 e) (j9 e) (hr.mono (by decide)) (ae (aI.nm 1) (ae (aI.nm 2) (ae (aI.nm 2) ak))) (aI.d 2) (aI.g 2))))))) (aE (aS kA)) dF)
  (aE (aS (II (pP (hO hr) (cp _) (aI.nm 2) au) (qd (pP (hO hr) (cp _) (ba (mB e) (su e) (hr.mono (by decide)) (ae (aI.nm 0) (ae (aI.nm 1) ak)) (aI.d 3) (aI.g 3)) (ba (iV e) (kH e) (hr.mono (by decide)) (ae (aI.nm 2) ak) (aI.d 4) (aI.g 4))))))))))) vk
theorem mV:a_ (KX w.params) mg "is_turn_of" "is_turn_of" eK ["turn","back","many"] 204 (Hd.fd eK "is_turn_of" "is_turn_of" df 203):=Hd.yw e.X e.G (by kernel_rfl) fun _ _ _ _ _ _ _ _ _=>rfl
theorem uM:aK PW w (KX w.params) mg base b_ 6 204 (Hd.fd eK "is_turn_of" "is_turn_of" df 203) ["turn","back","many"] (cK jN):=by
 have B:=Bt e;have Q:=Qt e;have Y:=Yt e;exact bY (N:=gY) (mV e).fn sU (fun cdv A outer s H E hr=>(aE (aS (tF (ba (i0 e) (j9 e) (hr.mono (by decide)) (ae (cB.nm 0) (ae (cB.nm 2) (ae (cB.nm 2) ak))) (cB.d 0) (cB.g 0)) (qd (ba (qp e) (yb e) (hr.mono (by decide)) (ae (cB.nm 0) (ae (cB.nm 1) ak)) (cB.d 1) (cB.g 1))))))) sN
theorem nG:a_ (KX w.params) mg "are_turned" "are_turned" eE ["rows","made","turn","back"] 211 (Hd.fd eE "are_turned" "are_turned" df 210):=Hd.El e.X e.G (by kernel_rfl) fun _ _ _ _ _ _ _ _ _ _=>rfl
theorem uB:aK PW w (KX w.params) mg base b_ 7 211 (Hd.fd eE "are_turned" "are_turned" df 210) ["rows","made","turn","back"] (cK jO):=by
 have B:=Bt e;have Q:=Qt e;have Y:=Yt e
 exact bY (N:=gX) (nG e).fn mi (fun cdv A outer s H E hr=>(aA (bh mi.nd (aF.l 4) (d_ gL (ae (aF.nm 0) ak) B.gI rfl fH (aF.d 0) (aF.g 0)))
  (aA (e7 (qj (wH (i4 (iW (ba (i0 e) (j9 e) (hr.mono (by decide)) (ae (aF.nm 1) (ae (aF.nm 4) (ae (d_ gL (ae (f_ (aF.nm 0) au) ak) B.gI rfl fH (aF.d 0) (aF.g 0)) ak))) (aF.d 1) (aF.g 1)))) (uF (i4 (iW (ba (mV e) (uM e) (hr.mono (by decide)) (ae (aF.nm 2) (ae (aF.nm 3) (ae (aF.nm 4) ak))) (aF.d 2) (aF.g 2))))))) (aE (aS kA)) dF)
  (aE (aS (pP (hO hr) (cp _) (ba (sD e) (zK e) (hr.mono (by decide)) (ae (aF.nm 1) ak) (aF.d 3) (aF.g 3)) (ba (mB e) (su e) (hr.mono (by decide)) (ae (aF.nm 2) (ae (aF.nm 0) ak)) (aF.d 4) (aF.g 4)))))))) sQ
theorem mF:a_ (KX w.params) mg "cleared" "cleared" gD ["together","table","one","other"] 218 (Hd.fd gD "cleared" "cleared" mf 217):=Hd.El e.X e.G (by kernel_rfl) fun _ _ _ _ _ _ _ _ _ _=>rfl
theorem rP:aK PW w (KX w.params) mg base b_ 1 218 (Hd.fd gD "cleared" "cleared" mf 217) ["together","table","one","other"] (cK ku):=by
 have B:=Bt e;have Q:=Qt e;have Y:=Yt e
 exact bY (N:=ke) (mF e).fn g5 (fun cdv A outer s H E hr=>(aA (bh g5.nd (cm.l 4) au)
  (aA (jP (EJ (cm.g 0) B.lP (ae (cm.nm 1) (ae (cm.nm 2) (ae (cm.nm 3) ak)))) (F8 rfl g5.nd (by first|exact Or.inl rfl|exact Or.inr rfl) (by first|exact .inl rfl|exact .inr rfl) (by first|exact Or.inl rfl|exact Or.inr rfl) (by first|exact .inl rfl|exact .inr rfl) (by first|exact Or.inl rfl|exact Or.inr rfl) (by first|exact .inl rfl|exact .inr rfl)) (aA (bh g5.nd (cm.l 0) (a6 yF (a6 lg (a6 dX (f_ (cm.nm 5) (j6 au)) (cm.nm 0)) (a6 dX (cm.nm 6) (cm.nm 7))) (cm.nm 4)))
  (aE (bh g5.nd (cm.l 4) (f_ (cm.nm 5) (j6 au))))))
  (aE (aS (cm.nm 0)))))) yf
theorem rQ:a_ (KX w.params) mg "line_of" "line_of" gF ["table","steps","row"] 225 (Hd.fd gF "line_of" "line_of" mf 224):=Hd.yw e.X e.G (by kernel_rfl) fun _ _ _ _ _ _ _ _ _=>rfl
theorem zO:aK PW w (KX w.params) mg base b_ 2 225 (Hd.fd gF "line_of" "line_of" mf 224) ["table","steps","row"] (cK mQ):=by
 have B:=Bt e;have Q:=Qt e;have Y:=Yt e
 exact bY (N:=kg) (rQ e).fn kY (fun cdv A outer s H E hr=>(aA (bh kY.nd (aV.l 3) (sY ak))
  (aA (jP (nZ (aV.g 0) B.lP (ae (aV.nm 0) (ae (aV.nm 1) ak))) (nR rfl kY.nd (by first|exact Or.inl rfl|exact Or.inr rfl) (by first|exact .inl rfl|exact .inr rfl) (by first|exact Or.inl rfl|exact Or.inr rfl) (by first|exact .inl rfl|exact .inr rfl)) (aE (qP (nu (aV.nm 3) (ba (mF e) (rP e) (hr.mono (by decide)) (ae (ba (x5 e) (Br e) (hr.mono (by decide)) (ae (aV.nm 2) (ae (aV.nm 5) ak)) (aV.d 1) (aV.g 1)) (ae (aV.nm 0) (ae (aV.nm 3) (ae (aV.nm 4) ak)))) (aV.d 2) (aV.g 2))))))
  (aA (qP (nu (aV.nm 3) (ba (mF e) (rP e) (hr.mono (by decide)) (ae (ba (x5 e) (Br e) (hr.mono (by decide)) (ae (aV.nm 2) (ae (aV.nm 2) ak)) (aV.d 1) (aV.g 1)) (ae (aV.nm 0) (ae (aV.nm 3) (ae (aV.nm 3) ak)))) (aV.d 2) (aV.g 2))))
  (aE (Es (aS (aV.nm 3)))))))) xj
theorem lQ:a_ (KX w.params) mg "table_of" "table_of" fN ["steps"] 232 (Hd.fd fN "table_of" "table_of" mf 231):=Hd.mY e.X e.G (by kernel_rfl) fun _ _ _ _ _ _ _=>rfl
theorem qb:aK PW w (KX w.params) mg base (bX PW w) 3 232 (Hd.fd fN "table_of" "table_of" mf 231) ["steps"] (iH eY):=by
 have B:=Bt e;have Q:=Qt e;have Y:=Yt e
 exact nA (N:=jy) (lQ e).fn iS (fun cdv A outer s H E hr=>(dc (gk (bh iS.nd (bZ.l 1) (sY ak)))
  (dc (Ds (fk (bZ.nm 0)) (dO iS.nd (by first|exact Or.inl rfl|exact Or.inr rfl) (by first|exact .inl rfl|exact .inr rfl)) (dc (gk (bh iS.nd (bZ.l 3) (ba (rQ e) (zO e) (hr.mono (by decide)) (ae (bZ.nm 1) (ae (bZ.nm 0) (ae (bZ.nm 2) ak))) (bZ.d 0) (bZ.g 0))))
  (dc (Gj (dZ (hO hr) (cp _) (f_ (bZ.nm 3) (j6 au)) au) (ig (AG Y.kf Y.my (ae Hv ak) (bZ.d 1) (bZ.g 1))) CD)
  (ig (gk (qP (nu (bZ.nm 1) (bZ.nm 3))))))))
  (ig (gk fz))))) vq
theorem j0:a_ (KX w.params) mg "shares" "shares" hU ["steps"] 247 (Hd.fd hU "shares" "shares" mf 246):=Hd.mY e.X e.G (by kernel_rfl) fun _ _ _ _ _ _ _=>rfl
theorem ux:aK PW w (KX w.params) mg base (bX PW w) 4 247 (Hd.fd hU "shares" "shares" mf 246) ["steps"] (iH il):=by
 have B:=Bt e;have Q:=Qt e;have Y:=Yt e
 exact nA (N:=l4) (j0 e).fn rN (fun cdv A outer s H E hr=>(dc (vQ (lQ e) (qb e) (hr.mono (by decide)) rN.nd (lU.l 1) (ae (lU.nm 0) ak) (lU.d 0) (lU.g 0))
  (ig (gk fz)))) zo
theorem eS:MethAt (KX w.params) bT "__init__" "Bench.__init__" bM ["self","rows"] 273 (Hd.fd bM "__init__" "Bench.__init__" Ff 272):=Hd.HI (by kernel_rfl) fun _ _ _ _ _ _ _ _=>rfl
theorem o_:aK PW w (KX w.params) mg base b_ 3 273 (Hd.fd bM "__init__" "Bench.__init__" Ff 272) ["self","rows"] (cK gr):=by
 have B:=Bt e;have Q:=Qt e;have Y:=Yt e
 exact bY (N:=eW) (eS e).fn oo (fun cdv A outer s H E hr=>(aA (nO Q.jD.cl Q.uP (aT.nm 0) (qV (Nc:=["row"]) (a9.look (ai bM) ["self","rows"] (by decide+kernel)) (fk (aT.nm 1)) (fun _ _ _ _=>(dO (show(["row"]:List Str).Nodup by decide+kernel) (by first|exact Or.inl rfl|exact Or.inr rfl) (by first|exact .inl rfl|exact .inr rfl))) (fun _ _ _ _=>bO) (fun _ _ _ _=>(d6 jZ (ae c8 ak) B.jc rfl gC (by decide+kernel) rfl)) bP))
  (aA (nO Q.jD.cl Q.uq (aT.nm 0) (qV (Nc:=["row"]) (a9.look (ai bM) ["self","rows"] (by decide+kernel)) (fk (ba (iV e) (kH e) (hr.mono (by decide)) (ae (d_ gL (ae (aT.nm 1) ak) B.gI rfl fH (aT.d 0) (aT.g 0)) ak) (aT.d 1) (aT.g 1))) (fun _ _ _ _=>(dO (show(["row"]:List Str).Nodup by decide+kernel) (by first|exact Or.inl rfl|exact Or.inr rfl) (by first|exact .inl rfl|exact .inr rfl))) (fun _ _ _ _=>bO) (fun _ _ _ _=>(d6 jZ (ae c8 ak) B.jc rfl gC (by decide+kernel) rfl)) bP))
  (aE (nO Q.jD.cl Q.ly (aT.nm 0) (qV (Nc:=["row"]) (a9.look (ai bM) ["self","rows"] (by decide+kernel)) (fk (ba (iV e) (kH e) (hr.mono (by decide)) (ae (d_ gL (ae (aT.nm 1) ak) B.gI rfl fH (aT.d 0) (aT.g 0)) ak) (aT.d 1) (aT.g 1))) (fun _ _ _ _=>(dO (show(["row"]:List Str).Nodup by decide+kernel) (by first|exact Or.inl rfl|exact Or.inr rfl) (by first|exact .inl rfl|exact .inr rfl))) (fun _ _ _ _=>bO) (fun _ _ _ _=>(d6 jZ (ae c8 ak) B.jc rfl gC (by decide+kernel) rfl)) bP)))))) oq
theorem gP:a_ (KX w.params) mg "is_short" "is_short" fM ["steps"] 341 (Hd.fd fM "is_short" "is_short" mq 340):=Hd.mY e.X e.G (by kernel_rfl) fun _ _ _ _ _ _ _=>rfl
theorem qw:aK PW w (KX w.params) mg base (bX PW w) 5 341 (Hd.fd fM "is_short" "is_short" mq 340) ["steps"] (iH lK):=by
 have B:=Bt e;have Q:=Qt e;have Y:=Yt e
 exact nA (N:=jm) (gP e).fn oM (fun cdv A outer s H E hr=>(dc (vQ (j0 e) (ux e) (hr.mono (by decide)) oM.nd (js.l 1) (ae (js.nm 0) ak) (js.d 0) (js.g 0))
  (dc (gk fz)
  (dc (gk fz)
  (ig (gk fz)))))) vm
theorem eB:MethAt (KX w.params) fB "__init__" "Stairs.__init__" cE ["self","steps"] 355 (Hd.fd cE "__init__" "Stairs.__init__" mq 354):=Hd.HI (by kernel_rfl) fun _ _ _ _ _ _ _ _=>rfl
theorem om:aK PW w (KX w.params) mg base (bX PW w) 5 355 (Hd.fd cE "__init__" "Stairs.__init__" mq 354) ["self","steps"] (iH f9):=by
 have B:=Bt e;have Q:=Qt e;have Y:=Yt e
 exact nA (N:=eD) (eB e).fn mH (fun cdv A outer s H E hr=>(dc (gk (nO Q.kZ.cl Q.rD (cj.nm 0) (E1 ⟨Q.jD.HJ,(eS e).me.at_,(eS e).me.fn,Q.jD.kp⟩ (o_ e) (hr.mono (by decide)) (cj.g 0) Q.jD.mg (eS e).bd (ae (cj.nm 1) ak) (cj.d 0))))
  (ig (DG (lQ e) (qb e) (hr.mono (by decide)) (ae (cj.nm 1) ak) (cj.d 1) (cj.g 1))))) mE
theorem nQ:a_ (KX w.params) mg "short" "short" jC ["steps"] 404 (Hd.fd jC "short" "short" mq 403):=Hd.mY e.X e.G (by kernel_rfl) fun _ _ _ _ _ _ _=>rfl
theorem CB:aK PW w (KX w.params) mg base (bX PW w) 7 404 (Hd.fd jC "short" "short" mq 403) ["steps"] (iH vT):=by
 have B:=Bt e;have Q:=Qt e;have Y:=Yt e
 exact nA (N:=oh) (nQ e).fn AL (fun cdv A outer s H E hr=>(dc (Cv ⟨Q.kZ.HJ,(eB e).me.at_,(eB e).me.fn,Q.kZ.kp⟩ (om e) (hr.mono (by decide)) Q.kZ.mg (eB e).bd (ae (qU.nm 0) ak) (qU.d 0) (qU.g 0))
  (dc (gk fz)
  (dc (gk fz)
  (ig (gk fz)))))) Av
theorem mv:a_ (KX w.params) mg "shows_short" "shows_short" dR ["steps","told"] 411 (Hd.fd dR "shows_short" "shows_short" mq 410):=Hd.mj e.X e.G (by kernel_rfl) fun _ _ _ _ _ _ _ _=>rfl
theorem sO:aK PW w (KX w.params) mg base b_ 8 411 (Hd.fd dR "shows_short" "shows_short" mq 410) ["steps","told"] (cK je):=by
 have B:=Bt e;have Q:=Qt e;have Y:=Yt e
 exact bY (N:=gj) (mv e).fn qE (fun cdv A outer s H E hr=>(aA (e7 (qj (wH (i4 (iW (ba (hX e) (kX e) (hr.mono (by decide)) (ae (bo.nm 1) (ae au ak)) (bo.d 0) (bo.g 0)))) (uF (i4 (iW (ba (nG e) (uB e) (hr.mono (by decide)) (ae (bo.nm 0) (ae (f_ (bo.nm 1) au) (ae (f_ (bo.nm 1) au) (ae (f_ (bo.nm 1) au) ak)))) (bo.d 1) (bo.g 1))))))) (aE (aS kA)) dF)
  (aE (A6 (gP e) (qw e) (hr.mono (by decide)) (ae (f_ (bo.nm 1) au) ak) Y.kf Y.my (bo.d 2) (bo.g 2) (bo.d 3) (bo.g 3) (fun C hC=>⟨_,(List.mem_singleton.mp hC)▸Y.kf,by rw[List.mem_singleton.mp hC];kernel_rfl⟩))))) qC
theorem u6:a_ (KX w.params) mg "_law_at" "_law_at" iF ["_law_script","_law_k"] 418 (Hd.fd iF "_law_at" "_law_at" el 417):=Hd.mj e.X e.G (by kernel_rfl) fun _ _ _ _ _ _ _ _=>rfl
theorem AN:aK PW w (KX w.params) mg base b_ 1 418 (Hd.fd iF "_law_at" "_law_at" el 417) ["_law_script","_law_k"] (cK pd):=by
 have B:=Bt e;have Q:=Qt e;have Y:=Yt e
 exact bY (N:=l_) (u6 e).fn zv (fun cdv A outer s H E hr=>(aA (e7 (dZ Ig (cp _) (iC.nm 1) (d_ gL (ae (iC.nm 0) ak) B.gI rfl fH (iC.d 0) (iC.g 0))) (aE (aS (f_ (iC.nm 0) (iC.nm 1)))) dF)
  (aE (aS au)))) yO
theorem pL:a_ (KX w.params) mg "_law_left" "_law_left" fK ["_law_script","_law_k"] 425 (Hd.fd fK "_law_left" "_law_left" el 424):=Hd.mj e.X e.G (by kernel_rfl) fun _ _ _ _ _ _ _ _=>rfl
theorem xt:aK PW w (KX w.params) mg base b_ 2 425 (Hd.fd fK "_law_left" "_law_left" el 424) ["_law_script","_law_k"] (cK lb):=by
 have B:=Bt e;have Q:=Qt e;have Y:=Yt e
 exact bY (N:=jw) (pL e).fn d7 (fun cdv A outer s H E hr=>(aA (bh d7.nd (aQ.l 2) (ba (u6 e) (AN e) (hr.mono (by decide)) (ae (aQ.nm 0) (ae (aQ.nm 1) ak)) (aQ.d 0) (aQ.g 0)))
  (aA (e7 (dZ Im (cp _) (d_ B0 (ae (aQ.nm 2) ak) B.Bm rfl yv (aQ.d 1) (aQ.g 1)) (a6 xr au au)) (aE (aS (sY (ae (d_ B0 (ae (aQ.nm 2) ak) B.Bm rfl yv (aQ.d 1) (aQ.g 1)) ak)))) dF)
  (aA (bh d7.nd (aQ.l 3) (a6 p8 (a6 dX (a6 c6 (a6 c6 (a6 p8 (aQ.nm 2) au) (a6 dX au (aQ.nm 1))) au) au) au))
  (aA (bh d7.nd (aQ.l 4) au)
  (aA (jP (gp (aQ.g 2) B.gz (ae au ak)) (dO d7.nd (by first|exact Or.inl rfl|exact Or.inr rfl) (by first|exact .inl rfl|exact .inr rfl)) (aA (bh d7.nd (aQ.l 3) (a6 p8 (a6 c6 (a6 c6 (a6 dX (aQ.nm 3) (aQ.nm 3)) (a6 dX au (aQ.nm 5))) au) au))
  (aE (bh d7.nd (aQ.l 4) (a6 c6 (a6 dX (aQ.nm 4) au) (aQ.nm 3))))))
  (aE (aS (sY (ae (aQ.nm 4) ak)))))))))) vj
theorem bg:a_ (KX w.params) mg "_law_digit" "_law_digit" e_ ["_law_left_here","_law_many"] 432 (Hd.fd e_ "_law_digit" "_law_digit" el 431):=Hd.mj e.X e.G (by kernel_rfl) fun _ _ _ _ _ _ _ _=>rfl
theorem bu:aK PW w (KX w.params) mg base b_ 1 432 (Hd.fd e_ "_law_digit" "_law_digit" el 431) ["_law_left_here","_law_many"] (cK aN):=by
 have B:=Bt e;have Q:=Qt e;have Y:=Yt e
 exact bY (N:=iL) (bg e).fn m9 (fun cdv A outer s H E hr=>(aA (bh m9.nd (d8.l 2) (a6 p8 (f_ (d8.nm 0) au) (d8.nm 1)))
  (aA (AD (a6 yF (f_ (d8.nm 0) au) (d8.nm 1)) (d8.nm 0) au)
  (aE (aS (d8.nm 2)))))) uk
theorem nk:a_ (KX w.params) mg "_law_number" "_law_number" eO ["_law_left_here","_law_kind"] 439 (Hd.fd eO "_law_number" "_law_number" el 438):=Hd.mj e.X e.G (by kernel_rfl) fun _ _ _ _ _ _ _ _=>rfl
theorem tH:aK PW w (KX w.params) mg base b_ 2 439 (Hd.fd eO "_law_number" "_law_number" el 438) ["_law_left_here","_law_kind"] (cK g4):=by
 have B:=Bt e;have Q:=Qt e;have Y:=Yt e
 exact bY (N:=gJ) (nk e).fn mr (fun cdv A outer s H E hr=>(aA (e7 (dZ (hO hr) (cp _) (aX.nm 1) au) (aE (aS (a6 c6 (a6 lg (ba (bg e) (bu e) (hr.mono (by decide)) (ae (aX.nm 0) (ae (a6 lg (a6 dX au (a6 xr au au)) au) ak)) (aX.d 0) (aX.g 0)) (a6 xr au au)) au))) dF)
  (aA (e7 (qj (yL (dZ (hO hr) (cp _) (aX.nm 1) au) (we (dZ (hO hr) (cp _) (ba (bg e) (bu e) (hr.mono (by decide)) (ae (aX.nm 0) (ae au ak)) (aX.d 0) (aX.g 0)) au)))) (aE (aS (a6 lg (ba (bg e) (bu e) (hr.mono (by decide)) (ae (aX.nm 0) (ae au ak)) (aX.d 0) (aX.g 0)) au))) dF)
  (aA (bh mr.nd (aX.l 2) (f_ (jn (ae au (ae au (ae au (ae au (ae au ak)))))) (aX.nm 1)))
  (aE (aS (a6 lg (ba (bg e) (bu e) (hr.mono (by decide)) (ae (aX.nm 0) (ae (a6 c6 (a6 dX au (aX.nm 2)) au) ak)) (aX.d 0) (aX.g 0)) (aX.nm 2)))))))) sJ
theorem lG:a_ (KX w.params) mg "_law_rows" "_law_rows" eZ ["_law_left_here","_law_many","_law_wide","_law_kind"] 444 (Hd.fd eZ "_law_rows" "_law_rows" el 443):=Hd.El e.X e.G (by kernel_rfl) fun _ _ _ _ _ _ _ _ _ _=>rfl
theorem pJ:aK PW w (KX w.params) mg base b_ 3 444 (Hd.fd eZ "_law_rows" "_law_rows" el 443) ["_law_left_here","_law_many","_law_wide","_law_kind"] (cK jq):=by
 have B:=Bt e;have Q:=Qt e;have Y:=Yt e;exact bY (N:=jo) (lG e).fn vw (fun cdv A outer s H E hr=>(aE (aS (d6 dy (ae (dU (Nc:=["_law_j","_law_wide","_law_left_here","_law_kind"]) (a9.look (ai eZ) ["_law_left_here","_law_many","_law_wide","_law_kind"] (by decide+kernel)) (gp (ju.g 0) B.gz (ae (ju.nm 1) ak)) (fun _ _ _ _=>(dO (show(["_law_j","_law_wide","_law_left_here","_law_kind"]:List Str).Nodup by decide+kernel) (by first|exact Or.inl rfl|exact Or.inr rfl) (by first|exact .inl rfl|exact .inr rfl))) (fun _ _ _ _=>bO) (fun _ _ _ _=>(d6 dy (ae (dU (Nc:=["_law_k","_law_left_here","_law_kind"]) (a9.BG (by decide+kernel)) (gp rfl B.gz (ae c8 ak)) (fun _ _ _ _=>(dO (show(["_law_k","_law_left_here","_law_kind"]:List Str).Nodup by decide+kernel) (by first|exact Or.inl rfl|exact Or.inr rfl) (by first|exact .inl rfl|exact .inr rfl))) (fun _ _ _ _=>bO) (fun _ _ _ _=>(ba (nk e) (tH e) (hr.mono (by decide)) (ae c8 (ae c8 ak)) (by decide+kernel) rfl)) bP) ak) B.cW rfl cD (by decide+kernel) rfl)) bP) ak) B.cW rfl cD (ju.d 1) (ju.g 1))))) vf
theorem qu:a_ (KX w.params) mg "_law_unit" "_law_unit" eX ["_law_n"] 449 (Hd.fd eX "_law_unit" "_law_unit" el 448):=Hd.mY e.X e.G (by kernel_rfl) fun _ _ _ _ _ _ _=>rfl
theorem xZ:aK PW w (KX w.params) mg base b_ 1 449 (Hd.fd eX "_law_unit" "_law_unit" el 448) ["_law_n"] (cK lp):=by
 have B:=Bt e;have Q:=Qt e;have Y:=Yt e;exact bY (N:=jr) (qu e).fn vB (fun cdv A outer s H E hr=>(aE (aS (d6 dy (ae (dU (Nc:=["_law_j","_law_n"]) (a9.look (ai eX) ["_law_n"] (by decide+kernel)) (gp (jx.g 0) B.gz (ae (jx.nm 0) ak)) (fun _ _ _ _=>(dO (show(["_law_j","_law_n"]:List Str).Nodup by decide+kernel) (by first|exact Or.inl rfl|exact Or.inr rfl) (by first|exact .inl rfl|exact .inr rfl))) (fun _ _ _ _=>bO) (fun _ _ _ _=>(d6 dy (ae (dU (Nc:=["_law_k","_law_j"]) (a9.BG (by decide+kernel)) (gp rfl B.gz (ae c8 ak)) (fun _ _ _ _=>(dO (show(["_law_k","_law_j"]:List Str).Nodup by decide+kernel) (by first|exact Or.inl rfl|exact Or.inr rfl) (by first|exact .inl rfl|exact .inr rfl))) (fun _ _ _ _=>bO) (fun _ _ _ _=>(d6 GK (ae (pP (hO hr) (cp _) c8 c8) ak) B.Bz rfl zJ (by decide+kernel) rfl)) bP) ak) B.cW rfl cD (by decide+kernel) rfl)) bP) ak) B.cW rfl cD (jx.d 1) (jx.g 1))))) vC
theorem kT:a_ (KX w.params) mg "_law_no_steps" "_law_no_steps" bN ["_law_left_here"] 454 (Hd.fd bN "_law_no_steps" "_law_no_steps" el 453):=Hd.mY e.X e.G (by kernel_rfl) fun _ _ _ _ _ _ _=>rfl
theorem qJ:aK PW w (KX w.params) mg base b_ 4 454 (Hd.fd bN "_law_no_steps" "_law_no_steps" el 453) ["_law_left_here"] (cK h_):=by
 have B:=Bt e;have Q:=Qt e;have Y:=Yt e
 exact bY (N:=fO) (kT e).fn aL (fun cdv A outer s H E hr=>(aA (e7 (dZ (hO hr) (cp _) (ba (bg e) (bu e) (hr.mono (by decide)) (ae (af.nm 0) (ae au ak)) (af.d 0) (af.g 0)) au) (aE (aS (lN (ae (a6 dX (lN (ae au ak)) (a6 c6 au (ba (bg e) (bu e) (hr.mono (by decide)) (ae (af.nm 0) (ae au ak)) (af.d 0) (af.g 0)))) ak)))) dF)
  (aA (bh aL.nd (af.l 1) (a6 c6 au (ba (bg e) (bu e) (hr.mono (by decide)) (ae (af.nm 0) (ae au ak)) (af.d 0) (af.g 0))))
  (aA (e7 (dZ (hO hr) (cp _) (ba (bg e) (bu e) (hr.mono (by decide)) (ae (af.nm 0) (ae au ak)) (af.d 0) (af.g 0)) au) (aE (bh aL.nd (af.l 1) (a6 c6 au (a6 p8 (af.nm 1) au)))) dF)
  (aA (bh aL.nd (af.l 2) (d_ (GO rfl) (ae au (ae (a6 c6 (af.nm 1) (ba (bg e) (bu e) (hr.mono (by decide)) (ae (af.nm 0) (ae au ak)) (af.d 0) (af.g 0))) ak)) B.Ga rfl Ex (af.d 1) (af.g 1)))
  (aA (bh aL.nd (af.l 3) (ba (bg e) (bu e) (hr.mono (by decide)) (ae (af.nm 0) (ae au ak)) (af.d 0) (af.g 0)))
  (aA (e7 (dZ (hO hr) (cp _) (ba (bg e) (bu e) (hr.mono (by decide)) (ae (af.nm 0) (ae au ak)) (af.d 0) (af.g 0)) au) (aE (aS (ba (lG e) (pJ e) (hr.mono (by decide)) (ae (af.nm 0) (ae (a6 c6 (af.nm 1) au) (ae (d_ (Gw rfl) (ae au (ae (a6 lg (af.nm 1) (ba (bg e) (bu e) (hr.mono (by decide)) (ae (af.nm 0) (ae au ak)) (af.d 0) (af.g 0))) ak)) B.F0 rfl Fx (af.d 2) (af.g 2)) (ae (af.nm 3) ak)))) (af.d 3) (af.g 3)))) dF)
  (aA (bh aL.nd (af.l 4) (ba (lG e) (pJ e) (hr.mono (by decide)) (ae (af.nm 0) (ae (af.nm 1) (ae (af.nm 2) (ae (af.nm 3) ak)))) (af.d 3) (af.g 3)))
  (aA (bh aL.nd (af.l 5) (a6 c6 au (ba (bg e) (bu e) (hr.mono (by decide)) (ae (af.nm 0) (ae au ak)) (af.d 0) (af.g 0))))
  (aA (n_ aL.nd (af.l 6) (Nc:=["_law_row","_law_left_here"]) (a9.look (ai bN) ["_law_left_here","_law_many","_law_wide","_law_kind","_law_some","_law_often","_law_weights","_law_made","_law_weight","_law_row","_law_least","_law_way","_law_at_here"] (by decide+kernel)) (fk (af.nm 4)) (fun _ _ _ _=>(dO (show(["_law_row","_law_left_here"]:List Str).Nodup by decide+kernel) (by first|exact Or.inl rfl|exact Or.inr rfl) (by first|exact .inl rfl|exact .inr rfl))) (fun _ _ _ _=>bO) (fun _ _ _ _=>(a6 lg (ba (bg e) (bu e) (hr.mono (by decide)) (ae c8 (ae au ak)) (by decide+kernel) rfl) au)) bP)
  (aA (bh aL.nd (af.l 7) (a6 dX (jn (ae au ak)) (af.nm 2)))
  (aA (jP (nZ (af.g 4) B.lP (ae (af.nm 6) (ae (af.nm 4) ak))) (nR rfl aL.nd (by first|exact Or.inl rfl|exact Or.inr rfl) (by first|exact .inl rfl|exact .inr rfl) (by first|exact Or.inl rfl|exact Or.inr rfl) (by first|exact .inl rfl|exact .inr rfl)) (aE (n_ aL.nd (af.l 7) (Nc:=["_law_a","_law_b","_law_weight"]) (a9.look (ai bN) ["_law_left_here","_law_many","_law_wide","_law_kind","_law_some","_law_often","_law_weights","_law_made","_law_weight","_law_row","_law_least","_law_way","_law_at_here"] (by decide+kernel)) (nZ (af.g 4) B.lP (ae (af.nm 7) (ae (af.nm 9) ak))) (fun _ _ _ _=>(nR rfl (show(["_law_a","_law_b","_law_weight"]:List Str).Nodup by decide+kernel) (by first|exact Or.inl rfl|exact Or.inr rfl) (by first|exact .inl rfl|exact .inr rfl) (by first|exact Or.inl rfl|exact Or.inr rfl) (by first|exact .inl rfl|exact .inr rfl))) (fun _ _ _ _=>bO) (fun _ _ _ _=>(a6 c6 c8 (a6 dX c8 c8))) rJ)))
  (aA (n_ aL.nd (af.l 10) (Nc:=["_law_n","_law_often"]) (a9.look (ai bN) ["_law_left_here","_law_many","_law_wide","_law_kind","_law_some","_law_often","_law_weights","_law_made","_law_weight","_law_row","_law_least","_law_way","_law_at_here"] (by decide+kernel)) (fk (f_ (af.nm 4) au)) (fun _ _ _ _=>(dO (show(["_law_n","_law_often"]:List Str).Nodup by decide+kernel) (by first|exact Or.inl rfl|exact Or.inr rfl) (by first|exact .inl rfl|exact .inr rfl))) (fun _ _ _ _=>bO) (fun _ _ _ _=>(a6 dX c8 c8)) bP)
  (aA (bh aL.nd (af.l 11) (ba (bg e) (bu e) (hr.mono (by decide)) (ae (af.nm 0) (ae au ak)) (af.d 0) (af.g 0)))
  (aA (bh aL.nd (af.l 9) (f_ (jn (ae (a6 dX (jn (ae au ak)) (af.nm 2)) (ae (f_ (af.nm 4) (j6 au)) (ae (dU (Nc:=["_law_n"]) (a9.look (ai bN) ["_law_left_here","_law_many","_law_wide","_law_kind","_law_some","_law_often","_law_weights","_law_made","_law_weight","_law_row","_law_least","_law_way","_law_at_here"] (by decide+kernel)) (fk (af.nm 10)) (fun _ _ _ _=>(dO (show(["_law_n"]:List Str).Nodup by decide+kernel) (by first|exact Or.inl rfl|exact Or.inr rfl) (by first|exact .inl rfl|exact .inr rfl))) (fun _ _ _ _=>bO) (fun _ _ _ _=>(j6 c8)) bP) (ae (af.nm 7) (ae (af.nm 7) (ae (af.nm 7) ak))))))) (af.nm 11)))
  (aA (bh aL.nd (af.l 4) (a6 c6 (jn (ae (d6 dy (ae (af.nm 10) ak) B.cW rfl cD (af.d 5) (af.g 5)) ak)) (d6 jZ (ae (iG (af.nm 4) (gv au) jF) ak) B.jc rfl gC (af.d 6) (af.g 6))))
  (aA (bh aL.nd (af.l 12) (ba (bg e) (bu e) (hr.mono (by decide)) (ae (af.nm 0) (ae (a6 c6 (af.nm 1) au) ak)) (af.d 0) (af.g 0)))
  (aE (aS (d6 dy (ae (a6 c6 (a6 c6 (iG (af.nm 4) jF (gv (af.nm 12))) (jn (ae (d6 dy (ae (af.nm 9) ak) B.cW rfl cD (af.d 5) (af.g 5)) ak))) (iG (af.nm 4) (gv (af.nm 12)) jF)) ak) B.cW rfl cD (af.d 5) (af.g 5))))))))))))))))))))) qz
theorem de:a_ (KX w.params) mg "_law_refusal" "_law_refusal" dS ["_law_which","_law_rows_here"] 461 (Hd.fd dS "_law_refusal" "_law_refusal" el 460):=Hd.mj e.X e.G (by kernel_rfl) fun _ _ _ _ _ _ _ _=>rfl
theorem mm:aK PW w (KX w.params) mg base b_ 8 461 (Hd.fd dS "_law_refusal" "_law_refusal" el 460) ["_law_which","_law_rows_here"] sM:=by
 have B:=Bt e;have Y:=Yt e;refine(de e).fn.ok h9 (fun vs H Q E h=>?_) fun cdv A outer s H vs Q E hr h=>⟨_,?_,yN (K:=KX w.params) (L:=g8) (T:=dv) (c2:=sf) (c3:=m8) Y.kf (by kernel_rfl) (by kernel_rfl) (by kernel_rfl) (by kernel_rfl) (by kernel_rfl) h rfl⟩
 . obtain⟨f,v,rfl,_⟩:=h;rfl
 . refine jU (pZ h9.nd rfl (.inl rfl) zD) (jU (DV h9.nd rfl rfl ?_ rfl (.inl rfl) (cv (pv 1) gW) Y.rk (cq.g 0) Y.qY rfl rfl rfl rfl (hdL:=cq.d 0))
    (jU (tx (PW.pt (pw_or (mP (mC (lJ xo (cq.g 1) B.eJ rfl (cv (pv 2) (cv (jA (cq.g 2) Y.my rfl) gW)))))
      (pw_or1 (mP (mC (lJ xo (cq.g 1) B.eJ rfl (cv (pv 2) (cv (vS (cq.g 3) B.uz rfl rfl) gW))))))))
      (jE (mS tm)) rA) (jE (mS (zq (lJ xo (cq.g 1) B.eJ rfl (cv (pv 2) (cv (u0 (cv (jA (cq.g 4) Y.yW rfl) (cv (jA (cq.g 5) Y.yS rfl) gW))) gW))))))))
   rintro f (rfl|rfl|rfl)
   . exact⟨_,_,_,ux e,hr.mono (by decide),(j0 e).fn.kp,(j0 e).bd⟩
   . exact⟨_,_,_,qw e,hr.mono (by decide),(gP e).fn.kp,(gP e).bd⟩
   . exact⟨_,_,_,CB e,hr.mono (by decide),(nQ e).fn.kp,(nQ e).bd⟩
theorem Ho:a_ (KX w.params) mg "law" "law" iU ["_law_script"] 466 (Hd.fd iU "law" "law" el 465):=Hd.mY e.X e.G (by kernel_rfl) fun _ _ _ _ _ _ _=>rfl
theorem Gv:aK PW w (KX w.params) mg base b_ 9 466 (Hd.fd iU "law" "law" el 465) ["_law_script"] (cK BO):=by
 have B:=Bt e;have Q:=Qt e;have Y:=Yt e
 exact bY (N:=tw) (Ho e).fn iX (fun cdv A outer s H E hr=>(aA (jP (AB (aM.g 1) B.gz (ae au (ae (a6 c6 au (d_ gL (ae (iG (aM.nm 0) (gv au) (gv au)) ak) B.gI rfl fH (aM.d 0) (aM.g 0))) ak))) (dO iX.nd (by first|exact Or.inl rfl|exact Or.inr rfl) (by first|exact .inl rfl|exact .inr rfl)) (aA (bh iX.nd (aM.l 2) (ba (kT e) (qJ e) (hr.mono (by decide)) (ae (ba (pL e) (xt e) (hr.mono (by decide)) (ae (aM.nm 0) (ae (aM.nm 1) ak)) (aM.d 2) (aM.g 2)) ak) (aM.d 3) (aM.g 3)))
  (aA (n_ iX.nd (aM.l 3) (Nc:=["_law_row"]) (a9.look (ai iU) ["_law_script","_law_k","_law_rows_here","_law_handed","_law_which","_law_unit_here","_law_papers","_law_paper"] (by decide+kernel)) (fk (aM.nm 2)) (fun _ _ _ _=>(dO (show(["_law_row"]:List Str).Nodup by decide+kernel) (by first|exact Or.inl rfl|exact Or.inr rfl) (by first|exact .inl rfl|exact .inr rfl))) (fun _ _ _ _=>bO) (fun _ _ _ _=>(d6 jZ (ae c8 ak) B.jc rfl gC (by decide+kernel) rfl)) bP)
  (aA (zy PassesOwn.never rfl (Ez (u0 (cv (jA (aM.g 6) (j0 e).mg rfl (aM.d 6)) (cv (jA (aM.g 5) (gP e).mg rfl (aM.d 5)) (cv (jA (aM.g 4) (nQ e).mg rfl (aM.d 4)) gW))))) (ik iX.nd rfl (.inl rfl)) (jE (tx (PW.pt (pw_or (mP (mC (kR (mm e) (hr.mono (by decide)) (aM.g 7) (de e).mg (de e).fn.kp (de e).bd .nil s_ (cv (pv 4) (cv (pv 3) gW)) (aM.d 7)))) (pw_or1 (mP (mC (kR (mm e) (hr.mono (by decide)) (aM.g 7) (de e).mg (de e).fn.kp (de e).bd .nil s_ (cv (pv 4) (cv (pv 2) gW)) (aM.d 7))))))) (jE (mS tm)) rA)) (.inl rfl) (.inr (.inl rfl)) (.inr (.inr rfl)))
  (aA (bh iX.nd (aM.l 5) (ba (qu e) (xZ e) (hr.mono (by decide)) (ae (d_ gL (ae (aM.nm 2) ak) B.gI rfl fH (aM.d 0) (aM.g 0)) ak) (aM.d 8) (aM.g 8)))
  (aA (bh iX.nd (aM.l 6) (jn (ae (lN (ae (aM.nm 2) (ae (aM.nm 5) (ae (aM.nm 5) ak)))) (ae (jn (ae (aM.nm 3) (ae (d6 jZ (ae (aM.nm 5) ak) B.jc rfl gC (aM.d 9) (aM.g 9)) (ae (aM.nm 5) ak)))) (ae (lN (ae (iG (aM.nm 2) jF (gv (j6 au))) (ae (iG (aM.nm 5) jF (gv (j6 au))) (ae (iG (aM.nm 5) jF (gv (j6 au))) ak)))) (ae (lN (ae (aM.nm 2) (ae (aM.nm 5) ak))) (ae (lN ak) ak)))))))
  (aA (jP (fk (aM.nm 6)) (dO iX.nd (by first|exact Or.inl rfl|exact Or.inr rfl) (by first|exact .inl rfl|exact .inr rfl)) (aE (e7 (dZ zh (cp _) (ba (mv e) (sO e) (hr.mono (by decide)) (ae (aM.nm 2) (ae (aM.nm 7) ak)) (aM.d 10) (aM.g 10)) kA) (aE (aS kA)) dF)))
  (aE (e7 (dZ (FW hr) (cp _) (aM.nm 3) (dU (Nc:=["_law_row"]) (a9.look (ai iU) ["_law_script","_law_k","_law_rows_here","_law_handed","_law_which","_law_unit_here","_law_papers","_law_paper"] (by decide+kernel)) (fk (aM.nm 2)) (fun _ _ _ _=>(dO (show(["_law_row"]:List Str).Nodup by decide+kernel) (by first|exact Or.inl rfl|exact Or.inr rfl) (by first|exact .inl rfl|exact .inr rfl))) (fun _ _ _ _=>bO) (fun _ _ _ _=>(d6 jZ (ae c8 ak) B.jc rfl gC (by decide+kernel) rfl)) bP)) (aE (aS kA)) dF)))))))))
  (aE (aS kA)))) Fe
end
def dL:DefRec:=match iU with
 | .FunctionDef n a b _ _ _ sc _ _ pos=>⟨n,a,b,sc,pos⟩
 |_=>⟨"",L2.hV (.Pass ⟨0,0,0,0⟩),[],L2.ai (.Pass ⟨0,0,0,0⟩),⟨0,0,0,0⟩⟩
theorem AK:PySem.Challenge.rw_latticeworks_k32_rows_that_are_no_steps.wellSaid=true:=by decide+kernel
end Row
open PySem PySem.W PyProof.Rows
set_option maxRecDepth 100000 in
set_option maxHeartbeats 0 in
theorem PySem.Challenge.cw_latticeworks_k32_rows_that_are_no_steps_holds : PySem.Challenge.rw_latticeworks_k32_rows_that_are_no_steps.Holds := by
 refine PySem.W.holds_law Row.AK fun AK=>?_;refine PySem.W.holds_open (r:=PySem.Challenge.rw_latticeworks_k32_rows_that_are_no_steps.row) (q:=PySem.W.view Row.PW [0,2,3,4,5,7,8,9,10,12,13,14,15,16,18,19,20,21,22,23,24,25,26,27,28,29,30,32,33,34,35,36,37,39,40,41,43,44,45,46,47,48,50,51,52,53,54,55,56,57,58]) (loose:=[]) (Xt:=fun _=>true) (XP:=fun _ _=>True) (YP:=(PySem.W.kmHook Row.KX Row.KA (fun _=>rfl) []).says) (d:=Row.dL) (kwd:=[]) Row.left ((PySem.W.kmHook Row.KX Row.KA (fun _=>rfl) []).of) ((PySem.W.kmHook Row.KX Row.KA (fun _=>rfl) []).keeps) (fun _ _=>trivial) (fun _ _ _ _ _=>trivial) (by kernel_rfl) (by kernel_rfl) (by kernel_rfl) (fun s _=>PySem.W.recFacts_of (R:=[]) rfl) (by kernel_rfl) AK (by decide+kernel) ⟨rfl,rfl,rfl,rfl,rfl,by decide+kernel⟩ ?hw ?hc;case hw=>w_witness2
 refine L2.FY (n:=63) (k:=9) (x:="_law_script") (ts:=[]) (K:=Row.KX) (sp:=fun w=>L3.zN (Row.KX w.params) []) rfl (by decide) (by kernel_rfl) ⟨rfl,by decide,by decide⟩ (by kernel_rfl) rfl (fun w h Y=>⟨PySem.W.km_in_of Y,⟨(fun q hq=>by cases hq),(fun q hq=>by cases hq),fun q hq=>by cases hq⟩⟩) ?F fun _ _ a ns hl hE=>⟨a,ns,rfl,hE,hl,fun _=>rfl⟩
 intro w mg fa h X G hmg;have e2:=hmg.symm.trans (PySem.W.mg_of (v:= .ref 466) X G (by kernel_rfl));cases e2;exact⟨Hd.fd Row.iU "law" "law" Row.el 465,fun s v=> .of_eq rfl,fun base _ _=>(Row.Gv ⟨X,G⟩).imp fun vs H Q E h=>L3.zw (tl:=[]) (by kernel_rfl) rfl (by decide) h⟩
