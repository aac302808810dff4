import PyProof.Rows.All
import Wide.All
import OpenK.AllK
import Wide.FinOn
import Lean
import PyProof.EqAt
import PyProof.EqKinds
import PyProof.TupleCall
import PyProof.NeKinds
import KE.KUnpack
import PySem.Challenge.RW_latticeworks_k17_inside_shown
set_option Elab.async false
set_option linter.all false
set_option maxRecDepth 100000
namespace L2
open PySem PySem.Spec PyProof.Rows
abbrev Key:=Sum Int Str
def Ii:Key->Value->Bool
 | .inl k,v=>Value.isInt k v
 | .inr x,v=>Value.isStrOf x v
def Qm(w:World):Key->Int
 | .inl k=>hashInt k
 | .inr x=>hashStr w x
theorem fg:∀ {k:Key} {v:Value},Ii k v=true->(∃i t,k=Sum.inl i/\v=Value.int i t)\/(∃x t,k=Sum.inr x/\v=Value.str x t)
 | .inl i,v,h=>by
   obtain⟨t,e⟩:=Value.isInt_shape (k:=i) (v:=v) h;exact .inl ⟨i,t,rfl,e⟩
 | .inr x,v,h=>by
   obtain⟨t,e⟩:=Value.isStrOf_shape (x:=x) (v:=v) h;exact .inr ⟨x,t,rfl,e⟩
theorem Lw(a b:Int):decide ((Sum.inl a:Key)=Sum.inl b)=(a==b):=by
 by_cases e:a=b
 . subst e;simp
 . have h:¬(Sum.inl a:Key)=Sum.inl b:=fun q=>e (Sum.inl.inj q);rw[decide_eq_false h];exact(beq_eq_false_iff_ne.mpr e).symm
theorem Lk(a b:Str):decide ((Sum.inr a:Key)=Sum.inr b)=decide (a=b):=by
 by_cases e:a=b
 . subst e;simp
 . have h:¬(Sum.inr a:Key)=Sum.inr b:=fun q=>e (Sum.inr.inj q);rw[decide_eq_false h,decide_eq_false e]
theorem Lm(a:Int)(b:Str):decide ((Sum.inl a:Key)=Sum.inr b)=false:=decide_eq_false (fun q=>nomatch q)
theorem L5(a:Str)(b:Int):decide ((Sum.inr a:Key)=Sum.inl b)=false:=decide_eq_false (fun q=>nomatch q)
def Cp(prog:Program)(w:World):PySem.KeyKind prog w Key where
 is:=Ii
 hash:=Qm w
 inj:=fun v a b ha hb=>by
  rcases fg ha with⟨i,t,rfl,rfl⟩|⟨x,t,rfl,rfl⟩
  . rcases fg hb with⟨j,u,rfl,e⟩|⟨y,u,rfl,e⟩
    . injection e with e1 _;rw[e1]
    . exact nomatch e
  . rcases fg hb with⟨j,u,rfl,e⟩|⟨y,u,rfl,e⟩
    . exact nomatch e
    . injection e with e1 _;rw[e1]
 byValue:=fun k v h=>by
  rcases fg h with⟨i,t,rfl,rfl⟩|⟨x,t,rfl,rfl⟩<;>rfl
 pyHash:=fun hv h=>by
  rcases fg hv with⟨i,t,rfl,rfl⟩|⟨x,t,rfl,rfl⟩
  . exact wpAny_pyHash_int h
  . exact wpAny_pyHash_str h
 eqBool:=fun hu hv h=>by
  rcases fg hu with⟨i,t,rfl,rfl⟩|⟨x,t,rfl,rfl⟩
  . rcases fg hv with⟨j,u,rfl,rfl⟩|⟨y,u,rfl,rfl⟩
    . rw[Lw]at h;exact wpAny_eqBool_int h
    . rw[Lm]at h;exact SeqAt.EqAt.int_str i t y u _ _ _ _ h
  . rcases fg hv with⟨j,u,rfl,rfl⟩|⟨y,u,rfl,rfl⟩
    . rw[L5]at h;exact SeqAt.EqAt.str_int x t j u _ _ _ _ h
    . rw[Lk]at h;exact wpAny_eqBool_str h
 «strs» :=fun k x t v h=>by
  rcases fg h with⟨i,u,rfl,e⟩|⟨y,u,rfl,e⟩
  . exact nomatch e
  . injection e with e1 _;subst e1;cases v<;>rfl
inductive V where
 |aE|bl (b:Bool)|int (i:Int)|str (x:Str)|uD (b:Array UInt8)|uK (b:UInt64)|ref (a:Addr)|ty (n:String)
 deriving DecidableEq
def RelV:V->Value->Prop
 | .aE,u=>u=Value.none
 | .bl b,u=>u=Value.bool b
 | .int i,u=>∃t,u=Value.int i t
 | .str x,u=>∃t,u=Value.str x t
 | .uD b,u=>∃t,u=Value.bytes b t
 | .uK b,u=>∃t,u=Value.float b t
 | .ref a,u=>u=Value.ref a
 | .ty n,u=>u=Value.type n
abbrev Vals:List V->List Value->Prop:=Paired RelV
theorem Vals.length{xs:List V}{us:List Value}(r:Vals xs us):xs.length=us.length:=Paired.length r
theorem Vals.get:∀ {xs:List V} {us:List Value} {i:Nat} {x:V},Vals xs us->xs[i]?=some x->∃u,us[i]?=some u/\RelV x u
 |_,_,_,_,.nil,e=>by simp at e
 |_,_,0,_,.cons r _,e=>by simp at e;subst e;exact⟨_,rfl,r⟩
 |_,_,i+1,x,.cons _ t,e=>by
  obtain⟨u,h1,h2⟩:=Vals.get (i:=i) (x:=x) t (by simpa using e);exact⟨u,by simpa using h1,h2⟩
theorem Vals.set{x:V}{u:Value}(r:RelV x u):∀ {xs:List V} {us:List Value} (i:Nat),Vals xs us->Vals (xs.set i x) (us.set i u)
 |_,_,_,.nil=> .nil
 |_,_,0,.cons _ t=> .cons r t
 |_,_,i+1,.cons q t=> .cons q (Vals.set r i t)
theorem Vals.append:∀ {xs ys:List V} {us ws:List Value},Vals xs us->Vals ys ws->Vals (xs++ys) (us++ws)
 |_,_,_,_,.nil,s=>s
 |_,_,_,_,.cons r t,s=> .cons r (Vals.append t s)
theorem Vals.take:∀ {xs:List V} {us:List Value} (n:Nat),Vals xs us->Vals (xs.take n) (us.take n)
 |_,_,0,_=> .nil
 |_,_,_+1,.nil=> .nil
 |_,_,n+1,.cons r t=> .cons r (Vals.take n t)
theorem Vals.drop:∀ {xs:List V} {us:List Value} (n:Nat),Vals xs us->Vals (xs.drop n) (us.drop n)
 |_,_,0,r=>r
 |_,_,_+1,.nil=> .nil
 |_,_,n+1,.cons _ t=>Vals.drop n t
def pM:Option V->Option Value->Prop
 |some v,some u=>RelV v u
 |none,none=>True
 |_,_=>False
def KV{κ:Type}:List (κ×V)->List (κ×Value)->Prop:=Paired fun(p:κ×V) (q:κ×Value)=>p.1=q.1/\RelV p.2 q.2
def kV:Key->V
 | .inl i=> .int i
 | .inr x=> .str x
inductive HO where
 |lst (xs:List V)
 |tup (xs:List V)
 |dK (kvs:List (Key×V))|dT (kvs:List (List Key×V))
 |set (S:Int->Bool) (n:Nat)
 |ins (C dx:Addr) (fs:List (Str×V))
 |own (x:Addr)
 |xd (fs:List (Str×V))
 |met (f x:Addr)
 |MB (lo hi:Int)
 |fi (o:Obj) (u:HO)
 |km (ps:Array Value)
 |ext (φ:Heap->Prop)
abbrev Hp:=Addr->Option HO
def upd(H:Hp)(a:Addr)(o:HO):Hp:=fun b=>if b=a then some o else H b
theorem a5{H:Hp}{a:Addr}{o:HO}:upd H a o a=some o:=by unfold upd;rw[if_pos rfl]
theorem aG{H:Hp}{a b:Addr}{o:HO}(h:b≠a):upd H a o b=H b:=by unfold upd;rw[if_neg h]
theorem Kc{H:Hp}{a:Addr}{o u:HO}:upd (upd H a o) a u=upd H a u:=by
 funext b;unfold upd;split<;>rfl
theorem dQ{H:Hp}{a b:Addr}{o:HO}(h:H a=some o)(h':H b=none):a≠b:=by
 intro e;subst e;rw[h]at h';cases h'
section
variable (P:Program)(w:World)
def dS(H:Hp)(h:Heap)(a:Addr):HO->Prop
 | .lst xs=>xs.length<=sizeLine/\∃(aq:List Value) (n:Nat),Vals xs aq/\h.get? a=some {cls:= .type "list",data:= .seq aq.toArray n}
 | .tup xs=>xs.length<=sizeLine/\∃aq:List Value,Vals xs aq/\IsTup h a aq.toArray
 | .dK kvs=>kvs.length<=sizeLine/\(a==sysModules)=false/\∃vs,KV kvs vs/\h.DictOf (Cp P w) a vs
 | .dT kvs=>kvs.length<=sizeLine/\(a==sysModules)=false/\∃xs:List (List Key×Addr×Value),
    Paired (fun(p:List Key×V) (q:List Key×Addr×Value)=>p.1=q.1/\H q.2.1=some (.tup (p.1.map kV))/\RelV p.2 q.2.2) kvs xs/\
    ∃o es ep,h.get? a=some o/\o.ExactDict/\o.data= .dict es ep/\es.toList=xs.map (entryOfKey (tupleKind (Cp P w)))/\(xs.map (·.1)).Nodup
 | .set S n=>h.SetOf (intKind P w) a S n
 | .ins C dx fs=>H dx=some (.own a)/\fs.length<=1000/\dx≠a/\h.get? a=some (PySem.W.instObj C dx)/\
    ∃mA,h.Ns1 dx mA/\(∀f,pM (fs.lookup f) (mA f))/\PySem.Within mA (fs.map (·.1))
 | .own _=>∃o,h.get? a=some o
 | .xd fs=>∃mA,h.Ns1 a mA/\∀f,pM (fs.lookup f) (mA f)
 | .MB lo hi=>∃t u v,h.get? a=some {cls:= .type "range",data:= .fields #[.int lo t,.int hi u,.int 1 v]}
 | .fi o u=>h.get? a=some o/\dS H h a u
 | .km ps=>h.get? a=some {cls:= .none,data:= .fields ps}
 | .met f x=>h.get? a=some (PySem.W.methodObj (.ref f) (.ref x))
 | .ext φ=>φ h/\(∃o,h.get? a=some o)/\∀h1 h2:Heap,φ h1->(∀o,h1.get? a=some o->h2.get? a=some o)->φ h2
def ir(H:Hp)(h:Heap):Prop:=∀a o,H a=some o->dS P w H h a o
end
section
variable {P:Program}{w:World}{H H':Hp}{h h':Heap}{a:Addr}{o:HO}
theorem dS.lt(x:dS P w H h a o):a<h.objs.size:=by
 cases o with
 |lst xs=>obtain⟨_,_,_,_,e⟩:=x;exact Heap.lt_size e
 |tup xs=>obtain⟨_,_,_,p⟩:=x;exact p.lt
 |dK kvs=>obtain⟨_,_,_,_,o,_,_,e,_⟩:=x;exact Heap.lt_size e
 |dT kvs=>obtain⟨_,_,_,_,o,_,_,e,_⟩:=x;exact Heap.lt_size e
 |set S n=>obtain⟨o,_,_,_,e,_⟩:=x;exact Heap.lt_size e
 |ins C dx fs=>obtain⟨_,_,_,e,_⟩:=x;exact Heap.lt_size e
 |own y=>obtain⟨_,e⟩:=x;exact Heap.lt_size e
 |xd fs=>obtain⟨_,⟨_,_,_,e,_⟩,_⟩:=x;exact Heap.lt_size e
 |MB lo hi=>obtain⟨_,_,_,e⟩:=x;exact Heap.lt_size e
 |fi ob u=>obtain⟨e,_⟩:=x;exact Heap.lt_size e
 |km ps=>exact Heap.lt_size (show h.get? a=some _ from x)
 |met f y=>exact Heap.lt_size (show h.get? a=some _ from x)
 |ext φ=>obtain⟨_,⟨_,e⟩,_⟩:=x;exact Heap.lt_size e
theorem Paired.HF{α β:Type}{F G:α->β->Prop}:∀ {l₁:List α} {l₂:List β},Paired F l₁ l₂->(∀a b,F a b->G a b)->Paired G l₁ l₂
 |_,_,.nil,_=> .nil
 |_,_,.cons r t,f=> .cons (f _ _ r) (Paired.HF t f)
theorem dS.pS(x:dS P w H h a o)(k:∀b u,(b=a\/H b=some (.own a))->h.get? b=some u->h'.get? b=some u)
 (ho:∀b,H b=some (.own a)->H' b=some (.own a)) (ht:∀b xs,H b=some (.tup xs)->H' b=some (.tup xs)):dS P w H' h' a o:=by
 induction o with
 |lst xs=>obtain⟨z,aq,n,r,e⟩:=x;exact⟨z,aq,n,r,k _ _ (.inl rfl) e⟩
 |tup xs=>obtain⟨z,aq,r,ob,e,c⟩:=x;exact⟨z,aq,r,ob,k _ _ (.inl rfl) e,c⟩
 |dK kvs=>obtain⟨z,y,vs,r,ob,es,ep,e,c⟩:=x;exact⟨z,y,vs,r,ob,es,ep,k _ _ (.inl rfl) e,c⟩
 |dT kvs=>
  obtain⟨z,y,xs,r,ob,es,ep,e,c⟩:=x;exact⟨z,y,xs,Paired.HF r fun p q z=>⟨z.1,ht _ _ z.2.1,z.2.2⟩,ob,es,ep,k _ _ (.inl rfl) e,c⟩
 |set S n=>obtain⟨ob,es,ep,t,e,c⟩:=x;exact⟨ob,es,ep,t,k _ _ (.inl rfl) e,c⟩
 |ins C dx fs=>
  obtain⟨d,z,ne,e,mA,⟨od,es,ep,e2,c⟩,r⟩:=x;exact⟨ho _ d,z,ne,k _ _ (.inl rfl) e,mA,⟨od,es,ep,k _ _ (.inr d) e2,c⟩,r⟩
 |own y=>obtain⟨ob,e⟩:=x;exact⟨ob,k _ _ (.inl rfl) e⟩
 |xd fs=>obtain⟨mA,⟨od,es,ep,e,c⟩,r⟩:=x;exact⟨mA,⟨od,es,ep,k _ _ (.inl rfl) e,c⟩,r⟩
 |MB lo hi=>obtain⟨t,u,v,e⟩:=x;exact⟨t,u,v,k _ _ (.inl rfl) e⟩
 |fi ob u ih=>obtain⟨e,q⟩:=x;exact⟨k _ _ (.inl rfl) e,ih q⟩
 |km ps=>
  have e:h.get? a=some {cls:= .none,data:= .fields ps}:=x;show h'.get? a=some {cls:= .none,data:= .fields ps};exact k a _ (.inl rfl) e
 |met f y=>
  have e:h.get? a=some (PySem.W.methodObj (.ref f) (.ref y)):=x;show h'.get? a=some (PySem.W.methodObj (.ref f) (.ref y));exact k a _ (.inl rfl) e
 |ext φ=>obtain⟨p,⟨o,e⟩,st⟩:=x;exact⟨st _ _ p fun o q=>k _ _ (.inl rfl) q,⟨o,k _ _ (.inl rfl) e⟩,st⟩
theorem ir.lt(x:ir P w H h)(e:H a=some o):a<h.objs.size:=(x a o e).lt
theorem ir.fresh(x:ir P w H h)(e:h.objs.size<=a):H a=none:=by
 cases q:H a with
 |none=>rfl
 |some u=>exact absurd (Nat.lt_of_lt_of_le (x.lt q) e) (Nat.lt_irrefl _)
theorem ir.kept(x:ir P w H h)(k:∀b u,h.get? b=some u->h'.get? b=some u):ir P w H h':=fun a o e=>
 (x a o e).pS (fun b u _ q=>k b u q) (fun _ q=>q) fun _ _ q=>q
theorem ir.laid(x:ir P w H h)(k:∀b u,h.get? b=some u->h'.get? b=some u)(hp:h.objs.size<=a)(new:dS P w (upd H a o) h' a o):ir P w (upd H a o) h':=fun b u e=>by
 have hn:=x.fresh hp;by_cases hb:b=a
 . subst hb;rw[a5]at e;cases e;exact new
 . rw[aG hb]at e;exact(x b u e).pS (fun c v _ q=>k c v q) (fun c q=>by rw[aG (dQ q hn)];exact q) fun c xs q=>by rw[aG (dQ q hn)];exact q
end
def Rd(H:Hp)(a:Addr)(u:HO):Prop:=H a=some u\/∃o,H a=some (.fi o u)
theorem Rd.of{H:Hp}{a:Addr}{u:HO}(h:H a=some u):Rd H a u:= .inl h
theorem Rd.ok{P:Program}{w:World}{H:Hp}{h:Heap}{a:Addr}{u:HO}(r:Rd H a u)(x:ir P w H h):dS P w H h a u:=by
 rcases r with r|⟨o,r⟩
 . exact x a u r
 . obtain⟨_,q⟩:=x a _ r;exact q
def IA:Option HO->Prop
 |some (.lst _)=>True
 |some (.dK _)=>True
 |some (.dT _)=>True
 |some (.set _ _)=>True
 |some (.ins _ _ _)=>True
 |some (.ext _)=>True
 |_=>False
section
variable {P:Program}{w:World}{H:Hp}{h h':Heap}{x e:Addr}{o':HO}
theorem ir.write(ok:ir P w H h)(mu:IA (H x))(he:e=x\/H e=some (.own x))(k:∀b u,b≠e->h.get? b=some u->h'.get? b=some u)(heo:∃u,h'.get? e=some u)
 (new:dS P w (upd H x o') h' x o'):ir P w (upd H x o') h':=fun b u q=>by
 have nown:∀c y,H c=some (.own y)->c≠x:=fun c y r z=>by subst z;rw[r]at mu;exact mu
 have ntup:∀c xs,H c=some (.tup xs)->c≠x:=fun c xs r z=>by subst z;rw[r]at mu;exact mu
 by_cases hb:b=x
 . subst hb;rw[a5]at q;cases q;exact new
 . rw[aG hb]at q;by_cases hbe:b=e
   . have q':H b=some (.own x):=by
      rcases he with z|z
      . exact absurd (hbe.trans z) hb
      . rw[hbe];exact z
     rw[q]at q';cases q';obtain⟨v,hv⟩:=heo;exact⟨v,by rw[hbe];exact hv⟩
   . refine(ok b u q).pS (fun c v hc r=>k c v ?_ r) (fun c r=>by rw[aG (nown c b r)];exact r) fun c xs r=>by rw[aG (ntup c xs r)];exact r
     rcases hc with rfl|hc
     . exact hbe
     . rintro rfl;rcases he with z|z
       . exact nown c b hc z
       . rw[hc]at z;cases z;exact hb rfl
end
structure Un(fs ex:List Addr)(H H':Hp)(h h':Heap):Prop where
 keep:∀b o,h.get? b=some o->H b=none->b∉fs->b∉ex->h'.get? b=some o
 slot:∀b o,h.get? b=some o->H b=none->b∈fs->b∉ex->∃sl,h'.get? b=some {o with slots:=sl}
 free:∀b o,h.get? b=some o->H b=none->b∉ex->H' b=none
 there:∀b o,h.get? b=some o->b∉ex->∃o',h'.get? b=some o'
 pJ:∀b xs,H b=some (.tup xs)->H' b=some (.tup xs)
 oC:∀b o u,H b=some (.fi o u)->H' b=some (.fi o u)
 oo:∀b ps,H b=some (.km ps)->∃more,H' b=some (.km (ps++more))
section
variable {fs fs' ex ex':List Addr}{H H1 H2:Hp}{h h1 h2 h':Heap}{a x e:Addr}{o:HO}
theorem Un.any(u:Un fs ex H H1 h h1){b:Addr}{ob:Obj}(q:h.get? b=some ob)(n:H b=none)(hx:b∉ex):∃sl,h1.get? b=some {ob with slots:=sl}:=by
 by_cases hb:b∈fs
 . exact u.slot b ob q n hb hx
 . exact⟨ob.slots,u.keep b ob q n hb hx⟩
theorem Un.kept(k:∀b u,h.get? b=some u->h'.get? b=some u):Un fs ex H H h h':=
 ⟨fun b ob q _ _ _=>k b ob q,fun b ob q _ _ _=>⟨ob.slots,k b ob q⟩,fun _ _ _ n _=>n,fun b ob q _=>⟨ob,k b ob q⟩,fun _ _ q=>q,fun _ _ _ q=>q,fun _ ps q=>⟨#[],by rw[q];simp⟩⟩
theorem Un.refl:Un fs ex H H h h:=Un.kept fun _ _ q=>q
theorem Un.laid(k:∀b u,h.get? b=some u->h'.get? b=some u)(hp:h.objs.size<=a)(hn:H a=none):Un fs ex H (upd H a o) h h' where
 keep:=fun b u q _ _ _=>k b u q
 slot:=fun b u q _ _ _=>⟨u.slots,k b u q⟩
 free:=fun b u q n _=>by rw[aG (Nat.ne_of_lt (Nat.lt_of_lt_of_le (Heap.lt_size q) hp))];exact n
 there:=fun b u q _=>⟨u,k b u q⟩
 pJ:=fun b xs q=>by rw[aG (dQ q hn)];exact q
 oC:=fun b u xs q=>by rw[aG (dQ q hn)];exact q
 oo:=fun b ps q=>⟨#[],by rw[aG (dQ q hn),q];simp⟩
theorem Un.write(mu:IA (H x))(he:e=x\/H e=some (.own x))(k:∀b u,b≠e->h.get? b=some u->h'.get? b=some u)(heo:∃u,h'.get? e=some u):Un fs ex H (upd H x o) h h':=by
 have hx:∀b,H b=none->b≠x:=fun b n z=>by subst z;rw[n]at mu;exact mu
 have hb:∀b,H b=none->b≠e:=fun b n z=>by
  subst z;rcases he with r|r
  . exact hx b n r
  . rw[n]at r;cases r
 have hm:∀b u,H b=some u->¬IA (some u)->b≠x:=fun b u q nm z=>by subst z;rw[q]at mu;exact nm mu
 refine⟨fun b u q n _ _=>k b u (hb b n) q,fun b u q n _ _=>⟨u.slots,k b u (hb b n) q⟩,fun b u q n _=>by rw[aG (hx b n)];exact n,fun b u q _=>?_,
  fun b xs q=>by rw[aG (hm b _ q fun z=>z)];exact q,fun b u xs q=>by rw[aG (hm b _ q fun z=>z)];exact q,fun b ps q=>⟨#[],by rw[aG (hm b _ q fun z=>z),q];simp⟩⟩
 by_cases hbe:b=e
 . subst hbe;exact heo
 . exact⟨u,k b u hbe q⟩
end
def HI(h:Heap)(H:Hp):List Addr:=(List.range h.objs.size).filter fun a=>(H a).isSome
def pW(h:Heap)(H:Hp):Heap:=PySem.W.hideAll h (HI h H)
theorem F3(h:Heap)(H:Hp):(pW h H).objs.size=h.objs.size:=PySem.W.hideAll_size _ _
theorem qV{h:Heap}{H:Hp}{b:Addr}{o:Obj}(e:h.get? b=some o)(n:H b=none):(pW h H).get? b=some o:=
 PySem.W.hideAll_get _ e fun hm=>by
  have q:(H b).isSome=true:=(List.mem_filter.mp hm).2;rw[n]at q;simp at q
theorem Jo{h:Heap}{H:Hp}{b:Addr}{o:Obj}(e:(pW h H).get? b=some o):h.get? b=some o/\H b=none:=by
 have e':h.get? b=some o:=PySem.W.of_hideAll (HI h H) e;refine⟨e',?_⟩;cases q:H b with
 |none=>rfl
 |some x=>
  have hm:b∈HI h H:=List.mem_filter.mpr ⟨List.mem_range.mpr (Heap.lt_size e'),by simp[q]⟩;have z:(pW h H).get? b=none:=PySem.W.hideAll_none (HI h H) hm;rw[z]at e;cases e
def KQ(g h:Heap)(L:Addr):List (Addr×Obj):=(List.range h.objs.size).filterMap fun a=>if a=L\/(g.get? a).isSome=true then none else(h.get? a).map fun o=>(a,o)
def rest(g h:Heap)(L d:Addr):List (Addr×Obj):=(KQ g h L).filter fun p=>decide (p.1≠d)
structure Mod(K:PySem.W.Frag)(mg:Str->Option Value)(base:Heap):Prop where
 EI:K.In base
 glob:base.Ns mainGlobals mg
 blt:∃mb,base.Ns builtinsNs mb/\∀x:Str,x≠"__name__"->mb x=bootBuiltins x
 nolimit:base.NoLimit
 seer:base.NoSeer
 bmain:∃bm ob,mg "__builtins__"=some (.ref bm)/\bm≠builtinsNs/\base.get? bm=some ob/\ob.cls= .type "module"/\ob.dict=some builtinsNs/\ob.data= .plain
structure Cx where
 prog:Program
 w:World
 K:PySem.W.Frag
 mg:Str->Option Value
 base:Heap
 A:Around
 N:List Str
 s₀:Shared
 H₀:Hp
 env:Env
 outer:List Env
 stack:List Env
 ex:List Addr
 fn:Str->Bool
 calm:Bool
 pn:List (Addr×Obj)
 xe:Value->Shared->Prop
def qi(l:List Env):List Addr:=l.filterMap (·.frame)
abbrev Cx.fs(X:Cx):List Addr:=qi X.outer
def AJ(sc:Scope)(x:Str):Prop:=sc.names.lookup x=some .local\/sc.names.lookup x=some .cell\/sc.names.lookup x=some .free
def Loc(sc:Scope)(x:Str):Prop:=sc.names.lookup x=some .local\/sc.names.lookup x=some .cell
def Look(env:Env)(h:Heap)(m:Str->Option Value)(x:Str)(u:Value):Prop:=
 (env.kindOf x=some .local/\m x=some u)\/((env.kindOf x=some .cell\/env.kindOf x=some .free)/\∃c,env.cells.lookup x=some c/\h.IsCell c (some u))
structure Cx.Ok(X:Cx):Prop where
 mod:Mod X.K X.mg X.base
 kind:X.env.scope.kind= .function
 glob:X.env.globals=mainGlobals
 blt:X.env.builtins=builtinsNs
 above:X.s₀.heap.objs.size<=X.env.locals
 inj:∀x y c,X.env.cells.lookup x=some c->X.env.cells.lookup y=some c->x=y
 has:∀x,(X.env.kindOf x=some .cell\/X.env.kindOf x=some .free)->∃c,X.env.cells.lookup x=some c
 A3:∀x c,X.fn x=true->X.env.cells.lookup x=some c->X.s₀.heap.objs.size<=c
 hd:X.calm=true->X.A.handled=none
 frames:X.A.frames=some X.stack
 Cu:X.stack=X.outer\/(X.stack=X.env::X.outer/\X.env.frame=some X.env.locals)
 Ek:∀b∈X.ex,b≠X.env.locals/\∀x c,X.env.cells.lookup x=some c->c≠b
 bs:∀b o,X.base.get? b=some o->X.s₀.heap.get? b=some o/\X.H₀ b=none
 sN:X.base.objs.size<=X.s₀.heap.objs.size
 vd:∀b o,X.base.get? b=some o->b∉X.ex
 u5:∀b∈X.ex,b∉X.fs
 kT:X.s₀.heap.FunFrames X.base X.outer
 vE:∀b∈X.fs,X.H₀ b=none
 gt:X.prog.given.tree=none
structure Inv(X:Cx)(pins:List (Addr×Obj))(σ:List (Option V))(H:Hp)(s:Shared):Prop where
 ok:X.Ok
 os:s.os=X.s₀.os
 bare:AllBare s.gens
 base:Un X.fs X.ex X.H₀ H X.s₀.heap s.heap
 loc:∃m,s.heap.Ns X.env.locals m/\∀(i:Nat) (x:Str) (v:V),X.N[i]?=some x->σ[i]?=some (some v)->AJ X.env.scope x->∃u,RelV v u/\Look X.env s.heap m x u
 cell:∀x c,X.env.cells.lookup x=some c->∃v,s.heap.IsCell c v
 free:H X.env.locals=none
 iV:∀x c,X.env.cells.lookup x=some c->H c=none
 pin:∀p∈X.pn++pins,s.heap.get? p.1=some p.2/\H p.1=none/\p.1≠X.env.locals/\p.1∉X.fs/\∀v,p.2.data≠ .cell v
 aK:ir X.prog X.w H s.heap
 len:σ.length=X.N.length
section
variable {X:Cx}{pins:List (Addr×Obj)}{σ:List (Option V)}{H H':Hp}{s:Shared}{h':Heap}
theorem Cx.Ok.Qr(ok:X.Ok){b:Addr}{o:Obj}(e:X.base.get? b=some o):b∉X.fs:=fun hb=>by
 have:=(ok.kT.mem hb).1;rw[e]at this;cases this
theorem Inv.bs(I:Inv X pins σ H s):∀b o,X.base.get? b=some o->s.heap.get? b=some o/\H b=none:=fun b o e=>
 ⟨I.base.keep b o (I.ok.bs b o e).1 (I.ok.bs b o e).2 (I.ok.Qr e) (I.ok.vd b o e),I.base.free b o (I.ok.bs b o e).1 (I.ok.bs b o e).2 (I.ok.vd b o e)⟩
theorem Inv.bk(I:Inv X pins σ H s):∀b o,X.base.get? b=some o->s.heap.get? b=some o:=fun b o e=>(I.bs b o e).1
theorem Inv.mod(I:Inv X pins σ H s):Mod X.K X.mg X.base:=I.ok.mod
theorem Inv.g_(I:Inv X pins σ H s):X.K.In s.heap:=I.ok.mod.EI.keeps I.bk
theorem Inv.nolimit(I:Inv X pins σ H s):s.heap.NoLimit:=I.ok.mod.nolimit.keeps I.bk
theorem Inv.lt(I:Inv X pins σ H s):X.env.locals<s.heap.objs.size:=let⟨_,hn,_⟩:=I.loc;hn.lt
theorem Inv.sz(I:Inv X pins σ H s):X.s₀.heap.objs.size<=s.heap.objs.size:=Nat.le_trans I.ok.above (Nat.le_of_lt I.lt)
theorem Inv.NC(I:Inv X pins σ H s){a:Addr}(h:s.heap.objs.size<=a):a∉X.fs:=fun hb=>by
 obtain⟨_,o,ho,_⟩:=I.ok.kT.mem hb;exact absurd (Nat.lt_of_lt_of_le (Heap.lt_size ho) (Nat.le_trans I.sz h)) (Nat.lt_irrefl _)
theorem Inv.Al(I:Inv X pins σ H s):∀x c,X.env.cells.lookup x=some c->c≠X.env.locals:=fun x c e z=>by
 obtain⟨v,o,ho,hd⟩:=I.cell x c e;obtain⟨m,⟨o',es,ep,ho',hd',_⟩,_⟩:=I.loc;rw[z,ho']at ho;cases ho;rw[hd']at hd;cases hd
theorem Inv.kT(I:Inv X pins σ H s):s.heap.FunFrames X.base X.outer:=by
 have all:∀(l:List Env),(∀b∈qi l,b∈X.fs)->X.s₀.heap.FunFrames X.base l->s.heap.FunFrames X.base l:=by
  intro l;induction l with
  |nil=>intro _ _;trivial
  |cons env r ih=>
   intro hs hl;obtain⟨hk,⟨L,o,hf,hn,ho,hd⟩,hr⟩:=hl;have hL:L∈X.fs:=hs L (by unfold qi;rw[List.filterMap_cons,hf];exact List.mem_cons_self);obtain⟨sl,e⟩:=I.base.slot L o ho (I.ok.vE L hL) hL fun z=>I.ok.u5 L z hL;exact⟨hk,⟨L,_,hf,hn,e,hd⟩,ih (fun b hb=>hs b (by unfold qi;rw[List.filterMap_cons,hf];exact List.mem_cons_of_mem _ hb)) hr⟩
 exact all X.outer (fun _ hb=>hb) I.ok.kT
theorem Inv.stack(I:Inv X pins σ H s):s.heap.FunFrames X.base X.stack:=by
 rcases I.ok.Cu with e|⟨e,hf⟩
 . rw[e];exact I.kT
 . rw[e];obtain⟨m,hn,_⟩:=I.loc;refine .cons (by rw[I.ok.kind];decide) hf hn ?_ I.kT;exact Heap.get?_none_of_le (Nat.le_trans I.ok.sN I.ok.above)
theorem Inv.A5(I:Inv X pins σ H s):∀b∈qi X.stack,b∈X.env.locals::X.fs:=fun b hb=>by
 rcases I.ok.Cu with e|⟨e,hf⟩
 . rw[e]at hb;exact List.mem_cons_of_mem _ hb
 . rw[e]at hb;unfold qi at hb;rw[List.filterMap_cons,hf]at hb;exact hb
theorem Inv.xM(I:Inv X pins σ H s):∀b∈qi X.stack,H b=none:=fun b hb=>by
 rcases List.mem_cons.mp (I.A5 b hb)with e|hb
 . rw[e];exact I.free
 . obtain⟨_,o,ho,_⟩:=I.ok.kT.mem hb;exact I.base.free b o ho (I.ok.vE b hb) fun z=>I.ok.u5 b z hb
theorem Inv.step{g':Array GenState}{t':Nat}{d':Drawn}{ch:List Addr}(I:Inv X pins σ H s)
 (hch:∀b∈ch,(b∈X.ex\/X.s₀.heap.objs.size<=b)/\b≠X.env.locals/\(∀x c,X.env.cells.lookup x=some c->c≠b)/\∀p∈X.pn++pins,p.1≠b)
 (keep:∀b o,b≠X.env.locals->b∉X.fs->b∉ch->s.heap.get? b=some o->H b=none->h'.get? b=some o)
 (slot:∀b o,b≠X.env.locals->b∈X.fs->b∉ch->s.heap.get? b=some o->H b=none->∃sl,h'.get? b=some {o with slots:=sl}) (free:∀b o,b∉ch->s.heap.get? b=some o->H b=none->H' b=none)
 (there:∀b o,b∉ch->s.heap.get? b=some o->∃o',h'.get? b=some o')
 (pJ:∀b xs,H b=some (.tup xs)->H' b=some (.tup xs)) (oC:∀b o u,H b=some (.fi o u)->H' b=some (.fi o u)) (oo:∀b ps,H b=some (.km ps)->∃more,H' b=some (.km (ps++more)))
 (ns:∀m,s.heap.Ns X.env.locals m->h'.Ns X.env.locals m) (aK:ir X.prog X.w H' h') (hg:AllBare g'):
 Inv X pins σ H' {s with heap:=h',gens:=g',drawn:=d',toks:=t'}:=by
 have neL:∀b o,X.s₀.heap.get? b=some o->b≠X.env.locals:=fun b o e=>Nat.ne_of_lt (Nat.lt_of_lt_of_le (Heap.lt_size e) I.ok.above)
 have neC:∀b o,X.s₀.heap.get? b=some o->b∉X.ex->b∉ch:=fun b o e hx hb=>by
  rcases(hch b hb).1 with z|z
  . exact hx z
  . exact absurd (Nat.lt_of_lt_of_le (Heap.lt_size e) z) (Nat.lt_irrefl _)
 have cellK:∀x c,X.env.cells.lookup x=some c->∀v,s.heap.IsCell c v->h'.IsCell c v:=fun x c e v ⟨o,ho,hd⟩=>by
  have nch:c∉ch:=fun z=>(hch c z).2.2.1 x c e rfl;by_cases hc:c∈X.fs
  . obtain⟨sl,q⟩:=slot c o (I.Al x c e) hc nch ho (I.iV x c e);exact⟨_,q,hd⟩
  . exact⟨o,keep c o (I.Al x c e) hc nch ho (I.iV x c e),hd⟩
 refine⟨I.ok,I.os,hg,⟨fun b o e n hb hx=>?_,fun b o e n hb hx=>?_,fun b o e n hx=>?_,fun b o e hx=>?_,fun b xs e=>pJ b xs (I.base.pJ b xs e),fun b o xs e=>oC b o xs (I.base.oC b o xs e),fun b ps e=>?_⟩,?_,fun x c e=>?_,?_,fun x c e=>?_,fun p hp=>?_,aK,I.len⟩
 . exact keep b o (neL b o e) hb (neC b o e hx) (I.base.keep b o e n hb hx) (I.base.free b o e n hx)
 . obtain⟨sl,e1⟩:=I.base.slot b o e n hb hx;obtain⟨sl',e2⟩:=slot b _ (neL b o e) hb (neC b o e hx) e1 (I.base.free b o e n hx);exact⟨sl',e2⟩
 . obtain⟨o',e1⟩:=I.base.there b o e hx;exact free b o' (neC b o e hx) e1 (I.base.free b o e n hx)
 . obtain⟨o',e1⟩:=I.base.there b o e hx;exact there b o' (neC b o e hx) e1
 . obtain⟨m1,e1⟩:=I.base.oo b ps e;obtain⟨m2,e2⟩:=oo b _ e1;exact⟨m1++m2,by rw[e2,Array.append_assoc]⟩
 . obtain⟨m,hn,hl⟩:=I.loc;refine⟨m,ns m hn,fun i x v e1 e2 e3=>?_⟩;obtain⟨u,r,l⟩:=hl i x v e1 e2 e3;refine⟨u,r,?_⟩;rcases l with l|⟨k,c,e,z⟩
   . exact .inl l
   . exact .inr ⟨k,c,e,cellK x c e _ z⟩
 . obtain⟨v,z⟩:=I.cell x c e;exact⟨v,cellK x c e v z⟩
 . obtain⟨m,⟨o,_,_,ho,_⟩,_⟩:=I.loc;exact free _ o (fun z=>(hch _ z).2.1 rfl) ho I.free
 . obtain⟨v,o,ho,hd⟩:=I.cell x c e;exact free c o (fun z=>(hch c z).2.2.1 x c e rfl) ho (I.iV x c e)
 . obtain⟨e,n,ne,nf,d⟩:=I.pin p hp;have nch:p.1∉ch:=fun z=>(hch p.1 z).2.2.2 p hp rfl;exact⟨keep p.1 p.2 ne nf nch e n,free p.1 p.2 nch e n,ne,nf,d⟩
theorem Inv.un{t':Nat}(I:Inv X pins σ H s)(u:Un X.fs [] H H' s.heap h')(aK:ir X.prog X.w H' h'):Inv X pins σ H' {s with heap:=h',toks:=t'}:=by
 obtain⟨m,⟨o,es,ep,ho,r⟩,_⟩:=id I.loc;obtain⟨sl,hL⟩:=u.any ho I.free (by simp)
 exact I.step (g':=s.gens) (d':=s.drawn) (ch:=[]) (fun _ z=>nomatch z) (fun b o _ hb _ e n=>u.keep b o e n hb (by simp)) (fun b o _ hb _ e n=>u.slot b o e n hb (by simp)) (fun b o _ e n=>u.free b o e n (by simp)) (fun b o _ e=>u.there b o e (by simp)) u.pJ u.oC u.oo (fun m' hm=>by
  obtain⟨o',es',ep',ho',r'⟩:=hm;rw[ho]at ho';cases ho';exact⟨_,es',ep',hL,r'⟩) aK I.bare
theorem Inv.call{g':Array GenState}{t':Nat}{d':Drawn}{ch:List Addr}(I:Inv X pins σ H s)(u:Un (qi X.stack) ch H H' s.heap h')(aK:ir X.prog X.w H' h')(hg:AllBare g')
 (hch:∀b∈ch,(b∈X.ex\/X.s₀.heap.objs.size<=b)/\b≠X.env.locals/\(∀x c,X.env.cells.lookup x=some c->c≠b)/\∀p∈X.pn++pins,p.1≠b):
 Inv X pins σ H' {s with heap:=h',gens:=g',drawn:=d',toks:=t'}:=by
 obtain⟨m,⟨o,es,ep,ho,r⟩,_⟩:=id I.loc;obtain⟨sl,hL⟩:=u.any ho I.free fun z=>(hch _ z).2.1 rfl
 exact I.step (ch:=ch) hch (fun b o hL hb hc e n=>u.keep b o e n (fun z=>(List.mem_cons.mp (I.A5 b z)).elim hL hb) hc) (fun b o _ _ hc e n=>u.any e n hc) (fun b o hc e n=>u.free b o e n hc) (fun b o hc e=>u.there b o e hc) u.pJ u.oC u.oo (fun m' hm=>by
  obtain⟨o',es',ep',ho',r'⟩:=hm;rw[ho]at ho';cases ho';exact⟨_,es',ep',hL,r'⟩) aK hg
theorem Inv.turned{t':Nat}{it:Addr}(I:Inv X pins σ H s)(k:∀b o,b≠it->s.heap.get? b=some o->h'.get? b=some o)(hn:H it=none)(hL:it≠X.env.locals)
 (h1:it∈X.ex\/X.s₀.heap.objs.size<=it) (h2:∀x c,X.env.cells.lookup x=some c->c≠it) (h3:∀p∈X.pn++pins,p.1≠it):Inv X pins σ H {s with heap:=h',toks:=t'}:=by
 have nit:∀b u,H b=some u->b≠it:=fun b u e z=>by rw[z,hn]at e;cases e
 refine I.step (g':=s.gens) (d':=s.drawn) (ch:=[it]) (fun b hb=>?_) (fun b o _ _ hc e _=>k b o (fun z=>hc (by simp[z])) e) (fun b o _ _ hc e _=>⟨o.slots,k b o (fun z=>hc (by simp[z])) e⟩) (fun _ _ _ _ n=>n)
  (fun b o hc e=>⟨o,k b o (fun z=>hc (by simp[z])) e⟩) (fun _ _ e=>e) (fun _ _ _ e=>e) (fun b ps e=>⟨#[],by rw[e];simp⟩) (fun m hm=>?_) (fun b u e=>?_) I.bare
 . have e:b=it:=by simpa using hb
   subst e;exact⟨h1,hL,h2,h3⟩
 . obtain⟨o,es,ep,ho,r⟩:=hm;exact⟨o,es,ep,k _ o (Ne.symm hL) ho,r⟩
 . refine(I.aK b u e).pS (fun c v hc q=>k c v ?_ q) (fun _ q=>q) fun _ _ q=>q;rcases hc with z|z
   . rw[z];exact nit b u e
   . exact nit c _ z
theorem Inv.tok(I:Inv X pins σ H s)(t:Nat):Inv X pins σ H {s with toks:=t}:=I.un (h':=s.heap) (t':=t) Un.refl I.aK
theorem Inv.kept{t':Nat}(I:Inv X pins σ H s)(k:∀b u,s.heap.get? b=some u->h'.get? b=some u):Inv X pins σ H {s with heap:=h',toks:=t'}:=I.un (Un.kept k) (I.aK.kept k)
theorem Inv.laid{a:Addr}{o:HO}{t':Nat}(I:Inv X pins σ H s)(k:∀b u,s.heap.get? b=some u->h'.get? b=some u)(hp:s.heap.objs.size<=a)(new:dS X.prog X.w (upd H a o) h' a o):
 Inv X pins σ (upd H a o) {s with heap:=h',toks:=t'}:=I.un (Un.laid k hp (I.aK.fresh hp)) (I.aK.laid k hp new)
theorem Inv.write{x e:Addr}{o:HO}{t':Nat}(I:Inv X pins σ H s)(mu:IA (H x))(he:e=x\/H e=some (.own x))(k:∀b u,b≠e->s.heap.get? b=some u->h'.get? b=some u)(heo:∃u,h'.get? e=some u)
 (new:dS X.prog X.w (upd H x o) h' x o):Inv X pins σ (upd H x o) {s with heap:=h',toks:=t'}:=I.un (Un.write mu he k heo) (I.aK.write mu he k heo new)
theorem Inv.t_{pins':List (Addr×Obj)}(I:Inv X pins σ H s)(h:∀p∈pins',s.heap.get? p.1=some p.2/\H p.1=none/\p.1≠X.env.locals/\p.1∉X.fs/\∀v,p.2.data≠ .cell v):Inv X pins' σ H s:=
 ⟨I.ok,I.os,I.bare,I.base,I.loc,I.cell,I.free,I.iV,fun p hp=>(List.mem_append.mp hp).elim (fun z=>I.pin p (List.mem_append_left _ z)) (h p),I.aK,I.len⟩
theorem AS{N:List Str}(hN:N.Nodup){i j:Nat}{x:Str}(a:N[i]?=some x)(b:N[j]?=some x):i=j:=by
 obtain⟨h1,e1⟩:=List.getElem?_eq_some_iff.mp a;obtain⟨h2,e2⟩:=List.getElem?_eq_some_iff.mp b;exact(List.getElem_inj hN).mp (e1.trans e2.symm)
theorem xT{M:Model}{A:Around}{E:Value->Shared->Prop}{i:Nat}{x:Str}{v:V}{u:Value}{Q:Unit->Shared->Prop}(I:Inv X pins σ H s)(hN:X.N.Nodup)(hi:X.N[i]?=some x)(hx:Loc X.env.scope x)(r:RelV v u)
 (h:∀s',Inv X pins (σ.set i (some v)) H s'->(∃a,Heap.SameBut a s.heap s'.heap/\(a=X.env.locals\/X.env.cells.lookup x=some a))->Q () s') (hf:X.fn x=true\/X.env.scope.names.lookup x=some .local:=by first|exact .inl rfl|exact .inr rfl|assumption):wpAny M A (storeName X.env x u) Q E s:=by
 obtain⟨m,hn,hl⟩:=id I.loc;have hcls:(X.env.scope.kind== .class||(X.env.scope.kind== .module&&X.env.locals != X.env.globals))=false:=by rw[I.ok.kind];rfl
 have hiσ:i<σ.length:=by rw[I.len];exact(List.getElem?_eq_some_iff.mp hi).1
 have Al:=I.Al
 have tracked:∀ {a:Addr} {h':Heap},(∃o,s.heap.get? a=some o/\H a=none)->Heap.SameBut a s.heap h'->ir X.prog X.w H h':=fun{a h'} ha hs b ob e=>by
  obtain⟨_,_,hfree⟩:=ha;refine(I.aK b ob e).pS (fun c w' hc q=>(hs.2 c ?_).trans q) (fun _ q=>q) fun _ _ q=>q;rintro rfl;rcases hc with rfl|hc
  . rw[hfree]at e;cases e
  . rw[hfree]at hc;cases hc
 rcases hx with hk|hk
 . refine wpAny_storeName_local hk hn (fun h' hn' hs=>?_) hcls;obtain⟨oL,_,_,hoL,_⟩:=id hn;refine h _ ⟨I.ok,I.os,I.bare,⟨fun b o e n hb hx=>?_,fun b o e n hb hx=>?_,I.base.free,fun b o e hx=>?_,I.base.pJ,I.base.oC,I.base.oo⟩,⟨_,hn',fun j y v' e1 e2 e3=>?_⟩,fun y c e=>?_,I.free,I.iV,fun p hp=>?_,tracked ⟨oL,hoL,I.free⟩ hs,by simpa using I.len⟩ ⟨_,hs,.inl rfl⟩
   . exact(hs.2 b (Nat.ne_of_lt (Nat.lt_of_lt_of_le (Heap.lt_size e) I.ok.above))).trans (I.base.keep b o e n hb hx)
   . obtain⟨sl,e1⟩:=I.base.slot b o e n hb hx;exact⟨sl,(hs.2 b (Nat.ne_of_lt (Nat.lt_of_lt_of_le (Heap.lt_size e) I.ok.above))).trans e1⟩
   . obtain⟨o',e1⟩:=I.base.there b o e hx;exact⟨o',(hs.2 b (Nat.ne_of_lt (Nat.lt_of_lt_of_le (Heap.lt_size e) I.ok.above))).trans e1⟩
   . by_cases hj:j=i
     . subst hj;rw[hi]at e1;cases e1;rw[List.getElem?_set_self hiσ]at e2;cases e2;exact⟨u,r,.inl ⟨hk,by simp⟩⟩
     . rw[List.getElem?_set_ne (Ne.symm hj)]at e2;obtain⟨u',r',q⟩:=hl j y v' e1 e2 e3;refine⟨u',r',?_⟩;rcases q with⟨k,e⟩|⟨k,c,e,z⟩
       . refine .inl ⟨k,?_⟩;have:y≠x:=fun e=>hj (AS hN e1 (e▸hi));simp[this,e]
       . exact .inr ⟨k,c,e,z.sameBut hs (Al y c e)⟩
   . obtain⟨w',z⟩:=I.cell y c e;exact⟨w',z.sameBut hs (Al y c e)⟩
   . obtain⟨e,n,ne,nf,d⟩:=I.pin p hp;exact⟨(hs.2 p.1 ne).trans e,n,ne,nf,d⟩
 . have hfn:X.fn x=true:=by
    rcases hf with z|z
    . exact z
    . rw[z]at hk;cases hk
   obtain⟨c,hc⟩:=I.ok.has x (.inl hk);obtain⟨w',z⟩:=I.cell x c hc;refine wpAny_storeName_cell I.ok.kind hk hc z (fun h' hc' hs=>?_);obtain⟨oc,hoc,hocd⟩:=id z;refine h {s with heap:=h'} ⟨I.ok,I.os,I.bare,⟨fun b o e n hb hx=>?_,fun b o e n hb hx=>?_,I.base.free,fun b o e hx=>?_,I.base.pJ,I.base.oC,I.base.oo⟩,⟨m,hn.sameBut hs (Ne.symm (Al x c hc)),fun j y v' e1 e2 e3=>?_⟩,fun y c' e=>?_,I.free,I.iV,fun p hp=>?_,tracked ⟨oc,hoc,I.iV x c hc⟩ hs,by simpa using I.len⟩ ⟨c,hs,.inr hc⟩
   . exact(hs.2 b (Nat.ne_of_lt (Nat.lt_of_lt_of_le (Heap.lt_size e) (I.ok.A3 x c hfn hc)))).trans (I.base.keep b o e n hb hx)
   . obtain⟨sl,e1⟩:=I.base.slot b o e n hb hx;exact⟨sl,(hs.2 b (Nat.ne_of_lt (Nat.lt_of_lt_of_le (Heap.lt_size e) (I.ok.A3 x c hfn hc)))).trans e1⟩
   . obtain⟨o',e1⟩:=I.base.there b o e hx;exact⟨o',(hs.2 b (Nat.ne_of_lt (Nat.lt_of_lt_of_le (Heap.lt_size e) (I.ok.A3 x c hfn hc)))).trans e1⟩
   . by_cases hj:j=i
     . subst hj;rw[hi]at e1;cases e1;rw[List.getElem?_set_self hiσ]at e2;cases e2;exact⟨u,r,.inr ⟨.inl hk,c,hc,hc'⟩⟩
     . rw[List.getElem?_set_ne (Ne.symm hj)]at e2;obtain⟨u',r',q⟩:=hl j y v' e1 e2 e3;refine⟨u',r',?_⟩;rcases q with q|⟨k,c',e,z'⟩
       . exact .inl q
       . refine .inr ⟨k,c',e,z'.sameBut hs ?_⟩;rintro rfl;exact hj (AS hN e1 (I.ok.inj _ _ _ e hc▸hi))
   . by_cases hcc:c'=c
     . subst hcc;exact⟨_,hc'⟩
     . obtain⟨w2,z2⟩:=I.cell y c' e;exact⟨w2,z2.sameBut hs hcc⟩
   . obtain⟨e,n,ne,nf,d⟩:=I.pin p hp;refine⟨(hs.2 p.1 ?_).trans e,n,ne,nf,d⟩;intro q;rw[q,hoc]at e;have q':oc=p.2:=Option.some.inj e;exact d w' (by rw[<-q'];exact hocd)
theorem oM{M:Model}{A:Around}{E:Value->Shared->Prop}{i:Nat}{x:Str}{v:V}{u:Value}{Q:Unit->Shared->Prop}(I:Inv X pins σ H s)(hN:X.N.Nodup)(hi:X.N[i]?=some x)(hx:Loc X.env.scope x)(r:RelV v u)
 (h:∀s',Inv X pins (σ.set i (some v)) H s'->Q () s') (hf:X.fn x=true\/X.env.scope.names.lookup x=some .local:=by first|exact .inl rfl|exact .inr rfl|assumption):wpAny M A (storeName X.env x u) Q E s:=
 xT I hN hi hx r (fun s' I' _=>h s' I') hf
theorem Inv.Dx{s':Shared}{ch:List Addr}(I:Inv X pins σ H s)(ho:s'.os=s.os)(u:Un (qi X.stack) ch H H' s.heap s'.heap)(aK:ir X.prog X.w H' s'.heap)(hg:AllBare s'.gens)
 (hch:∀b∈ch,(b∈X.ex\/X.s₀.heap.objs.size<=b)/\b≠X.env.locals/\(∀x c,X.env.cells.lookup x=some c->c≠b)/\∀p∈X.pn++pins,p.1≠b):Inv X pins σ H' s':=by
 obtain⟨h',g',d',t',o'⟩:=s';have e:o'=s.os:=ho;subst e;exact I.call (g':=g') (t':=t') (d':=d') u aK hg hch
end
abbrev XK:=Value->Option Addr->Hp->Prop
abbrev St:=List (Option V)
abbrev VK:=V->Hp->Prop
abbrev TE:=St->Hp->VK->Prop
abbrev TT:=St->Hp->(Bool->Hp->Prop)->Prop
abbrev TA:=St->Hp->(List V->Hp->Prop)->Prop
structure Ends where
 nx:St->Hp->Prop
 rt:VK
 bk:St->Hp->Prop:=fun _ _=>False
 ct:St->Hp->Prop:=fun _ _=>False
abbrev TS:=Ends->St->Hp->Prop
def EP(X:Cx)(pins:List (Addr×Obj))(σ:St)(Q:VK)(u:Value)(s':Shared):Prop:=∃v H',Inv X pins σ H' s'/\RelV v u/\Q v H'
def TP(X:Cx)(pins:List (Addr×Obj))(σ:St)(Q:Bool->Hp->Prop)(b:Bool)(s':Shared):Prop:=∃H',Inv X pins σ H' s'/\Q b H'
def AP(X:Cx)(pins:List (Addr×Obj))(σ:St)(Q:List V->Hp->Prop)(us:List Value)(s':Shared):Prop:=∃vs H',Inv X pins σ H' s'/\Vals vs us/\Q vs H'
def SP(X:Cx)(pins:List (Addr×Obj))(D:Ends)(f:Flow)(s':Shared):Prop:=
 match f with
 | .next=>∃σ' H',Inv X pins σ' H' s'/\D.nx σ' H'
 | .brk=>∃σ' H',Inv X pins σ' H' s'/\D.bk σ' H'
 | .cont=>∃σ' H',Inv X pins σ' H' s'/\D.ct σ' H'
 | .ret u=>∃v σ' H',Inv X pins σ' H' s'/\RelV v u/\D.rt v H'
def PE(X:Cx)(e:Expr)(t:TE):Prop:=
 ∀(pins:List (Addr×Obj)) (s:Shared) (σ:St) (H:Hp) (Q:VK),Inv X pins σ H s->t σ H Q->wpAny (model X.prog X.w) X.A (eval e X.env) (EP X pins σ Q) X.xe s
def PT(X:Cx)(e:Expr)(t:TT):Prop:=
 ∀(pins:List (Addr×Obj)) (s:Shared) (σ:St) (H:Hp) (Q:Bool->Hp->Prop),Inv X pins σ H s->t σ H Q->wpAny (model X.prog X.w) X.A (isTrue e X.env (eval e X.env)) (TP X pins σ Q) X.xe s
def PW(X:Cx)(e:Expr)(t:TT):Prop:=
 ∀(whole:Sem Value) (pins:List (Addr×Obj)) (s:Shared) (σ:St) (H:Hp) (Q:Bool->Hp->Prop),Inv X pins σ H s->t σ H Q->wpAny (model X.prog X.w) X.A (isTrue e X.env whole) (TP X pins σ Q) X.xe s
theorem PW.pt{X:Cx}{e:Expr}{t:TT}(h:PW X e t):PT X e t:=h _
def PA(X:Cx)(es:List Expr)(t:TA):Prop:=
 ∀(pos:Pos) (pins:List (Addr×Obj)) (s:Shared) (σ:St) (H:Hp) (Q:List V->Hp->Prop),Inv X pins σ H s->t σ H Q->wpAny (model X.prog X.w) X.A (spliced (backTo pos (starEach es X.env))) (AP X pins σ Q) X.xe s
def PS(X:Cx)(st:Stmt)(t:TS):Prop:=
 ∀(pins:List (Addr×Obj)) (s:Shared) (σ:St) (H:Hp) (D:Ends),Inv X pins σ H s->t D σ H->wpAny (model X.prog X.w) X.A (exec st X.env) (SP X pins D) X.xe s
def g8(X:Cx)(st:List Stmt)(t:TS):Prop:=
 ∀(pins:List (Addr×Obj)) (s:Shared) (σ:St) (H:Hp) (D:Ends),Inv X pins σ H s->t D σ H->wpAny (model X.prog X.w) X.A (execs st X.env) (SP X pins D) X.xe s
theorem cz{α:Type}{t:Sem α}{Q Q':α->Shared->Prop}{M:Model}{A:Around}{E:Value->Shared->Prop}{s:Shared}(h:wpAny M A t Q E s)(hQ:∀a s,Q a s->Q' a s):wpAny M A t Q' E s:=wpAny_mono h hQ fun _ _ x=>x
section
variable {X:Cx}
def L8(i:Nat):TE:=fun σ H Q=>∃v,σ[i]?=some (some v)/\Q v H
def tC(v:V):TE:=fun _ H Q=>Q v H
theorem MR{i:Nat}{x:Str}{pos:Pos}(hN:X.N[i]?=some x)(hv:AJ X.env.scope x)(hd:(x==("__debug__":Str))=false:=by decide)(hcd:(x==("__classdict__":Str))=false:=by decide):PE X (.Name x pos) (L8 i):=by
 intro pins s σ H Q I h;obtain⟨v,e,h⟩:=h;obtain⟨m,hn,hl⟩:=I.loc;obtain⟨u,r,l⟩:=hl i x v hN e hv;have fin:EP X pins σ Q u s:=⟨v,H,I,r,h⟩
 rcases l with⟨hk,hm⟩|⟨hk,c,hc,hcell⟩
 . exact wpAny_Name (wpAny_loadName_local I.ok.kind hk hn hm fin) hd
 . rcases hk with hk|hk
   . exact wpAny_Name (wpAny_loadName_cell I.ok.kind hk hc hcell fin) hd
   . exact wpAny_Name (wpAny_loadName_free I.ok.kind hk hc hcell fin hcd) hd
theorem M6{i j pos}:PE X (.Constant (.int i) j pos) (tC (.int i)):=fun _ _ _ H _ I h=>wpAny_Constant_int ⟨.int i,H,I.tok _,⟨_,rfl⟩,h⟩
theorem OM{b j pos}:PE X (.Constant (.bool b) j pos) (tC (.bl b)):=fun _ _ _ H _ I h=>Constant_bool ⟨.bl b,H,I,rfl,h⟩
theorem NJ{j pos}:PE X (.Constant .none j pos) (tC .aE):=fun _ _ _ H _ I h=>Constant_none ⟨.aE,H,I,rfl,h⟩
theorem Lb{x j pos}:PE X (.Constant (.str x) j pos) (tC (.str x)):=fun _ _ _ H _ I h=>Calls.Constant_str ⟨.str x,H,I.tok _,⟨_,rfl⟩,h⟩
def Gl(X:Cx)(x:Str):Prop:=X.env.kindOf x=some .globalImplicit
theorem Cw{E:Value->Shared->Prop}{pins:List (Addr×Obj)}{s:Shared}{σ:St}{H:Hp}{x:Str}{u:Value}{pos:Pos}{Q:Value->Shared->Prop}(I:Inv X pins σ H s)(hg:Gl X x)(hm:X.mg x=some u)(h:Q u s)
 (hd:(x==("__debug__":Str))=false:=by decide):wpAny (model X.prog X.w) X.A (eval (.Name x pos) X.env) Q E s:=
 Calls.Name_function_global I.ok.kind hg (Calls.loadGlobal_global (by rw[I.ok.glob];exact I.mod.glob.keeps I.bk) hm h) hd
theorem kK{E:Value->Shared->Prop}{pins:List (Addr×Obj)}{s:Shared}{σ:St}{H:Hp}{x:Str}{u:Value}{pos:Pos}{Q:Value->Shared->Prop}(I:Inv X pins σ H s)(hg:Gl X x)(hm:X.mg x=none)(hv:bootBuiltins x=some u)(h:Q u s)
 (hn:x≠"__name__":=by decide) (hd:(x==("__debug__":Str))=false:=by decide):wpAny (model X.prog X.w) X.A (eval (.Name x pos) X.env) Q E s:=by
 obtain⟨mb,h1,h2⟩:=I.mod.blt;exact Calls.Name_function_global I.ok.kind hg (Calls.loadGlobal_builtin (by rw[I.ok.glob];exact I.mod.glob.keeps I.bk) hm (by rw[I.ok.blt];exact h1.keeps I.bk) ((h2 x hn).trans hv) h) hd
theorem Jl{x:Str}{v:V}{u:Value}{pos:Pos}(hg:Gl X x)(hm:X.mg x=none)(hv:bootBuiltins x=some u)(r:RelV v u)(hn:x≠"__name__":=by decide)(hd:(x==("__debug__":Str))=false:=by decide):PE X (.Name x pos) (tC v):=
 fun _ _ _ H _ I h=>kK I hg hm hv ⟨v,H,I,r,h⟩ hn hd
variable {a b:Expr}{ta tb:TE}{pos:Pos}
def tB(t:TE):TT:=fun σ H Q=>t σ H fun x H1=>∃c,x= .bl c/\Q c H1
theorem Mj{e:Expr}{t:TE}(h:PE X e t)(he:∀whole,isTrue e X.env whole=(do let v <-whole;standAt e.pos;holding [v] (truthy v)):=by intro _;rfl):PT X e (tB t):=by
 intro pins s σ H Q I hw;refine isTrue_plain (cz (h pins s σ H _ I hw) fun v s1 ⟨x,H1,I1,r1,q1⟩=>?_) (he _);obtain⟨d,rfl,q⟩:=q1;cases r1;exact wpAny_truthy_bool ⟨H1,I1,q⟩
variable {tA tB':TT}{rest:List Expr}
def Me(t u:TT):TT:=fun σ H Q=>t σ H fun c H1=>if c=true then u σ H1 Q else Q false H1
def PX(t u:TT):TT:=fun σ H Q=>t σ H fun c H1=>if c=true then Q true H1 else u σ H1 Q
def Qc(t:TT):TT:=fun σ H Q=>t σ H fun c H1=>Q (!c) H1
theorem pw_and1(ha:PT X a tA):PW X (.BoolOp .And [a] pos) tA:=by
 intro wh pins s σ H Q I h;refine isTrue_and (cz (ha pins s σ H Q I h) fun c s1 e=>?_);cases c with
 |true=>exact isTrue_and_nil e
 |false=>exact e
theorem pw_or1(ha:PT X a tA):PW X (.BoolOp .Or [a] pos) tA:=by
 intro wh pins s σ H Q I h;refine isTrue_or (cz (ha pins s σ H Q I h) fun c s1 e=>?_);cases c with
 |false=>exact isTrue_or_nil e
 |true=>exact e
theorem pw_and(ha:PT X a tA)(hb:PW X (.BoolOp .And (b::rest) pos) tB'):PW X (.BoolOp .And (a::b::rest) pos) (Me tA tB'):=by
 intro wh pins s σ H Q I h;refine isTrue_and (cz (ha pins s σ H _ I h) fun c s1 ⟨H1,I1,q1⟩=>?_);cases c with
 |true=>exact hb wh pins s1 σ H1 Q I1 q1
 |false=>exact⟨H1,I1,q1⟩
theorem pw_or(ha:PT X a tA)(hb:PW X (.BoolOp .Or (b::rest) pos) tB'):PW X (.BoolOp .Or (a::b::rest) pos) (PX tA tB'):=by
 intro wh pins s σ H Q I h;refine isTrue_or (cz (ha pins s σ H _ I h) fun c s1 ⟨H1,I1,q1⟩=>?_);cases c with
 |true=>exact⟨H1,I1,q1⟩
 |false=>exact hb wh pins s1 σ H1 Q I1 q1
theorem MT(ha:PT X a tA):PT X (.UnaryOp .Not a pos) (Qc tA):=by
 intro pins s σ H Q I h;exact isTrue_not (ha pins s σ H (fun c H1=>Q (!c) H1) I h)
def OS(ta tb:TE):TE:=fun σ H Q=>ta σ H fun x H1=>∃c,x= .bl c/\if c=true then tb σ H1 Q else Q (.bl false) H1
def Oj(ta:TE):TE:=fun σ H Q=>ta σ H fun x H1=>∃c,x= .bl c/\Q (.bl (!c)) H1
theorem Mh{op}{t:TE}(h:PE X a t):PE X (.BoolOp op [a] pos) t:=fun pins s σ H Q I hw=>BoolOp_one (h pins s σ H Q I hw)
theorem Ml(ha:PE X a ta)(hb:PE X (.BoolOp .And (b::rest) pos) tb):PE X (.BoolOp .And (a::b::rest) pos) (OS ta tb):=by
 intro pins s σ H Q I h;refine BoolOp_and (cz (ha pins s σ H _ I h) fun v s1 ⟨x,H1,I1,r1,q1⟩=>?_);obtain⟨c,rfl,q1⟩:=q1;cases r1;refine wpAny_truthy_bool ?_;cases c with
 |true=>exact hb pins s1 σ H1 Q I1 q1
 |false=>exact⟨.bl false,H1,I1,rfl,q1⟩
theorem M3(ha:PE X a ta):PE X (.UnaryOp .Not a pos) (Oj ta):=by
 intro pins s σ H Q I h;refine UnaryOp_ (cz (ha pins s σ H _ I h) fun v s1 ⟨x,H1,I1,r1,q1⟩=>?_);obtain⟨c,rfl,q1⟩:=q1;cases r1;exact not_of (wpAny_truthy_bool ⟨.bl (!c),H1,I1,rfl,q1⟩)
def QO(t:TT)(ta tb:TE):TE:=fun σ H Q=>t σ H fun c H1=>if c=true then ta σ H1 Q else tb σ H1 Q
theorem Hj{c:Expr}(hc:PT X c tA)(ha:PE X a ta)(hb:PE X b tb):PE X (.IfExp c a b pos) (QO tA ta tb):=by
 intro pins s σ H Q I h;refine wpAny_IfExp (cz (hc pins s σ H _ I h) fun d s1 ⟨H1,I1,q1⟩=>?_);cases d with
 |true=>exact ha pins s1 σ H1 Q I1 q1
 |false=>exact hb pins s1 σ H1 Q I1 q1
end
def mO(K:PySem.W.Frag)(H:Hp)(a:Addr)(xs:List V):Prop:=
 Rd H a (.lst xs)\/
  ∃(o:Obj) (aq:Array Value) (n:Nat),K.lookup a=some o/\o.cls= .type "list"/\o.dict=none/\o.data= .seq aq n/\aq.size<=sizeLine/\Vals xs aq.toList
def iZ(K:PySem.W.Frag)(H:Hp)(a:Addr)(xs:List V):Prop:=
 Rd H a (.tup xs)\/
  ∃(o:Obj) (aq:Array Value) (n:Nat),K.lookup a=some o/\o.cls= .type "tuple"/\o.data= .seq aq n/\aq.size<=sizeLine/\Vals xs aq.toList
def P0:Value->Option V
 | .none=>some .aE
 | .bool b=>some (.bl b)
 | .int i _=>some (.int i)
 | .str x _=>some (.str x)
 | .bytes b _=>some (.uD b)
 | .float b _=>some (.uK b)
 | .ref a=>some (.ref a)
 | .type n=>some (.ty n)
 |_=>none
theorem RelV.abs{x:V}{u:Value}(r:RelV x u):P0 u=some x:=by
 cases x with
 |aE=>cases r;rfl
 |bl _=>cases r;rfl
 |int _=>obtain⟨t,rfl⟩:=r;rfl
 |str _=>obtain⟨t,rfl⟩:=r;rfl
 |uD _=>obtain⟨t,rfl⟩:=r;rfl
 |uK _=>obtain⟨t,rfl⟩:=r;rfl
 |ref _=>cases r;rfl
 |ty _=>cases r;rfl
theorem RelV.inj{x y:V}{u:Value}(r:RelV x u)(q:RelV y u):x=y:=Option.some.inj (r.abs.symm.trans q.abs)
theorem Vals.inj:∀ {xs ys:List V} {us:List Value},Vals xs us->Vals ys us->xs=ys
 |_,_,_,.nil,.nil=>rfl
 |_,_,_,.cons r t,.cons r' t'=>by rw[r.inj r',Vals.inj t t']
section
variable {X:Cx}{pins:List (Addr×Obj)}{σ:St}{H:Hp}{s:Shared}{a:Addr}{xs ys:List V}
theorem mO.of{K:PySem.W.Frag}(h:H a=some (.lst xs)):mO K H a xs:= .inl (.inl h)
theorem iZ.of{K:PySem.W.Frag}(h:H a=some (.tup xs)):iZ K H a xs:= .inl (.inl h)
theorem Inv.list(I:Inv X pins σ H s)(h:mO X.K H a xs):∃aq:List Value,Vals xs aq/\PlainL s.heap a aq.toArray/\xs.length<=sizeLine:=by
 rcases h with h|⟨o,aq,n,hk,hc,hd,hs,hz,r⟩
 . obtain⟨z,aq,n,r,e⟩:=h.ok I.aK;exact⟨aq,r,⟨_,n,e,rfl,rfl,rfl⟩,z⟩
 . refine⟨aq.toList,r,⟨o,n,I.g_ a o hk,hc,hd,by simpa using hs⟩,?_⟩;have e:=r.length;simp only[Array.length_toList]at e;omega
theorem Inv.tuple(I:Inv X pins σ H s)(h:iZ X.K H a xs):∃aq:List Value,Vals xs aq/\IsTup s.heap a aq.toArray/\xs.length<=sizeLine:=by
 rcases h with h|⟨o,aq,n,hk,hc,hs,hz,r⟩
 . obtain⟨z,aq,r,p⟩:=h.ok I.aK;exact⟨aq,r,p,z⟩
 . refine⟨aq.toList,r,⟨o,I.g_ a o hk,hc,n,by simpa using hs⟩,?_⟩;have e:=r.length;simp only[Array.length_toList]at e;omega
theorem Inv.z9(I:Inv X pins σ H s)(h:mO X.K H a xs)(h':mO X.K H a ys):xs=ys:=by
 obtain⟨aq,r,⟨o,n,e,_,_,d⟩,_⟩:=I.list h;obtain⟨its',r',⟨o',n',e',_,_,d'⟩,_⟩:=I.list h';rw[e]at e';cases e';rw[d]at d';injection d' with d1 _;have:aq=its':=by simpa using congrArg Array.toList d1
 subst this;exact r.inj r'
theorem Inv.xS(I:Inv X pins σ H s)(h:iZ X.K H a xs)(h':iZ X.K H a ys):xs=ys:=by
 obtain⟨aq,r,⟨o,e,_,n,d⟩,_⟩:=I.tuple h;obtain⟨its',r',⟨o',e',_,n',d'⟩,_⟩:=I.tuple h';rw[e]at e';cases e';rw[d]at d';injection d' with d1 _;have:aq=its':=by simpa using congrArg Array.toList d1
 subst this;exact r.inj r'
end
abbrev Cx.pX(X:Cx)(E:Value->Shared->Prop):Cx:={X with xe:=E}
abbrev Cx.wI(X:Cx):Cx:=X.pX fun _ _=>False
theorem Cx.Ok.pX{X:Cx}(ok:X.Ok)(E:Value->Shared->Prop):(X.pX E).Ok:=
 ⟨ok.mod,ok.kind,ok.glob,ok.blt,ok.above,ok.inj,ok.has,ok.A3,ok.hd,ok.frames,ok.Cu,ok.Ek,ok.bs,ok.sN,ok.vd,ok.u5,ok.kT,ok.vE,ok.gt⟩
theorem Cx.Ok.mZ{X:Cx}{E:Value->Shared->Prop}(ok:(X.pX E).Ok):X.Ok:=
 ⟨ok.mod,ok.kind,ok.glob,ok.blt,ok.above,ok.inj,ok.has,ok.A3,ok.hd,ok.frames,ok.Cu,ok.Ek,ok.bs,ok.sN,ok.vd,ok.u5,ok.kT,ok.vE,ok.gt⟩
section
variable {X:Cx}{pins:List (Addr×Obj)}{σ:St}{H:Hp}{s:Shared}{E:Value->Shared->Prop}
theorem Inv.pX(I:Inv X pins σ H s)(E:Value->Shared->Prop):Inv (X.pX E) pins σ H s:=⟨I.ok.pX E,I.os,I.bare,I.base,I.loc,I.cell,I.free,I.iV,I.pin,I.aK,I.len⟩
theorem Inv.mZ(I:Inv (X.pX E) pins σ H s):Inv X pins σ H s:=⟨I.ok.mZ,I.os,I.bare,I.base,I.loc,I.cell,I.free,I.iV,I.pin,I.aK,I.len⟩
theorem SP.mZ{D:Ends}{f:Flow}{s':Shared}(h:SP (X.pX E) pins D f s'):SP X pins D f s':=by
 cases f with
 |next=>obtain⟨σ',H',I,q⟩:=h;exact⟨σ',H',I.mZ,q⟩
 |brk=>obtain⟨σ',H',I,q⟩:=h;exact⟨σ',H',I.mZ,q⟩
 |cont=>obtain⟨σ',H',I,q⟩:=h;exact⟨σ',H',I.mZ,q⟩
 |ret u=>obtain⟨v,σ',H',I,r,q⟩:=h;exact⟨v,σ',H',I.mZ,r,q⟩
theorem g8.wI{st:List Stmt}{t:TS}(h:g8 X.wI st t):g8 X st t:=fun pins s σ H D I hw=>
 wpAny_mono (h pins s σ H D (I.pX _) hw) (fun _ _ q=>q.mZ) fun _ _ z=>False.elim z
end
section
variable {X:Cx}{st:Stmt}{rest:List Stmt}{t u:TS}{e:Expr}{te:TE}{pos:Pos}
def OV:TS:=fun D σ H=>D.nx σ H
def QD(t u:TS):TS:=fun D σ H=>t {D with nx:=u D} σ H
theorem Ky:g8 X [] OV:=fun _ _ σ H _ I h=>wpAny_execs_nil ⟨σ,H,I,h⟩
theorem G9(h1:PS X st t)(h2:g8 X rest u):g8 X (st::rest) (QD t u):=by
 intro pins s σ H D I h;refine wpAny_execs_cons (cz (h1 pins s σ H {D with nx:=u D} I h) fun f s1 q=>?_);cases f with
 |next=>
  obtain⟨σ',H',I',q⟩:=q;exact h2 pins s1 σ' H' D I' q
 |ret v=>exact q
 |brk=>exact q
 |cont=>exact q
theorem Jv(h1:PS X st t):g8 X [st] t:=by
 intro pins s σ H D I h;refine wpAny_execs_cons (cz (h1 pins s σ H D I h) fun f s1 q=>?_);cases f with
 |next=>exact wpAny_execs_nil q
 |ret v=>exact q
 |brk=>exact q
 |cont=>exact q
theorem Inv.quiet{pins:List (Addr×Obj)}{σ:St}{H:Hp}{s:Shared}(I:Inv X pins σ H s):interactive X.env=false:=by simp[interactive,I.ok.kind]
def O7(te:TE):TS:=fun D σ H=>te σ H fun _ H1=>D.nx σ H1
theorem Ja(he:PE X e te)(hs:swapsWith e none pos.line X.env=pure false:=by rfl):PS X (.Expr e pos) (O7 te):=by
 intro pins s σ H D I h;exact wpAny_Expr_any (cz (he pins s σ H _ I h) fun v s1 ⟨x,H1,I1,r1,q1⟩=>⟨σ,H1,I1,q1⟩) I.quiet hs
def Qi(te:TE):TS:=fun D σ H=>te σ H D.rt
theorem Md(he:PE X e te):PS X (.Return (some e) pos) (Qi te):=by
 intro pins s σ H D I h;exact wpAny_Return_some (cz (he pins s σ H _ I h) fun v s1 ⟨x,H1,I1,r1,q1⟩=>⟨x,σ,H1,I1,r1,q1⟩)
def Ql(c:TT)(t u:TS):TS:=fun D σ H=>c σ H fun b H1=>if b=true then t D σ H1 else u D σ H1
theorem Ob{c:Expr}{a b:List Stmt}{tc:TT}(hc:PT X c tc)(ha:g8 X a t)(hb:g8 X b u):PS X (.If c a b pos) (Ql tc t u):=by
 intro pins s σ H D I h;refine wpAny_If (cz (hc pins s σ H _ I h) fun d s1 ⟨H1,I1,q1⟩=>?_);cases d with
 |true=>exact ha pins s1 σ H1 D I1 q1
 |false=>exact hb pins s1 σ H1 D I1 q1
end
abbrev TG:=V->St->Hp->(St->Hp->Prop)->Prop
abbrev AO:=List V->St->Hp->(St->Hp->Prop)->Prop
def PG(X:Cx)(target:Expr)(t:TG):Prop:=
 ∀(pins:List (Addr×Obj)) (s:Shared) (σ:St) (H:Hp) (v:V) (u:Value) (Q:St->Hp->Prop),Inv X pins σ H s->RelV v u->t v σ H Q->
  wpAny (model X.prog X.w) X.A (assign target X.env u) (fun _ s'=>∃σ' H',Inv X pins σ' H' s'/\Q σ' H') X.xe s
def Iv(X:Cx)(ts:List Expr)(t:AO):Prop:=
 ∀(pins:List (Addr×Obj)) (s:Shared) (σ:St) (H:Hp) (vs:List V) (us:List Value) (Q:St->Hp->Prop),Inv X pins σ H s->Vals vs us->t vs σ H Q->
  wpAny (model X.prog X.w) X.A (assignInOrder ((assignEach ts X.env).map (·.2)) us) (fun _ s'=>∃σ' H',Inv X pins σ' H' s'/\Q σ' H') X.xe s
abbrev Hi:=V->V->V->Hp->(Hp->Prop)->Prop
def Lu(X:Cx)(t:Hi):Prop:=
 ∀(pins:List (Addr×Obj)) (s:Shared) (σ:St) (H:Hp) (o i v:V) (ov iv u:Value) (Q:Hp->Prop),Inv X pins σ H s->RelV o ov->RelV i iv->RelV v u->t o i v H Q->
  wpAny (model X.prog X.w) X.A (setItem ov iv u) (fun _ s'=>∃H',Inv X pins σ H' s'/\Q H') X.xe s
abbrev IK:=V->V->Hp->VK->Prop
def Nh(X:Cx)(op:Operator)(t:IK):Prop:=
 ∀(pins:List (Addr×Obj)) (s:Shared) (σ:St) (H:Hp) (x y:V) (v u:Value) (Q:VK),Inv X pins σ H s->RelV x v->RelV y u->t x y H Q->
  wpAny (model X.prog X.w) X.A (inplaceOp op v u) (EP X pins σ Q) X.xe s
section
variable {X:Cx}{pos:Pos}
def mz(i:Nat):TG:=fun v σ H Q=>Q (σ.set i (some v)) H
theorem wW{i:Nat}{x:Str}(hN:X.N.Nodup)(hi:X.N[i]?=some x)(hx:Loc X.env.scope x)(hf:X.fn x=true\/X.env.scope.names.lookup x=some .local:=by first|exact .inl rfl|exact .inr rfl|assumption):PG X (.Name x pos) (mz i):=by
 intro pins s σ H v u Q I r h;exact wpAny_assign_Name (oM I hN hi hx r (fun s' I'=>⟨_,H,I',h⟩) hf)
def Le:AO:=fun vs σ H Q=>vs=[]/\Q σ H
def CA(t:TG)(u:AO):AO:=fun vs σ H Q=>∃v r,vs=v::r/\t v σ H fun σ' H'=>u r σ' H' Q
theorem Ku:Iv X [] Le:=by
 intro pins s σ H vs us Q I r h;obtain⟨e,h⟩:=h;subst e;cases r;exact assignInOrder_nil ⟨σ,H,I,h⟩
theorem zd{e:Expr}{es:List Expr}{t:TG}{u:AO}(h1:PG X e t)(h2:Iv X es u)
 (hs:(assignEach (e::es) X.env).map (·.2)=assign e X.env::(assignEach es X.env).map (·.2):=by rfl):Iv X (e::es) (CA t u):=by
 intro pins s σ H vs us Q I r h;obtain⟨v,vr,e1,h⟩:=h;subst e1;cases r with
 |cons r rr=>
  rw[hs];refine assignInOrder_cons (cz (h1 pins s σ H _ _ _ I r h) fun _ s1 ⟨σ1,H1,I1,q1⟩=>?_);exact h2 pins s1 σ1 H1 _ _ Q I1 rr q1
def K9(K:PySem.W.Frag)(n:Nat)(t:AO):TG:=fun v σ H Q=>∃a xs,v= .ref a/\iZ K H a xs/\xs.length=n/\t xs σ H Q
theorem MK{es:List Expr}{k:Nat}{t:AO}{n:Nat}(hc:X.calm=true)(h:Iv X es t)
 (hn:(assignEach es X.env).length=n:=by rfl) (hst:(assignEach es X.env).findIdx? (·.1)=none:=by rfl):PG X (.Tuple es k pos) (K9 X.K n t):=by
 intro pins s σ H v u Q I r hw;obtain⟨a,xs,e1,hq,hl,hw⟩:=hw;subst e1;cases r;obtain⟨aq,rv,ht,hz⟩:=I.tuple hq;refine assign_Tuple_tuple (I.ok.hd hc) ht (by simp[hn,<-hl,rv.length]) hst fun h' hx=>?_;have I1:Inv X pins σ H {s with heap:=h'}:=I.kept (t':=s.toks) fun b o e=>hx b o (Nat.ne_of_lt (Heap.lt_size e)) e;exact h pins _ σ H xs _ Q I1 (by simpa using rv) hw
def Dl(to ti:TE)(t:Hi):TG:=fun v σ H Q=>to σ H fun o H1=>ti σ H1 fun i H2=>t o i v H2 fun H3=>Q σ H3
theorem MH{o i:Expr}{to ti:TE}{t:Hi}(ho:PE X o to)(hi:PE X i ti)(hs:Lu X t)
 (ha:∀v,assign (.Subscript o i pos) X.env v=(do
   let ov <-holding [v] (eval o X.env)
   let iv <-holding [v,ov] (eval i X.env)
   standAt pos
   holding [v,ov,iv] (setItem ov iv v)
   release [v,ov,iv] []):=by intro _;rfl):PG X (.Subscript o i pos) (Dl to ti t):=by
 intro pins s σ H v u Q I r h;rw[ha];refine wpAny_bind (wpAny_holding (cz (ho pins s σ H _ I h) fun ov s1 ⟨x,H1,I1,r1,q1⟩=>?_));refine wpAny_bind (wpAny_holding (cz (hi pins s1 σ H1 _ I1 q1) fun iv s2 ⟨y,H2,I2,r2,q2⟩=>?_));refine wpAny_bind (wpAny_standAt (wpAny_bind (wpAny_holding (cz (hs pins s2 σ H2 x y v ov iv u _ I2 r1 r2 r q2) fun _ s3 ⟨H3,I3,q3⟩=>?_))));exact wpAny_release ⟨σ,H3,I3,q3⟩
def oO(te:TE)(g:TG):TS:=fun D σ H=>te σ H fun x H1=>g x σ H1 D.nx
theorem FF{tg e:Expr}{te:TE}{g:TG}(he:PE X e te)(hg:PG X tg g)(hs:swapsWithSole [tg] e pos.line X.env=pure false:=by rfl)(hw:swappedStores [tg] e X.env=pure none:=by rfl)
 (h1:(assignEach [tg] X.env).map (·.2)=[assign tg X.env]:=by rfl):PS X (.Assign [tg] e pos) (oO te g):=by
 intro pins s σ H D I h;refine wpAny_Assign_stores (cz (he pins s σ H _ I h) fun v s1 ⟨x,H1,I1,r1,q1⟩=>?_) hs hw;rw[h1];exact cz (hg pins s1 σ H1 x v _ I1 r1 q1) fun _ s2 q=>q
theorem M5{i:Nat}{x:Str}{e:Expr}{te:TE}{pos':Pos}(hN:X.N.Nodup)(hi:X.N[i]?=some x)(hx:Loc X.env.scope x)(he:PE X e te)(hs:swapsWith e (some (.Name x pos')) pos.line X.env=pure false:=by rfl)(hf:X.fn x=true\/X.env.scope.names.lookup x=some .local:=by first|exact .inl rfl|exact .inr rfl|assumption):
 PS X (.Assign [.Name x pos'] e pos) (oO te (mz i)):=by
 intro pins s σ H D I h;refine wpAny_Assign_Name (cz (he pins s σ H _ I h) fun v s1 ⟨y,H1,I1,r1,q1⟩=>?_) hs;exact oM I1 hN hi hx r1 (fun s2 I2=>⟨_,H1,I2,q1⟩) hf
def Lp(i j:Nat)(ta:TA):TS:=fun D σ H=>ta σ H fun vs H1=>∃v w,vs=[v,w]/\D.nx ((σ.set i (some v)).set j (some w)) H1
theorem La{i j:Nat}{x y:Str}{a b:Expr}{ta:TA}{px py pt:Pos}{kt k2 pt2}(hc:X.calm=true)(hN:X.N.Nodup)(hi:X.N[i]?=some x)(hj:X.N[j]?=some y)(hij:i≠j)
 (hx:X.env.scope.names.lookup x=some .local) (hy:X.env.scope.names.lookup y=some .local) (ha:PA X [a,b] ta)
 (hw:swappedStores [.Tuple [.Name x px,.Name y py] kt pt] (.Tuple [a,b] k2 pt2) X.env=pure (some [x,y]))
 (hs:swapsWithSole [.Tuple [.Name x px,.Name y py] kt pt] (.Tuple [a,b] k2 pt2) pos.line X.env=pure false:=by rfl):
 PS X (.Assign [.Tuple [.Name x px,.Name y py] kt pt] (.Tuple [a,b] k2 pt2) pos) (Lp i j ta):=by
 intro pins s σ H D I h;rw[exec_Assign_arm];refine wpAny_bind (wpAny_standAt ?_);rw[hs];refine wpAny_bind (wpAny_pure ?_);rw[if_neg (by decide)];refine wpAny_bind (Tuple_ (cz (ha _ pins s σ H _ I h) fun us s1 ⟨vs,H1,I1,r1,q1⟩=>?_));obtain⟨v,w,e1,q1⟩:=q1;subst e1
 obtain⟨u1,u2,rfl,rv,rw'⟩:∃u1 u2,us=[u1,u2]/\RelV v u1/\RelV w u2:=by
  cases r1 with
  |cons p q=>
   cases q with
   |cons p' q'=>
    cases q';exact⟨_,_,rfl,p,p'⟩
 refine wpAny_newObj_type ?_ (by show 2<=sizeLine;decide);have I2:Inv X pins σ H1 {s1 with heap:=s1.heap.push {cls:= .type "tuple",data:= .seq [u1,u2].toArray}}:=I1.kept (t':=s1.toks) fun b o e=>Heap.get?_push_of_some _ e;rw[hw];refine wpAny_bind (wpAny_pure ?_);show wpAny (model X.prog X.w) X.A (do rule "assign.swapped-stores";let items <-unpackItems (.ref s1.heap.objs.size) 2 none;assignInOrder [fun v=>bindName X.env y v,fun v=>bindName X.env x v] items.reverse;pure Flow.next) _ _ _;refine wpAny_bind (wpAny_rule (wpAny_bind (unpackItems_tuple (items:= #[u1,u2]) (I.ok.hd hc) (IsTup.new s1.heap _) fun h' hx'=>?_)));have I3:=I2.kept (h':=h') (t':=s1.toks) fun b o e=>hx' b o (Nat.ne_of_lt (Heap.lt_size e)) e;show wpAny _ _ (assignInOrder [fun v=>bindName X.env y v,fun v=>bindName X.env x v] [u2,u1] >>= fun _=>pure Flow.next) _ _ _;refine wpAny_bind (assignInOrder_cons (wpAny_bindName (oM I3 hN hj (.inl hy) rw' (fun s2 I4=>?_) (.inr hy))));refine assignInOrder_cons (wpAny_bindName (oM I4 hN hi (.inl hx) rv (fun s3 I5=>assignInOrder_nil (wpAny_pure ?_)) (.inr hx)));rw[List.set_comm _ _ (Ne.symm hij)]at I5;exact⟨_,H1,I5,q1⟩
def Mq(i:Nat)(te:TE)(ti:IK):TS:=fun D σ H=>∃x,σ[i]?=some (some x)/\te σ H fun y H1=>ti x y H1 fun z H2=>D.nx (σ.set i (some z)) H2
theorem L0{i:Nat}{x:Str}{e:Expr}{te:TE}{op:Operator}{ti:IK}{pos':Pos}(hN:X.N.Nodup)(hi:X.N[i]?=some x)(hx:Loc X.env.scope x)(he:PE X e te)(ho:Nh X op ti)(hf:X.fn x=true\/X.env.scope.names.lookup x=some .local:=by first|exact .inl rfl|exact .inr rfl|assumption):
 PS X (.AugAssign (.Name x pos') op e pos) (Mq i te ti):=by
 intro pins s σ H D I h;obtain⟨v,e1,h⟩:=h;obtain⟨m,hn,hl⟩:=I.loc;have vis:AJ X.env.scope x:=by rcases hx with k|k;exact .inl k;exact .inr (.inl k)
 obtain⟨u,r,l⟩:=hl i x v hi e1 vis;refine wpAny_AugAssign_Name ?_
 have go:wpAny (model X.prog X.w) X.A (eval e X.env) (fun w s₂=>wpAny (model X.prog X.w) X.A (inplaceOp op u w) (fun r s₃=>wpAny (model X.prog X.w) X.A (storeName X.env x r) (fun _=>SP X pins D .next) X.xe s₃) X.xe s₂) X.xe s:=by
  refine cz (he pins s σ H _ I h) fun w s1 ⟨y,H1,I1,r1,q1⟩=>?_;refine cz (ho pins s1 σ H1 v y u w _ I1 r r1 q1) fun z s2 ⟨zv,H2,I2,r2,q2⟩=>?_;exact oM I2 hN hi hx r2 (fun s3 I3=>⟨_,H2,I3,q2⟩) hf
 rcases l with⟨hk,hm⟩|⟨hk,c,hc,hcell⟩
 . exact wpAny_loadName_local I.ok.kind hk hn hm go
 . rcases hk with hk|hk
   . exact wpAny_loadName_cell I.ok.kind hk hc hcell go
   . rcases hx with k|k
     . have:X.env.scope.names.lookup x=some .free:=hk;rw[k]at this;cases this
     . have:X.env.scope.names.lookup x=some .free:=hk;rw[k]at this;cases this
def L7(f:Int->Int->Int):IK:=fun x y H Q=>∃i j,x= .int i/\y= .int j/\Q (.int (f i j)) H
theorem LF:Nh X .Add (L7 fun i j=>i+j):=by
 intro pins s σ H x y v u Q I r1 r2 h;obtain⟨i,j,e1,e2,q⟩:=h;subst e1;subst e2;obtain⟨t,rfl⟩:=r1;obtain⟨t',rfl⟩:=r2;exact iadd_int ⟨.int _,H,I.tok _,⟨_,rfl⟩,q⟩
def Fw(c:TT)(tb:TS):TS:=fun D σ H=>∃W:Nat->St->Hp->Prop,(∃m,W m σ H)/\∀m σ H,W m σ H->
 c σ H fun b H1=>if b=true then∃N:St->Hp->Prop,(∀σ' H',N σ' H'->∃m',m'<m/\W m' σ' H')/\tb {D with nx:=N,ct:=N,bk:=D.nx} σ H1 else D.nx σ H1
theorem G7{c:Expr}{body:List Stmt}{tc:TT}{tb:TS}(hp:PassesOwn (model X.prog X.w) X.A X.env X.xe)(hc:PT X c tc)(hb:g8 X body tb):PS X (.While c body [] pos) (Fw tc tb):=by
 intro pins s σ H D I h;obtain⟨W,⟨m0,w0⟩,turn⟩:=h;refine wpAny_While (codeAny_whileLoop (fun n s'=>∃σ' H',Inv X pins σ' H' s'/\W n σ' H') ?_ m0 ⟨σ,H,I,w0⟩);rintro n s1 ⟨σ1,H1,I1,w1⟩;refine wpAny_passesOwn hp (cz (hc pins s1 σ1 H1 _ I1 (turn n σ1 H1 w1)) fun b s2 ⟨H2,I2,q2⟩=>?_);cases b with
 |true=>
  obtain⟨N,hN,q2⟩:=q2;rw[if_pos rfl];refine wpAny_passesOwn hp (cz (hb pins s2 σ1 H2 _ I2 q2) fun f s3 q3=>?_);cases f with
  |next=>
   obtain⟨σ3,H3,I3,n3⟩:=q3;obtain⟨m',hm,w3⟩:=hN σ3 H3 n3;exact⟨m',hm,σ3,H3,I3,w3⟩
  |cont=>
   obtain⟨σ3,H3,I3,n3⟩:=q3;obtain⟨m',hm,w3⟩:=hN σ3 H3 n3;exact⟨m',hm,σ3,H3,I3,w3⟩
  |brk=>exact q3
  |ret v=>exact q3
 |false=>
  rw[if_neg Bool.false_ne_true];exact wpAny_execs_nil ⟨σ1,H2,I2,q2⟩
end
structure It where
 go:Nat->Hp->Prop
 o4:Nat->Hp->V->Hp->Prop
 stop:Nat->Hp->Prop
def lJ(X:Cx)(pins:List (Addr×Obj))(H:Hp)(b:Addr):Prop:=
 H b=none/\b≠X.env.locals/\b∉X.fs/\(b∈X.ex\/X.s₀.heap.objs.size<=b)/\(∀x c,X.env.cells.lookup x=some c->c≠b)/\∀p∈X.pn++pins,p.1≠b
theorem Inv.uT{X:Cx}{pins:List (Addr×Obj)}{σ:St}{H H':Hp}{s:Shared}{b:Addr}(I:Inv X pins σ H s)(hb:s.heap.objs.size<=b)(hn:H' b=none):lJ X pins H' b:=by
 refine⟨hn,Nat.ne_of_gt (Nat.lt_of_lt_of_le I.lt hb),I.NC hb,.inr (Nat.le_trans I.sz hb),fun x c e z=>?_,fun p hp z=>?_⟩
 . obtain⟨v,q⟩:=I.cell x c e;exact absurd (Nat.lt_of_lt_of_le q.lt (by rw[z];exact hb)) (Nat.lt_irrefl _)
 . exact absurd (Nat.lt_of_lt_of_le (Heap.lt_size (I.pin p hp).1) (by rw[z];exact hb)) (Nat.lt_irrefl _)
structure Turn(P:Program)(w:World)(K:PySem.W.Frag)(tg:Expr)(J:It)(fp:List Addr)(it:Addr)(tn:Nat->Heap->Prop):Prop where
 mem:it∈fp
 obj:∀i h,tn i h->∀b∈fp,∃o,h.get? b=some o/\∀v,o.data≠ .cell v
 keep:∀i h h',tn i h->(∀b∈fp,∀o,h.get? b=some o->h'.get? b=some o)->tn i h'
 item:∀(X:Cx),X.prog=P->X.w=w->X.K=K->X.calm=true->∀(i:Nat) (pins:List (Addr×Obj)) (s:Shared) (σ:St) (H:Hp) (E:Value->Shared->Prop),Inv X pins σ H s->(∀b∈fp,lJ X pins H b)->tn i s.heap->J.go i H->
  wpAny (model P w) X.A (pyNext (.ref it)) (fun r s1=>∃u,r=some u/\
   wpAny (model P w) X.A (letOwnedTupleGo tg (.ref it) u) (fun _ s2=>∃x H',Inv X pins σ H' s2/\RelV x u/\J.o4 i H x H'/\tn (i+1) s2.heap/\∀b∈fp,H' b=none) E s1) E s
 done:∀(X:Cx),X.prog=P->X.w=w->X.K=K->X.calm=true->∀(i:Nat) (pins:List (Addr×Obj)) (s:Shared) (σ:St) (H:Hp) (E:Value->Shared->Prop),Inv X pins σ H s->(∀b∈fp,lJ X pins H b)->tn i s.heap->J.stop i H->
  wpAny (model P w) X.A (pyNext (.ref it)) (fun r s1=>r=none/\Inv X pins σ H s1) E s
 self:∀(A:Around) (i:Nat) (s:Shared) (Q:Value->Shared->Prop) (E:Value->Shared->Prop),tn i s.heap->Q (.ref it) s->wpAny (model P w) A (pyIter (.ref it)) Q E s
abbrev TI:=St->Hp->(It->Hp->Prop)->Prop
def IF(X:Cx)(pins:List (Addr×Obj))(σ:St)(tg:Expr)(R:It->Hp->Prop)(itv:Value)(s2:Shared):Prop:=
 ∃(it:Addr) (fp:List Addr) (tn:Nat->Heap->Prop) (J:It) (H':Hp),itv= .ref it/\Inv X pins σ H' s2/\Turn X.prog X.w X.K tg J fp it tn/\tn 0 s2.heap/\(∀b∈fp,lJ X pins H' b)/\R J H'
def PI(X:Cx)(tg iter:Expr)(wi:TI):Prop:=
 ∀(pins:List (Addr×Obj)) (s:Shared) (σ:St) (H:Hp) (R:It->Hp->Prop),Inv X pins σ H s->wi σ H R->
  wpAny (model X.prog X.w) X.A (eval iter X.env) (fun v s1=>wpAny (model X.prog X.w) X.A (pyIter v) (IF X pins σ tg R) X.xe s1) X.xe s
theorem yY{M:Model}{A:Around}{E:Value->Shared->Prop}{s:Shared}{tg:Expr}{it:Addr}{u:Value}{o:Obj}{n:String}{vs:Array Value}{Q:Unit->Shared->Prop}(ho:s.heap.get? it=some o)(hc:o.cls= .type n)(hd:o.data= .fields vs)
 (hn: ["enumerate","zip","dict_itemiterator","dict_reverseitemiterator","odict_iterator","itertools.zip_longest","itertools.pairwise"].contains n=false) (hQ:Q () s):wpAny M A (letOwnedTupleGo tg (.ref it) u) Q E s:=by
 unfold letOwnedTupleGo
 cases tg<;>first
  |exact wpAny_pure hQ
  |(cases u<;>first
     |exact wpAny_pure hQ
     |(refine wpAny_bind (wpAny_load ho ?_)
       rw[hc,hd];show wpAny M A (if(["enumerate","zip","dict_itemiterator","dict_reverseitemiterator","odict_iterator","itertools.zip_longest","itertools.pairwise"].contains n&&vs[0]?==some (rawInt _))=true then _ else _) Q E s;rw[if_neg (by intro h;rw[hn,Bool.false_and]at h;cases h)];exact wpAny_pure hQ))
def Nx(K:PySem.W.Frag)(a:Addr):It:=
 ⟨fun i H=>∃xs x,mO K H a xs/\xs[i]?=some x,fun i H x H'=>H'=H/\∀xs,mO K H a xs->xs[i]?=some x,fun i H=>∃xs,mO K H a xs/\xs.length<=i⟩
def MF(K:PySem.W.Frag)(a:Addr):It:=
 ⟨fun i H=>∃xs x,iZ K H a xs/\xs[i]?=some x,fun i H x H'=>H'=H/\∀xs,iZ K H a xs->xs[i]?=some x,fun i H=>∃xs,iZ K H a xs/\xs.length<=i⟩
def yo(lo:Int)(n:Nat):It:=⟨fun i _=>i<n,fun i H x H'=>H'=H/\x= .int (lo+i),fun i _=>n<=i⟩
theorem E1{P:Program}{w:World}{K:PySem.W.Frag}{tg:Expr}(a it:Addr):Turn P w K tg (Nx K a) [it] it (fun i h=>h.IsListIter it a i) where
 mem:=by simp
 obj:=fun i h st b hb=>by
  have e:b=it:=by simpa using hb
  subst e;obtain⟨o,e,c,d⟩:=st;exact⟨o,e,fun v z=>by rw[d]at z;cases z⟩
 keep:=fun i h h' st k=>st.at fun o e=>k it (by simp) o e
 item:=by
  intro X hP hw hK hc i pins s σ H E I hf st hg;subst hP hw hK;obtain⟨xs,x,hq,hx⟩:=hg;obtain⟨aq,rv,p,hz⟩:=I.list hq;obtain⟨u,hu,ru⟩:=rv.get hx;obtain⟨f0,f1,f2,f3,f4,f5⟩:=hf it (by simp);refine wpAny_pyNext_list_item st p.isList (x:=u) (by simpa using hu) fun h' st' sb=>?_;have I1:Inv X pins σ H {s with heap:=h'}:=I.turned (t':=s.toks) (fun b o hb e=>(sb.2 b hb).trans e) f0 f1 f3 f4 f5;obtain⟨o,e,c,d⟩:=id st';exact⟨u,rfl,yY (s:={s with heap:=h'}) e c d (by decide) ⟨x,H,I1,ru,⟨rfl,fun ys hy=>by rw[I.z9 hy hq];exact hx⟩,st',fun b hb=>(hf b hb).1⟩⟩
 done:=by
  intro X hP hw hK hc i pins s σ H E I hf st hg;subst hP hw hK;obtain⟨xs,hq,hx⟩:=hg;obtain⟨aq,rv,p,hz⟩:=I.list hq;obtain⟨f0,f1,f2,f3,f4,f5⟩:=hf it (by simp);have hl:=rv.length;exact wpAny_pyNext_list_end (I.ok.hd hc) st p.isList (by simp;omega) fun h' eb=>⟨rfl,I.turned (t':=s.toks) (fun b o hb e=>eb b o hb e) f0 f1 f3 f4 f5⟩
 self:=fun _ _ _ _ _ st h=>wpAny_pyIter_listiter st h
theorem CU{P:Program}{w:World}{K:PySem.W.Frag}{tg:Expr}(a it:Addr):Turn P w K tg (MF K a) [it] it (fun i h=>h.IsTupleIter it a i) where
 mem:=by simp
 obj:=fun i h st b hb=>by
  have e:b=it:=by simpa using hb
  subst e;obtain⟨o,e,c,d⟩:=st;exact⟨o,e,fun v z=>by rw[d]at z;cases z⟩
 keep:=fun i h h' st k=>st.at fun o e=>k it (by simp) o e
 item:=by
  intro X hP hw hK hc i pins s σ H E I hf st hg;subst hP hw hK;obtain⟨xs,x,hq,hx⟩:=hg;obtain⟨aq,rv,p,hz⟩:=I.tuple hq;obtain⟨u,hu,ru⟩:=rv.get hx;obtain⟨f0,f1,f2,f3,f4,f5⟩:=hf it (by simp);refine wpAny_pyNext_tuple_item st (show s.heap.IsTuple a aq.toArray from p) (x:=u) (by simpa using hu) fun h' st' sb=>?_;have I1:Inv X pins σ H {s with heap:=h'}:=I.turned (t':=s.toks) (fun b o hb e=>(sb.2 b hb).trans e) f0 f1 f3 f4 f5;obtain⟨o,e,c,d⟩:=id st';exact⟨u,rfl,yY (s:={s with heap:=h'}) e c d (by decide) ⟨x,H,I1,ru,⟨rfl,fun ys hy=>by rw[I.xS hy hq];exact hx⟩,st',fun b hb=>(hf b hb).1⟩⟩
 done:=by
  intro X hP hw hK hc i pins s σ H E I hf st hg;subst hP hw hK;obtain⟨xs,hq,hx⟩:=hg;obtain⟨aq,rv,p,hz⟩:=I.tuple hq;obtain⟨f0,f1,f2,f3,f4,f5⟩:=hf it (by simp);have hl:=rv.length;exact wpAny_pyNext_tuple_end (I.ok.hd hc) st (show s.heap.IsTuple a aq.toArray from p) (by simp;omega) fun h' eb=>⟨rfl,I.turned (t':=s.toks) (fun b o hb e=>eb b o hb e) f0 f1 f3 f4 f5⟩
 self:=fun _ _ _ _ _ st h=>wpAny_pyIter_tupleiter st h
theorem C7{P:Program}{w:World}{K:PySem.W.Frag}{tg:Expr}(it:Addr)(lo:Int)(n:Nat):Turn P w K tg (yo lo n) [it] it (fun i h=>IsRangeIter h it (lo+(i:Nat)*1) ((n:Int)-(i:Nat)) 1) where
 mem:=by simp
 obj:=fun i h st b hb=>by
  have e:b=it:=by simpa using hb
  subst e
  exact⟨_,st,fun v z=>by
   have z':Data.fields _=Data.cell v:=z;cases z'⟩
 keep:=fun i h h' st k=>k it (by simp) _ st
 item:=by
  intro X hP hw hK hc i pins s σ H E I hf st hg;subst hP hw hK;obtain⟨f0,f1,f2,f3,f4,f5⟩:=hf it (by simp);have W:=Walks.range (prog:=X.prog) (w:=X.w) (I.ok.hd hc) it lo 1 n;refine W.item i s _ _ hg st fun v h' tk hv st' kk=>?_;obtain⟨t,rfl⟩:=hv;have I1:Inv X pins σ H {s with heap:=h',toks:=tk}:=I.turned (fun b o hb e=>kk b o (by simpa using hb) e) f0 f1 f3 f4 f5;refine⟨_,rfl,yY (s:={s with heap:=h',toks:=tk}) (n:="range_iterator") st' rfl rfl (by decide) ⟨.int (lo+i),H,I1,⟨t,?_⟩,⟨rfl,rfl⟩,st',fun b hb=>(hf b hb).1⟩⟩;rw[Int.mul_one]
 done:=by
  intro X hP hw hK hc i pins s σ H E I hf st hg;subst hP hw hK;obtain⟨f0,f1,f2,f3,f4,f5⟩:=hf it (by simp);exact wpAny_pyNext_range_end (I.ok.hd hc) st (by have:n<=i:=hg;omega) fun h' eb=>⟨rfl,I.turned (t':=s.toks) (fun b o hb e=>eb b o hb e) f0 f1 f3 f4 f5⟩
 self:=fun _ _ _ _ _ st h=>wpAny_pyIter_rangeiter st h
section
variable {X:Cx}{tg:Expr}
theorem AF{pins:List (Addr×Obj)}{σ:St}{H:Hp}{s:Shared}{R:It->Hp->Prop}{E:Value->Shared->Prop}{lo hi:Int}{t u v:Tok}{tk:Nat}(I:Inv X pins σ H s)(h1: -(2^62)<=lo)(h2:lo<2^62)(h3: -(2^62)<=hi)(h4:hi<2^62)
 (q:R (yo lo (hi-lo).toNat) H):wpAny (model X.prog X.w) X.A (pyIter (.ref s.heap.objs.size)) (IF X pins σ tg R) E {s with heap:=s.heap.push {cls:= .type "range",data:= .fields #[.int lo t,.int hi u,.int 1 v]},toks:=tk}:=by
 refine wpAny_pyIter_range (IsRange.new ..) (small_one h1 h2 h3 h4) ?_;have I1:Inv X pins σ H {s with heap:=s.heap.push {cls:= .type "range",data:= .fields #[.int lo t,.int hi u,.int 1 v]},toks:=tk}:=I.kept fun b o e=>Heap.get?_push_of_some _ e
 refine⟨(s.heap.push {cls:= .type "range",data:= .fields #[.int lo t,.int hi u,.int 1 v]}).objs.size,[(s.heap.push {cls:= .type "range",data:= .fields #[.int lo t,.int hi u,.int 1 v]}).objs.size],_,_,H,rfl,
  I1.kept (t':=tk) fun b o e=>Heap.get?_push_of_some _ e,C7 _ lo (hi-lo).toNat,?_,fun b hb=>?_,q⟩
 . have e1:lo+((0:Nat):Int)*1=lo:=by simp
   have e2:(((hi-lo).toNat:Nat):Int)-((0:Nat):Int)=Builtin.Range.rangeSize lo hi 1:=by rw[rangeSize_one];split<;>omega
   show IsRangeIter _ _ (lo+((0:Nat):Int)*1) ((((hi-lo).toNat:Nat):Int)-((0:Nat):Int)) 1;rw[e1,e2];exact Heap.get?_push_size _ rfl
 . have e:b=(s.heap.push {cls:= .type "range",data:= .fields #[.int lo t,.int hi u,.int 1 v]}).objs.size:=by simpa using hb
   subst e;exact I1.uT (Nat.le_refl _) (I1.aK.fresh (Nat.le_refl _))
def C0(ta:TA):TI:=fun σ H R=>ta σ H fun vs H1=>∃j:Int,vs=[.int j]/\ -(2^62)<=j/\j<2^62/\R (yo 0 j.toNat) H1
def C_(ta:TA):TI:=fun σ H R=>ta σ H fun vs H1=>∃i j:Int,vs=[.int i,.int j]/\(-(2^62)<=i/\i<2^62/\ -(2^62)<=j/\j<2^62)/\R (yo i (j-i).toNat) H1
theorem D2{a:Expr}{ta:TA}{p pos:Pos}(hg:Gl X "range")(hm:X.mg "range"=none)(ha:PA X [a] ta)(hs:starEach [a] X.env=[(false,eval a X.env)]:=by rfl):PI X tg (.Call (.Name "range" p) [a] [] pos) (C0 ta):=by
 intro pins s σ H R I h;refine Call_ (kK I hg hm boot_range (PyProof.Rows.callWith_type1 (cz (ha pos pins s σ H _ I h) fun us s1 ⟨vs,H1,I1,r1,q1⟩=>?_) hs rfl));obtain⟨j,e,q1,q2,q⟩:=q1;subst e;cases r1 with
 |cons r rr=>
  cases rr;obtain⟨t,rfl⟩:=r;exact call_range_1 (AF I1 (by omega) (by omega) q1 q2 (by simpa using q))
theorem EL{a b:Expr}{ta:TA}{p pos:Pos}(hg:Gl X "range")(hm:X.mg "range"=none)(ha:PA X [a,b] ta)(hs:starEach [a,b] X.env=[(false,eval a X.env),(false,eval b X.env)]:=by rfl)(hs2:starEach [b] X.env=[(false,eval b X.env)]:=by rfl):
 PI X tg (.Call (.Name "range" p) [a,b] [] pos) (C_ ta):=by
 intro pins s σ H R I h;refine Call_ (kK I hg hm boot_range (PyProof.Rows.callWith_type1 (cz (ha pos pins s σ H _ I h) fun us s1 ⟨vs,H1,I1,r1,q1⟩=>?_) (by rw[hs,hs2]) (by rw[hs2];rfl)));obtain⟨i,j,e,⟨q1,q2,q3,q4⟩,q⟩:=q1;subst e;cases r1 with
 |cons r rr=>
  cases rr with
  |cons r' rr=>
   cases rr;obtain⟨t,rfl⟩:=r;obtain⟨t',rfl⟩:=r';exact call_range_2 (AF I1 q1 q2 q3 q4 q)
def Lv(wi:TI)(g:TG)(tb:TS):TS:=fun D σ H=>wi σ H fun J H1=>∃W:Nat->Nat->St->Hp->Prop,(∃m,W 0 m σ H1)/\∀i m σ H,W i m σ H->
 (J.stop i H/\D.nx σ H)\/(J.go i H/\∃N:St->Hp->Prop,(∀σ' H',N σ' H'->∃m',m'<m/\W (i+1) m' σ' H')/\∀x H',J.o4 i H x H'->g x σ H' fun σ2 H2=>tb {D with nx:=N,ct:=N,bk:=D.nx} σ2 H2)
def tu(fp:List Addr)(h:Heap):List (Addr×Obj):=fp.filterMap fun b=>(h.get? b).map fun o=>(b,o)
theorem nH{fp:List Addr}{h:Heap}{b:Addr}{o:Obj}(hb:b∈fp)(e:h.get? b=some o):(b,o)∈tu fp h:=List.mem_filterMap.mpr ⟨b,hb,by rw[e];rfl⟩
theorem Fi{fp:List Addr}{h:Heap}{p:Addr×Obj}(hp:p∈tu fp h):p.1∈fp/\h.get? p.1=some p.2:=by
 obtain⟨b,hb,e⟩:=List.mem_filterMap.mp hp;cases q:h.get? b with
 |none=>rw[q]at e;cases e
 |some o=>
  rw[q]at e;have e':(b,o)=p:=Option.some.inj e;subst e';exact⟨hb,q⟩
theorem Inv.pinned{pins:List (Addr×Obj)}{σ:St}{H:Hp}{s:Shared}{fp:List Addr}(I:Inv X pins σ H s)(hf:∀b∈fp,lJ X pins H b)(ho:∀b∈fp,∃o,s.heap.get? b=some o/\∀v,o.data≠ .cell v):Inv X (pins++tu fp s.heap) σ H s:=
 I.t_ fun p hp=>(List.mem_append.mp hp).elim (fun z=>I.pin p (List.mem_append_right _ z)) fun z=>by
  obtain⟨hb,e⟩:=Fi z;obtain⟨f0,f1,f2,_⟩:=hf p.1 hb;obtain⟨o,e',d⟩:=ho p.1 hb;rw[e]at e';cases e';exact⟨e,f0,f1,f2,d⟩
theorem Inv.hV{pins pl:List (Addr×Obj)}{σ:St}{H:Hp}{s:Shared}(I:Inv X (pins++pl) σ H s):Inv X pins σ H s:=I.t_ fun p hp=>I.pin p (List.mem_append_right _ (List.mem_append_left _ hp))
theorem Lo{iter:Expr}{body:List Stmt}{wi:TI}{g:TG}{tb:TS}{pos:Pos}(hp:PassesOwn (model X.prog X.w) X.A X.env X.xe)(hc:X.calm=true)(hi:PI X tg iter wi)(hg:PG X tg g)(hb:g8 X body tb)
 (hs:∀x,foldedSetIterable iter X.env x=pure x:=by intro _;rfl):PS X (.For tg iter body [] pos) (Lv wi g tb):=by
 intro pins s σ H D I h;refine wpAny_For (cz (hi pins s σ H _ I h) fun v s1 h1=>cz h1 fun itv s2 h2=>?_) hs;obtain⟨it,fp,tn,J,H2,e,I2,T,st2,f2,W,⟨m0,w0⟩,turn⟩:=h2;subst e;have stat:∀ {H':Hp},(∀b∈fp,H' b=none)->∀b∈fp,lJ X pins H' b:=fun hn b hb=>⟨hn b hb,(f2 b hb).2⟩
 refine codeAny_forLoop_any (fun n s'=>∃i σ' H',Inv X pins σ' H' s'/\tn i s'.heap/\(∀b∈fp,H' b=none)/\W i n σ' H') ?_ m0 ⟨0,σ,H2,I2,st2,fun b hb=>(f2 b hb).1,w0⟩;rintro n s3 ⟨i,σ3,H3,I3,st3,fr3,w3⟩;rcases turn i n σ3 H3 w3 with⟨stop,qn⟩|⟨go,N,hN,step⟩
 . refine wpAny_passesOwn hp (cz (T.done X rfl rfl rfl hc i pins s3 σ3 H3 X.xe I3 (stat fr3) st3 stop) fun r s4 ⟨hr,I4⟩=>?_);subst hr;exact wpAny_execs_nil ⟨σ3,H3,I4,qn⟩
 . refine wpAny_passesOwn hp (cz (T.item X rfl rfl rfl hc i pins s3 σ3 H3 X.xe I3 (stat fr3) st3 go) fun r s4 ⟨u,hr,h4⟩=>?_);subst hr;refine wpAny_passesOwn hp (cz h4 fun _ s5 ⟨x,H5,I5,r5,y5,st5,fr5⟩=>?_);have I5':=I5.pinned (stat fr5) (T.obj _ _ st5);refine wpAny_passesOwn hp (cz (hg _ s5 σ3 H5 x u _ I5' r5 (step x H5 y5)) fun _ s6 ⟨σ6,H6,I6,q6⟩=>?_);refine wpAny_passesOwn hp (cz (hb _ s6 σ6 H6 _ I6 q6) fun f s7 q7=>?_)
   have again:∀ {σ7:St} {H7:Hp},Inv X (pins++tu fp s5.heap) σ7 H7 s7->N σ7 H7->∃m,m<n/\∃i σ' H',Inv X pins σ' H' s7/\tn i s7.heap/\(∀b∈fp,H' b=none)/\W i m σ' H':=fun{σ7 H7} I7 n7=>by
    obtain⟨m',hm,w7⟩:=hN σ7 H7 n7;refine⟨m',hm,i+1,σ7,H7,I7.hV,T.keep _ _ _ st5 fun b hb o e=>(I7.pin (b,o) (List.mem_append_right _ (List.mem_append_right _ (nH hb e)))).1,fun b hb=>?_,w7⟩;obtain⟨o,e,d⟩:=T.obj _ _ st5 b hb;exact(I7.pin (b,o) (List.mem_append_right _ (List.mem_append_right _ (nH hb e)))).2.1
   cases f with
   |next=>obtain⟨σ7,H7,I7,n7⟩:=q7;exact again I7 n7
   |cont=>obtain⟨σ7,H7,I7,n7⟩:=q7;exact again I7 n7
   |brk=>obtain⟨σ7,H7,I7,q7⟩:=q7;exact⟨σ7,H7,I7.hV,q7⟩
   |ret v=>obtain⟨x7,σ7,H7,I7,r7,q7⟩:=q7;exact⟨x7,σ7,H7,I7.hV,r7,q7⟩
end
theorem ke{lo:Int}{n:Nat}{g:TG}{tb:TS}{D:Ends}{σ:St}{H:Hp}(Pv:Nat->St->Hp->Prop)(h0:Pv 0 σ H)
 (hs:∀i σ H,i<n->Pv i σ H->g (.int (lo+i)) σ H fun σ2 H2=>tb {D with nx:=Pv (i+1),ct:=Pv (i+1),bk:=D.nx} σ2 H2) (hd:∀σ H,Pv n σ H->D.nx σ H):
 ∃W:Nat->Nat->St->Hp->Prop,(∃m,W 0 m σ H)/\∀i m σ H,W i m σ H->
  ((yo lo n).stop i H/\D.nx σ H)\/((yo lo n).go i H/\∃N:St->Hp->Prop,(∀σ' H',N σ' H'->∃m',m'<m/\W (i+1) m' σ' H')/\∀x H',(yo lo n).o4 i H x H'->g x σ H' fun σ2 H2=>tb {D with nx:=N,ct:=N,bk:=D.nx} σ2 H2):=by
 refine⟨fun i m σ H=>m=n-i/\i<=n/\Pv i σ H,⟨n,by simp,Nat.zero_le _,h0⟩,?_⟩;rintro i m σ H ⟨rfl,hi,p⟩;by_cases hlt:i<n
 . refine .inr ⟨hlt,Pv (i+1),fun σ' H' p'=>⟨n-(i+1),by omega,rfl,hlt,p'⟩,fun x H' y=>?_⟩;obtain⟨e,y⟩:=y;subst e y;exact hs i σ _ hlt p
 . have e:i=n:=by omega
   subst e;exact .inl ⟨Nat.le_refl _,hd σ H p⟩
abbrev R2:=V->V->Hp->VK->Prop
def cJ(X:Cx)(f:Value->Value->Sem Value)(r:R2):Prop:=
 ∀(pins:List (Addr×Obj)) (s:Shared) (σ:St) (H:Hp) (x y:V) (v u:Value) (Q:VK),Inv X pins σ H s->RelV x v->RelV y u->r x y H Q->
  wpAny (model X.prog X.w) X.A (f v u) (EP X pins σ Q) X.xe s
def Cb(X:Cx)(f:Value->Sem Value)(r:V->Hp->VK->Prop):Prop:=
 ∀(pins:List (Addr×Obj)) (s:Shared) (σ:St) (H:Hp) (x:V) (v:Value) (Q:VK),Inv X pins σ H s->RelV x v->r x H Q->
  wpAny (model X.prog X.w) X.A (f v) (EP X pins σ Q) X.xe s
def cj(X:Cx)(f:Value)(r:List V->Hp->VK->Prop):Prop:=
 ∀(pins:List (Addr×Obj)) (s:Shared) (σ:St) (H:Hp) (xs:List V) (us:List Value) (Q:VK),Inv X pins σ H s->Vals xs us->r xs H Q->
  wpAny (model X.prog X.w) X.A (call f us) (EP X pins σ Q) X.xe s
def Fo(r:R2)(ta tb:TE):TE:=fun σ H Q=>ta σ H fun x H1=>tb σ H1 fun y H2=>r x y H2 Q
def Pu(r:V->Hp->VK->Prop)(ta:TE):TE:=fun σ H Q=>ta σ H fun x H1=>r x H1 Q
def rI(C:Int->Int->Prop)(g:Int->Int->V):R2:=fun x y H Q=>∃i j,x= .int i/\y= .int j/\C i j/\Q (g i j) H
def Af(g:Int->Int->V):R2:=fun x y H Q=>∃i j,x= .int i/\y= .int j/\Q (g i j) H
def rU(g:Int->V):V->Hp->VK->Prop:=fun x H Q=>∃i,x= .int i/\Q (g i) H
section
variable {X:Cx}{a b c:Expr}{ta tb tc:TE}{pos:Pos}
theorem Gy(ha:PE X a ta)(hb:PE X b tb){pins:List (Addr×Obj)}{s:Shared}{σ:St}{H:Hp}{R:V->V->Hp->Prop}(I:Inv X pins σ H s)
 (h:ta σ H fun x H1=>tb σ H1 fun y H2=>R x y H2) {Q:Value->Shared->Prop} {f:Value->Value->Sem Value}
 (hf:∀v u s2 x y H2,Inv X pins σ H2 s2->RelV x v->RelV y u->R x y H2->wpAny (model X.prog X.w) X.A (f v u) Q X.xe s2):
 wpAny (model X.prog X.w) X.A (eval a X.env) (fun v s₁=>wpAny (model X.prog X.w) X.A (eval b X.env) (fun u s₂=>wpAny (model X.prog X.w) X.A (f v u) Q X.xe s₂) X.xe s₁) X.xe s:=by
 refine cz (ha pins s σ H _ I h) fun v s1 ⟨x,H1,I1,r1,q1⟩=>?_;refine cz (hb pins s1 σ H1 _ I1 q1) fun u s2 ⟨y,H2,I2,r2,q2⟩=>?_;exact hf v u s2 x y H2 I2 r1 r2 q2
theorem OU{op:Operator}{r:R2}(ho:cJ X (binaryOp op) r)(ha:PE X a ta)(hb:PE X b tb):PE X (.BinOp a op b pos) (Fo r ta tb):=by
 intro pins s σ H Q I h;exact wpAny_BinOp (Gy ha hb I h fun v u s2 x y H2 I2 rx ry q=>ho pins s2 σ H2 x y v u Q I2 rx ry q)
theorem Pj{op:UnaryOp}{r:V->Hp->VK->Prop}(ho:Cb X (unaryOp op) r)(ha:PE X a ta):PE X (.UnaryOp op a pos) (Pu r ta):=by
 intro pins s σ H Q I h;exact UnaryOp_ (cz (ha pins s σ H _ I h) fun v s1 ⟨x,H1,I1,r1,q1⟩=>ho pins s1 σ H1 x v Q I1 r1 q1)
theorem HX{f:Value->Value->Sem Value}{C:Int->Int->Prop}{g:Int->Int->Int}
 (rule:∀(i j:Int) (t u:Tok) (s:Shared) (Q:Value->Shared->Prop) (E:Value->Shared->Prop),C i j->Q (.int (g i j) s.toks) {s with toks:=s.toks+1}->wpAny (model X.prog X.w) X.A (f (.int i t) (.int j u)) Q E s):
 cJ X f (rI C fun i j=> .int (g i j)):=by
 intro pins s σ H x y v u Q I rx ry h;obtain⟨i,j,rfl,rfl,hc,q⟩:=h;obtain⟨t,rfl⟩:=rx;obtain⟨t',rfl⟩:=ry;exact rule i j t t' s _ _ hc ⟨.int (g i j),H,I.tok _,⟨_,rfl⟩,q⟩
theorem Nd{f:Value->Value->Sem Value}{g:Int->Int->Int}
 (rule:∀(i j:Int) (t u:Tok) (s:Shared) (Q:Value->Shared->Prop) (E:Value->Shared->Prop),Q (.int (g i j) s.toks) {s with toks:=s.toks+1}->wpAny (model X.prog X.w) X.A (f (.int i t) (.int j u)) Q E s):
 cJ X f (Af fun i j=> .int (g i j)):=by
 intro pins s σ H x y v u Q I rx ry h;obtain⟨i,j,rfl,rfl,q⟩:=h;obtain⟨t,rfl⟩:=rx;obtain⟨t',rfl⟩:=ry;exact rule i j t t' s _ _ ⟨.int (g i j),H,I.tok _,⟨_,rfl⟩,q⟩
theorem Mw{f:Value->Value->Sem Value}{g:Int->Int->Bool}
 (rule:∀(i j:Int) (t u:Tok) (s:Shared) (Q:Value->Shared->Prop) (E:Value->Shared->Prop),Q (.bool (g i j)) s->wpAny (model X.prog X.w) X.A (f (.int i t) (.int j u)) Q E s):
 cJ X f (Af fun i j=> .bl (g i j)):=by
 intro pins s σ H x y v u Q I rx ry h;obtain⟨i,j,rfl,rfl,q⟩:=h;obtain⟨t,rfl⟩:=rx;obtain⟨t',rfl⟩:=ry;exact rule i j t t' s _ _ ⟨.bl (g i j),H,I,rfl,q⟩
def GJ(i j:Int):Prop:=0<=j/\j<=1000000/\i.natAbs<2^64
theorem L9:cJ X (binaryOp .Add) (Af fun i j=> .int (i+j)):=Nd fun _ _ _ _ _ _ _ q=>add_int q
theorem Nz:cJ X (binaryOp .Sub) (Af fun i j=> .int (i-j)):=Nd fun _ _ _ _ _ _ _ q=>sub_int q
theorem Kq:cJ X (binaryOp .Mod) (rI (fun _ j=>j≠0) fun i j=> .int (i.fmod j)):=HX fun _ _ _ _ _ _ _ hc q=>mod_int' hc q
theorem Ng:cJ X (binaryOp .Pow) (rI GJ fun i j=> .int (i^j.toNat)):=HX fun _ _ _ _ _ _ _ hc q=>pow_int_small hc.1 hc.2.1 hc.2.2 q
theorem QW{f:Value->Sem Value}{g:Int->Int}
 (rule:∀(i:Int) (t:Tok) (s:Shared) (Q:Value->Shared->Prop) (E:Value->Shared->Prop),Q (.int (g i) s.toks) {s with toks:=s.toks+1}->wpAny (model X.prog X.w) X.A (f (.int i t)) Q E s):
 Cb X f (rU fun i=> .int (g i)):=by
 intro pins s σ H x v Q I rx h;obtain⟨i,rfl,q⟩:=h;obtain⟨t,rfl⟩:=rx;exact rule i t s _ _ ⟨.int (g i),H,I.tok _,⟨_,rfl⟩,q⟩
theorem LX:Cb X (unaryOp .USub) (rU fun i=> .int (-i)):=QW fun _ _ _ _ _ q=>neg_int q
end
def P_:V->V->Bool
 | .aE,.aE=>true| .aE,.int _=>true| .int _,.aE=>true| .aE,.bl _=>true| .bl _,.aE=>true| .aE,.str _=>true| .str _,.aE=>true
 | .int _,.int _=>true| .bl _,.bl _=>true| .str _,.str _=>true| .uD _,.uD _=>true
 | .int _,.str _=>true| .str _,.int _=>true| .bl _,.str _=>true| .str _,.bl _=>true
 |_,_=>false
def QX:R2:=fun x y H Q=>P_ x y=true/\Q (.bl (!decide (x=y))) H
theorem Jr{i j:Int}:decide (V.int i=V.int j)=(i==j):=by
 rw[Bool.eq_iff_iff];simp
theorem LY{i j:Bool}:decide (V.bl i=V.bl j)=(i==j):=by
 rw[Bool.eq_iff_iff];simp
theorem Kb{i j:Str}:decide (V.str i=V.str j)=(i==j):=by
 rw[Bool.eq_iff_iff];simp
theorem KI{i j:Array UInt8}:decide (V.uD i=V.uD j)=(i.toList==j.toList):=by
 rw[Bool.eq_iff_iff];cases i;cases j;simp
section
variable {X:Cx}{a b c:Expr}{ta tb tc:TE}{pos:Pos}
theorem fD{pins:List (Addr×Obj)}{σ:St}{H:Hp}{s:Shared}{Q:VK}{k k':Bool}(I:Inv X pins σ H s)(q:Q (.bl k) H)(e:k=k'):EP X pins σ Q (.bool k') s:=by
 subst e;exact⟨.bl k,H,I,rfl,q⟩
theorem Ph:cJ X (compareOp .NotEq) QX:=by
 intro pins s σ H x y v u Q I rx ry h;obtain⟨hs,q⟩:=h;cases x with
 |aE=>
  cases rx;cases y with
  |aE=>cases ry;exact PySem.EqNone.ne_none_none (fD I q (by simp))
  |bl j=>cases ry;exact PySem.EqNone.ne_none_bool (fD I q (by simp))
  |int j=>obtain⟨t',rfl⟩:=ry;exact PySem.EqNone.ne_none_int (fD I q (by simp))
  |str j=>obtain⟨t',rfl⟩:=ry;exact PySem.EqNone.ne_none_str (fD I q (by simp))
  |_=>exact absurd (show false=true from hs) Bool.false_ne_true
 |bl i=>
  cases rx;cases y with
  |aE=>cases ry;exact PySem.EqNone.ne_bool_none (fD I q (by simp))
  |bl j=>cases ry;exact ne_bool (fD I q (congrArg not LY))
  |str j=>obtain⟨t',rfl⟩:=ry;exact PySem.EqMixed.ne_bool_str (fD I q (by simp))
  |_=>exact absurd (show false=true from hs) Bool.false_ne_true
 |int i=>
  obtain⟨t,rfl⟩:=rx;cases y with
  |aE=>cases ry;exact PySem.EqNone.ne_int_none (fD I q (by simp))
  |int j=>obtain⟨t',rfl⟩:=ry;exact ne_int (fD I q (congrArg not Jr))
  |str j=>obtain⟨t',rfl⟩:=ry;exact PySem.EqMixed.ne_int_str (fD I q (by simp))
  |_=>exact absurd (show false=true from hs) Bool.false_ne_true
 |str i=>
  obtain⟨t,rfl⟩:=rx;cases y with
  |aE=>cases ry;exact PySem.EqNone.ne_str_none (fD I q (by simp))
  |bl j=>cases ry;exact PySem.EqMixed.ne_str_bool (fD I q (by simp))
  |int j=>obtain⟨t',rfl⟩:=ry;exact PySem.EqMixed.ne_str_int (fD I q (by simp))
  |str j=>obtain⟨t',rfl⟩:=ry;exact ne_str (fD I q (congrArg not Kb))
  |_=>exact absurd (show false=true from hs) Bool.false_ne_true
 |uD i=>
  obtain⟨t,rfl⟩:=rx;cases y with
  |uD j=>obtain⟨t',rfl⟩:=ry;exact PySem.W.ne_bytes (fD I q (congrArg not KI))
  |_=>exact absurd (show false=true from hs) Bool.false_ne_true
 |_=>cases y<;>exact absurd (show false=true from hs) Bool.false_ne_true
theorem OR:cJ X (compareOp .Lt) (Af fun i j=> .bl (decide (i<j))):=Mw fun _ _ _ _ _ _ _ q=>lt_int q
theorem OO:cJ X (compareOp .Gt) (Af fun i j=> .bl (decide (j<i))):=Mw fun _ _ _ _ _ _ _ q=>gt_int q
theorem JM:cJ X (compareOp .IsNot) (fun x y H Q=>y= .aE/\Q (.bl (!decide (x= .aE))) H):=by
 intro pins s σ H x y v u Q I rx ry h;obtain⟨rfl,q⟩:=h;cases ry;refine isnot_none_gen (fD I q ?_)
 cases x<;>first
  |(cases rx;rfl)
  |(obtain⟨t,rfl⟩:=rx;rfl)
theorem aQ(b:Expr){op:CmpOp}(h:op≠ .In:=by decide)(h2:op≠ .NotIn:=by decide):behindInMarks op b=false:=by
 have e1:(op==CmpOp.In)=false:=by cases op<;>first|rfl|exact absurd rfl h
 have e2:(op==CmpOp.NotIn)=false:=by cases op<;>first|rfl|exact absurd rfl h2
 cases b<;>simp[behindInMarks,e1,e2]
theorem JX{op:CmpOp}{r:R2}(ho:cJ X (compareOp op) r)(ha:PE X a ta)(hb:PE X b tb)(hm:behindInMarks op b=false):PE X (.Compare a [op] [b] pos) (Fo r ta tb):=by
 intro pins s σ H Q I h;exact wpAny_Compare1 (Gy ha hb I h fun v u s2 x y H2 I2 rx ry q=>ho pins s2 σ H2 x y v u Q I2 rx ry q) hm
def Pc(t:TE):TT:=fun σ H Q=>t σ H fun x H'=>∃k,x= .bl k/\Q k H'
theorem JQ{op:CmpOp}{r:R2}(ho:cJ X (compareOp op) r)(ha:PE X a ta)(hb:PE X b tb)(hm:behindInMarks op b=false):PT X (.Compare a [op] [b] pos) (Pc (Fo r ta tb)):=by
 intro pins s σ H Q I h
 refine wpAny_isTrue_Compare1 (cz (ha pins s σ H _ I h) fun v s1 ⟨x,H1,I1,r1,q1⟩=>cz (hb pins s1 σ H1 _ I1 q1) fun u s2 ⟨y,H2,I2,r2,q2⟩=>
  cz (ho pins s2 σ H2 x y v u _ I2 r1 r2 q2) fun c s3 ⟨z,H3,I3,r3,k,e,q3⟩=>?_) hm
 subst e;cases r3;exact wpAny_truthy_bool ⟨H3,I3,q3⟩
theorem sU:(sizeLine:Nat)<2^63:=by rw[sizeLine_eq];decide
theorem CG:cJ X (binaryOp .Add) (fun x y H Q=>∃i j,x= .str i/\y= .str j/\i.length+j.length<=sizeLine/\Q (.str (i++j)) H):=by
 intro pins s σ H x y v u Q I rx ry h;obtain⟨i,j,rfl,rfl,hz,q⟩:=h;obtain⟨t,rfl⟩:=rx;obtain⟨t',rfl⟩:=ry;exact add_str (fun t' tk=>⟨.str (i++j),H,I.tok _,⟨_,rfl⟩,q⟩) hz
theorem vals1{x:V}{us:List Value}(r:Vals [x] us):∃u,us=[u]/\RelV x u:=by
 cases r with
 |cons r1 r2=>cases r2;exact⟨_,rfl,r1⟩
theorem vals2{x y:V}{us:List Value}(r:Vals [x,y] us):∃u w',us=[u,w']/\RelV x u/\RelV y w':=by
 cases r with
 |cons r1 r2=>
  cases r2 with
  |cons r3 r4=>cases r4;exact⟨_,_,rfl,r1,r3⟩
theorem GP:cj X (.builtin "abs") (fun xs H Q=>∃i,xs=[.int i]/\Q (.int (if i<0 then-i else i)) H):=by
 intro pins s σ H xs us Q I r h;obtain⟨i,rfl,q⟩:=h;obtain⟨u,rfl,t,rfl⟩:=vals1 r;exact call_abs_int fun u tk=>⟨.int (if i<0 then-i else i),H,I.tok _,⟨_,rfl⟩,q⟩
theorem FE(hc:X.calm=true):cj X (.builtin "max") (fun xs H Q=>∃i j,xs=[.int i,.int j]/\Q (.int (if j>i then j else i)) H):=by
 intro pins s σ H xs us Q I r h;obtain⟨i,j,rfl,q⟩:=h;obtain⟨u,w',rfl,⟨t,rfl⟩,⟨t',rfl⟩⟩:=vals2 r;refine max_two_ints (I.ok.hd hc) fun h' tk k=>⟨_,H,I.kept k,?_,q⟩
 by_cases hj:j>i
 . rw[if_pos hj,if_pos hj];exact⟨_,rfl⟩
 . rw[if_neg hj,if_neg hj];exact⟨_,rfl⟩
theorem F7:cj X (.type "int") (fun xs H Q=>(∃i,xs=[.int i]/\Q (.int i) H)\/∃k,xs=[.bl k]/\Q (.int (if k then 1 else 0)) H):=by
 intro pins s σ H xs us Q I r h;rcases h with⟨i,rfl,q⟩|⟨k,rfl,q⟩
 . obtain⟨u,rfl,t,rfl⟩:=vals1 r;exact call_int_int ⟨.int i,H,I,⟨_,rfl⟩,q⟩
 . obtain⟨u,rfl,r1⟩:=vals1 r;cases r1;exact call_int_bool ⟨.int (if k then 1 else 0),H,I.tok _,⟨_,rfl⟩,q⟩
end
structure vc(h:Heap)(x dx C:Addr)(mA:Str->Option Value):Prop where
 obj:h.get? x=some (PySem.W.instObj C dx)
 ns:h.Ns1 dx mA
 ne:dx≠x
theorem Ff{h:Heap}{dx:Addr}{mA:Str->Option Value}(n:h.Ns1 dx mA):∃od,h.get? dx=some od/\∀name,PySem.W.lookIn name od=some (mA name):=by
 obtain⟨o,es,ep,ho,hd,hk,_,hm⟩:=n;refine⟨o,ho,fun name=>?_⟩;have e:=hm name;unfold nsFind findBy at e;rw[<-Array.find?_toList]at e;unfold PySem.W.lookIn;rw[hd];dsimp only;split
 . rename_i y q;rw[q]at e;exact congrArg some e
 . rename_i q;rw[q]at e
   have a:es.toList.any (·.refKey)=false:=by
    rw[List.any_eq_false];intro y hy;obtain⟨z,t,hkey⟩:=hk y (Array.mem_toList_iff.mp hy);simp[DictEntry.refKey,hkey]
   have a':¬es.toList.any (·.refKey)=true:=by rw[a];exact Bool.false_ne_true
   rw[if_neg a'];exact congrArg some e
theorem vc.look{h:Heap}{x dx C:Addr}{mA:Str->Option Value}(I:vc h x dx C mA):∃od,PySem.W.InstAt h x (PySem.W.instObj C dx) C (some od)/\∀name,PySem.W.lookIn name od=some (mA name):=
 let⟨od,ho,hl⟩:=Ff I.ns
 ⟨od,⟨I.obj,rfl,rfl,ho⟩,hl⟩
section
variable {prog:Program}{w:World}{A:Around}{E:Value->Shared->Prop}{s:Shared}{K:PySem.W.Frag}{x dx C f:Addr}{mA:Str->Option Value}{name:Str}{v:Value}
theorem get_map{expr:Bool}{Q:Value->Shared->Prop}(X:K.In s.heap)(I:vc s.heap x dx C mA)(hg:PySem.W.plainGet K C name=true)(hh:PySem.W.hasDictIn K C=true)
 (ha:PySem.W.findIn K (.ref C) name=some none) (hv:mA name=some v) (hv':PySem.W.handedIn v=true) (h:Q v {s with toks:=s.toks+1}):
 wpAny (model prog w) A (getAttr (.ref x) name expr) Q E s:=by
 obtain⟨od,J,hl⟩:=I.look;exact PySem.W.get_value X J (PySem.W.plainGet_of hg).1 (PySem.W.findObj_own hh ha rfl (by rw[hl,hv])) hv' h
theorem Hr{pl:Sem Bool}{Q:Value×List Value->Shared->Prop}(X:K.In s.heap)(I:vc s.heap x dx C mA)(hg:PySem.W.plainGet K C name=true)
 (hf:PySem.W.findIn K (.ref C) name=some (some (.ref f))) (ht:PySem.W.isFn K (.ref f)=true) (hv:mA name=none) (h:Q (.ref f,[.ref x]) s):
 wpAny (model prog w) A (getMethod (.ref x) name pl) Q E s:=by
 obtain⟨od,J,hl⟩:=I.look;exact PySem.W.method_fn X J (PySem.W.plainGet_of hg).1 (PySem.W.plainGet_of hg).2 hf (beq_iff_eq.mp ht) (by show(PySem.W.lookIn name od).map (·.isSome)=some false;rw[hl,hv];rfl) h
theorem iC{ns:List Str}{Q:Unit->Shared->Prop}(X:K.In s.heap)(I:vc s.heap x dx C mA)
 (hs:PySem.W.findIn K (.ref C) "__setattr__"=some (some (.builtin "object.__setattr__"))) (hp:PySem.W.plainOver K C=true) (ht:PySem.W.takerIn K C name=some none) (hh:PySem.W.hasDictIn K C=true)
 (hw:PySem.Within mA ns) (hsz:ns.length<=sizeLine)
 (h:∀h',vc h' x dx C (fun y=>if y=name then some v else mA y)->Heap.SameBut dx s.heap h'->Q () {s with heap:=h',toks:=s.toks+2}):
 wpAny (model prog w) A (setAttr (.ref x) name v) Q E s:=by
 obtain⟨od,J,hl⟩:=I.look;refine PySem.W.set_plain X J hs (PySem.W.osa_open (s:={s with toks:=s.toks+1}) (r:=none) X J hp ht fun b=>?_);obtain⟨cd,hc,hd'⟩:=PySem.W.any_some hh;have hx:s.heap.get? x=some ⟨.ref C,some dx,.plain,#[]⟩:=I.obj;refine wpAny_bind (wpAny_pure (wpAny_bind (wpAny_bind (wpAny_loadPart hx (wpAny_bind (PySem.W.Looks.here (s:={s with toks:=s.toks+1}) (PySem.W.looks_clsIn X hc) ?_))))));rw[hd'];refine wpAny_pure (a:=some dx) (wpAny_bind (wpAny_pure (wpAny_bind ?_)));refine wpAny_nsSet1 (s:={s with toks:=s.toks+1}) I.ns fun h' hn2 hs2=>?_;obtain⟨oD,esD,epD,hoD,hdD,hcD⟩:=hn2.count (PySem.Within.cons name v hw);refine wpAny_bind (wpAny_lookBehind hoD (by rw[hdD];exact pastItsLine_dict (Nat.le_trans hcD (by rw[List.length_cons];omega))) ?_);exact wpAny_pure (h _ ⟨(hs2.2 _ (Ne.symm I.ne)).trans I.obj,hn2,I.ne⟩ hs2)
theorem Hc{R:Result->Shared->Prop}{vs:List Value}{kw:List (Str×Value)}(X:K.In s.heap)(hm:PySem.W.makesIn K C=true)
 (hi:PySem.W.findIn K (.ref C) "__init__"=some (some (.ref f))) (hf:PySem.W.typeIn K (.ref f)=some (.type "function"))
 (h:codeAny (model prog w) (A.under (.builtin "type.__call__" ⟨.ref C::vs,kw⟩)) (.call (.ref f) ⟨.ref (s.heap.objs.size+1)::vs,kw⟩) (PySem.W.InitBack (s.heap.objs.size+1) R)
   {s with heap:=(s.heap.push PySem.W.emptyDict).push (PySem.W.instObj C s.heap.objs.size)}):
 codeAny (model prog w) A (.call (.ref C) ⟨vs,kw⟩) R s:=by
 obtain⟨hh,g,d,t,os⟩:=s;exact PySem.W.make_core (PySem.W.makes_of X hm) (PySem.W.looks_findIn X hi) (fun self=>PySem.W.bind_fn X self hf) (.inl rfl) h
end
def gW(f:Str)(v:V):List (Str×V)->List (Str×V)
 | []=>[(f,v)]
 |(g,x)::r=>if g=f then(g,v)::r else(g,x)::gW f v r
theorem uI(f g:Str)(v:V):∀fs:List (Str×V),(gW f v fs).lookup g=if g=f then some v else fs.lookup g
 | []=>by
   show List.lookup g [(f,v)]=_;by_cases h:g=f
   . have hb:(g==f)=true:=beq_iff_eq.mpr h;simp only[List.lookup,hb,if_pos h]
   . have hb:(g==f)=false:=beq_eq_false_iff_ne.mpr h;simp only[List.lookup,hb,if_neg h]
 |(k,x)::r=>by
  have ih:=uI f g v r;rw[show gW f v ((k,x)::r)=(if k=f then(k,v)::r else(k,x)::gW f v r)from rfl];by_cases hk:k=f
  . rw[if_pos hk];by_cases h:g=k
    . have hb:(g==k)=true:=beq_iff_eq.mpr h;simp only[List.lookup,hb,if_pos (h.trans hk)]
    . have hb:(g==k)=false:=beq_eq_false_iff_ne.mpr h;simp only[List.lookup,hb,if_neg (fun e:g=f=>h (e.trans hk.symm))]
  . rw[if_neg hk];by_cases h:g=k
    . have hb:(g==k)=true:=beq_iff_eq.mpr h;simp only[List.lookup,hb,if_neg (fun e:g=f=>hk (h.symm.trans e))]
    . have hb:(g==k)=false:=beq_eq_false_iff_ne.mpr h;simp only[List.lookup,hb];exact ih
theorem sS(f:Str)(v:V):∀fs:List (Str×V),f∈(gW f v fs).map (·.1)/\∀g,g∈fs.map (·.1)->g∈(gW f v fs).map (·.1)
 | []=>⟨by simp[gW],fun g h=>by simp at h⟩
 |(k,x)::r=>by
  obtain⟨i1,i2⟩:=sS f v r;rw[show gW f v ((k,x)::r)=(if k=f then(k,v)::r else(k,x)::gW f v r)from rfl];by_cases hk:k=f
  . rw[if_pos hk];subst hk;exact⟨by simp,fun g h=>by simpa using h⟩
  . rw[if_neg hk];refine⟨?_,fun g h=>?_⟩
    . rw[List.map_cons];exact List.mem_cons_of_mem _ i1
    . rw[List.map_cons]at h⊢;rcases List.mem_cons.mp h with e|e
      . exact List.mem_cons.mpr (.inl e)
      . exact List.mem_cons_of_mem _ (i2 g e)
theorem uN(f:Str)(v:V):∀fs:List (Str×V),(gW f v fs).length<=fs.length+1
 | []=>by simp[gW]
 |(k,x)::r=>by
  have ih:=uN f v r;rw[show gW f v ((k,x)::r)=(if k=f then(k,v)::r else(k,x)::gW f v r)from rfl];by_cases hk:k=f
  . rw[if_pos hk,List.length_cons,List.length_cons];omega
  . rw[if_neg hk,List.length_cons,List.length_cons];omega
theorem pM.some_of{v:V}{o:Option Value}(r:pM (some v) o):∃u,o=some u/\RelV v u:=by
 cases o with
 |none=>exact(show False from r).elim
 |some u=>exact⟨u,rfl,r⟩
theorem pM.none_of{o:Option Value}(r:pM none o):o=none:=by
 cases o with
 |none=>rfl
 |some u=>exact(show False from r).elim
theorem F2{v:V}{u:Value}(r:RelV v u):PySem.W.handedIn u=true:=by
 cases v with
 |aE=>cases (show u=Value.none from r);rfl
 |bl b=>cases (show u=Value.bool b from r);rfl
 |int i=>obtain⟨t,e⟩:=(show∃t,u=Value.int i t from r);cases e;rfl
 |str x=>obtain⟨t,e⟩:=(show∃t,u=Value.str x t from r);cases e;rfl
 |uD b=>obtain⟨t,e⟩:=(show∃t,u=Value.bytes b t from r);cases e;rfl
 |uK b=>obtain⟨t,e⟩:=(show∃t,u=Value.float b t from r);cases e;rfl
 |ref a=>cases (show u=Value.ref a from r);rfl
 |ty n=>cases (show u=Value.type n from r);rfl
section
variable {P:Program}{w:World}{H H':Hp}{h h':Heap}{a C dx:Addr}{fs fs':List (Str×V)}
theorem qx(aK:ir P w H h)(e:H a=some (.ins C dx fs)):∃mA,vc h a dx C mA/\(∀f,pM (fs.lookup f) (mA f))/\PySem.Within mA (fs.map (·.1))/\fs.length<=1000/\H dx=some (.own a):=by
 obtain⟨d,z,ne,ob,mA,n,r,q⟩:=(show dS P w H h a (.ins C dx fs)from aK a _ e)
 exact⟨mA,⟨ob,n,ne⟩,r,q,z,d⟩
end
structure oP(K:PySem.W.Frag)(C:Addr):Prop where
 pg:PySem.W.plainGet K C Str.empty=true
 hd:PySem.W.hasDictIn K C=true
 po:PySem.W.plainOver K C=true
 sa:PySem.W.findIn K (.ref C) "__setattr__"=some (some (.builtin "object.__setattr__"))
theorem oP.get{K:PySem.W.Frag}{C:Addr}(c:oP K C)(f:Str):PySem.W.plainGet K C f=true:=c.pg
def gq(K:PySem.W.Frag)(C:Addr)(f:Str):Prop:=PySem.W.findIn K (.ref C) f=some none
theorem gq.OW{K:PySem.W.Frag}{C:Addr}{f:Str}(n:gq K C f):PySem.W.takerIn K C f=some none:=by
 unfold PySem.W.takerIn;rw[show PySem.W.findIn K (.ref C) f=some none from n];rfl
structure Meth(K:PySem.W.Frag)(C:Addr)(m:Str)(f:Addr):Prop where
 at_:PySem.W.findIn K (.ref C) m=some (some (.ref f))
 fn:PySem.W.isFn K (.ref f)=true
 kp:PySem.W.keepIn K (.ref f)=true
section
variable {X:Cx}{pins:List (Addr×Obj)}{σ:St}{H:Hp}{s:Shared}{a C dx:Addr}{fs:List (Str×V)}{f:Str}{v:V}{A:Around}{E:Value->Shared->Prop}
theorem Dj{b:Bool}{Q:Value->Shared->Prop}(I:Inv X pins σ H s)(e:H a=some (.ins C dx fs))(c:oP X.K C)(n:gq X.K C f)(l:fs.lookup f=some v)
 (h:∀u s',Inv X pins σ H s'->RelV v u->Q u s'):wpAny (model X.prog X.w) A (getAttr (.ref a) f b) Q E s:=by
 obtain⟨mA,O,r,_,_,_⟩:=qx I.aK e;obtain⟨u,hu,ru⟩:=pM.some_of (v:=v) (o:=mA f) (by rw[<-l];exact r f);exact get_map I.g_ O (c.get f) c.hd n hu (F2 ru) (h u _ (I.tok _) ru)
theorem CO{m:Str}{g:Addr}{pl:Sem Bool}{Q:Value×List Value->Shared->Prop}(I:Inv X pins σ H s)(e:H a=some (.ins C dx fs))(c:oP X.K C)(k:Meth X.K C m g)(l:fs.lookup m=none)
 (h:Q (.ref g,[.ref a]) s):wpAny (model X.prog X.w) A (getMethod (.ref a) m pl) Q E s:=by
 obtain⟨mA,O,r,_,_,_⟩:=qx I.aK e;have hn:mA m=none:=pM.none_of (by rw[<-l];exact r m);exact Hr I.g_ O (c.get m) k.at_ k.fn hn h
theorem CB{y:V}{u:Value}{Q:Unit->Shared->Prop}(I:Inv X pins σ H s)(e:H a=some (.ins C dx fs))(c:oP X.K C)(n:gq X.K C f)(hl:fs.length<1000)(ry:RelV y u)
 (h:∀s',Inv X pins σ (upd H a (.ins C dx (gW f y fs))) s'->Q () s'):wpAny (model X.prog X.w) A (setAttr (.ref a) f u) Q E s:=by
 obtain⟨mA,O,r,wi,_,ho⟩:=qx I.aK e;have hz:(fs.map (·.1)).length<=sizeLine:=by rw[List.length_map,sizeLine_eq];omega
 refine iC I.g_ O c.sa c.po n.OW c.hd wi hz fun h' O' sb=>h _ ?_;have hd:∃o,h'.get? dx=some o:=let⟨o,_,_,e',_⟩:=O'.ns;⟨o,e'⟩
 refine I.write (x:=a) (e:=dx) (by rw[e];exact True.intro) (.inr ho) (fun b q hb z=>(sb.2 b hb).trans z) hd ?_;refine⟨by rw[aG O.ne];exact ho,?_,O.ne,O'.obj,_,O'.ns,fun g=>?_,fun g hg=>?_⟩
 . have:=uN f y fs;omega
 . show pM ((gW f y fs).lookup g) (if g=f then some u else mA g);rw[uI];by_cases q:g=f
   . rw[if_pos q,if_pos q];exact ry
   . rw[if_neg q,if_neg q];exact r g
 . by_cases q:g=f
   . rw[q];exact(sS f y fs).1
   . refine(sS f y fs).2 g (wi g fun z=>hg ?_);show(if g=f then some u else mA g)=none;rw[if_neg q];exact z
theorem Inv.made(I:Inv X pins σ H s):Inv X pins σ (upd (upd H s.heap.objs.size (.own (s.heap.objs.size+1))) (s.heap.objs.size+1) (.ins C s.heap.objs.size []))
 {s with heap:=(s.heap.push PySem.W.emptyDict).push (PySem.W.instObj C s.heap.objs.size)}:=by
 have e1:(s.heap.push PySem.W.emptyDict).get? s.heap.objs.size=some PySem.W.emptyDict:=Heap.get?_push_size s.heap rfl
 have e2:((s.heap.push PySem.W.emptyDict).push (PySem.W.instObj C s.heap.objs.size)).get? (s.heap.objs.size+1)=some (PySem.W.instObj C s.heap.objs.size):=by
  have:=Heap.get?_push_size (s.heap.push PySem.W.emptyDict) (o:=PySem.W.instObj C s.heap.objs.size) rfl;rwa [Heap.size_push]at this
 have e3:(s.heap.push PySem.W.emptyDict).Ns s.heap.objs.size (fun _=>none):=⟨PySem.W.emptyDict,#[],_,e1,rfl,(fun e he=>absurd he (by simp)),fun _=>rfl⟩
 have I1:=I.laid (a:=s.heap.objs.size) (o:= .own (s.heap.objs.size+1)) (h':=s.heap.push PySem.W.emptyDict) (t':=s.toks) (fun b u q=>Heap.get?_push_of_some _ q) (Nat.le_refl _) ⟨_,e1⟩;refine I1.laid (a:=s.heap.objs.size+1) (o:= .ins C s.heap.objs.size []) (t':=s.toks) (fun b u q=>Heap.get?_push_of_some _ q) (Nat.le_of_eq (Heap.size_push _ _)) ?_;have ne:s.heap.objs.size≠s.heap.objs.size+1:=Nat.ne_of_lt (Nat.lt_succ_self _);refine⟨by rw[aG ne,a5],Nat.zero_le _,ne,e2,fun _=>none,(Heap.Ns1.of_empty e3).at fun o q=>Heap.get?_push_of_some _ q,fun _=>True.intro,fun y hy=>absurd rfl hy⟩
theorem JD{prog:Program}{w:World}{env:Env}{e:Expr}{f:Str}{pos:Pos}{s:Shared}{Q:Value->Shared->Prop}(hb:attributeBase e f env (eval e env)=eval e env)
 (h:wpAny (model prog w) A (eval e env) (fun o s₁=>wpAny (model prog w) A (getAttr o f true) Q E s₁) E s):wpAny (model prog w) A (eval (.Attribute e f pos) env) Q E s:=
 Attribute_any_ h (by rw[arm_eval_Attribute,hb])
end
def Qd(K:PySem.W.Frag)(ta:TE)(f:Str):TE:=fun σ H Q=>ta σ H fun x H1=>∃a C dx fs v,x= .ref a/\H1 a=some (.ins C dx fs)/\oP K C/\gq K C f/\fs.lookup f=some v/\Q v H1
def Qq(K:PySem.W.Frag)(ta tv:TE)(f:Str):TS:=fun D σ H=>tv σ H fun y H1=>ta σ H1 fun x H2=>∃a C dx fs,x= .ref a/\H2 a=some (.ins C dx fs)/\oP K C/\gq K C f/\fs.length<1000/\
 D.nx σ (upd H2 a (.ins C dx (gW f y fs)))
section
variable {X:Cx}{o e value:Expr}{f:Str}{pos pos' tpos:Pos}{ta tv:TE}
theorem ME(he:PE X e ta)(hb:attributeBase e f X.env (eval e X.env)=eval e X.env):PE X (.Attribute e f pos) (Qd X.K ta f):=by
 intro pins s σ H Q I h;refine JD hb (cz (he pins s σ H _ I h) fun u s1 ⟨x,H1,I1,rx,a,C,dx,fs,v,ex,ea,c,n,l,q⟩=>?_);subst ex;obtain rfl:u=Value.ref a:=rx;exact Dj I1 ea c n l fun u' s2 I2 ru=>⟨v,H1,I2,ru,q⟩
theorem NB(ha:PE X o ta)(hv:PE X value tv)(hs:swapsWith value (some (.Attribute o f pos')) pos.line X.env=pure false):PS X (.Assign [.Attribute o f pos'] value pos) (Qq X.K ta tv f):=by
 intro pins s σ H D I h;refine plainObj_wpAny_Assign_Attribute (cz (hv pins s σ H _ I h) fun u s1 ⟨y,H1,I1,ry,q⟩=>cz (ha pins s1 σ H1 _ I1 q) fun ov s2 ⟨x,H2,I2,rx,a,C,dx,fs,ex,ea,c,n,l,q2⟩=>?_) hs;subst ex;obtain rfl:ov=Value.ref a:=rx;exact CB I2 ea c n l ry fun s3 I3=>⟨σ,_,I3,q2⟩
end
section
variable {X:Cx}{pins:List (Addr×Obj)}{σ:St}{H:Hp}{s:Shared}{A:Around}{E:Value->Shared->Prop}{Q:Value->Shared->Prop}{c:Value}{b:Bool}
inductive jE(K:PySem.W.Frag)(H:Hp):V->Value->Prop where
 |aE:jE K H .aE (.type "NoneType")
 |bl (x:Bool):jE K H (.bl x) (.type "bool")
 |int (i:Int):jE K H (.int i) (.type "int")
 |str (x:Str):jE K H (.str x) (.type "str")
 |uK (x:UInt64):jE K H (.uK x) (.type "float")
 |lst {a:Addr} {xs:List V} (e:H a=some (.lst xs)):jE K H (.ref a) (.type "list")
 |fi {a:Addr} {o:Obj} {xs:List V} (e:H a=some (.fi o (.lst xs))):jE K H (.ref a) (.type "list")
 |tup {a:Addr} {xs:List V} (e:H a=some (.tup xs)):jE K H (.ref a) (.type "tuple")
 |dK {a:Addr} {kvs:List (Key×V)} (e:H a=some (.dK kvs)):jE K H (.ref a) (.type "dict")
 |dT {a:Addr} {kvs:List (List Key×V)} (e:H a=some (.dT kvs)):jE K H (.ref a) (.type "dict")
 |ins {a C dx:Addr} {fs:List (Str×V)} (e:H a=some (.ins C dx fs)) (cl:oP K C) (ha:PySem.W.findIn K (.ref C) "__class__"=some (some (.builtin "object.__class__")))
   (hn:PySem.W.specialIn K (.builtin "object.__class__") "__get__"=some (some (.builtin "getset_descriptor.__get__"))) (htk:PySem.W.takesIn K (.builtin "object.__class__")=some true)
   (hm:PySem.W.mroIn K C (.type "object")=some true):jE K H (.ref a) (.ref C)
theorem EE{x:V}{u t:Value}(I:Inv X pins σ H s)(rx:RelV x u)(ty:jE X.K H x t)(e:PySem.W.kitOne X.K t c=some b)(h:∀tk,Q (.bool b) {s with toks:=tk}):
 wpAny (model X.prog X.w) A (call (.builtin "isinstance") [u,c]) Q E s:=by
 cases ty with
 |aE=>cases (show u=Value.none from rx);exact PySem.W.kia_one PySem.W.kitx_none I.g_ True.intro e (fun z=>nomatch z) h
 |bl y=>cases (show u=Value.bool y from rx);exact PySem.W.kia_one PySem.W.kitx_bool I.g_ True.intro e (fun z=>nomatch z) h
 |int i=>obtain⟨t,q⟩:=(show∃t,u=Value.int i t from rx);cases q;exact PySem.W.kia_one PySem.W.kitx_int I.g_ True.intro e (fun z=>nomatch z) h
 |str y=>obtain⟨t,q⟩:=(show∃t,u=Value.str y t from rx);cases q;exact PySem.W.kia_one PySem.W.kitx_str I.g_ True.intro e (fun z=>nomatch z) h
 |uK y=>obtain⟨t,q⟩:=(show∃t,u=Value.float y t from rx);cases q;exact PySem.W.kia_one PySem.W.kitx_float I.g_ True.intro e (fun z=>nomatch z) h
 | @lst a xs ea=>
   cases (show u=Value.ref a from rx);obtain⟨_,_,n,_,h1⟩:=(show dS X.prog X.w H s.heap a (.lst xs)from I.aK a _ ea)
   exact PySem.W.kia_one PySem.W.kitx_list I.g_ ⟨_,h1,rfl⟩ e (fun z=>nomatch z) h
 | @fi a ob xs ea=>
   cases (show u=Value.ref a from rx);obtain⟨_,_,_,n,_,h1⟩:=(show dS X.prog X.w H s.heap a (.fi ob (.lst xs))from I.aK a _ ea)
   exact PySem.W.kia_one PySem.W.kitx_list I.g_ ⟨_,h1,rfl⟩ e (fun z=>nomatch z) h
 | @tup a xs ea=>
   cases (show u=Value.ref a from rx);obtain⟨_,_,_,p⟩:=(show dS X.prog X.w H s.heap a (.tup xs)from I.aK a _ ea)
   obtain⟨o,h1,h2,_⟩:=p;exact PySem.W.kia_one PySem.W.kitx_tuple I.g_ ⟨o,h1,h2⟩ e (fun z=>nomatch z) h
 | @dK a kvs ea=>
   cases (show u=Value.ref a from rx);obtain⟨_,_,vs,_,p⟩:=(show dS X.prog X.w H s.heap a (.dK kvs)from I.aK a _ ea)
   obtain⟨o,es,ep,h1,h2,_⟩:=p;exact PySem.W.kia_one PySem.W.kitx_dict I.g_ ⟨o,h1,h2.1⟩ e (fun z=>nomatch z) h
 | @dT a kvs ea=>
   cases (show u=Value.ref a from rx);obtain⟨_,_,xs,_,o,es,ep,h1,h2,_⟩:=(show dS X.prog X.w H s.heap a (.dT kvs)from I.aK a _ ea)
   exact PySem.W.kia_one PySem.W.kitx_dict I.g_ ⟨o,h1,h2.1⟩ e (fun z=>nomatch z) h
 | @ins a C dx fs ea cl ha hn htk hm=>
   cases (show u=Value.ref a from rx);obtain⟨mA,O,_⟩:=qx I.aK ea;obtain⟨od,J,_⟩:=O.look;exact PySem.W.kia_one (PySem.W.kitx_own (cl.get _) cl.hd ha hn htk hm) I.g_ J e (fun z=>nomatch z) h
end
structure c8(k:Nat)(A:Around):Prop where
 hd:A.handled=none
 dp:A.depth+3*k+105<recursionLimit
 un:A.units+16*k+200<cLine
theorem c8.mono{j k:Nat}{A:Around}(r:c8 k A)(h:j<=k):c8 j A:=⟨r.hd,by have:=r.dp;omega,by have:=r.un;omega⟩
theorem c8.deeper{k:Nat}{A:Around}(r:c8 (k+1) A)(env:Env):c8 k (A.deeper env):=
 ⟨r.hd,by have:=r.dp;show A.depth+1+3*k+105<_;omega,by have:=r.un;show A.units+3+16*k+200<_;omega⟩
theorem DB{A:Around}{C:Addr}{us:List Value}{kw:List (Str×Value)}:(A.under (.builtin "type.__call__" ⟨.ref C::us,kw⟩)).depth=A.depth+1:=by
 first|rfl|simp[Around.under,Code.weight,Code.isCreation,Code.isGuard,Code.isCaller,Code.frames,Code.isFrame,guardIds]
theorem Dk{A:Around}{C:Addr}{us:List Value}{kw:List (Str×Value)}:(A.under (.builtin "type.__call__" ⟨.ref C::us,kw⟩)).units=A.units+1:=by
 first|rfl|simp[Around.under,Code.cUnits,Code.frames,Code.isFrame]
theorem c8.make{k:Nat}{A:Around}(r:c8 (k+1) A)(C:Addr)(us:List Value)(kw:List (Str×Value)):c8 k (A.under (.builtin "type.__call__" ⟨.ref C::us,kw⟩)):=
 ⟨r.hd,by have:=r.dp;rw[DB];omega,by have:=r.un;rw[Dk];omega⟩
theorem c8.depth{k:Nat}{A:Around}(r:c8 k A):A.depth<recursionLimit:=by have:=r.dp;omega
theorem c8.units{k:Nat}{A:Around}(r:c8 k A):A.units+64<cLine:=by have:=r.un;omega
def QI:TA:=fun _ H Q=>Q [] H
def Ov(ta:TE)(tr:TA):TA:=fun σ H Q=>ta σ H fun x H1=>tr σ H1 fun xs H2=>Q (x::xs) H2
section
variable {X:Cx}{e:Expr}{es:List Expr}{te:TE}{t:TA}{pos:Pos}
theorem LH:PA X [] QI:=fun _ _ _ _ H Q I h=>Calls.spliced_nil ⟨[],H,I,.nil,h⟩
theorem J8(ha:PE X e te)(hr:PA X es t)(hs:starEach (e::es) X.env=(false,eval e X.env)::starEach es X.env:=by rfl):PA X (e::es) (Ov te t):=by
 intro pos pins s σ H Q I h;rw[hs];show wpAny _ _ (spliced ((false,eval e X.env)::backTo pos (starEach es X.env))) _ _ s;refine Calls.spliced_cons (cz (ha pins s σ H _ I h) fun u s1 ⟨x,H1,I1,r1,q1⟩=>?_);exact cz (hr pos pins s1 σ H1 _ I1 q1) fun us s2 ⟨xs,H2,I2,r2,q2⟩=>⟨x::xs,H2,I2,.cons r1 r2,q2⟩
def P7(t:TA):TE:=fun σ H Q=>t σ H fun xs H1=>xs.length<=sizeLine/\∀p,H1 p=none->Q (.ref p) (upd H1 p (.tup xs))
def Qx(t:TA):TE:=fun σ H Q=>t σ H fun xs H1=>xs.length<=sizeLine/\∀p,H1 p=none->Q (.ref p) (upd H1 p (.lst xs))
theorem Np{x1}(h:PA X es t):PE X (.Tuple es x1 pos) (P7 t):=by
 intro pins s σ H Q I hq;refine wpAny_Tuple_spliced (cz (h pos pins s σ H _ I hq) fun us s1 ⟨xs,H1,I1,r,z,q⟩=>⟨by rw[<-r.length];exact z,?_⟩);have hf:H1 s1.heap.objs.size=none:=I1.aK.fresh (Nat.le_refl _);refine⟨.ref s1.heap.objs.size,upd H1 s1.heap.objs.size (.tup xs),I1.laid (t':=s1.toks) (fun b u e=>Heap.get?_push_of_some _ e) (Nat.le_refl _) ?_,rfl,q _ hf⟩;exact⟨z,us,r,⟨_,Heap.get?_push_size _ rfl,rfl,_,rfl⟩⟩
theorem E_(h:PA X es t):PE X (.List es pos) (Qx t):=by
 intro pins s σ H Q I hq;refine wpAny_List_spliced (cz (h pos pins s σ H _ I hq) fun us s1 ⟨xs,H1,I1,r,z,q⟩=>⟨by rw[<-r.length];exact z,?_⟩);have hf:H1 s1.heap.objs.size=none:=I1.aK.fresh (Nat.le_refl _);refine⟨.ref s1.heap.objs.size,upd H1 s1.heap.objs.size (.lst xs),I1.laid (t':=s1.toks) (fun b u e=>Heap.get?_push_of_some _ e) (Nat.le_refl _) ?_,rfl,q _ hf⟩;exact⟨z,us,0,r,Heap.get?_push_size _ rfl⟩
end
abbrev Sp:=List V->Hp->VK->XK->Prop
abbrev uC:=List Env->Hp->Shared->XK->Value->Shared->Prop
structure u7(P:Program)(w:World)(K:PySem.W.Frag)(mg:Str->Option Value)(base:Heap)(A:Around)(outer:List Env)(s:Shared)(H:Hp):Prop where
 frames:A.frames=some outer
 mod:Mod K mg base
 bs:∀b o,base.get? b=some o->s.heap.get? b=some o/\H b=none
 sN:base.objs.size<=s.heap.objs.size
 kT:s.heap.FunFrames base outer
 vE:∀b∈qi outer,H b=none
 aK:ir P w H s.heap
 bare:AllBare s.gens
 gt:P.given.tree=none
def CE(outer:List Env)(P:Program)(w:World)(H:Hp)(s:Shared)(Q:VK)(u:Value)(s':Shared):Prop:=
 ∃v H',s'.os=s.os/\AllBare s'.gens/\Un (qi outer) [] H H' s.heap s'.heap/\ir P w H' s'.heap/\RelV v u/\Q v H'
def CR(CX:uC)(outer:List Env)(P:Program)(w:World)(H:Hp)(s:Shared)(Q:VK)(E:XK)(r:Result)(s':Shared):Prop:=
 match r with
 | .ok (.ret u)=>CE outer P w H s Q u s'
 | .ok _=>False
 | .error e=>CX outer H s E e s'
structure bf(P:Program)(w:World)(K:PySem.W.Frag)(mg:Str->Option Value)(base:Heap)(CX:uC)(k:Nat)(f:Addr)(fd:FuncData)(ps:List Str)(sp:Sp):Prop where
 len:∀vs H Q E,sp vs H Q E->vs.length=ps.length
 run:∀(A:Around) (outer:List Env) (s:Shared) (H:Hp) (args:Args) (us:List Value) (vs:List V) (Q:VK) (E:XK),c8 k A->u7 P w K mg base A outer s H->BindsTo s fd args (ps.zip us)->Vals vs us->sp vs H Q E->
  codeAny (model P w) A (.call (.ref f) args) (CR CX outer P w H s Q E) s
theorem bf.imp{P:Program}{w:World}{K:PySem.W.Frag}{mg:Str->Option Value}{base:Heap}{CX:uC}{k:Nat}{f:Addr}{fd:FuncData}{ps:List Str}{sp sp':Sp}(F:bf P w K mg base CX k f fd ps sp)
 (h:∀vs H Q E,sp' vs H Q E->sp vs H Q E):bf P w K mg base CX k f fd ps sp':=
 ⟨fun vs H Q E q=>F.len vs H Q E (h _ _ _ _ q),fun A outer s H args us vs Q E hr he hb hv hs=>F.run A outer s H args us vs Q E hr he hb hv (h _ _ _ _ hs)⟩
theorem u7.make{P:Program}{w:World}{K:PySem.W.Frag}{mg:Str->Option Value}{base:Heap}{A:Around}{outer:List Env}{s:Shared}{H:Hp}(e:u7 P w K mg base A outer s H)(C:Addr)(us:List Value)(kw:List (Str×Value)):
 u7 P w K mg base (A.under (.builtin "type.__call__" ⟨.ref C::us,kw⟩)) outer s H:=⟨by first|exact e.frames|(simpa[Around.under,Code.envs,Code.isFrame,pushEnvs]using e.frames),e.mod,e.bs,e.sN,e.kT,e.vE,e.aK,e.bare,e.gt⟩
section
variable {X:Cx}{pins:List (Addr×Obj)}{σ:St}{H:Hp}{s s':Shared}
theorem Inv.M0(I:Inv X pins σ H s):u7 X.prog X.w X.K X.mg X.base X.A X.stack s H:=
 ⟨I.ok.frames,I.ok.mod,I.bs,Nat.le_trans I.ok.sN I.sz,I.stack,I.xM,I.aK,I.bare,I.ok.gt⟩
theorem Inv.after{Q:VK}{u:Value}(I:Inv X pins σ H s)(h:CE X.stack X.prog X.w H s Q u s'):EP X pins σ Q u s':=by
 obtain⟨v,H',os,bare,un,aK,r,q⟩:=h;obtain⟨hh,g,d,t,os'⟩:=s';obtain rfl:os'=s.os:=os;exact⟨v,H',I.call (h':=hh) (g':=g) (d':=d) (t':=t) (ch:=[]) un aK bare (fun b z=>absurd z (by simp)),r,q⟩
end
def Ie(sp:Sp)(dvs:List V)(E:XK)(t:TA):TE:=fun σ H Q=>t σ H fun vs H1=>sp (vs++dvs) H1 Q E
def Ic(C:Addr)(m:Str)(sp:Sp)(dvs:List V)(E:XK)(ta:TE)(t:TA):TE:=fun σ H Q=>ta σ H fun x H1=>∃a dx fs,x= .ref a/\H1 a=some (.ins C dx fs)/\fs.lookup m=none/\
 t σ H1 fun vs H2=>sp (x::(vs++dvs)) H2 Q E
def HY(C:Addr)(sp:Sp)(dvs:List V)(E:XK)(t:TA):TE:=fun σ H Q=>t σ H fun vs H1=>∀x dx,H1 x=none->H1 dx=none->dx≠x->
 sp (.ref x::(vs++dvs)) (upd (upd H1 dx (.own x)) x (.ins C dx [])) (fun v H2=>v= .aE/\Q (.ref x) H2) E
def Binds(K:PySem.W.Frag)(fd:FuncData)(ps:List Str)(ds:List Value):Prop:=
 ∀(s:Shared) (us:List Value),K.In s.heap->(us++ds).length=ps.length->BindsTo s fd ⟨us,[]⟩ (ps.zip (us++ds))
theorem Binds.all{K:PySem.W.Frag}{fd:FuncData}{ps:List Str}(h:∀us:List Value,us.length=ps.length->bindArgs fd ⟨us,[]⟩=pure (ps.zip us)):Binds K fd ps []:=fun s us _ hl=>by
 rw[List.append_nil]at hl⊢;exact .of_eq (h us hl)
def Passes(CX:uC)(X:Cx)(E:XK):Prop:=∀(pins:List (Addr×Obj)) (σ:St) (H:Hp) (s:Shared) (e:Value) (s':Shared),Inv X pins σ H s->CX X.stack H s E e s'->X.xe e s'
section
variable {X:Cx}{CX:uC}{k:Nat}{f C:Addr}{fd:FuncData}{ps:List Str}{sp:Sp}{dvs:List V}{ds:List Value}{E:XK}{x m:Str}{p pos apos:Pos}{e o:Expr}{es:List Expr}{ta:TE}{t:TA}
theorem ES{pins:List (Addr×Obj)}{σ:St}{H:Hp}{s:Shared}{Q:VK}{us:List Value}{vs:List V}(F:bf X.prog X.w X.K X.mg X.base CX k f fd ps sp)(hr:c8 k X.A)(hb:Binds X.K fd ps ds)(hd:Vals dvs ds)(hx:Passes CX X E)
 (I:Inv X pins σ H s) (r:Vals vs us) (h:sp (vs++dvs) H Q E):wpAny (model X.prog X.w) X.A (call (.ref f) us) (EP X pins σ Q) X.xe s:=by
 have r2:Vals (vs++dvs) (us++ds):=r.append hd;have hl:(us++ds).length=ps.length:=by rw[<-r2.length];exact F.len _ _ _ _ h
 refine wpAny_call (codeAny_mono (F.run X.A X.stack s H ⟨us,[]⟩ (us++ds) (vs++dvs) Q E hr I.M0 (hb s us I.g_ hl) r2 h) fun r s' hq=>?_);cases r with
 |error e=>exact hx pins σ H s e s' I hq
 |ok fl=>
  cases fl with
  |ret u=>exact I.after hq
  |next=>exact False.elim hq
  |brk=>exact False.elim hq
  |cont=>exact False.elim hq
theorem Jk(F:bf X.prog X.w X.K X.mg X.base CX k f fd ps sp)(hr:c8 k X.A)(hg:Gl X x)(hm:X.mg x=some (.ref f))(hk:PySem.W.keepIn X.K (.ref f)=true)(hb:Binds X.K fd ps ds)(hd:Vals dvs ds)(hx:Passes CX X E)
 (ha:PA X (e::es) t) (hdb:(x==("__debug__":Str))=false:=by decide) (he:starEach (e::es) X.env=(false,eval e X.env)::starEach es X.env:=by rfl) (hpl:(backTo pos (starEach es X.env)).any (·.1)=false:=by rfl):
 PE X (.Call (.Name x p) (e::es) [] pos) (Ie sp dvs E t):=by
 intro pins s σ H Q I h;refine wpAny_Call_Name_kw (Cw I hg hm ?_ hdb);refine PySem.W.callWith_K (h₀:=X.base) I.ok.mod.EI hk (cz (ha pos pins s σ H _ I h) fun us s1 ⟨vs,H1,I1,r,q⟩=>⟨I1.g_,?_⟩) he hpl;exact ES F hr hb hd hx I1 r q
theorem Kp{pl:Sem Bool}(he:PE X o ta)(c:oP X.K C)(hm:Meth X.K C m f)(F:bf X.prog X.w X.K X.mg X.base CX k f fd ps sp)(hr:c8 k X.A)(hb:Binds X.K fd ps ds)(hd:Vals dvs ds)(hx:Passes CX X E)(ha:PA X (e::es) t)
 (hst:starEach (e::es) X.env=(false,eval e X.env)::starEach es X.env:=by rfl) (hpl:(backTo pos (starEach es X.env)).any (·.1)=false:=by rfl)
 (ht:eval (.Call (.Attribute o m apos) (e::es) [] pos) X.env=(do
   let ov <-eval o X.env
   standAt apos.atName
   let(f,first) <-holding [ov] (getMethod ov m pl)
   callWith pos f first (backTo pos (starEach (e::es) X.env)) (backToKw pos (keywordEach [] X.env))):=by rfl):
 PE X (.Call (.Attribute o m apos) (e::es) [] pos) (Ic C m sp dvs E ta t):=by
 intro pins s σ H Q I h;refine PySem.W.methodCall_KW (pl:=pl) (cz (he pins s σ H _ I h) fun u s1 ⟨x,H1,I1,rx,a,dx,fs,ex,ea,l,q⟩=>?_) ht;subst ex;obtain rfl:u=Value.ref a:=rx;refine CO I1 ea c hm l ?_;refine PySem.W.callWith_K (first:=[.ref a]) (h₀:=X.base) I.ok.mod.EI hm.kp (cz (ha pos pins s1 σ H1 _ I1 q) fun us s2 ⟨vs,H2,I2,r,q2⟩=>⟨I2.g_,?_⟩) hst hpl;exact ES (us:= .ref a::us) (vs:= .ref a::vs) F hr hb hd hx I2 (.cons rfl r) q2
structure Mk(K:PySem.W.Frag)(C f:Addr):Prop where
 makes:PySem.W.makesIn K C=true
 init:PySem.W.findIn K (.ref C) "__init__"=some (some (.ref f))
 fn:PySem.W.isFn K (.ref f)=true
 kp:PySem.W.keepIn K (.ref C)=true
theorem Hk{pins:List (Addr×Obj)}{σ:St}{H:Hp}{s:Shared}{Q:VK}{us:List Value}{vs:List V}(M:Mk X.K C f)(F:bf X.prog X.w X.K X.mg X.base CX k f fd ps sp)(hr:c8 (k+1) X.A)(hb:Binds X.K fd ps ds)(hd:Vals dvs ds)
 (hx:Passes CX X E) (I:Inv X pins σ H s) (r:Vals vs us)
 (h:∀x dx,H x=none->H dx=none->dx≠x->sp (.ref x::(vs++dvs)) (upd (upd H dx (.own x)) x (.ins C dx [])) (fun v H2=>v= .aE/\Q (.ref x) H2) E):
 wpAny (model X.prog X.w) X.A (call (.ref C) us) (EP X pins σ Q) X.xe s:=by
 have hq:=h (s.heap.objs.size+1) s.heap.objs.size (I.aK.fresh (Nat.le_succ _)) (I.aK.fresh (Nat.le_refl _)) (Nat.ne_of_lt (Nat.lt_succ_self _));have I2:=Inv.made (C:=C) I;have r2:Vals (V.ref (s.heap.objs.size+1)::(vs++dvs)) (Value.ref (s.heap.objs.size+1)::(us++ds)):= .cons rfl (r.append hd)
 have hl:(Value.ref (s.heap.objs.size+1)::us++ds).length=ps.length:=by
  have e:=r2.length;rw[F.len _ _ _ _ hq]at e;exact e.symm
 refine wpAny_call (Hc (f:=f) I.g_ M.makes M.init (beq_iff_eq.mp M.fn) (codeAny_mono (F.run _ X.stack _ _ ⟨Value.ref (s.heap.objs.size+1)::us,[]⟩ (Value.ref (s.heap.objs.size+1)::(us++ds)) _ _ E (hr.make C us [])
  (I2.M0.make C us []) (hb _ (Value.ref (s.heap.objs.size+1)::us) I2.g_ hl) r2 hq) fun r s' hq'=>?_))
 cases r with
 |error e=>exact hx pins σ _ _ e s' I2 hq'
 |ok fl=>
  cases fl with
  |ret u=>
   obtain⟨v,H',I3,rv,ev,q3⟩:=I2.after hq';subst ev;exact⟨rv,⟨V.ref (s.heap.objs.size+1),H',I3,rfl,q3⟩⟩
  |next=>exact False.elim hq'
  |brk=>exact False.elim hq'
  |cont=>exact False.elim hq'
theorem KO(M:Mk X.K C f)(F:bf X.prog X.w X.K X.mg X.base CX k f fd ps sp)(hr:c8 (k+1) X.A)(hg:Gl X x)(hm:X.mg x=some (.ref C))(hb:Binds X.K fd ps ds)(hd:Vals dvs ds)(hx:Passes CX X E)
 (ha:PA X (e::es) t) (hdb:(x==("__debug__":Str))=false:=by decide) (he:starEach (e::es) X.env=(false,eval e X.env)::starEach es X.env:=by rfl) (hpl:(backTo pos (starEach es X.env)).any (·.1)=false:=by rfl):
 PE X (.Call (.Name x p) (e::es) [] pos) (HY C sp dvs E t):=by
 intro pins s σ H Q I h;refine wpAny_Call_Name_kw (Cw I hg hm ?_ hdb);refine PySem.W.callWith_K (h₀:=X.base) I.ok.mod.EI M.kp (cz (ha pos pins s σ H _ I h) fun us s1 ⟨vs,H1,I1,r,q⟩=>⟨I1.g_,?_⟩) he hpl;exact Hk M F hr hb hd hx I1 r q
end
section
variable {X:Cx}{CX:uC}{k:Nat}{f C:Addr}{fd:FuncData}{ps ks:List Str}{sp:Sp}{E:XK}{x m:Str}{p pos apos kpos:Pos}{e o:Expr}{es:List Expr}{kws:List Keyword}{te ta:TE}{t tk:TA}{nm:Option Str}
variable {g:List Value->List Value->List Value}{gV:List V->List V->List V}
end
structure aN(N P:List Str)(sc:Scope):Prop where
 kind:sc.kind= .function
 co:sc.isCoroutine=false
 gen:sc.isGenerator=false
 nd:N.Nodup
 pre:N.take P.length=P
 par:∀x∈P,sc.names.lookup x=some .local\/sc.names.lookup x=some .cell
 NL:∀y∈sc.names,y.2≠ .free
theorem x_{kindOf:Str->Option NameKind}{x:Str}:∀ {binds:List (Str×Value)} {m:Str->Option Value},(∀v,(x,v)∉binds)->bindL kindOf binds m x=m x
 | [],_,_=>rfl
 |(n,v)::r,m,h=>by
  unfold bindL;rw[x_ fun w hw=>h w (List.mem_cons_of_mem _ hw)];split
  . have:x≠n:=by rintro rfl;exact h v List.mem_cons_self
    simp[this]
  . rfl
theorem yn{kindOf:Str->Option NameKind}{x:Str}:∀ {binds:List (Str×Value)} {m:Str->Option Value},(∀v,(x,v)∉binds)->bindC kindOf binds m x=m x
 | [],_,_=>rfl
 |(n,v)::r,m,h=>by
  unfold bindC;rw[yn fun w hw=>h w (List.mem_cons_of_mem _ hw)];split
  . rfl
  . have:x≠n:=by rintro rfl;exact h v List.mem_cons_self
    simp[this]
theorem yk{kindOf:Str->Option NameKind}{x:Str}{v:Value}:∀ {P:List Str} {vs:List Value} {i:Nat} {m:Str->Option Value},P.Nodup->P[i]?=some x->vs[i]?=some v->kindOf x=some .local->
 bindL kindOf (P.zip vs) m x=some v
 | [],_,_,_,_,h,_,_=>by simp at h
 |_::_,[],_,_,_,_,h,_=>by simp at h
 |p::P,w::vs,0,m,nd,h1,h2,hk=>by
  simp at h1 h2;subst h1;subst h2;show bindL kindOf ((p,w)::P.zip vs) m p=_;unfold bindL;rw[x_ fun v hv=>(List.nodup_cons.mp nd).1 (List.of_mem_zip hv).1,if_pos hk];simp
 |p::P,w::vs,i+1,m,nd,h1,h2,hk=>by
  show bindL kindOf ((p,w)::P.zip vs) m x=_;unfold bindL;exact yk (i:=i) (List.nodup_cons.mp nd).2 (by simpa using h1) (by simpa using h2) hk
theorem yg{kindOf:Str->Option NameKind}{x:Str}{v:Value}:∀ {P:List Str} {vs:List Value} {i:Nat} {m:Str->Option Value},P.Nodup->P[i]?=some x->vs[i]?=some v->kindOf x≠some .local->
 bindC kindOf (P.zip vs) m x=some v
 | [],_,_,_,_,h,_,_=>by simp at h
 |_::_,[],_,_,_,_,h,_=>by simp at h
 |p::P,w::vs,0,m,nd,h1,h2,hk=>by
  simp at h1 h2;subst h1;subst h2;show bindC kindOf ((p,w)::P.zip vs) m p=_;unfold bindC;rw[yn fun v hv=>(List.nodup_cons.mp nd).1 (List.of_mem_zip hv).1,if_neg hk];simp
 |p::P,w::vs,i+1,m,nd,h1,h2,hk=>by
  show bindC kindOf ((p,w)::P.zip vs) m x=_;unfold bindC;exact yg (i:=i) (List.nodup_cons.mp nd).2 (by simpa using h1) (by simpa using h2) hk
def start(N:List Str)(vs:List V):St:=vs.map some++List.replicate (N.length-vs.length) none
def qT(CX:uC)(P:Program)(w:World)(K:PySem.W.Frag)(mg:Str->Option Value)(base:Heap)(N:List Str)(qual:Str)(scope:Scope)(f:Addr)(cd:Value)(A:Around)(outer:List Env)(s:Shared)(H:Hp)(E:XK):Cx where
 prog:=P
 w:=w
 K:=K
 mg:=mg
 base:=base
 A:=A.deeper (envOfC qual scope s.heap.objs.size f cd)
 N:=N
 s₀:=s
 H₀:=H
 env:=envOfC qual scope s.heap.objs.size f cd
 outer:=outer
 stack:=envOfC qual scope s.heap.objs.size f cd::outer
 ex:=[]
 calm:=true
 fn:=fun _=>true
 pn:=[]
 xe:=fun e s'=>wpAny (model P w) (A.deeper (envOfC qual scope s.heap.objs.size f cd)) (leaving (envOfC qual scope s.heap.objs.size f cd) e) (fun _ s''=>CX outer H s E e s'') (fun e' s''=>CX outer H s E e' s'') s'
theorem zU{sc:Scope}{n:Nat}{x:Str}(h:sc.names.lookup x=some .cell):∃c,(cellsFrom n sc.names []).lookup x=some c:=by
 have q:=PySem.W.cellsFrom_some sc.names n [] (.inl h);exact Option.isSome_iff_exists.mp q
theorem FP{CX:uC}{P:Program}{w:World}{K:PySem.W.Frag}{mg:Str->Option Value}{base:Heap}{N ps:List Str}{qual:Str}{scope:Scope}{f:Addr}{cd:Value}{A:Around}{outer:List Env}{s s1:Shared}{H:Hp}{E:XK}{us:List Value}{vs:List V}
 (S:aN N ps scope) (hd:A.handled=none) (e0:u7 P w K mg base A outer s H) (hl:vs.length=ps.length) (r:Vals vs us)
 (x:InCallC s s.heap.objs.size (bindL (envOfC qual scope s.heap.objs.size f cd).kindOf (ps.zip us) fun _=>none) (cellsFrom (s.heap.objs.size+1) scope.names []) (bindC (envOfC qual scope s.heap.objs.size f cd).kindOf (ps.zip us) fun _=>none) s1):
 Inv (qT CX P w K mg base N qual scope f cd A outer s H E) [] (start N vs) H s1:=by
 have hpl:ps.length<=N.length:=by have:=congrArg List.length S.pre;rw[List.length_take]at this;omega
 obtain⟨h1,tk,rfl,hk⟩:=x.done;have noA:∀b:Addr,b∉(qT CX P w K mg base N qual scope f cd A outer s H E).ex:=fun b z=>absurd (show b∈([]:List Addr)from z) (by simp)
 refine⟨⟨e0.mod,S.kind,rfl,rfl,Nat.le_refl _,fun y z c h1 h2=>?_,fun y hy=>?_,fun y c _ h=>?_,fun _=>hd,Around.frames_deeper e0.frames,.inr ⟨rfl,rfl⟩,fun b z=>absurd z (noA b),e0.bs,e0.sN,fun b _ _=>noA b,fun b z=>absurd z (noA b),e0.kT,e0.vE,e0.gt⟩,
  rfl,e0.bare,Un.kept hk,⟨_,x.toInCall.ns,fun i y v h1 h2 h3=>?_⟩,fun y c h=>⟨_,x.cell y c h⟩,e0.aK.fresh (Nat.le_refl _),fun y c h=>?_,fun p hp=>absurd (show p∈([]:List (Addr×Obj))from hp) (by simp),e0.aK.kept hk,?_⟩
 . exact name_of_addr x.apart (PySem.mem_of_lookup h1) (PySem.mem_of_lookup h2)
 . have hy:scope.names.lookup y=some .cell\/scope.names.lookup y=some .free:=hy;rcases hy with hy|hy
   . exact zU hy
   . exact absurd rfl (S.NL _ (PySem.mem_of_lookup hy))
 . exact Nat.le_of_lt (x.above y c (PySem.mem_of_lookup h))
 . have hi:i<vs.length:=by
    unfold start at h2;by_cases hi:i<vs.length
    . exact hi
    . rw[List.getElem?_append_right (by simpa using hi)]at h2;rw[List.getElem?_replicate]at h2;split at h2<;>cases h2
   have ha:vs[i]?=some v:=by
    unfold start at h2;rw[List.getElem?_append_left (by simpa using hi),List.getElem?_map]at h2;cases e:vs[i]? with
    |none=>rw[e]at h2;cases h2
    |some a=>rw[e]at h2;cases h2;rfl
   obtain⟨u,hu,rv⟩:=r.get ha
   have hp:ps[i]?=some y:=by
    rw[<-S.pre,List.getElem?_take_of_lt (by omega)];exact h1
   have ndP:ps.Nodup:=by rw[<-S.pre];exact S.nd.sublist (List.take_sublist _ _)
   refine⟨u,rv,?_⟩;rcases S.par y (List.mem_of_getElem? hp)with k|k
   . exact .inl ⟨k,yk ndP hp hu k⟩
   . obtain⟨c,e⟩:=zU (n:=s.heap.objs.size+1) k;refine .inr ⟨.inl k,c,e,?_⟩;have q:=x.cell y c e;rw[yg ndP hp hu (by show scope.names.lookup y≠_;rw[k];decide)]at q;exact q
 . exact e0.aK.fresh (Nat.le_of_lt (x.above y c (PySem.mem_of_lookup h)))
 . unfold start;show _=N.length;rw[List.length_append,List.length_map,List.length_replicate];omega
theorem HS{CX:uC}{P:Program}{w:World}{K:PySem.W.Frag}{mg:Str->Option Value}{base:Heap}{k:Nat}{f:Addr}{name qual:Str}{params:Arguments}{body:List Stmt}{scope:Scope}{dV kV doc pm cdv ct oc:Value}{an od:Option Addr}
 {osl:Array (Option Value)} {N ps:List Str} {sp:Sp} (lk:K.lookup f=some ⟨oc,od,.func (PySem.W.fnOf name qual params body scope dV kV doc pm an cdv ct),osl⟩) (hcd:PySem.W.codeIn K cdv qual=true) (S:aN N ps scope)
 (len:∀vs H Q E,sp vs H Q E->vs.length=ps.length)
 (hbody:∀(A:Around) (outer:List Env) (s:Shared) (H:Hp) (vs:List V) (Q:VK) (E:XK),c8 k (A.deeper (envOfC qual scope s.heap.objs.size f cdv))->sp vs H Q E->
   ∃t,g8 (qT CX P w K mg base N qual scope f cdv A outer s H E) body t/\t {nx:=fun _ H'=>Q .aE H',rt:=Q} (start N vs) H):
 bf P w K mg base CX (k+1) f (PySem.W.fnOf name qual params body scope dV kV doc pm an cdv ct) ps sp:=by
 refine⟨len,fun A outer s H args us vs Q E hr e0 hb r hsp=>?_⟩;have hl:=len _ _ _ _ hsp;have KX:K.In s.heap:=e0.mod.EI.keeps fun b o e=>(e0.bs b o e).1;have lim:s.heap.NoLimit:=e0.mod.nolimit.keeps fun b o e=>(e0.bs b o e).1
 have hkind:∀y∈ps.zip us,scope.names.lookup y.1=some .local\/(scope.names.lookup y.1=some .cell/\((cellsFrom (s.heap.objs.size+1) scope.names []).lookup y.1).isSome=true):=fun⟨n,v⟩ hy=>by
  rcases S.par n (List.of_mem_zip hy).1 with q|q
  . exact .inl q
  . exact .inr ⟨q,PySem.W.cellsFrom_some _ _ _ (.inl q)⟩
 refine codeAny_call_function hr.depth (KX _ _ lk) rfl S.co S.gen rfl (PySem.W.codeRec_of KX hcd) (hb _ _ _ _ ?_);refine wpAny_newFunctionEnv_cells S.kind hkind fun env he s1 x=>?_;subst he;refine⟨lim.keeps x.toInCall.keep,codeAny_func ?_⟩;obtain⟨t,ht,hq⟩:=hbody A outer s H vs Q E (hr.deeper _) hsp;have I:Inv (qT CX P w K mg base N qual scope f cdv A outer s H E) [] (start N vs) H s1:=FP S hr.hd e0 hl r x;refine wpAny_mono (ht [] s1 (start N vs) H _ I hq) (fun fl s' hs=>?_) fun e s' hs=>hs
 have fin:∀ {σ':St} {H':Hp} {v:V} {u:Value},Inv (qT CX P w K mg base N qual scope f cdv A outer s H E) [] σ' H' s'->RelV v u->Q v H'->CE outer P w H s Q u s':=
  fun{σ' H' v u} J rv q=>⟨v,H',J.os,J.bare,J.base,J.aK,rv,q⟩
 cases fl with
 |ret u=>
  obtain⟨v,σ',H',J,rv,q⟩:=hs;exact fin J rv q
 |next=>
  obtain⟨σ',H',J,q⟩:=hs;exact fin (v:=V.aE) (u:=Value.none) J rfl q
 |brk=>
  obtain⟨_,_,_,q⟩:=hs;exact False.elim q
 |cont=>
  obtain⟨_,_,_,q⟩:=hs;exact False.elim q
section
variable {X:Cx}{x:Str}{p pos:Pos}{e:Expr}{es:List Expr}{t:TA}{id T:String}{r:List V->Hp->VK->Prop}
def Mv(r:List V->Hp->VK->Prop)(t:TA):TE:=fun σ H Q=>t σ H fun vs H1=>r vs H1 Q
theorem GQ(hc:cj X (.builtin id) r)(hg:Gl X x)(hm:X.mg x=none)(hv:bootBuiltins x=some (.builtin id))(ha:PA X (e::es) t)(hn:x≠"__name__":=by decide)(hdb:(x==("__debug__":Str))=false:=by decide)
 (he:starEach (e::es) X.env=(false,eval e X.env)::starEach es X.env:=by rfl) (hpl:(backTo pos (starEach es X.env)).any (·.1)=false:=by rfl):PE X (.Call (.Name x p) (e::es) [] pos) (Mv r t):=by
 intro pins s σ H Q I h;refine wpAny_Call_Name_kw (kK I hg hm hv ?_ hn hdb);exact PyProof.Rows.callWith_builtin1 (cz (ha pos pins s σ H _ I h) fun us s1 ⟨vs,H1,I1,r1,q1⟩=>hc pins s1 σ H1 vs us Q I1 r1 q1) he hpl
theorem Eu(hc:cj X (.type T) r)(hg:Gl X x)(hm:X.mg x=none)(hv:bootBuiltins x=some (.type T))(ha:PA X (e::es) t)(hn:x≠"__name__":=by decide)(hdb:(x==("__debug__":Str))=false:=by decide)
 (he:starEach (e::es) X.env=(false,eval e X.env)::starEach es X.env:=by rfl) (hpl:(backTo pos (starEach es X.env)).any (·.1)=false:=by rfl):PE X (.Call (.Name x p) (e::es) [] pos) (Mv r t):=by
 intro pins s σ H Q I h;refine wpAny_Call_Name_kw (kK I hg hm hv ?_ hn hdb);exact PyProof.Rows.callWith_type1 (cz (ha pos pins s σ H _ I h) fun us s1 ⟨vs,H1,I1,r1,q1⟩=>hc pins s1 σ H1 vs us Q I1 r1 q1) he hpl
end
end L2
namespace HT
open PySem PyProof.Rows
section
open PySem.SeqAt
open PySem.AutoSeq1 (wpAny_loadPart')
open PySem.MeetsSeq PySem.MeetsSeq2 PySem.MeetsSeq3
end
section
variable {prog:Program}{w:World}{A:Around}{E:Value->Shared->Prop}{s:Shared}
theorem Jg{t b:Addr}{vs ws:List Value}{Q:Value->Shared->Prop}(ht:IsTup s.heap t vs.toArray)(hb:IsTup s.heap b ws.toArray)(hv:vs≠ [])
 (h1:ws=[]->Q (.ref t) s) (h2:ws≠ []->Q (.ref s.heap.objs.size) {s with heap:=s.heap.push {cls:= .type "tuple",data:= .seq (vs++ws).toArray}})
 (hsz:vs.length+ws.length<=sizeLine):wpAny (model prog w) A (binaryOp .Add (.ref t) (.ref b)) Q E s:=by
 obtain⟨⟨cls,dd,data,sl⟩,ho,hc,n,hd⟩:=id ht;obtain⟨⟨cls2,dd2,data2,sl2⟩,ho2,hc2,n2,hd2⟩:=id hb;simp only at hc hd hc2 hd2;subst hc hd hc2 hd2;have e:vs.toArray++ws.toArray=(vs++ws).toArray:=by simp
 by_cases hw:ws=[]
 . exact concat_meets ⟨_,ho,rfl⟩ ⟨_,ho2,rfl⟩ noFill_tuple_add seq_tuple_add PySem.F.slot_tuple_add PySem.F.entry_tuple_add (PySem.F.args_tuple_add_2 _ _)
    (tuple_addW1 t b vs.toArray ws.toArray n n2 dd dd2 sl sl2 (by simpa using hv) (by simp[hw])) ⟨ho,ho2,h1 hw⟩
 . refine concat_meets ⟨_,ho,rfl⟩ ⟨_,ho2,rfl⟩ noFill_tuple_add seq_tuple_add PySem.F.slot_tuple_add PySem.F.entry_tuple_add (PySem.F.args_tuple_add_2 _ _)
    (tuple_addW2 t b vs.toArray ws.toArray n n2 dd dd2 sl sl2 (by simpa using hv) (by simpa using hw) (by rw[List.size_toArray,List.size_toArray];exact hsz)) ⟨ho,ho2,?_⟩
   rw[e];exact h2 hw
def cu(n d:Nat):Option Int->Nat
 |none=>d
 |some v=>if v<0 then(v+(n:Int)).toNat else min v.toNat n
theorem HE(n d:Nat):cu n d none=d:=rfl
theorem Kg(n d k:Nat):cu n d (some (k:Int))=min k n:=by
 show(if(k:Int)<0 then((k:Int)+(n:Int)).toNat else min (k:Int).toNat n)=min k n;rw[if_neg (by omega),Int.toNat_natCast]
theorem MJ(n d:Nat)(hd:d<=n)(o:Option Int):cu n d o<=n:=by
 cases o with
 |none=>exact hd
 |some v=>
  show(if v<0 then(v+(n:Int)).toNat else min v.toNat n)<=n;by_cases hv:v<0
  . rw[if_pos hv];omega
  . rw[if_neg hv];exact Nat.min_le_right _ _
theorem Cc(v:Int)(n d:Nat):(if v<0 then max (v+(n:Int)) 0 else min v (n:Int))=((cu n d (some v):Nat):Int):=by
 show(if v<0 then max (v+(n:Int)) 0 else min v (n:Int))=(((if v<0 then(v+(n:Int)).toNat else min v.toNat n):Nat):Int)
 by_cases hv:v<0
 . simp only[if_pos hv];omega
 . simp only[if_neg hv];omega
theorem CW(lo hi:Option Int)(n:Nat):Builtin.Slice.sliceAdjust lo hi 1 (n:Int)=(((cu n 0 lo:Nat):Int),((cu n n hi:Nat):Int)):=by
 have h1:¬((1:Int)<0):=by omega
 unfold Builtin.Slice.sliceAdjust;simp only[h1,if_false];refine Prod.ext ?_ ?_
 . cases lo with
   |none=>rfl
   |some v=>exact Cc v n 0
 . cases hi with
   |none=>rfl
   |some v=>exact Cc v n n
theorem CP(i j:Nat):Builtin.Slice.slicePlaces (i:Int) (j:Int) 1=j-i:=by
 unfold Builtin.Slice.slicePlaces;have h1:(1:Int)>0:=by omega
 simp only[h1,if_true,Int.ediv_one];split<;>omega
theorem vw{v:Value}{o:Option Int}{Q:Option Int->Shared->Prop}(p:IsPart v o)(h:Q o s):wpAny (model prog w) A (Builtin.Slice.slicePartIndex v) Q E s:=by
 cases p with
 |none=>exact slicePart_none h
 |int i t=>exact slicePart_int h
theorem oB{sl:Addr}{vl vu:Value}{lo hi:Option Int}{n:Nat}{Q:Int×Int×Nat->Shared->Prop}(hs:s.heap.IsSliceOf sl vl vu .none)(pl:IsPart vl lo)(pu:IsPart vu hi)
 (h:Q (((cu n 0 lo:Nat):Int),1,cu n n hi-cu n 0 lo) s):wpAny (model prog w) A (Builtin.Slice.sliceApplied (.ref sl) (pure (n:Int))) Q E s:=by
 obtain⟨os,hos,hcs,hds⟩:=id hs;unfold Builtin.Slice.sliceApplied Builtin.Slice.sliceFields;refine wpAny_bind (wpAny_bind (wpAny_field hos hds (x:=vl) rfl (wpAny_bind (wpAny_field hos hds (x:=vu) rfl (wpAny_bind (wpAny_field hos hds (x:= .none) rfl (wpAny_pure ?_)))))));refine wpAny_bind (slicePart_none ?_);show wpAny _ _ (if((1:Int)==0)=true then _ else _) _ _ s;rw[if_neg (by decide)];refine wpAny_bind (vw pl (wpAny_bind (vw pu (wpAny_bind (wpAny_pure ?_)))));show wpAny _ _ (match Builtin.Slice.sliceAdjust lo hi 1 (n:Int)with|(lo,hi)=>pure (lo,(1:Int),Builtin.Slice.slicePlaces lo hi 1)) _ _ s;rw[CW lo hi n];show wpAny _ _ (pure (((cu n 0 lo:Nat):Int),(1:Int),Builtin.Slice.slicePlaces ((cu n 0 lo:Nat):Int) ((cu n n hi:Nat):Int) 1)) _ _ s;rw[CP];exact wpAny_pure h
theorem GB(xs:Array Value)(i k:Nat):((List.range k).filterMap fun(m:Nat)=>xs[((i:Int)+(m:Int)*1).toNat]?).toArray=((xs.toList.drop i).take k).toArray:=by
 have e:(fun(m:Nat)=>xs[((i:Int)+(m:Int)*1).toNat]?)=fun m=>xs[i+m]?:=by
  funext m;have:((i:Int)+(m:Int)*1).toNat=i+m:=by omega
  rw[this]
 rw[e];have:=pick_run xs i k;rw[List.filterMap_map]at this;have e2:((fun x=>xs[x]?)∘fun x=>i+x)=fun m=>xs[i+m]?:=rfl;rw[e2]at this;rw[this]
theorem um{t sl:Addr}{items:Array Value}{vl vu:Value}{lo hi:Option Int}{Q:Value->Shared->Prop}(ht:IsTup s.heap t items)(hs:s.heap.IsSliceOf sl vl vu .none)(pl:IsPart vl lo)(pu:IsPart vu hi)
 (hw:¬(cu items.size 0 lo=0/\cu items.size items.size hi=items.size))
 (h:Q (.ref s.heap.objs.size) {s with heap:=s.heap.push {cls:= .type "tuple",data:= .seq ((items.toList.drop (cu items.size 0 lo)).take (cu items.size items.size hi-cu items.size 0 lo)).toArray}})
 (hsz:items.size<=sizeLine):wpAny (model prog w) A (getItem (.ref t) (.ref sl)) Q E s:=by
 have htake:sizeOk (.seq ((items.toList.drop (cu items.size 0 lo)).take (cu items.size items.size hi-cu items.size 0 lo)).toArray):=by
  show((items.toList.drop (cu items.size 0 lo)).take (cu items.size items.size hi-cu items.size 0 lo)).toArray.size<=sizeLine;rw[List.size_toArray,List.length_take,List.length_drop,Array.length_toList];omega
 have hj:cu items.size items.size hi<=items.size:=MJ _ _ (Nat.le_refl _) hi;obtain⟨os,hos,hcs,hds⟩:=id hs;have hTs:s.TypeIs (.ref sl) "slice":=⟨os,hos,hcs⟩
 unfold getItem;try with_reducible refine wpAny_holding ?_
 first|refine wpAny_bind (wpAny_pure ?_)|skip
 refine wpAny_bind (wpAny_sequenceKey ht.typeIs (by decide) ?_)
 refine wpAny_bind (wpAny_callSpecial?_slot (name:=Str.ofString "__getitem__") ht.typeIs PyProof.Rows.slot_tuple_getitem
  (wpAny_call_entry PyProof.Rows.slot_tuple_getitem ht.typeIs entry_tuple_getitem ?_ (args_tuple_getitem _ _)))
 show wpAny _ _ (Builtin.Tuple.tupleItemsOf (.ref t) >>= _) _ _ s;refine wpAny_bind (tupleItemsOf_ ht ?_);refine wpAny_bind (wpAny_typeOf hTs ?_);rw[if_pos (by decide)];refine wpAny_bind (oB hs pl pu ?_)
 have hno:¬((((cu items.size 0 lo:Nat):Int)==0&&(1:Int)==1&&(cu items.size items.size hi-cu items.size 0 lo)==items.size)=true):=by
  intro q;rw[Bool.and_eq_true,Bool.and_eq_true]at q;have q1:((cu items.size 0 lo:Nat):Int)=0:=eq_of_beq q.1.1;have q2:cu items.size items.size hi-cu items.size 0 lo=items.size:=eq_of_beq q.2;exact hw ⟨by omega,by omega⟩
 show wpAny _ _ (if(((cu items.size 0 lo:Nat):Int)==0&&(1:Int)==1&&(cu items.size items.size hi-cu items.size 0 lo)==items.size)=true then _ else _) _ _ s;rw[if_neg hno,GB]
 first
  |exact wpAny_bind (m:=Builtin.Tuple.tupleExact _) (wpAny_newObj_type (wpAny_pure ⟨_,rfl,wpAny_pure h⟩) htake)
  |exact wpAny_bind (m:=Builtin.Tuple.tupleExact _) (wpAny_newObj_type (wpAny_bind (wpAny_pure (wpAny_pure ⟨_,rfl,wpAny_pure h⟩))) htake)
  |exact wpAny_bind (wpAny_bind (m:=Builtin.Tuple.tupleExact _) (wpAny_newObj_type (wpAny_pure (wpAny_pure ⟨_,rfl,wpAny_pure h⟩)) htake))
  |exact wpAny_bind (wpAny_bind (m:=Builtin.Tuple.tupleExact _) (wpAny_newObj_type (wpAny_pure ⟨_,rfl,wpAny_pure h⟩) htake))
end
end HT
namespace L2
open PySem PySem.Spec PyProof.Rows
abbrev TO:=St->Hp->(Option Int->Hp->Prop)->Prop
def PO(X:Cx)(e:Option Expr)(t:TO):Prop:=
 ∀(pins:List (Addr×Obj)) (s:Shared) (σ:St) (H:Hp) (Q:Option Int->Hp->Prop),Inv X pins σ H s->t σ H Q->
  wpAny (model X.prog X.w) X.A (evalPart e X.env) (fun u s'=>∃o H',Inv X pins σ H' s'/\IsPart u o/\Q o H') X.xe s
def Kf:TO:=fun _ H Q=>Q none H
def N6(t:TE):TO:=fun σ H Q=>t σ H fun x H1=>∃i,x= .int i/\Q (some i) H1
section
variable {X:Cx}{e:Expr}{te:TE}{lo hi:Option Expr}{tl th:TO}{pos p2:Pos}
theorem Kn:PO X none Kf:=by
 intro pins s σ H Q I h;rw[evalPart_none];exact wpAny_pure ⟨none,H,I,.none,h⟩
theorem Kt(h:PE X e te):PO X (some e) (N6 te):=by
 intro pins s σ H Q I hw;rw[evalPart_some];refine cz (h pins s σ H _ I hw) fun u s1 ⟨x,H1,I1,r1,q1⟩=>?_;obtain⟨i,rfl,q⟩:=q1;obtain⟨t,rfl⟩:=r1;exact⟨some i,H1,I1,.int i t,q⟩
def EX(X:Cx)(r:V->Option Int->Option Int->Hp->VK->Prop):Prop:=
 ∀(pins:List (Addr×Obj)) (s:Shared) (σ:St) (H:Hp) (x:V) (v vl vu:Value) (lo hi:Option Int) (sl:Addr) (Q:VK),Inv X pins σ H s->RelV x v->s.heap.IsSliceOf sl vl vu .none->IsPart vl lo->IsPart vu hi->r x lo hi H Q->
  ∃T id,typeLookup (.type T) "__getitem__"=pure (some (.builtin id))/\s.TypeIs v T/\wpAny (model X.prog X.w) X.A (getItem v (.ref sl)) (EP X pins σ Q) X.xe s
def Q2(r:V->Option Int->Option Int->Hp->VK->Prop)(te:TE)(tl th:TO):TE:=fun σ H Q=>te σ H fun x H1=>tl σ H1 fun l H2=>th σ H2 fun u H3=>r x l u H3 Q
theorem Hn{r:V->Option Int->Option Int->Hp->VK->Prop}(hr:EX X r)(he:PE X e te)(hl:PO X lo tl)(hu:PO X hi th):PE X (.Subscript e (.Slice lo hi none p2) pos) (Q2 r te tl th):=by
 intro pins s σ H Q I h;refine Subscript_ (cz (he pins s σ H _ I h) fun v s1 ⟨x,H1,I1,r1,q1⟩=>?_);refine wpAny_Slice (cz (hl pins s1 σ H1 _ I1 q1) fun vl s2 ⟨l,H2,I2,pl,q2⟩=>cz (hu pins s2 σ H2 _ I2 q2) fun vu s3 ⟨u,H3,I3,pu,q3⟩=>?_);rw[evalPart_none];refine wpAny_pure ?_;have I4:Inv X pins σ H3 {s3 with heap:=s3.heap.push {cls:= .type "slice",data:= .fields #[vl,vu,.none]}}:=I3.kept (t':=s3.toks) fun b ob q=>Heap.get?_push_of_some _ q;obtain⟨T,id,hT,ht,hg⟩:=hr pins {s3 with heap:=s3.heap.push {cls:= .type "slice",data:= .fields #[vl,vu,.none]}} σ H3 x v vl vu l u s3.heap.objs.size Q I4 r1 (Heap.IsSliceOf.new ..) pl pu q3;show wpAny (model X.prog X.w) X.A (subscriptTail e (.Slice lo hi none p2) v (.ref s3.heap.objs.size)) (EP X pins σ Q) X.xe {s3 with heap:=s3.heap.push {cls:= .type "slice",data:= .fields #[vl,vu,.none]}};exact tail_any (ops:=[.ref s3.heap.objs.size,v]) ht hT hg (by with_unfolding_all rfl)
def qR(xs:List V)(lo hi:Option Int):List V:=(xs.drop (HT.cu xs.length 0 lo)).take (HT.cu xs.length xs.length hi-HT.cu xs.length 0 lo)
theorem uM(xs:List V)(lo hi:Option Int):(qR xs lo hi).length<=xs.length:=by
 unfold qR;rw[List.length_take,List.length_drop];omega
def Qo(K:PySem.W.Frag):V->Option Int->Option Int->Hp->VK->Prop:=fun x lo hi H Q=>∃a xs,x= .ref a/\iZ K H a xs/\
 ¬(HT.cu xs.length 0 lo=0/\HT.cu xs.length xs.length hi=xs.length)/\∀p,H p=none->Q (.ref p) (upd H p (.tup (qR xs lo hi)))
theorem NG:EX X (Qo X.K):=by
 intro pins s σ H x v vl vu lo hi sl Q I rx hs pl pu h;obtain⟨a,xs,rfl,hx,hw,q⟩:=h;cases rx;obtain⟨aq,r,ht,hz⟩:=I.tuple hx;have hlen:aq.toArray.size=xs.length:=by rw[List.size_toArray];exact r.length.symm
 refine⟨"tuple",_,PyProof.Rows.slot_tuple_getitem.lookup,ht.typeIs,?_⟩;refine HT.um ht hs pl pu (by rw[hlen];exact hw) ?_ (by rw[hlen];exact hz);rw[hlen];refine⟨.ref s.heap.objs.size,_,I.laid (t':=s.toks) (o:= .tup (qR xs lo hi)) (fun b ob q=>Heap.get?_push_of_some _ q) (Nat.le_refl _) ?_,rfl,q _ (I.aK.fresh (Nat.le_refl _))⟩;exact⟨Nat.le_trans (uM xs lo hi) hz,_,(r.drop (HT.cu xs.length 0 lo)).take (HT.cu xs.length xs.length hi-HT.cu xs.length 0 lo),IsTup.new _ _⟩
def OY(K:PySem.W.Frag):R2:=fun x y H Q=>∃a b xs ys,x= .ref a/\y= .ref b/\iZ K H a xs/\iZ K H b ys/\xs≠ []/\xs.length+ys.length<=sizeLine/\
 (ys=[]->Q (.ref a) H)/\(ys≠ []->∀p,H p=none->Q (.ref p) (upd H p (.tup (xs++ys))))
theorem Vals.tW{xs:List V}{us:List Value}(r:Vals xs us):us=[]↔xs=[]:=by
 cases r with
 |nil=>simp
 |cons _ _=>simp
theorem IV:cJ X (binaryOp .Add) (OY X.K):=by
 intro pins s σ H x y v u Q I rx ry h;obtain⟨a,b,xs,ys,rfl,rfl,ha,hb,hx,hz,q1,q2⟩:=h;cases rx;cases ry;obtain⟨aq,r1,p1,_⟩:=I.tuple ha;obtain⟨its2,r2,p2,_⟩:=I.tuple hb;refine HT.Jg p1 p2 (fun z=>hx (r1.tW.mp z)) (fun z=>⟨.ref a,H,I,rfl,q1 (r2.tW.mp z)⟩) (fun z=>?_) (by rw[<-r1.length,<-r2.length];exact hz);refine⟨.ref s.heap.objs.size,_,I.laid (t':=s.toks) (o:= .tup (xs++ys)) (fun b ob q=>Heap.get?_push_of_some _ q) (Nat.le_refl _) ?_,rfl,q2 (fun w=>z (r2.tW.mpr w)) _ (I.aK.fresh (Nat.le_refl _))⟩;exact⟨by rw[List.length_append];exact hz,_,r1.append r2,IsTup.new _ _⟩
end
def ko(n:Nat)(i:Int):Option Nat:=if 0<=i then(if i<n then some i.toNat else none)else if-(n:Int)<=i then some (i+n).toNat else none
def dU{α:Type}(xs:List α)(i:Int):Option α:=(ko xs.length i).bind fun j=>xs[j]?
theorem xJ{n:Nat}{i:Int}{j:Nat}(h:ko n i=some j):seqIndex? i n=some j/\j<n/\ -(n:Int)<=i/\i<n:=by
 unfold ko at h;by_cases h0:0<=i
 . rw[if_pos h0]at h;by_cases h1:i<n
   . rw[if_pos h1]at h;have e:i.toNat=j:=Option.some.inj h;exact⟨by rw[seqIndex_of h0 h1,e],by omega,by omega,h1⟩
   . rw[if_neg h1]at h;cases h
 . rw[if_neg h0]at h;by_cases h1: -(n:Int)<=i
   . rw[if_pos h1]at h;have e:(i+n).toNat=j:=Option.some.inj h;exact⟨by rw[seqIndex_neg (by omega) h1,e],by omega,h1,by omega⟩
   . rw[if_neg h1]at h;cases h
theorem xC{α:Type}{xs:List α}{i:Int}{v:α}(h:dU xs i=some v):∃j,seqIndex? i xs.length=some j/\xs[j]?=some v/\j<xs.length/\ -(xs.length:Int)<=i/\i<xs.length:=by
 unfold dU at h;cases e:ko xs.length i with
 |none=>rw[e]at h;cases h
 |some j=>
  rw[e]at h;obtain⟨h1,h2,h3,h4⟩:=xJ e;exact⟨j,h1,h,h2,h3,h4⟩
theorem jm{α:Type}{xs:List α}{j:Nat}{v:α}(h:xs[j]?=some v):dU xs (j:Int)=some v:=by
 have hj:j<xs.length:=(List.getElem?_eq_some_iff.mp h).1
 have e:ko xs.length (j:Int)=some j:=by
  unfold ko;rw[if_pos (by omega),if_pos (by omega)];simp
 unfold dU;rw[e];exact h
def tT(b:Expr):Prop:=∀o i,subscripted b false o i=operate [o,i] (getItem o i)
def Io(X:Cx)(r:R2):Prop:=
 ∀(value slice:Expr) (pins:List (Addr×Obj)) (s:Shared) (σ:St) (H:Hp) (x y:V) (v u:Value) (Q:VK),Inv X pins σ H s->RelV x v->RelV y u->r x y H Q->
  subscripted slice false v u=operate [v,u] (getItem v u)->wpAny (model X.prog X.w) X.A (subscriptTail value slice v u) (EP X pins σ Q) X.xe s
def L_(X:Cx)(id:String)(r:V->List V->Hp->VK->Prop):Prop:=
 ∀(pins:List (Addr×Obj)) (s:Shared) (σ:St) (H:Hp) (x:V) (xs:List V) (v:Value) (us:List Value) (Q:VK),Inv X pins σ H s->RelV x v->Vals xs us->r x xs H Q->
  wpAny (model X.prog X.w) X.A (call (.builtin id) (v::us)) (EP X pins σ Q) X.xe s
section
variable {X:Cx}{a b:Expr}{ta tb:TE}{pos:Pos}
theorem Oe{r:R2}(hr:Io X r)(ha:PE X a ta)(hb:PE X b tb)(hs:tT b):PE X (.Subscript a b pos) (Fo r ta tb):=by
 intro pins s σ H Q I h;exact Subscript_ (Gy ha hb I h fun v u s2 x y H2 I2 rx ry q=>hr a b pins s2 σ H2 x y v u Q I2 rx ry q (hs _ _))
def Qy(K:PySem.W.Frag):R2:=fun x y H Q=>∃p xs i v,x= .ref p/\y= .int i/\mO K H p xs/\dU xs i=some v/\Q v H
def QC(K:PySem.W.Frag):R2:=fun x y H Q=>∃p xs i v,x= .ref p/\y= .int i/\iZ K H p xs/\dU xs i=some v/\Q v H
theorem Ce:Io X (Qy X.K):=by
 intro value slice pins s σ H x y v u Q I rx ry h hs;obtain⟨p,xs,i,z,rfl,rfl,hq,he,q⟩:=h;cases rx;obtain⟨t,rfl⟩:=ry;obtain⟨aq,r,pl,hz⟩:=I.list hq;obtain⟨j,h1,h2,h3,h4,h5⟩:=xC he;obtain⟨w,ew,rw'⟩:=r.get h2;have hl:=r.length;have hn:=sU;have fin:EP X pins σ Q w s:=⟨z,H,I,rw',q⟩
 by_cases h0:0<=i
 . have hj:i.toNat=j:=by
    rw[seqIndex_of h0 h5]at h1;exact Option.some.inj h1
   exact item_listR pl.isList h0 (by omega) (by rw[hj];simpa using ew) fin hs
 . have hj:(i+(aq.toArray.size:Int)).toNat=j:=by
    rw[seqIndex_neg (by omega) h4]at h1;rw[List.size_toArray,<-hl];exact Option.some.inj h1
   exact subscriptTail_builtinR (x:=w) pl.isList.typeIs slot_list_getitem.lookup
    (wpAny_getItem_list_neg (Q:=fun r s'=>r=w/\EP X pins σ Q r s') pl.isList (by omega) (by rw[List.size_toArray]<;>omega) (by omega) (by rw[hj];simpa using ew) ⟨rfl,fin⟩) hs
theorem MA:Io X (QC X.K):=by
 intro value slice pins s σ H x y v u Q I rx ry h hs;obtain⟨p,xs,i,z,rfl,rfl,hq,he,q⟩:=h;cases rx;obtain⟨t,rfl⟩:=ry;obtain⟨aq,r,pl,hz⟩:=I.tuple hq;obtain⟨j,h1,h2,h3,h4,h5⟩:=xC he;obtain⟨w,ew,rw'⟩:=r.get h2;have hl:=r.length;have hn:=sU;have fin:EP X pins σ Q w s:=⟨z,H,I,rw',q⟩
 exact subscriptTail_builtinR (x:=w) pl.typeIs slot_tuple_getitem.lookup
  (getItem_tuple (j:=j) (Q:=fun r s'=>r=w/\EP X pins σ Q r s') pl (by omega) (by omega) (by rw[List.size_toArray,<-hl];exact h1) (by simpa using ew) ⟨rfl,fin⟩) hs
theorem Du(aq:List Value)(n j:Nat)(u:Value):Obj.mapSeq (·.setIfInBounds j u) {cls:= .type "list",data:= .seq aq.toArray n}= {cls:= .type "list",data:= .seq (aq.set j u).toArray n}:=by
 simp[Obj.mapSeq]
theorem Inv.lst{pins:List (Addr×Obj)}{σ:St}{H:Hp}{s:Shared}{p:Addr}{xs:List V}(I:Inv X pins σ H s)(h:H p=some (.lst xs)):
 ∃(aq:List Value) (n:Nat),Vals xs aq/\s.heap.get? p=some {cls:= .type "list",data:= .seq aq.toArray n}/\xs.length<=sizeLine:=by
 obtain⟨z,aq,n,r,e⟩:=I.aK p _ h;exact⟨aq,n,r,e,z⟩
theorem Inv.MO{pins:List (Addr×Obj)}{σ:St}{H:Hp}{s:Shared}{p:Addr}{xs ys:List V}{aq its':List Value}{n n':Nat}{f:Obj->Obj}(I:Inv X pins σ H s)(h:H p=some (.lst xs))
 (ho:s.heap.get? p=some {cls:= .type "list",data:= .seq aq.toArray n}) (hf:f {cls:= .type "list",data:= .seq aq.toArray n}= {cls:= .type "list",data:= .seq its'.toArray n'}) (r:Vals ys its') (hz:ys.length<=sizeLine) (t:Nat):
 Inv X pins σ (upd H p (.lst ys)) {s with heap:=s.heap.update p f,toks:=t}:=by
 have e:(s.heap.update p f).get? p=some {cls:= .type "list",data:= .seq its'.toArray n'}:=by
  rw[Heap.get?_update_self f ho (by rw[hf]<;>rfl),hf]
 refine I.write (x:=p) (e:=p) (by rw[h];trivial) (.inl rfl) (fun b u hb q=>(Heap.get?_update_other _ _ (Ne.symm hb)).trans q) ⟨_,e⟩ ?_;exact⟨hz,its',n',r,e⟩
def yI:V->V->V->Hp->(Hp->Prop)->Prop:=fun o i v H Q=>∃p xs k j,o= .ref p/\i= .int k/\H p=some (.lst xs)/\ko xs.length k=some j/\Q (upd H p (.lst (xs.set j v)))
theorem set_list:Lu X yI:=by
 intro pins s σ H o i v ov iv u Q I ro ri rv h;obtain⟨p,xs,k,j,rfl,rfl,hp,hj,q⟩:=h;cases ro;obtain⟨t,rfl⟩:=ri;obtain⟨aq,n,r,ho,hz⟩:=I.lst hp;obtain⟨h1,h2,h3,h4⟩:=xJ hj;have hl:=r.length;have hn:=sU
 have I':Inv X pins σ (upd H p (.lst (xs.set j v))) {s with heap:=s.heap.update p (Obj.mapSeq (·.setIfInBounds j u))}:=
  I.MO hp ho (Du aq n j u) (r.set rv j) (by rw[List.length_set];exact hz) s.toks
 by_cases h0:0<=k
 . have hk:k.toNat=j:=by
    rw[seqIndex_of h0 h4]at h1;exact Option.some.inj h1
   exact PySem.W.ki_setAt ho h0 (by omega) (by rw[List.size_toArray,<-hl];exact h4) (by rw[hk];exact⟨_,I',q⟩)
 . have hk:(k+(aq.toArray.size:Int)).toNat=j:=by
    rw[seqIndex_neg (by omega) h3]at h1;rw[List.size_toArray,<-hl];exact Option.some.inj h1
   exact PySem.W.ki_setBack ho (by omega) (by rw[List.size_toArray,<-hl];exact h3) (by omega) (by rw[hk];exact⟨_,I',q⟩)
theorem zg(lo hi:Option Int)(n:Nat):(sliceBounds lo hi none n).1=((HT.cu n 0 lo:Nat):Int)/\(sliceBounds lo hi none n).2.1=((HT.cu n n hi:Nat):Int)/\(sliceBounds lo hi none n).2.2=1:=by
 refine⟨?_,?_,rfl⟩
 . cases lo with
   |none=>simp[sliceBounds,HT.cu]
   |some i=>
    simp only[sliceBounds,HT.cu,Option.getD_none,show(1:Int)>0 by decide,if_true];by_cases h:i<0
    . simp only[h,if_true]<;>omega
    . simp only[h,if_false]<;>omega
 . cases hi with
   |none=>simp[sliceBounds,HT.cu]
   |some i=>
    simp only[sliceBounds,HT.cu,Option.getD_none,show(1:Int)>0 by decide,if_true];by_cases h:i<0
    . simp only[h,if_true]<;>omega
    . simp only[h,if_false]<;>omega
theorem yz(aq:List Value)(lo hi:Option Int):slicePick aq.toArray lo hi none=((aq.drop (HT.cu aq.length 0 lo)).take (HT.cu aq.length aq.length hi-HT.cu aq.length 0 lo)).toArray:=by
 obtain⟨h1,h2,h3⟩:=zg lo hi aq.toArray.size;unfold slicePick;rw[h1,h2,h3];simp only[sliceRange_one,pick_run,List.size_toArray]<;>rfl
def QB(K:PySem.W.Frag):V->Option Int->Option Int->Hp->VK->Prop:=fun x lo hi H Q=>∃a xs,x= .ref a/\mO K H a xs/\∀p,H p=none->Q (.ref p) (upd H p (.lst (qR xs lo hi)))
theorem BQ:EX X (QB X.K):=by
 intro pins s σ H x v vl vu lo hi sl Q I rx hs pl pu h;obtain⟨a,xs,rfl,hx,q⟩:=h;cases rx;obtain⟨aq,r,ht,hz⟩:=I.list hx;have hlen:=r.length;refine⟨"list",_,slot_list_getitem.lookup,ht.isList.typeIs,?_⟩;refine wpAny_getItem_list_slice ht.isList hs pl pu .none (by simp) ?_ (by rw[List.size_toArray]<;>omega);rw[yz,<-hlen];refine⟨.ref s.heap.objs.size,_,I.laid (t':=s.toks) (o:= .lst (qR xs lo hi)) (fun b ob q=>Heap.get?_push_of_some _ q) (Nat.le_refl _) ?_,rfl,q _ (I.aK.fresh (Nat.le_refl _))⟩;exact⟨Nat.le_trans (uM xs lo hi) hz,_,0,(r.drop (HT.cu xs.length 0 lo)).take (HT.cu xs.length xs.length hi-HT.cu xs.length 0 lo),Heap.get?_push_size _ rfl⟩
theorem zj:cj X (.builtin "len") (fun xs H Q=>∃p ys,xs=[.ref p]/\(mO X.K H p ys\/iZ X.K H p ys)/\Q (.int ys.length) H):=by
 intro pins s σ H xs us Q I r h;obtain⟨p,ys,rfl,hq,q⟩:=h;obtain⟨u,rfl,rx⟩:=vals1 r;cases rx;have hn:=sU;rcases hq with hq|hq
 . obtain⟨aq,r',pl,hz⟩:=I.list hq;have hlen:=r'.length;exact Calls.call_len_list pl.isList (by simp only[List.size_toArray]<;>omega) ⟨.int ys.length,H,I.tok _,⟨s.toks+1,by rw[List.size_toArray,hlen]⟩,q⟩
 . obtain⟨aq,r',pl,hz⟩:=I.tuple hq;have hlen:=r'.length;exact len_tuple pl (by simp only[List.size_toArray]<;>omega) ⟨.int ys.length,H,I.tok _,⟨s.toks+1,by rw[List.size_toArray,hlen]⟩,q⟩
theorem zi:cj X (.builtin "len") (fun xs H Q=>∃z,xs=[.str z]/\z.length<=sizeLine/\Q (.int z.length) H):=by
 intro pins s σ H xs us Q I r h;obtain⟨z,rfl,hz,q⟩:=h;obtain⟨u,rfl,t,rfl⟩:=vals1 r;have hn:=sU;exact len_str (by omega) ⟨.int z.length,H,I.tok _,⟨_,rfl⟩,q⟩
theorem sI:cj X (.type "list") (fun xs H Q=>∃p ys,xs=[.ref p]/\(mO X.K H p ys\/iZ X.K H p ys)/\∀l,H l=none->Q (.ref l) (upd H l (.lst ys))):=by
 intro pins s σ H xs us Q I r h;obtain⟨p,ys,rfl,hq,q⟩:=h;obtain⟨u,rfl,rx⟩:=vals1 r;cases rx
 have fin:∀(aq:List Value),Vals ys aq->ys.length<=sizeLine->∀(h':Heap) (c':Nat),(∀b o',s.heap.get? b=some o'->h'.get? b=some o')->
  h'.get? s.heap.objs.size=some {cls:= .type "list",dict:=none,data:= .seq aq.toArray c',slots:= #[]}->EP X pins σ Q (.ref s.heap.objs.size) {s with heap:=h'}:=fun aq r' hz h' c' kp e=>
  ⟨.ref s.heap.objs.size,_,I.laid (t':=s.toks) kp (Nat.le_refl _) (show dS X.prog X.w _ h' _ (.lst ys)from⟨hz,aq,c',r',e⟩),rfl,q _ (I.aK.fresh (Nat.le_refl _))⟩
 rcases hq with hq|hq
 . obtain⟨aq,r',pl,hz⟩:=I.list hq;have hlen:=r'.length;obtain⟨o,ho,hc,n,hd⟩:=pl.isList;exact call_list_seq p (.inl rfl) ho hc hd (fun h' c' kp e=>fin aq r' hz h' c' kp e) (by simp only[List.size_toArray]<;>omega)
 . obtain⟨aq,r',pl,hz⟩:=I.tuple hq;have hlen:=r'.length;obtain⟨o,ho,hc,n,hd⟩:=pl;exact call_list_seq p (.inr rfl) ho hc hd (fun h' c' kp e=>fin aq r' hz h' c' kp e) (by simp only[List.size_toArray]<;>omega)
theorem yD:cj X (.type "tuple") (fun xs H Q=>∃p ys,xs=[.ref p]/\((mO X.K H p ys/\∀l,H l=none->Q (.ref l) (upd H l (.tup ys)))\/(iZ X.K H p ys/\Q (.ref p) H))):=by
 intro pins s σ H xs us Q I r h;obtain⟨p,ys,rfl,h⟩:=h;obtain⟨u,rfl,rx⟩:=vals1 r;cases rx;rcases h with⟨hq,q⟩|⟨hq,q⟩
 . obtain⟨aq,r',pl,hz⟩:=I.list hq;have hlen:=r'.length;refine call_tuple_list pl.isList (fun h' kp=>?_) (by simp only[List.size_toArray]<;>omega);have I1:Inv X pins σ H {s with heap:=h'}:=I.kept (t':=s.toks) kp
   have I2:Inv X pins σ (upd H h'.objs.size (.tup ys)) {s with heap:=h'.push {cls:= .type "tuple",data:= .seq aq.toArray}}:=
    I1.laid (t':=s.toks) (fun b o e=>Heap.get?_push_of_some _ e) (Nat.le_refl _) (show dS X.prog X.w _ _ _ (.tup ys)from⟨hz,aq,r',IsTup.new _ _⟩)
   exact⟨.ref h'.objs.size,_,I2,rfl,q _ (I1.aK.fresh (Nat.le_refl _))⟩
 . obtain⟨aq,r',pl,hz⟩:=I.tuple hq;exact call_tuple_same pl ⟨.ref p,H,I,rfl,q⟩
def Pn(K:PySem.W.Frag)(T:String)(x:V)(H:Hp):Prop:=match x with
 | .str _=>T="str"
 | .int _=>T="int"
 | .ref p=>(T="list"/\∃xs,mO K H p xs)\/(T="tuple"/\∃o,K.lookup p=some o/\o.cls= .type "tuple"/\o.dict=none)\/
    (T="dict"/\((∃kvs,H p=some (.dK kvs))\/∃kvs,H p=some (.dT kvs)))\/(T="set"/\∃S n,H p=some (.set S n))
 |_=>False
theorem MV{pins:List (Addr×Obj)}{σ:St}{H:Hp}{s:Shared}{T:String}{x:V}{v:Value}(I:Inv X pins σ H s)(r:RelV x v)(ty:Pn X.K T x H):
 s.TypeIs v T/\∀a,v= .ref a->∃ob,s.heap.get? a=some ob/\ob.dict=none:=by
 cases x with
 |str z=>
  obtain⟨t,rfl⟩:=r;cases (show T="str" from ty);exact⟨typeIs_str s z t,fun _ e=>nomatch e⟩
 |int i=>
  obtain⟨t,rfl⟩:=r;cases (show T="int" from ty);exact⟨typeIs_int s i t,fun _ e=>nomatch e⟩
 |ref p=>
  cases r;rcases ty with⟨rfl,xs,hq⟩|⟨rfl,o,hk,hc,hd⟩|⟨rfl,hk⟩|⟨rfl,S,n,hk⟩
  . obtain⟨aq,_,pl,_⟩:=I.list hq;refine⟨pl.isList.typeIs,fun a e=>?_⟩;cases e;obtain⟨o,n,e,c,hd,_⟩:=pl;exact⟨o,e,hd⟩
  . refine⟨⟨o,I.g_ p o hk,hc⟩,fun a e=>?_⟩;cases e;exact⟨o,I.g_ _ o hk,hd⟩
  . have z:∃o,s.heap.get? p=some o/\o.ExactDict:=by
     rcases hk with⟨kvs,hk⟩|⟨kvs,hk⟩
     . obtain⟨_,_,_,_,o,_,_,e,ex,_⟩:=I.aK p _ hk;exact⟨o,e,ex⟩
     . obtain⟨_,_,_,_,o,_,_,e,ex,_⟩:=I.aK p _ hk;exact⟨o,e,ex⟩
    obtain⟨o,e,ex⟩:=z;refine⟨⟨o,e,ex.1⟩,fun a e2=>?_⟩;cases e2;exact⟨o,e,ex.2.1⟩
  . obtain⟨o,_,_,_,e,ex,_⟩:=I.aK p _ hk;refine⟨⟨o,e,ex.1⟩,fun a e2=>?_⟩;cases e2;exact⟨o,e,ex.2.1⟩
 |_=>exact False.elim ty
def Lz(K:PySem.W.Frag)(T:String)(r:V->List V->Hp->VK->Prop)(to:TE)(t:TA):TE:=fun σ H Q=>to σ H fun x H1=>Pn K T x H1/\t σ H1 fun xs H2=>r x xs H2 Q
variable {o e:Expr}{es:List Expr}{to:TE}{t:TA}{name:Str}{apos cpos:Pos}{T id:String}{r:V->List V->Hp->VK->Prop}
theorem HL(pa:PlainAttrs T)(slot:Slot T name id)(hty:typeOf (.builtin id)=pure (.type "method_descriptor"))(hm:L_ X id r)(ho:PE X o to)(ha:PA X (e::es) t)
 (hbase:attributeBase o name X.env (eval o X.env)=eval o X.env:=by rfl)
 (hfew:((backTo cpos (starEach (e::es) X.env)).all (fun x=> !x.1)&&(backToKw cpos (keywordEach [] X.env)).all (fun x=>x.1.isSome)
   &&decide ((e::es).length+([]:List Keyword).length+(if([]:List Keyword).isEmpty then 0 else 1)<30))=true:=by rfl)
 (hline:(apos.endLine==cpos.line)=true:=by rfl) (hs:starEach (e::es) X.env=(false,eval e X.env)::starEach es X.env:=by rfl) (hplain:(backTo cpos (starEach es X.env)).any (·.1)=false:=by rfl):
 PE X (.Call (.Attribute o name apos) (e::es) [] cpos) (Lz X.K T r to t):=by
 intro pins s σ H Q I h;refine wpAny_Call_method_late hbase hfew hline rfl (cz (ho pins s σ H _ I h) fun v s1 ⟨x,H1,I1,r1,ty,q1⟩=>?_);obtain⟨h1,h2⟩:=MV I1 r1 ty;refine⟨T,id,pa,slot,hty,h1,h2,?_⟩;have hA:=ha cpos pins s1 σ H1 _ I1 q1;rw[hs]at hA⊢;refine Calls.callWith_builtin (by show(false||(backTo cpos (starEach es X.env)).any (·.1))=false;rw[hplain]<;>rfl) (Calls.evalArgs_plain ?_);exact cz hA fun us s2 ⟨vs,H2,I2,r2,q2⟩=>hm pins s2 σ H2 x vs v us Q I2 r1 r2 q2
/-xs.append(e),list.index on a module's tuple .. are L_ facts of 06m-/
end
def Nl(X:Cx)(id:String)(r:V->List V->Hp->VK->Prop):Prop:=
 ∀(pins:List (Addr×Obj)) (s:Shared) (σ:St) (H:Hp) (x:V) (xs:List V) (v:Value) (us:List Value) (Q:VK),Inv X pins σ H s->RelV x v->Vals xs us->r x xs H Q->
  wpAny (model X.prog X.w) X.A (call (.builtin id) (v::us)) (EP X pins σ Q) X.xe s
theorem Vals.one:∀ {x:V} {us:List Value},Vals [x] us->∃u,us=[u]/\RelV x u
 |_,_,.cons r .nil=>⟨_,rfl,r⟩
theorem Vals.eraseIdx:∀ {xs:List V} {us:List Value} (i:Nat),Vals xs us->Vals (xs.eraseIdx i) (us.eraseIdx i)
 |_,_,_,.nil=> .nil
 |_,_,0,.cons _ t=>t
 |_,_,i+1,.cons r t=> .cons r (Vals.eraseIdx i t)
theorem Vals.rep{xs:List V}{us:List Value}(h:Vals xs us):∀k:Nat,Vals (List.replicate k xs).flatten (List.replicate k us).flatten
 |0=> .nil
 |k+1=>by
  rw[List.replicate_succ,List.replicate_succ,List.flatten_cons,List.flatten_cons];exact Vals.append h (Vals.rep h k)
theorem x6{α:Type}:∀(l:List α) (i:Nat),(l.eraseIdx i).length<=l.length
 | [],_=>Nat.le_refl _
 |_::_,0=>Nat.le_succ _
 |_::r,i+1=>Nat.succ_le_succ (x6 r i)
theorem foldl_rep(aq:List Value):∀(k:Nat) (acc:List Value),
 List.foldl (fun x1 x2=>x1++x2) acc.toArray (List.replicate k aq.toArray)=(acc++(List.replicate k aq).flatten).toArray
 |0,acc=>by simp
 |k+1,acc=>by
  have e:acc.toArray++aq.toArray=(acc++aq).toArray:=by simp
  have e2:(acc++aq)++(List.replicate k aq).flatten=acc++(List.replicate (k+1) aq).flatten:=by
   rw[List.replicate_succ,List.flatten_cons,List.append_assoc]
  rw[<-e2,<-foldl_rep aq k (acc++aq),<-e,List.replicate_succ,List.foldl_cons]
section
variable {X:Cx}{pins:List (Addr×Obj)}{σ:St}{H:Hp}{s:Shared}{l b:Addr}{xs ys zs:List V}
theorem Inv.HA{aq its':List Value}{n:Nat}{f:Array Value->Array Value}{t':Nat}(I:Inv X pins σ H s)(hH:H l=some (.lst xs))
 (e:s.heap.get? l=some {cls:= .type "list",data:= .seq aq.toArray n}) (hf:f aq.toArray=its'.toArray) (hv:Vals ys its') (hz:ys.length<=sizeLine):
 Inv X pins σ (upd H l (.lst ys)) {s with heap:=s.heap.update l (Obj.mapSeq f),toks:=t'}:=by
 have q:=PySem.IsL.update e f;rw[hf]at q;refine I.write (x:=l) (e:=l) (by rw[hH];exact trivial) (.inl rfl) (fun b' u hb hu=>(Heap.get?_update_other s.heap (Obj.mapSeq f) (Ne.symm hb)).trans hu) ⟨_,q⟩ ?_;exact⟨hz,its',_,hv,q⟩
theorem Inv.Gx{aq:List Value}{t':Nat}(I:Inv X pins σ H s)(hv:Vals ys aq)(hz:ys.length<=sizeLine):
 Inv X pins σ (upd H s.heap.objs.size (.lst ys)) {s with heap:=s.heap.push {cls:= .type "list",data:= .seq aq.toArray},toks:=t'}:=
 I.laid (fun _ _ q=>Heap.get?_push_of_some _ q) (Nat.le_refl _) ⟨hz,aq,0,hv,Heap.get?_push_size _ rfl⟩
theorem Inv.fresh(I:Inv X pins σ H s):H s.heap.objs.size=none:=I.aK.fresh (Nat.le_refl _)
theorem Inv.Gq(I:Inv X pins σ H s)(hH:H l=some (.lst xs)):xs.length<=sizeLine/\∃(aq:List Value) (n:Nat),Vals xs aq/\xs.length=aq.length/\s.heap.get? l=some {cls:= .type "list",data:= .seq aq.toArray n}:=by
 obtain⟨z,aq,n,r,e⟩:=I.aK l _ hH;exact⟨z,aq,n,r,r.length,e⟩
theorem Hm{n:Nat}(h:n<=sizeLine):Builtin.List.listTooLong n=false:=by
 unfold Builtin.List.listTooLong;exact decide_eq_false (by omega)
end
section
variable {X:Cx}
def BX:V->List V->Hp->VK->Prop:=fun x vs H Q=>∃l xs y,x= .ref l/\vs=[y]/\H l=some (.lst xs)/\xs.length<sizeLine/\Q .aE (upd H l (.lst (xs++[y])))
theorem yd:Nl X "list.append" BX:=by
 intro pins s σ H x vs v us Q I rx rv h;obtain⟨l,xs,y,rfl,rfl,hH,hz,q⟩:=h;cases rx;obtain⟨u,rfl,ru⟩:=rv.one;obtain⟨z,aq,n,r,hl,e⟩:=I.Gq hH;refine call_meets F.slot_list_append ⟨_,e,rfl⟩ F.entry_list_append (F.args_list_append_2 _ _) (PySem.list_append l aq.toArray n u (by rw[List.size_toArray];omega)) ⟨e,?_⟩;refine⟨.aE,_,I.HA (its':=aq++[u]) hH e (by simp) (r.append (.cons ru .nil)) ?_,rfl,q⟩;rw[List.length_append,List.length_singleton];omega
def D5:V->List V->Hp->VK->Prop:=fun x vs H Q=>∃l xs i k y,x= .ref l/\vs=[.int i]/\H l=some (.lst xs)/\ -(2^63)<=i/\i<2^63/\seqIndex? i xs.length=some k/\xs[k]?=some y/\Q y (upd H l (.lst (xs.eraseIdx k)))
theorem G_:Nl X "list.pop" D5:=by
 intro pins s σ H x vs v us Q I rx rv h;obtain⟨l,xs,i,k,y,rfl,rfl,hH,h1,h2,hk,hy,q⟩:=h;cases rx;obtain⟨u,rfl,ru⟩:=rv.one;obtain⟨t,rfl⟩:=ru;obtain⟨z,aq,n,r,hl,e⟩:=I.Gq hH;obtain⟨w,hw,rw'⟩:=r.get hy
 refine call_meets F.slot_list_pop ⟨_,e,rfl⟩ F.entry_list_pop (F.args_list_pop_2 _ _)
  (MeetsSeq.list_pop_at l aq.toArray n i t k w (fitsIndex_both h1 h2) (by rw[List.size_toArray,<-hl];exact hk) (by rw[<-Array.getElem?_toList];exact hw) (by rw[List.size_toArray];omega)) ⟨e,?_⟩
 refine⟨y,_,I.HA (its':=aq.eraseIdx k) hH e ?_ (r.eraseIdx k) ?_,rw',q⟩
 . show aq.toArray.eraseIdxIfInBounds k=(aq.eraseIdx k).toArray;rw[List.eraseIdxIfInBounds_toArray]
 . have:=x6 xs k;omega
theorem len_rep{α:Type}(xs:List α)(k:Nat):(List.replicate k xs).flatten.length=k*xs.length:=by
 induction k with
 |zero=>simp
 |succ k ih=>rw[List.replicate_succ,List.flatten_cons,List.length_append,ih,Nat.succ_mul,Nat.add_comm]
end
section
variable {prog:Program}{w:World}{A:Around}{E:Value->Shared->Prop}{s:Shared}
set_option maxRecDepth 100000 in
end
section
variable {X:Cx}
end
end L2
namespace Att
open PySem PySem.W PySem.Calls PyProof.Rows
theorem wL{P:Params}{h:Heap}:∀(ns:List Int) (vs:List Value),WellAll P h vs (ns.map WData.int)->IntsAre vs ns:=by
 intro ns;induction ns with
 |nil=>
  intro vs w;rw[List.map_nil]at w;cases w;exact .nil
 |cons n ns ih=>
  intro vs w;rw[List.map_cons]at w;cases w with
  |cons a b=>
   cases a;exact .cons _ _ (ih _ b)
theorem Ej{l:OpenLaw}{n:Nat}(hn:l.most=some n){P:Params}{h:Heap}{args:List WData}{vals:List Value}
 (hpre:l.row.toRowW.claim.pre args=true) (hwl:WellAll P h vals args):
 ∃a vs ns,vals=[Value.ref a]/\args=[WData.list (ns.map WData.int)]/\h.get? a=some {cls:= .type "list",data:= .seq vs.toArray}/\IntsAre vs ns/\ns.length<=n:=by
 have hsh:WShape.hasAll [] args [.list .int]=true:=(pre_splitW hpre).1;have hc:l.pre.holds [] {args:=args}=true:=(pre_splitW hpre).2;obtain⟨d,r,rfl,h1,h2⟩:=hasAllW_cons hsh;obtain rfl:=hasAllW_nil h2;obtain⟨xs,rfl,h3⟩:=hasW_list h1;obtain⟨ns,rfl⟩:=items_int h3
 have hlen:ns.length<=n:=by
  unfold OpenLaw.pre at hc
  have h4:(WTm.not (.lt (.lit (.int (n:Int))) (.len (.arg 0)))).holds [] {args:=[.list (ns.map .int)]}=true:=by
   have h4:=(holds_andW hc).1;rw[hn]at h4;exact h4
  have h5:=condW_of h4 (w_not (w_lt w_lit (w_len_list (w_arg rfl))));rw[List.length_map]at h5;refine Nat.le_of_not_lt fun q=>?_;have q':(n:Int)<((ns.length:Nat):Int):=by omega
  first
   |(rw[decide_eq_true q']at h5;exact absurd h5 (by decide))
   |(simp at h5;omega)
 cases hwl with
 |cons w1 w2=>
  cases w2;cases w1 with
  |list ho hall=>exact⟨_,_,ns,rfl,rfl,ho,wL ns _ hall,hlen⟩
theorem F8(l:OpenLaw)(args:List WData):l.row.toRowW.claim.post args (.bool true) args=true:=
 postW_of (r:=l.row.toRowW) (X:=(true==true))
  (show WShape.has [] (.bool true) .bool=true by first|rfl|decide|simp[WShape.has,WShape.arms,WShape.armsAll])
  (show(WTm.eq .res (.lit (.bool true))).value [] {args:=args,res:=some (.bool true),after:=args}=some (.bool (true==true))from w_eq_bool (w_res rfl) w_lit) rfl
theorem Bs{l:OpenLaw}{n:Nat}{q:Program}{loose:List Str}{XP:(Str->Option Value)->Heap->Prop}{YP:World->Heap->Prop}{d:DefRec}
 (hn:l.most=some n) (hdf:d.params.defaults=[])
 (call:∀(w:World) (s₀ s₁:Shared) (mg mb:Str->Option Value) (fa:Addr) (o:Obj) (pm cd doc:Value) (a:Addr) (vs:List Value) (ns:List Int),
   Ground q loose [] XP w s₀ mg mb s₁.heap->YP w s₁.heap->
   s₁.heap.get? fa=some o->o.data= .func (docDef d.name d.params d.body d.scope pm cd doc)->s₁.heap.CodeRec cd d.name->mg d.name=some (.ref fa)->
   s₁.heap.get? a=some {cls:= .type "list",data:= .seq vs.toArray}->IntsAre vs ns->ns.length<=n->s₁.gens= #[]->
   codeAny (model l.prog w) callerA (.call (.ref fa) ⟨[.ref a],[]⟩) (fun r s'=>r= .ok (.ret (.bool true))/\OldK s₁.heap s'.heap/\s'.os=s₁.os/\AllBare s'.gens) s₁):
 WalkO q loose XP YP l.row.toRowW d [] (fun f vs=>PySem.call f vs):=by
 intro w s₀ s₁ mg mb G Y fa o pm cd doc dV kV ho hd hcd hD hmg hg args vals as hpre hlay hrd hwl hlo;obtain rfl:dV= .none:=Dflts.none hD hdf;obtain rfl:kV= .none:=Dflts.noKw hD;obtain⟨a,vs,ns,rfl,rfl,hobj,hints,hlen⟩:=Ej hn hpre hwl;refine enter_call (codeAny_mono (call w s₀ s₁ mg mb fa o pm cd doc a vs ns G Y ho (fd_plain hd) hcd hmg hobj hints hlen hg) fun r s' hq=>?_);obtain⟨rfl,h2,h3,h4⟩:=hq;exact⟨.inl ⟨.bool true,.bool true,[],rfl,fun _=>rfl,.bool true,F8 l _,fun _=>⟨List.Pairwise.nil,fun _ hm=>(nomatch hm)⟩⟩,h2,h3,h4⟩
section
variable {prog:Program}{w:World}{A:Around}{E:Value->Shared->Prop}{s:Shared}{K:Frag}
end
end Att
namespace L2
open PySem PySem.Spec PyProof.Rows
theorem mX:∀ {vs:List Value} {ns:List Int},IntsAre vs ns->Vals (ns.map V.int) vs
 |_,_,.nil=> .nil
 |_,_,.cons n t h=> .cons ⟨t,rfl⟩ (mX h)
end L2
/-THE LAST THEOREM (shape;LID,My.*are yours):
 My.Adr:a structure of the addresses that your layer names (classes,functions);My.Txt K t:a structure (Prop) of the equations over K;
 My.txt_mk:{K} {implicit addresses ..} (e1:nsIn K mainGlobals "law"=some (some (.ref f))) (e2:K.lookup f=some ⟨oc,od,.func (fnOf "law" "law" params body scope dV kV doc pm an cdv ct),sl⟩) (e3:codeIn K cdv "law"=true) .. :∃t,My.Txt K t
set_option maxRecDepth 100000 in
set_option maxHeartbeats 0 in
(the tactic k_is has no namespace:write k_is)-/
namespace L2
open PySem PySem.Spec PyProof.Rows
def inClass(s:Stmt)(j:Nat):Stmt:=match s with
 | .ClassDef _ _ _ body _ _ _ _ _ _ _=>body.getD j (.Pass ⟨0,0,0,0⟩)
 |_=> .Pass ⟨0,0,0,0⟩
def kl(s:Stmt):Arguments:=match s with
 | .FunctionDef _ a _ _ _ _ _ _ _ _=>a
 |_=>{posonlyargs:=[],args:=[],vararg:=none,kwonlyargs:=[],kw_defaults:=[],kwarg:=none,defaults:=[]}
def gZ(s:Stmt):List Stmt:=match s with
 | .FunctionDef _ _ b _ _ _ _ _ _ _=>b
 |_=>[]
def aj(s:Stmt):Scope:=match s with
 | .FunctionDef _ _ _ _ _ _ sc _ _ _=>sc
 |_=>{kind:= .function,names:=[],isGenerator:=false,isCoroutine:=false}
abbrev cD:uC:=fun _ _ _ _ _ _=>False
abbrev E0:XK:=fun _ _ _=>False
theorem C2{X:Cx}:Passes cD X E0:=fun _ _ _ _ _ _ _ h=>h.elim
structure ou(K:PySem.W.Frag)(x qual:Str)(st:Stmt)(f:Addr)(fd:FuncData):Prop where
 ex:∃(oc:Value) (od:Option Addr) (kV doc pm:Value) (an:Option Addr) (cdv ct:Value) (osl:Array (Option Value)),
  fd=PySem.W.fnOf x qual (kl st) (gZ st) (aj st) .none kV doc pm an cdv ct/\K.lookup f=some ⟨oc,od,.func fd,osl⟩/\PySem.W.codeIn K cdv qual=true
 kp:PySem.W.keepIn K (.ref f)=true
section
variable {P:Program}{w:World}{K:PySem.W.Frag}{mg:Str->Option Value}{base:Heap}
theorem ou.ok{x qual:Str}{st:Stmt}{f:Addr}{fd:FuncData}{N ps:List Str}{k:Nat}{sp:Sp}(F:ou K x qual st f fd)(S:aN N ps (aj st))(len:∀vs H Q E,sp vs H Q E->vs.length=ps.length)
 (hbody:∀(cdv:Value) (A:Around) (outer:List Env) (s:Shared) (H:Hp) (vs:List V) (Q:VK) (E:XK),c8 k (A.deeper (envOfC qual (aj st) s.heap.objs.size f cdv))->sp vs H Q E->
   ∃t,g8 (qT cD P w K mg base N qual (aj st) f cdv A outer s H E).wI (gZ st) t/\t {nx:=fun _ H'=>Q .aE H',rt:=Q} (start N vs) H):bf P w K mg base cD (k+1) f fd ps sp:=by
 obtain⟨oc,od,kV,doc,pm,an,cdv,ct,osl,rfl,lk,hcd⟩:=F.ex;refine HS lk hcd S len fun A outer s H vs Q E hr hsp=>?_;obtain⟨t,h,q⟩:=hbody cdv A outer s H vs Q E hr hsp;exact⟨t,h.wI,q⟩
theorem ou.binds{x qual:Str}{st:Stmt}{f:Addr}{fd:FuncData}{ps:List Str}(F:ou K x qual st f fd)
 (h:∀(kV doc pm:Value) (an:Option Addr) (cdv ct:Value) (us:List Value),us.length=ps.length->bindArgs (PySem.W.fnOf x qual (kl st) (gZ st) (aj st) .none kV doc pm an cdv ct) ⟨us,[]⟩=pure (ps.zip us)):Binds K fd ps []:=by
 obtain⟨oc,od,kV,doc,pm,an,cdv,ct,osl,rfl,lk,hcd⟩:=F.ex;exact .all (h kV doc pm an cdv ct)
theorem E3{x qual:Str}{st:Stmt}{f:Addr}{oc:Value}{od an:Option Addr}{osl:Array (Option Value)}{kV doc pm cdv ct:Value}(l:K.lookup f=some ⟨oc,od,.func (PySem.W.fnOf x qual (kl st) (gZ st) (aj st) .none kV doc pm an cdv ct),osl⟩)
 (c:PySem.W.codeIn K cdv qual=true) (k:PySem.W.keepIn K (.ref f)=true):ou K x qual st f (PySem.W.fnOf x qual (kl st) (gZ st) (aj st) .none kV doc pm an cdv ct):=⟨⟨oc,od,kV,doc,pm,an,cdv,ct,osl,rfl,l,c⟩,k⟩
end
section
variable {X:Cx}
end
theorem ML{A B:Prop}(h:B):if false=true then A else B:=by
 rw[if_neg Bool.false_ne_true];exact h
theorem cm{A B:Prop}(h:A):if true=true then A else B:=by
 rw[if_pos rfl];exact h
def Hy(H H':Hp):Prop:=∀b o,H b=some o->H' b=some o
end L2
set_option maxHeartbeats 4000000
namespace Hd
open PySem PySem.W PySem.Calls PyProof.Rows
noncomputable def bt (P:Params):BT:=(.node (boot_o_0 P) (.node (boot_o_1 P) (.node (boot_o_3 P) (.node (boot_o_7 P) .nil .nil) .nil) (.node (boot_o_5 P) (.node (boot_o_9 P) .nil .nil) .nil)) (.node (boot_o_2 P) (.node (boot_o_4 P) (.node (boot_o_8 P) .nil .nil) .nil) (.node (boot_o_6 P) (.node (boot_o_10 P) .nil .nil) .nil)))
theorem Li(P:Params):absHeap (bt P) 11 (boot_heap P).life=boot_heap P:=by kernel_rfl
noncomputable def run (p:Program) (w:World) (n:Nat) (ann:Option Value):Nat->SharedT->Thread->Option SharedT
 |0,_,_=>none
 |k+1,s,t=>match through t with
  |true=>some s
  |false=>match Fast.tw6613529449190102663 n ann t with
   |false=>none
   |true=>match Fast.tw10156331382660048174 (Fast.tw11892475500146522536 Fast.tw14364793385576792824) p w s t with
    |some (s',t')=>run p w n ann k s' t'
    |none=>none
theorem FC{p:Program}{w:World}{n:Nat}{ann:Option Value}:∀ {k:Nat} {s s':SharedT} {t:Thread},run p w n ann k s t=some s'->topRun treeTable p w n ann k s.abs t=some s'.abs
 |0,_,_,_,h=>by cases h
 |k+1,s,s',t,h=>by
  unfold run at h;unfold topRun;cases he:through t with
  |true=>rw[he]at h;cases h;rfl
  |false=>
   rw[he]at h;rw[<-Fast.te6613529449190102663,<-Fast.te10156331382660048174,<-Fast.te11892475500146522536,<-Fast.te14364793385576792824]at h;cases hk:stepOk n ann t with
   |false=>simp only[hk]at h;cases h
   |true=>
    simp only[hk]at h;cases hs:stepT (denote treeTable) p w s t with
    |none=>rw[hs]at h;cases h
    |some r=>obtain⟨s2,t2⟩:=r;rw[hs]at h;rw[stepT_spec hs];exact FC h
noncomputable def b0 (w:World) (os:OsState):SharedT:=⟨bt w.params,11,(boot_heap w.params).life,⟨[]⟩,boot_drawn,boot_toks,os⟩
theorem L6(w:World)(os:OsState):(b0 w os).abs=⟨boot_heap w.params,⟨[]⟩,boot_drawn,boot_toks,os⟩:=by
 unfold b0 SharedT.abs;dsimp only;rw[Li]
theorem left{p q:Program}{loose:List Str}{α:Type}{Yf:Shared->α}{Ya:World->α}{N:Nat}
 (e:opening p=plainProg p.main.scope.names) (f:∀s,fenceModules? p s=some s) (hN:Nat.ble 600 N=true)
 (h:∀(w:World) (os:OsState),(run p w 11 (some (.ref 6)) N (b0 w os) (topStub p)).bind (fun s=>match staticsOk (importedModules p.main.body) (boot_heap w.params) s.abs.heap&&namesBound p s.abs.heap&&gensDone s.abs&&laidKept (boot_heap w.params) s.abs.heap with
   |true=>some (Fast.tw4187177175401517315 q loose (importedModules p.main.body) (fun _=>true) true s.abs,Yf s.abs)
   |false=>none)=some (openGood q loose,Ya w)):LeftO p q loose (fun _=>true) Yf Ya N:=fun w=>by
 obtain⟨⟨hp,gs,d,k,os⟩,e1,e2⟩:=Option.map_eq_some_iff.mp (boot_open e hN f w);obtain⟨rfl,rfl,rfl,rfl⟩:hp=boot_heap w.params/\gs=⟨[]⟩/\d=boot_drawn/\k=boot_toks:=by simpa using e2
 obtain⟨s,r1,r2⟩:=Option.bind_eq_some_iff.mp (h w os);have r3:=FC r1;rw[L6]at r3;rw[<-Fast.te4187177175401517315]at r2;unfold openEnds;rw[e1];show(topFrom treeTable p w N _).map _=_;unfold topFrom;rw[show((boot_heap w.params).isNs mainGlobals&&(⟨[]⟩:Array GenState).size==0)=true from by kernel_rfl];dsimp only;rw[show(boot_heap w.params).objs.size=11 from by kernel_rfl,show(boot_heap w.params).nsMap mainGlobals "__annotations__"=some (.ref 6)from by kernel_rfl,r3];show((match staticsOk (importedModules p.main.body) (boot_heap w.params) s.abs.heap&&namesBound p s.abs.heap&&gensDone s.abs&&laidKept (boot_heap w.params) s.abs.heap with|true=>some s.abs|false=>none):Option Shared).map _=_;cases z:(staticsOk (importedModules p.main.body) (boot_heap w.params) s.abs.heap&&namesBound p s.abs.heap&&gensDone s.abs&&laidKept (boot_heap w.params) s.abs.heap)with
 |false=>rw[z]at r2;cases r2
 |true=>rw[z]at r2;exact r2
abbrev e(x:Str)(t:Nat)(v:Value):Str×Nat×Value:=(x,t,v)
abbrev k(a:Addr)(o:Obj):Addr×Obj:=(a,o)
def no(P:Params)(n:Nat)(l:List (Str×Nat×Value)):Obj:=⟨.type "dict",none,.dict (l.map fun e=>⟨PyData.keyHash P e.1,.str e.1 e.2.1,e.2.2⟩).toArray n,#[]⟩
def fd(st:Stmt)(x q:Str)(pm:Value)(c:Addr):FuncData:=fnOf x q (L2.kl st) (L2.gZ st) (L2.aj st) .none .none .none pm none (.ref c) .none
def fq(st:Stmt)(x q:Str)(pm:Value)(c:Addr):Obj:=⟨.type "function",none,.func (fd st x q pm c),#[]⟩
def co(x q:Str)(t:Nat)(line argc:Int)(a b:Addr)(u v:Value)(d:Addr)(i:Int)(z:Nat):Obj:=⟨.type "code",none,.fields #[.str x t,.str q (t+1),.str "/claim/cut.py" (t+2),.int line 0,.int argc 0,.int 0 0,.int 0 0,.int 3 0,.ref a,.bool true,.int 181 0,.ref b,.none,u,v,.ref d,.int i 0,.int line 0,.str "/claim/cut.py" z],#[]⟩
end Hd
namespace Row
open PySem L2
open PySem.Spec hiding items?
open PyProof.Rows hiding St
def top(i:Nat):Stmt:=PySem.Challenge.pw_latticeworks_k17_inside_shown.main.body.getD i (.Pass ⟨0,0,0,0⟩)
abbrev PW:Program:=PySem.Challenge.pw_latticeworks_k17_inside_shown
abbrev iy:Stmt:=top 1
abbrev ix:Stmt:=top 2
abbrev fP:Stmt:=top 3
abbrev fA:Stmt:=top 4
abbrev l_:Stmt:=top 6
abbrev qC:Stmt:=top 7
abbrev p_:Stmt:=top 8
abbrev og:Stmt:=top 9
abbrev oj:Stmt:=top 10
abbrev qh:Stmt:=top 11
abbrev oi:Stmt:=top 12
abbrev ky:Stmt:=top 13
abbrev i9:Stmt:=top 15
abbrev mf:Stmt:=top 16
abbrev lX:Stmt:=top 17
abbrev j8:Stmt:=top 18
abbrev fx:Stmt:=top 19
abbrev ia:Stmt:=top 20
abbrev gD:Stmt:=top 21
abbrev kB:Stmt:=top 23
abbrev eA:Stmt:=top 24
abbrev iA:Stmt:=top 25
abbrev i_:Stmt:=top 26
abbrev df:Stmt:=inClass (top 27) 0
abbrev g0:Stmt:=inClass (top 27) 1
abbrev e9:Stmt:=inClass (top 27) 2
abbrev d4:Stmt:=inClass (top 27) 3
abbrev dw:Stmt:=inClass (top 27) 4
abbrev fN:Stmt:=inClass (top 27) 5
abbrev dZ:Stmt:=inClass (top 27) 6
abbrev jo:Stmt:=top 28
abbrev kg:Stmt:=top 29
abbrev iE:Stmt:=top 31
abbrev iF:Stmt:=top 32
abbrev fm:Stmt:=top 33
abbrev ma:Stmt:=top 34
abbrev gv:Stmt:=top 35
abbrev jA:Stmt:=top 36
abbrev fT:Stmt:=top 37
abbrev fM:Stmt:=top 38
abbrev fQ:Stmt:=top 39
abbrev ig:Stmt:=top 41
abbrev js:Stmt:=top 42
abbrev gY:Stmt:=top 43
abbrev fI:Stmt:=top 44
abbrev iG:Stmt:=top 45
abbrev ft:Stmt:=top 46
abbrev d8:Stmt:=top 47
abbrev fw:Stmt:=top 48
abbrev iw:Stmt:=top 49
abbrev fb:Stmt:=top 50
abbrev g7:Stmt:=top 51
abbrev kr:Stmt:=top 52
abbrev fh:Stmt:=top 53
abbrev gw:Stmt:=top 54
abbrev nF:Stmt:=top 55
def rR:Value:=(.str "latticeworks.kinds" 187)
def iR:Value:=(.str "latticeworks.fractions" 217)
def jM:Value:=(.str "latticeworks.rows" 285)
def eJ:Value:=(.str "latticeworks.standing" 335)
def gQ:Value:=(.str "latticeworks.inside" 478)
def dO:Value:=(.str "law_latticeworks_k17_inside_shown" 562)
def KX(P:Params):PySem.W.Frag:=[Hd.k 3 (Hd.no P 59 [Hd.e "__name__" 165 (.str "law_latticeworks_k17_inside_shown" 562),Hd.e "__doc__" 166 .none,Hd.e "__package__" 167 .none,Hd.e "__loader__" 168 (.builtin "__main__.__loader__#opaque"),Hd.e "__spec__" 169 .none,Hd.e "__annotations__" 170 (.ref 6),Hd.e "__builtins__" 171 (.ref 4),Hd.e "__file__" 173 (.str "/claim/cut.py" 172),Hd.e "__cached__" 174 .none,Hd.e "is_number" 195 (.ref 21),Hd.e "is_listed" 202 (.ref 28),Hd.e "is_listed_of" 210 (.ref 35),Hd.e "are_numbers" 216 (.ref 40),Hd.e "common" 229 (.ref 47),Hd.e "part" 238 (.ref 54),Hd.e "plus" 246 (.ref 61),Hd.e "minus" 254 (.ref 68),Hd.e "times" 262 (.ref 75),Hd.e "over" 270 (.ref 82),Hd.e "whole" 277 (.ref 89),Hd.e "is_part" 284 (.ref 96),Hd.e "as_rows" 292 (.ref 101),Hd.e "added" 298 (.ref 106),Hd.e "sum_by" 310 (.ref 113),Hd.e "column" 316 (.ref 118),Hd.e "turned_over" 322 (.ref 123),Hd.e "unit_row" 328 (.ref 128),Hd.e "unit_rows" 334 (.ref 133),Hd.e "lead_of" 345 (.ref 140),Hd.e "nearest_quotient" 353 (.ref 147),Hd.e "exchanged" 363 (.ref 154),Hd.e "negated" 369 (.ref 159),Hd.e "Bench" 453 (.ref 214),Hd.e "standing" 464 (.ref 225),Hd.e "weighed" 477 (.ref 232),Hd.e "parts_dot" 490 (.ref 239),Hd.e "bottom_at" 500 (.ref 246),Hd.e "parts_against" 513 (.ref 253),Hd.e "inside" 524 (.ref 260),Hd.e "are_parts" 530 (.ref 265),Hd.e "is_whole" 537 (.ref 272),Hd.e "parts_show" 543 (.ref 277),Hd.e "weights_show" 552 (.ref 284),Hd.e "shows_inside" 561 (.ref 291),Hd.e "_law_hand" 569 (.ref 296),Hd.e "_law_draw" 581 (.ref 303),Hd.e "_law_number" 590 (.ref 310),Hd.e "_law_rows" 596 (.ref 315),Hd.e "_law_sizes" 603 (.ref 322),Hd.e "_law_some_rows" 613 (.ref 329),Hd.e "_law_lowest" 623 (.ref 336),Hd.e "_law_is_part" 629 (.ref 341),Hd.e "_law_worth" 641 (.ref 348),Hd.e "_law_shown" 647 (.ref 353),Hd.e "_law_row" 653 (.ref 358),Hd.e "_law_odd" 661 (.ref 365),Hd.e "_law_bent" 667 (.ref 370),Hd.e "_law_drawn" 673 (.ref 375),Hd.e "law" 679 (.ref 380)]),
 Hd.k 20 (Hd.co "is_number" "is_number" 189 2 1 15 16 (.ref 17) (.ref 18) 19 193 194),
 Hd.k 21 (Hd.fq iy "is_number" "is_number" rR 20),
 Hd.k 27 (Hd.co "is_listed" "is_listed" 196 4 1 22 23 (.ref 24) (.ref 25) 26 200 201),
 Hd.k 28 (Hd.fq ix "is_listed" "is_listed" rR 27),
 Hd.k 34 (Hd.co "is_listed_of" "is_listed_of" 203 6 2 29 30 (.ref 31) (.ref 32) 33 208 209),
 Hd.k 35 (Hd.fq fP "is_listed_of" "is_listed_of" rR 34),
 Hd.k 39 (Hd.co "are_numbers" "are_numbers" 211 8 2 36 37 .none .none 38 214 215),
 Hd.k 40 (Hd.fq fA "are_numbers" "are_numbers" rR 39),
 Hd.k 46 (Hd.co "common" "common" 219 11 2 41 42 (.ref 43) (.ref 44) 45 227 228),
 Hd.k 47 (Hd.fq l_ "common" "common" iR 46),
 Hd.k 53 (Hd.co "part" "part" 230 19 2 48 49 (.ref 50) (.ref 51) 52 236 237),
 Hd.k 54 (Hd.fq qC "part" "part" iR 53),
 Hd.k 60 (Hd.co "plus" "plus" 239 24 2 55 56 (.ref 57) (.ref 58) 59 244 245),
 Hd.k 61 (Hd.fq p_ "plus" "plus" iR 60),
 Hd.k 67 (Hd.co "minus" "minus" 247 26 2 62 63 (.ref 64) (.ref 65) 66 252 253),
 Hd.k 68 (Hd.fq og "minus" "minus" iR 67),
 Hd.k 74 (Hd.co "times" "times" 255 28 2 69 70 (.ref 71) (.ref 72) 73 260 261),
 Hd.k 75 (Hd.fq oj "times" "times" iR 74),
 Hd.k 81 (Hd.co "over" "over" 263 30 2 76 77 (.ref 78) (.ref 79) 80 268 269),
 Hd.k 82 (Hd.fq qh "over" "over" iR 81),
 Hd.k 88 (Hd.co "whole" "whole" 271 32 1 83 84 (.ref 85) (.ref 86) 87 275 276),
 Hd.k 89 (Hd.fq oi "whole" "whole" iR 88),
 Hd.k 95 (Hd.co "is_part" "is_part" 278 34 1 90 91 (.ref 92) (.ref 93) 94 282 283),
 Hd.k 96 (Hd.fq ky "is_part" "is_part" iR 95),
 Hd.k 100 (Hd.co "as_rows" "as_rows" 287 37 1 97 98 .none .none 99 290 291),
 Hd.k 101 (Hd.fq i9 "as_rows" "as_rows" jM 100),
 Hd.k 105 (Hd.co "added" "added" 293 39 3 102 103 .none .none 104 296 297),
 Hd.k 106 (Hd.fq mf "added" "added" jM 105),
 Hd.k 112 (Hd.co "sum_by" "sum_by" 299 41 3 107 108 (.ref 109) (.ref 110) 111 308 309),
 Hd.k 113 (Hd.fq lX "sum_by" "sum_by" jM 112),
 Hd.k 117 (Hd.co "column" "column" 311 46 2 114 115 .none .none 116 314 315),
 Hd.k 118 (Hd.fq j8 "column" "column" jM 117),
 Hd.k 122 (Hd.co "turned_over" "turned_over" 317 48 2 119 120 .none .none 121 320 321),
 Hd.k 123 (Hd.fq fx "turned_over" "turned_over" jM 122),
 Hd.k 127 (Hd.co "unit_row" "unit_row" 323 50 2 124 125 .none .none 126 326 327),
 Hd.k 128 (Hd.fq ia "unit_row" "unit_row" jM 127),
 Hd.k 132 (Hd.co "unit_rows" "unit_rows" 329 52 1 129 130 .none .none 131 332 333),
 Hd.k 133 (Hd.fq gD "unit_rows" "unit_rows" jM 132),
 Hd.k 139 (Hd.co "lead_of" "lead_of" 337 55 1 134 135 (.ref 136) (.ref 137) 138 343 344),
 Hd.k 140 (Hd.fq kB "lead_of" "lead_of" eJ 139),
 Hd.k 146 (Hd.co "nearest_quotient" "nearest_quotient" 346 60 2 141 142 (.ref 143) (.ref 144) 145 351 352),
 Hd.k 147 (Hd.fq eA "nearest_quotient" "nearest_quotient" eJ 146),
 Hd.k 153 (Hd.co "exchanged" "exchanged" 354 62 3 148 149 (.ref 150) (.ref 151) 152 361 362),
 Hd.k 154 (Hd.fq iA "exchanged" "exchanged" eJ 153),
 Hd.k 158 (Hd.co "negated" "negated" 364 67 1 155 156 .none .none 157 367 368),
 Hd.k 159 (Hd.fq i_ "negated" "negated" eJ 158),
 Hd.k 170 (Hd.co "__init__" "Bench.__init__" 382 71 2 167 168 .none .none 169 385 386),
 Hd.k 171 (Hd.fq df "__init__" "Bench.__init__" eJ 170),
 Hd.k 177 (Hd.co "take" "Bench.take" 388 76 4 172 173 (.ref 174) (.ref 175) 176 395 396),
 Hd.k 178 (Hd.fq g0 "take" "Bench.take" eJ 177),
 Hd.k 184 (Hd.co "exchange" "Bench.exchange" 398 81 3 179 180 (.ref 181) (.ref 182) 183 404 405),
 Hd.k 185 (Hd.fq e9 "exchange" "Bench.exchange" eJ 184),
 Hd.k 191 (Hd.co "change_sign" "Bench.change_sign" 407 86 2 186 187 (.ref 188) (.ref 189) 190 412 413),
 Hd.k 192 (Hd.fq d4 "change_sign" "Bench.change_sign" eJ 191),
 Hd.k 196 (Hd.co "live_rows" "Bench.live_rows" 415 91 3 193 194 .none .none 195 418 419),
 Hd.k 197 (Hd.fq dw "live_rows" "Bench.live_rows" eJ 196),
 Hd.k 203 (Hd.co "gather" "Bench.gather" 421 95 3 198 199 (.ref 200) (.ref 201) 202 430 431),
 Hd.k 204 (Hd.fq fN "gather" "Bench.gather" eJ 203),
 Hd.k 210 (Hd.co "lower_above" "Bench.lower_above" 433 109 3 205 206 (.ref 207) (.ref 208) 209 440 441),
 Hd.k 211 (Hd.fq dZ "lower_above" "Bench.lower_above" eJ 210),
 Hd.k 213 (Hd.no P 4 [Hd.e "__module__" 377 (.str "latticeworks.standing" 335),Hd.e "__firstlineno__" 381 (.int (69) 380),Hd.e "__init__" 387 (.ref 171),Hd.e "take" 397 (.ref 178),Hd.e "exchange" 406 (.ref 185),Hd.e "change_sign" 414 (.ref 192),Hd.e "live_rows" 420 (.ref 197),Hd.e "gather" 432 (.ref 204),Hd.e "lower_above" 442 (.ref 211),Hd.e "__static_attributes__" 446 (.ref 212),Hd.e "__dict__" 448 (.ref 215),Hd.e "__weakref__" 450 (.ref 216),Hd.e "__doc__" 451 .none]),
 Hd.k 214 (⟨(.type "type"),none,.cls {name:="Bench",bases:=[(.type "object")],mro:=[(.ref 214),(.type "object")],ns:=213,qualname:="Bench",hasDict:=true,subclasses:=[],abstract:=false,hasDel:=false},#[none,none,(some (.str "Bench" 370)),(some (.str "Bench" 378)),(some (.builtin "object.__new__")),(some (.bool true))]⟩),
 Hd.k 224 (Hd.co "standing" "standing" 454 112 1 219 220 (.ref 221) (.ref 222) 223 462 463),
 Hd.k 225 (Hd.fq jo "standing" "standing" eJ 224),
 Hd.k 231 (Hd.co "weighed" "weighed" 465 121 2 226 227 (.ref 228) (.ref 229) 230 475 476),
 Hd.k 232 (Hd.fq kg "weighed" "weighed" eJ 231),
 Hd.k 238 (Hd.co "parts_dot" "parts_dot" 480 131 2 233 234 (.ref 235) (.ref 236) 237 488 489),
 Hd.k 239 (Hd.fq iE "parts_dot" "parts_dot" gQ 238),
 Hd.k 245 (Hd.co "bottom_at" "bottom_at" 491 136 3 240 241 (.ref 242) (.ref 243) 244 498 499),
 Hd.k 246 (Hd.fq iF "bottom_at" "bottom_at" gQ 245),
 Hd.k 252 (Hd.co "parts_against" "parts_against" 501 141 2 247 248 (.ref 249) (.ref 250) 251 511 512),
 Hd.k 253 (Hd.fq fm "parts_against" "parts_against" gQ 252),
 Hd.k 259 (Hd.co "inside" "inside" 514 151 2 254 255 (.ref 256) (.ref 257) 258 522 523),
 Hd.k 260 (Hd.fq ma "inside" "inside" gQ 259),
 Hd.k 264 (Hd.co "are_parts" "are_parts" 525 158 2 261 262 .none .none 263 528 529),
 Hd.k 265 (Hd.fq gv "are_parts" "are_parts" gQ 264),
 Hd.k 271 (Hd.co "is_whole" "is_whole" 531 160 1 266 267 (.ref 268) (.ref 269) 270 535 536),
 Hd.k 272 (Hd.fq jA "is_whole" "is_whole" gQ 271),
 Hd.k 276 (Hd.co "parts_show" "parts_show" 538 162 3 273 274 .none .none 275 541 542),
 Hd.k 277 (Hd.fq fT "parts_show" "parts_show" gQ 276),
 Hd.k 283 (Hd.co "weights_show" "weights_show" 544 166 3 278 279 (.ref 280) (.ref 281) 282 550 551),
 Hd.k 284 (Hd.fq fM "weights_show" "weights_show" gQ 283),
 Hd.k 290 (Hd.co "shows_inside" "shows_inside" 553 168 3 285 286 (.ref 287) (.ref 288) 289 559 560),
 Hd.k 291 (Hd.fq fQ "shows_inside" "shows_inside" gQ 290),
 Hd.k 295 (Hd.co "_law_hand" "_law_hand" 564 175 1 292 293 .none .none 294 567 568),
 Hd.k 296 (Hd.fq ig "_law_hand" "_law_hand" dO 295),
 Hd.k 302 (Hd.co "_law_draw" "_law_draw" 570 177 2 297 298 (.ref 299) (.ref 300) 301 579 580),
 Hd.k 303 (Hd.fq js "_law_draw" "_law_draw" dO 302),
 Hd.k 309 (Hd.co "_law_number" "_law_number" 582 193 2 304 305 (.ref 306) (.ref 307) 308 588 589),
 Hd.k 310 (Hd.fq gY "_law_number" "_law_number" dO 309),
 Hd.k 314 (Hd.co "_law_rows" "_law_rows" 591 198 4 311 312 .none .none 313 594 595),
 Hd.k 315 (Hd.fq fI "_law_rows" "_law_rows" dO 314),
 Hd.k 321 (Hd.co "_law_sizes" "_law_sizes" 597 213 1 316 317 (.ref 318) (.ref 319) 320 601 602),
 Hd.k 322 (Hd.fq iG "_law_sizes" "_law_sizes" dO 321),
 Hd.k 328 (Hd.co "_law_some_rows" "_law_some_rows" 604 217 2 323 324 (.ref 325) (.ref 326) 327 611 612),
 Hd.k 329 (Hd.fq ft "_law_some_rows" "_law_some_rows" dO 328),
 Hd.k 335 (Hd.co "_law_lowest" "_law_lowest" 614 220 2 330 331 (.ref 332) (.ref 333) 334 621 622),
 Hd.k 336 (Hd.fq d8 "_law_lowest" "_law_lowest" dO 335),
 Hd.k 340 (Hd.co "_law_is_part" "_law_is_part" 624 225 1 337 338 .none .none 339 627 628),
 Hd.k 341 (Hd.fq fw "_law_is_part" "_law_is_part" dO 340),
 Hd.k 347 (Hd.co "_law_worth" "_law_worth" 630 231 2 342 343 (.ref 344) (.ref 345) 346 639 640),
 Hd.k 348 (Hd.fq iw "_law_worth" "_law_worth" dO 347),
 Hd.k 352 (Hd.co "_law_shown" "_law_shown" 642 238 3 349 350 .none .none 351 645 646),
 Hd.k 353 (Hd.fq fb "_law_shown" "_law_shown" dO 352),
 Hd.k 357 (Hd.co "_law_row" "_law_row" 648 257 2 354 355 .none .none 356 651 652),
 Hd.k 358 (Hd.fq g7 "_law_row" "_law_row" dO 357),
 Hd.k 364 (Hd.co "_law_odd" "_law_odd" 654 266 1 359 360 (.ref 361) (.ref 362) 363 659 660),
 Hd.k 365 (Hd.fq kr "_law_odd" "_law_odd" dO 364),
 Hd.k 369 (Hd.co "_law_bent" "_law_bent" 662 270 2 366 367 .none .none 368 665 666),
 Hd.k 370 (Hd.fq fh "_law_bent" "_law_bent" dO 369),
 Hd.k 374 (Hd.co "_law_drawn" "_law_drawn" 668 297 2 371 372 .none .none 373 671 672),
 Hd.k 375 (Hd.fq gw "_law_drawn" "_law_drawn" dO 374),
 Hd.k 379 (Hd.co "law" "law" 674 305 1 376 377 .none .none 378 677 678),
 Hd.k 380 (Hd.fq nF "law" "law" dO 379)]
def KA:List Addr:=[3,20,21,27,28,34,35,39,40,46,47,53,54,60,61,67,68,74,75,81,82,88,89,95,96,100,101,105,106,112,113,117,118,122,123,127,128,132,133,139,140,146,147,153,154,158,159,170,171,177,178,184,185,191,192,196,197,203,204,210,211,213,214,224,225,231,232,238,239,245,246,252,253,259,260,264,265,271,272,276,277,283,284,290,291,295,296,302,303,309,310,314,315,321,322,328,329,335,336,340,341,347,348,352,353,357,358,364,365,369,370,374,375,379,380]
set_option maxHeartbeats 0 in
theorem left:PySem.W.LeftO PW (PySem.W.view PW [1,2,3,4,6,7,8,9,10,11,12,13,15,16,17,18,19,20,21,23,24,25,26,27,28,29,31,32,33,34,35,36,37,38,39,41,42,43,44,45,46,47,48,49,50,51,52,53,54,55]) [] (fun _=>true) (PySem.W.kmHook Row.KX Row.KA (fun _=>rfl) [194]).obs (PySem.W.kmHook Row.KX Row.KA (fun _=>rfl) [194]).val 3946:=
 Hd.left (by kernel_rfl) (fun s=>by kernel_rfl) rfl fun w os=>by kernel_rfl
end Row
namespace L3
open PySem PySem.Spec PyProof.Rows L2
section
variable {prog:Program}{w:World}{A:Around}{R:Result->Shared->Prop}{s:Shared}
theorem Bi{elt target iter:Expr}{ifs:List Expr}{scope:Scope}{pos:Pos}{it acc:Value}{env:Env}(I:Nat->Shared->Prop)
 (turn:∀n s,I n s->wpAny (model prog w) A (pyNext it) (fun r s₁=>match r with
   |none=>R (.ok .next) s₁
   |some v=>wpAny (model prog w) A (letOwnedTupleGo target it v) (fun _ s₀=>wpAny (model prog w) A (assign target env v) (fun _ s₂=>
     wpAny (model prog w) A (forIn ifs true fun c r=>if r=true then do let ok <-isTrue c env (eval c env);pure (ForInStep.yield ok)else pure (ForInStep.yield r)) (fun ok s₃=>
      if ok=true then wpAny (model prog w) A (eval elt env) (fun x s₄=>
       wpAny (model prog w) A (call (.builtin "list.append") [acc,x]) (fun _ s₅=>∃m,m<n/\I m s₅) (fun _ _=>False) s₄) (fun _ _=>False) s₃
      else∃m,m<n/\I m s₃) (fun _ _=>False) s₂) (fun _ _=>False) s₀) (fun _ _=>False) s₁) (fun _ _=>False) s)
 (n:Nat) (h:I n s):
 codeAny (model prog w) A (.compLoop (.ListComp elt [⟨target,iter,ifs,0⟩] scope pos) 0 it acc env) R s:=by
 refine codeAny_loop rfl I (fun n s hI=>?_) n h;show wpAny _ A ((compTurn (.ListComp elt [⟨target,iter,ifs,0⟩] scope pos) 0 it acc env).onRaise (fun x=>do noteFrame x env;theTreesLotGoes x)) _ _ s;refine wpAny_noted ?_;rw[compTurn_list];refine wpAny_bind (wpAny_standAt (wpAny_bind (wpAny_mono (turn n s hI) (fun r s₁ h₁=>?_) fun _ _ h'=>h'.elim)));cases r with
 |none=>exact wpAny_pure h₁
 |some v=>
  refine wpAny_bind (wpAny_mono h₁ (fun _ s₀ h₀=>?_) fun _ _ h'=>h'.elim);refine wpAny_bind (wpAny_mono h₀ (fun _ s₂ h₂=>wpAny_bind (wpAny_mono h₂ (fun ok s₃ h₃=>?_) fun _ _ h'=>h'.elim)) fun _ _ h'=>h'.elim);cases ok with
  |false=>exact wpAny_pure ⟨rfl,h₃⟩
  |true=>
   exact wpAny_bind (wpAny_bind (wpAny_mono h₃ (fun x s₄ h₄=>wpAny_bind (wpAny_mono h₄ (fun _ s₅ h₅=>wpAny_pure (wpAny_pure ⟨rfl,h₅⟩)) fun _ _ h'=>h'.elim)) fun _ _ h'=>h'.elim))
end
def dG(cells:List (Str×Addr)):List (Str×NameKind)->List (Str×Addr)->List (Str×Addr)
 | [],acc=>acc
 |(n,k)::r,acc=>if k== .free then(match cells.lookup n with|some c=>dG cells r ((n,c)::acc)|none=>dG cells r acc)else dG cells r acc
theorem de{cells:List (Str×Addr)}:∀(names:List (Str×NameKind)) (acc:List (Str×Addr)),(∀x c,acc.lookup x=some c->cells.lookup x=some c)->
 ∀x c,(dG cells names acc).lookup x=some c->cells.lookup x=some c
 | [],acc,h,x,c,e=>h x c e
 |(n,k)::r,acc,h,x,c,e=>by
  unfold dG at e;split at e
  . split at e
    . rename_i d q;refine de r _ (fun y b e'=>?_) x c e;rw[List.lookup_cons]at e';split at e'
      . rename_i z;cases e';have z':y=n:=by simpa using z
        rw[z'];exact q
      . exact h y b e'
    . exact de r _ h x c e
  . exact de r _ h x c e
theorem i6{cells:List (Str×Addr)}{x:Str}:∀(names:List (Str×NameKind)) (acc:List (Str×Addr)),(∃c,cells.lookup x=some c)->((x,NameKind.free)∈names\/∃c,acc.lookup x=some c)->
 ∃c,(dG cells names acc).lookup x=some c
 | [],acc,_,h=>by
   rcases h with h|h
   . simp at h
   . exact h
 |(n,k)::r,acc,hc,h=>by
  unfold dG;split
  . rename_i hk;split
    . rename_i d q;refine i6 r _ hc ?_;rcases h with h|⟨c,h⟩
      . rcases List.mem_cons.mp h with e|e
        . cases e;exact .inr ⟨d,by simp[List.lookup_cons]⟩
        . exact .inl e
      . refine .inr ?_;rw[List.lookup_cons];split
        . exact⟨_,rfl⟩
        . exact⟨c,h⟩
    . rename_i q;refine i6 r _ hc ?_;rcases h with h|h
      . rcases List.mem_cons.mp h with e|e
        . cases e;obtain⟨c,hc⟩:=hc;rw[hc]at q;cases q
        . exact .inl e
      . exact .inr h
  . rename_i hk;refine i6 r _ hc ?_;rcases h with h|h
    . rcases List.mem_cons.mp h with e|e
      . cases e;exact absurd rfl hk
      . exact .inl e
    . exact .inr h
theorem ng{scope:Scope}{env:Env}(h:∀x∈scope.names,x.2= .free->∃c,env.cells.lookup x.1=some c):closureFor scope env=pure (dG env.cells scope.names []):=by
 have key:∀(names:List (Str×NameKind)) (acc:List (Str×Addr)),(∀x∈names,x.2= .free->∃c,env.cells.lookup x.1=some c)->
  (forIn names acc (fun(x:Str×NameKind) (cs:List (Str×Addr))=>if(x.2==NameKind.free)=true then(do let a <-cellOf env x.1;pure (ForInStep.yield ((x.1,a)::cs)):Sem (ForInStep (List (Str×Addr))))else pure (ForInStep.yield cs)))=(pure (dG env.cells names acc):Sem (List (Str×Addr))):=by
  intro names;induction names with
  |nil=>intro acc _;rfl
  |cons p r ih=>
   intro acc hh;obtain⟨n,k⟩:=p;rw[List.forIn_cons];have ih':=ih;by_cases hk:(k==NameKind.free)=true
   . obtain⟨c,e⟩:=hh (n,k) List.mem_cons_self (by simpa using hk);simp only[hk,if_true]
     have e1:cellOf env n=pure c:=by
      unfold cellOf;rw[e]
     rw[e1];simp only[pure_bind];rw[ih _ fun x hx=>hh x (List.mem_cons_of_mem _ hx)];conv=>rhs;unfold dG
     simp only[hk,if_true];rw[show env.cells.lookup n=some c from e]
   . have hk':(k==NameKind.free)=false:=by simpa using hk
     simp only[hk',Bool.false_eq_true,if_false,pure_bind];rw[ih _ fun x hx=>hh x (List.mem_cons_of_mem _ hx)];conv=>rhs;unfold dG
     simp only[hk',Bool.false_eq_true,if_false]
 unfold closureFor;have:=key scope.names [] h;rw[bind_pure]
 first
  |exact this
  |(simp only[bind_pure]at this⊢;exact this)
end L3
namespace L3
open PySem PySem.Spec L2
open PyProof.Rows hiding St
theorem jh(env:Env):∀(names:List (Str×NameKind)) (x:Str),
 (names.map fun(n,k)=>if(k==NameKind.free&&env.scope.kind== .function&&env.kindOf n==some .cell)then(n,NameKind.cell)else(n,k)).lookup x=
   (names.lookup x).map fun k=>if(k==NameKind.free&&env.scope.kind== .function&&env.kindOf x==some .cell)then NameKind.cell else k
 | [],_=>rfl
 |(n,k)::r,x=>by
  show List.lookup x ((if(k==NameKind.free&&env.scope.kind== .function&&env.kindOf n==some .cell)=true then(n,NameKind.cell)else(n,k))::_)=_;cases hx:x==n with
  |true=>
   have e:x=n:=by simpa using hx
   subst e;by_cases hc:(k==NameKind.free&&env.scope.kind== .function&&env.kindOf x==some .cell)=true
   . rw[if_pos hc];simp only[List.lookup_cons,beq_self_eq_true,Option.map_some];rw[if_pos hc]
   . rw[if_neg hc];simp only[List.lookup_cons,beq_self_eq_true,Option.map_some];rw[if_neg hc]
  |false=>
   by_cases hc:(k==NameKind.free&&env.scope.kind== .function&&env.kindOf n==some .cell)=true
   . rw[if_pos hc];simp only[List.lookup_cons,hx];exact jh env r x
   . rw[if_neg hc];simp only[List.lookup_cons,hx];exact jh env r x
theorem Ai{env:Env}{scope:Scope}{x:Str}(h:scope.names.lookup x=some .free):(relabel scope env).names.lookup x=some .cell\/(relabel scope env).names.lookup x=some .free:=by
 have e:(relabel scope env).names.lookup x=_:=jh env scope.names x;rw[e,h];simp only[Option.map_some];split
 . exact .inl rfl
 . exact .inr rfl
theorem zf{env:Env}{scope:Scope}{x:Str}(h:(relabel scope env).names.lookup x=some .cell\/(relabel scope env).names.lookup x=some .free):(x,NameKind.free)∈scope.names\/scope.names.lookup x=some .cell:=by
 have e:(relabel scope env).names.lookup x=_:=jh env scope.names x;rw[e]at h;cases q:scope.names.lookup x with
 |none=>rw[q]at h;rcases h with h|h<;>cases h
 |some k=>
  rw[q]at h;simp only[Option.map_some]at h;have m:=PySem.mem_of_lookup q;by_cases hc:(k==NameKind.free&&env.scope.kind== .function&&env.kindOf x==some .cell)=true
  . have:k= .free:=by
     simp only[Bool.and_eq_true]at hc;simpa using hc.1.1
    subst this;exact .inl m
  . rw[if_neg hc]at h;rcases h with h|h
    . cases h;exact .inr rfl
    . cases h;exact .inl m
theorem gp:∀(names:List (Str×NameKind)) (L:Nat) (acc:List (Str×Addr)),cellsFrom L names acc=cellsFrom L names []++acc
 | [],_,_=>rfl
 |(n,k)::r,L,acc=>by
  unfold cellsFrom;by_cases hk:(k==NameKind.cell)=true
  . rw[if_pos hk,if_pos hk,gp r (L+1) ((n,L)::acc),gp r (L+1) [(n,L)],List.append_assoc];rfl
  . rw[if_neg hk,if_neg hk];exact gp r L acc
theorem sP:∀ {names:List (Str×NameKind)} {L:Nat} {x:Str} {c:Addr},(x,c)∈cellsFrom L names []->(x,NameKind.cell)∈names
 | [],_,_,_,h=>by unfold cellsFrom at h;cases h
 |(n,k)::r,L,x,c,h=>by
  unfold cellsFrom at h;by_cases hk:(k==NameKind.cell)=true
  . rw[if_pos hk,gp]at h;have hk':k= .cell:=by simpa using hk
    subst hk';rcases List.mem_append.mp h with h|h
    . exact List.mem_cons_of_mem _ (sP h)
    . have:(x,c)=(n,L):=by simpa using h
      cases this;exact List.mem_cons_self
  . rw[if_neg hk]at h;exact List.mem_cons_of_mem _ (sP h)
theorem qU:∀ {l1 l2:List (Str×Addr)} {x:Str} {c:Addr},(l1++l2).lookup x=some c->l1.lookup x=some c\/(l1.lookup x=none/\l2.lookup x=some c)
 | [],_,_,_,h=> .inr ⟨rfl,h⟩
 |(n,d)::l1,l2,x,c,h=>by
  rw[List.cons_append,List.lookup_cons]at h;rw[List.lookup_cons];cases hx:x==n with
  |true=>rw[hx]at h;exact .inl h
  |false=>rw[hx]at h;exact qU h
theorem uA:∀ {l1 l2:List (Str×Addr)} {x:Str},l1.lookup x=none->(l1++l2).lookup x=l2.lookup x
 | [],_,_,_=>rfl
 |(n,d)::l1,l2,x,h=>by
  rw[List.lookup_cons]at h;rw[List.cons_append,List.lookup_cons];cases hx:x==n with
  |true=>rw[hx]at h;cases h
  |false=>rw[hx]at h;exact uA h
def m4(scope:Scope)(C:Addr)(cl:List (Str×Addr)):List (Str×Addr):=cellsFrom (C+1) scope.names cl
theorem jd{scope:Scope}{C:Addr}{cl:List (Str×Addr)}{x:Str}{c:Addr}(h:(m4 scope C cl).lookup x=some c):(x,c)∈cellsFrom (C+1) scope.names []\/cl.lookup x=some c:=by
 unfold m4 at h;rw[gp]at h;rcases qU h with h|h
 . exact .inl (PySem.mem_of_lookup h)
 . exact .inr h.2
theorem MZ(names:List (Str×NameKind))(h:Heap){C:Addr}(e:h.objs.size=C+1):CellsOk (pushCells h names) (C+1) (cellsFrom (C+1) names []):=by
 have:=cellsFrom_ok names h (C+1) [] ⟨fun _ _ hm=>(nomatch hm),List.Pairwise.nil⟩ (by rw[e];exact Nat.le_refl _);rw[e]at this;exact this
theorem oA{names:List (Str×NameKind)}{C:Addr}{x:Str}{c:Addr}:∀ {L:Nat},C<=L->(x,c)∈cellsFrom L names []->C<=c:=by
 induction names with
 |nil=>intro L _ h;unfold cellsFrom at h;cases h
 |cons p r ih=>
  obtain⟨n,k⟩:=p;intro L hL h;unfold cellsFrom at h;by_cases hk:(k==NameKind.cell)=true
  . rw[if_pos hk,gp]at h;rcases List.mem_append.mp h with h|h
    . exact ih (Nat.le_trans hL (Nat.le_succ L)) h
    . have:(x,c)=(n,L):=by simpa using h
      cases this;exact hL
  . rw[if_neg hk]at h;exact ih hL h
theorem own_apart{names:List (Str×NameKind)}{x y:Str}{c:Addr}:∀ {L:Nat},(x,c)∈cellsFrom L names []->(y,c)∈cellsFrom L names []->x=y:=by
 induction names with
 |nil=>intro L h;unfold cellsFrom at h;cases h
 |cons p r ih=>
  obtain⟨n,k⟩:=p;intro L h1 h2;unfold cellsFrom at h1 h2;by_cases hk:(k==NameKind.cell)=true
  . rw[if_pos hk,gp]at h1 h2;rcases List.mem_append.mp h1 with g1|g1<;>rcases List.mem_append.mp h2 with g2|g2
    . exact ih g1 g2
    . have e2:(y,c)=(n,L):=by simpa using g2
      have ec:c=L:=(Prod.mk.inj e2).2;have:=oA (C:=L+1) (Nat.le_refl _) g1;rw[ec]at this;exact absurd this (Nat.not_succ_le_self _)
    . have e1:(x,c)=(n,L):=by simpa using g1
      have ec:c=L:=(Prod.mk.inj e1).2;have:=oA (C:=L+1) (Nat.le_refl _) g2;rw[ec]at this;exact absurd this (Nat.not_succ_le_self _)
    . have e1:(x,c)=(n,L):=by simpa using g1
      have e2:(y,c)=(n,L):=by simpa using g2
      exact(Prod.mk.inj e1).1.trans (Prod.mk.inj e2).1.symm
  . rw[if_neg hk]at h1 h2;exact ih h1 h2
theorem uQ{M:Model}{A:Around}{E:Value->Shared->Prop}{s:Shared}{scope:Scope}{globals:Addr}{cl:List (Str×Addr)}{qual:Str}{env:Env}{Q:Env->Shared->Prop}
 (hQ:Q (newEnv scope s.heap.objs.size globals (m4 scope s.heap.objs.size cl) qual none .none (some env) builtinsNs) {s with heap:=pushCells (s.heap.push {cls:= .type "dict",data:= .dict #[]}) scope.names}):
 wpAny M A (newFunctionEnv scope globals cl [] qual none .none (some env)) Q E s:=by
 simp only[newFunctionEnv,Option.isSome_some,if_true];refine wpAny_bind (wpAny_alloc ?_);refine wpAny_bind (wpAny_layCells _ (fun name kind cells=>by cases hkc:kind==NameKind.cell<;>simp[hkc]) _ _ _ _ ?_);rw[show({s with heap:=s.heap.push {cls:= .type "dict",data:= .dict #[]}}:Shared).heap.objs.size=s.heap.objs.size+1 from Heap.size_push ..];rw[List.forIn_nil];exact wpAny_bind (wpAny_pure (wpAny_pure hQ))
structure bh(X:Cx)(scope:Scope)(Nc:List Str)(fr:List (Option Nat)):Prop where
 kind:scope.kind= .function
 cells:∀x∈scope.names,x.2= .cell->scope.names.lookup x.1=some .cell
 names:∀x∈scope.names,x.2= .local->scope.names.lookup x.1=some .local
 free:∀x∈scope.names,x.2= .free->X.env.kindOf x.1=some .cell\/X.env.kindOf x.1=some .free
 len:fr.length=Nc.length
 map:∀(i j:Nat) (x:Str),Nc[i]?=some x->fr[i]?=some (some j)->X.N[j]?=some x/\scope.names.lookup x=some .free/\(X.env.kindOf x=some .cell\/X.env.kindOf x=some .free)
def σC(fr:List (Option Nat))(σ:St):St:=fr.map fun o=>o.bind fun j=>(σ[j]?).join
def fo(X:Cx)(scope:Scope)(Nc:List Str)(C:Addr)(s:Shared)(H:Hp)(ex:List Addr):Cx:=
 {X with N:=Nc,s₀:=s,H₀:=H,env:=compEnvC scope (m4 scope C (dG X.env.cells scope.names [])) C X.env,outer:=X.stack,stack:=X.stack,ex:=ex,fn:=fun x=>scope.names.lookup x==some .cell,pn:=[],xe:=fun _ _=>False}
def tY(wi:TI)(fr:List (Option Nat))(g:TG)(c:TT)(te:TE):TE:=fun σ H Q=>wi σ H fun J H1=>∀l,H1 l=none->
 ∃W:Nat->Nat->L2.St->Hp->Prop,(∃m,W 0 m (σC fr σ) (upd H1 l (.lst [])))/\∀i m σ H,W i m σ H->
  (J.stop i H/\Q (.ref l) H)\/(J.go i H/\∃N:L2.St->Hp->Prop,(∀σ' H',N σ' H'->∃m',m'<m/\W (i+1) m' σ' H')/\∀x H',J.o4 i H x H'->
    g x σ H' fun σ2 H2=>c σ2 H2 fun b H3=>if b=true then te σ2 H3 fun y H4=>∃ys,H4 l=some (.lst ys)/\ys.length<sizeLine/\N σ2 (upd H4 l (.lst (ys++[y])))else N σ2 H3)
def sL(X:Cx)(ifs:List Expr)(t:TT):Prop:=
 ∀(pins:List (Addr×Obj)) (s:Shared) (σ:St) (H:Hp) (Q:Bool->Hp->Prop),Inv X pins σ H s->t σ H Q->
  wpAny (model X.prog X.w) X.A (forIn ifs true fun c r=>if r=true then do let ok <-isTrue c X.env (eval c X.env);pure (ForInStep.yield ok)else pure (ForInStep.yield r)) (TP X pins σ Q) X.xe s
def OQ:TT:=fun _ H Q=>Q true H
theorem IZ{X:Cx}:sL X [] OQ:=fun _ _ _ H _ I h=>wpAny_tests_nil ⟨H,I,h⟩
theorem Jp{X:Cx}{c:Expr}{t:TT}(h:PT X c t):sL X [c] t:=fun pins s σ H Q I q=>wpAny_tests_one (h pins s σ H Q I q)
section
variable {X:Cx}{scope:Scope}{Nc:List Str}{fr:List (Option Nat)}{pins:List (Addr×Obj)}{σ:St}{H:Hp}{s:Shared}
theorem Nk{C:Addr}{fp:List Addr}(S:bh X scope Nc fr)(I:Inv X pins σ H s)(hC:C=s.heap.objs.size)(hf:∀b∈fp,lJ X pins H b)(hlt:∀b∈fp,b<s.heap.objs.size)(hnc:∀b∈fp,∀x c,X.env.cells.lookup x=some c->c≠b):
 (fo X scope Nc C s H fp).Ok where
 mod:=I.ok.mod
 kind:=S.kind
 glob:=I.ok.glob
 blt:=I.ok.blt
 above:=Nat.le_of_eq hC.symm
 inj:=fun x y c h1 h2=>by
  have low:∀ {z},(dG X.env.cells scope.names []).lookup z=some c->c<s.heap.objs.size:=fun{z} hz=>by
   obtain⟨v,q⟩:=I.cell z c (de _ [] (fun _ _ e=>by cases e) z c hz);exact q.lt
  rcases jd h1 with h1|h1<;>rcases jd h2 with h2|h2
  . exact own_apart h1 h2
  . have a:=oA (C:=C+1) (Nat.le_refl _) h1;have b:c<C:=by rw[hC];exact low h2
    exact absurd a (Nat.not_le_of_gt (Nat.lt_succ_of_lt b))
  . have a:=oA (C:=C+1) (Nat.le_refl _) h2;have b:c<C:=by rw[hC];exact low h1
    exact absurd a (Nat.not_le_of_gt (Nat.lt_succ_of_lt b))
  . exact I.ok.inj x y c (de _ [] (fun _ _ e=>by cases e) x c h1) (de _ [] (fun _ _ e=>by cases e) y c h2)
 has:=fun x hx=>by
  rcases zf hx with m|m
  . obtain⟨c,e⟩:=i6 scope.names [] (I.ok.has x (S.free _ m rfl)) (.inl m);exact Option.isSome_iff_exists.mp (PySem.W.cellsFrom_some _ _ _ (.inr (by rw[e];rfl)))
  . exact Option.isSome_iff_exists.mp (PySem.W.cellsFrom_some _ _ _ (.inl m))
 A3:=fun x c hf h=>by
  have hl:scope.names.lookup x=some .cell:=by
   have:(scope.names.lookup x==some .cell)=true:=hf;simpa using this
  obtain⟨c',e⟩:=Option.isSome_iff_exists.mp (PySem.W.cellsFrom_some (x:=x) scope.names (C+1) [] (.inl hl))
  have h':(cellsFrom (C+1) scope.names []++dG X.env.cells scope.names []).lookup x=some c:=by
   rw[<-gp];exact h
  rcases qU h' with q|q
  . have:=oA (C:=C+1) (Nat.le_refl _) (PySem.mem_of_lookup q);show s.heap.objs.size<=c;rw[<-hC];exact Nat.le_of_succ_le this
  . rw[q.1]at e;cases e
 hd:=I.ok.hd
 frames:=I.ok.frames
 Cu:= .inl rfl
 Ek:=fun b hb=>⟨by rw[show(fo X scope Nc C s H fp).env.locals=s.heap.objs.size from hC];exact Nat.ne_of_lt (hlt b hb),fun x c h=>by
  rcases jd h with h|h
  . have a:=oA (C:=C+1) (Nat.le_refl _) h;have b':b<C:=by rw[hC];exact hlt b hb
    exact Nat.ne_of_gt (Nat.lt_of_lt_of_le b' (Nat.le_of_succ_le a))
  . exact hnc b hb x c (de _ [] (fun _ _ e=>by cases e) x c h)⟩
 bs:=I.bs
 sN:=Nat.le_trans I.ok.sN I.sz
 vd:=fun b o e hb=>by
  have hn:=(hf b hb).2.2.2.1;rcases hn with hn|hn
  . exact I.ok.vd b o e hn
  . exact absurd (Heap.lt_size (I.ok.bs b o e).1) (Nat.not_lt.mpr hn)
 u5:=fun b hb z=>by
  have q:=I.A5 b z;rcases List.mem_cons.mp q with q|q
  . exact(hf b hb).2.1 q
  . exact(hf b hb).2.2.1 q
 kT:=I.stack
 vE:=fun b hb=>I.xM b hb
 gt:=I.ok.gt
theorem Cn{i:Nat}{v:V}(h:(σC fr σ)[i]?=some (some v)):∃j,fr[i]?=some (some j)/\σ[j]?=some (some v):=by
 unfold σC at h;rw[List.getElem?_map]at h;cases q:fr[i]? with
 |none=>rw[q]at h;cases h
 |some o=>
  rw[q]at h;cases o with
  |none=>simp at h
  |some j=>
   simp only[Option.map_some,Option.some.injEq,Option.bind_some]at h;refine⟨j,rfl,?_⟩;cases r:σ[j]? with
   |none=>rw[r]at h;cases h
   |some u=>rw[r]at h;simp at h;rw[h]
theorem Gd{s':Shared}{h':Heap}{C:Addr}{fp:List Addr}{t':Nat}(S:bh X scope Nc fr)(I:Inv X pins σ H s)(hC:C=s.heap.objs.size)(ok:(fo X scope Nc C s H fp).Ok)(hfr:∀b∈fp,H b=none)
 (k:∀b o,s.heap.get? b=some o->h'.get? b=some o) (hn:h'.Ns C (fun _=>none)) (hcs:∀x c,(x,c)∈cellsFrom (C+1) scope.names []->h'.IsCell c none):Inv (fo X scope Nc C s H fp) [] (σC fr σ) H {s with heap:=h',toks:=t'} where
 ok:=ok
 os:=rfl
 bare:=I.bare
 base:=Un.kept k
 loc:=⟨_,hn,fun i x v h1 h2 h3=>by
  obtain⟨j,q1,q2⟩:=Cn h2;obtain⟨n1,n2,n3⟩:=S.map i j x h1 q1;obtain⟨m,hm,hl⟩:=I.loc
  have vis:AJ X.env.scope x:=by
   rcases n3 with z|z
   . exact .inr (.inl z)
   . exact .inr (.inr z)
  obtain⟨u,r,lk⟩:=hl j x v n1 q2 vis;refine⟨u,r,?_⟩;rcases lk with⟨z,_⟩|⟨z,c,e,ic⟩
  . rcases n3 with y|y
    . rw[y]at z;cases z
    . rw[y]at z;cases z
  . refine .inr ⟨Ai n2,?_⟩;obtain⟨c',e'⟩:=i6 scope.names [] ⟨c,e⟩ (.inl (PySem.mem_of_lookup n2));have e2:=de _ [] (fun _ _ e=>by cases e) x c' e';rw[e]at e2;cases e2;refine⟨c,?_,ic.keeps k⟩;show(m4 scope C (dG X.env.cells scope.names [])).lookup x=some c;unfold m4;rw[gp,uA ?_]
    . exact e'
    . cases q:(cellsFrom (C+1) scope.names []).lookup x with
      |none=>rfl
      |some c2=>
       have:=S.cells _ (sP (PySem.mem_of_lookup q)) rfl;rw[n2]at this;cases this⟩
 cell:=fun x c h=>by
  rcases jd h with h|h
  . exact⟨_,hcs x c h⟩
  obtain⟨v,q⟩:=I.cell x c (de _ [] (fun _ _ e=>by cases e) x c h);exact⟨v,q.keeps k⟩
 free:=by show H C=none;rw[hC];exact I.aK.fresh (Nat.le_refl _)
 iV:=fun x c h=>by
  rcases jd h with h|h
  . have a:=oA (C:=C+1) (Nat.le_refl _) h;exact I.aK.fresh (by rw[<-hC];exact Nat.le_of_succ_le a)
  . exact I.iV x c (de _ [] (fun _ _ e=>by cases e) x c h)
 pin:=fun p hp=>by cases hp
 aK:=I.aK.kept k
 len:=by unfold σC;rw[List.length_map];exact S.len
theorem Inv.forget{C:Addr}{h':Heap}(I:Inv X pins σ H s)(f:lJ X pins H C)(hs:Heap.SameBut C s.heap h'):Inv X pins σ H {s with heap:=h'}:=by
 refine I.Dx (s':={s with heap:=h'}) (ch:=[C]) rfl ?_ ?_ I.bare fun b hb=>?_
 . have ne:∀b,b∉[C]->b≠C:=fun b hb z=>hb (by simp[z]);exact{keep:=fun b o q _ _ hx=>(hs.2 b (ne b hx)).trans q,slot:=fun b o q _ _ hx=>⟨o.slots,(hs.2 b (ne b hx)).trans q⟩,free:=fun b o q n _=>n,there:=fun b o q hx=>⟨o,(hs.2 b (ne b hx)).trans q⟩,pJ:=fun _ _ e=>e,oC:=fun _ _ _ e=>e,oo:=fun b ps e=>⟨#[],by rw[e];simp⟩}
 . intro a o q;have na:∀b u,H b=some u->b≠C:=fun b u q z=>by rw[z,f.1]at q;cases q
   refine(I.aK a o q).pS (fun b u hb e=>?_) (fun _ q=>q) fun _ _ q=>q;rw[hs.2 b ?_]
   . exact e
   . rcases hb with rfl|hb
     . exact na _ _ q
     . exact na _ _ hb
 . have:b=C:=by simpa using hb
   subst this;exact⟨f.2.2.2.1,f.2.1,f.2.2.2.2.1,f.2.2.2.2.2⟩
theorem vZ{elt tg iter:Expr}{ifs:List Expr}{wi:TI}{g:TG}{c:TT}{te:TE}{pos:Pos}{Q:VK}{RR:Value->Addr->Result->Shared->Prop}(hx:X.xe=fun _ _=>False)(hc:X.calm=true)(S:bh X scope Nc fr)(hi:PI X tg iter wi)
 (hg:∀C s H ex,PG (fo X scope Nc C s H ex) tg g) (ht:∀C s H ex,sL (fo X scope Nc C s H ex) ifs c) (he:∀C s H ex,PE (fo X scope Nc C s H ex) elt te) (I:Inv X pins σ H s) (h:tY wi fr g c te σ H Q)
 (fin:∀(l C:Addr) (s6:Shared) (H5:Hp) (m:Str->Option Value),s6.heap.Ns C m->lJ X pins H5 C->Inv X pins σ H5 s6->Q (.ref l) H5->RR (.ref l) C (.ok .next) s6):
 wpAny (model X.prog X.w) X.A (eval iter X.env) (fun x s₁=>wpAny (model X.prog X.w) X.A (pyIter x) (fun it s₂=>wpAny (model X.prog X.w) X.A (newList []) (fun acc s₃=>
  wpAny (model X.prog X.w) X.A (newFunctionEnv scope X.env.globals (dG X.env.cells scope.names []) [] X.env.qual none .none (some X.env)) (fun cenv s₄=>
   codeAny (model X.prog X.w) X.A (.compStart (.ListComp elt [⟨tg,iter,ifs,0⟩] scope pos) 0 it acc {cenv with scope:=relabel scope X.env}) (RR acc cenv.locals) s₄) X.xe s₃) X.xe s₂) X.xe s₁) X.xe s:=by
 refine cz (hi pins s σ H _ I h) fun v s1 h1=>cz h1 fun itv s2 h2=>?_;obtain⟨it,fp,tn,J,H2,e,I2,T,st2,f2,hR⟩:=h2;subst e;refine wpAny_newList ?_ (Nat.zero_le _);have I3:=I2.Gx (t':=s2.toks) (aq:=[]) (ys:=[]) .nil (Nat.zero_le _);generalize e3:({s2 with heap:=s2.heap.push {cls:= .type "list",data:= .seq ([]:List Value).toArray}}:Shared)=s3;have I3:Inv X pins σ (upd H2 s2.heap.objs.size (.lst [])) s3:=by rw[<-e3];exact I3
 have ml:s2.heap.objs.size<s3.heap.objs.size:=by rw[<-e3];show _<(s2.heap.push _).objs.size;rw[Heap.size_push];omega
 have k3:∀b o,s2.heap.get? b=some o->s3.heap.get? b=some o:=fun b o q=>by rw[<-e3];exact Heap.get?_push_of_some _ q
 obtain⟨W,⟨m0,w0⟩,turn⟩:=hR s2.heap.objs.size (I2.aK.fresh (Nat.le_refl _));refine uQ ?_;have hn:(pushCells (s3.heap.push {cls:= .type "dict",data:= .dict #[]}) scope.names).Ns s3.heap.objs.size (fun _=>none):=(Heap.Ns.new s3.heap (.type "dict")).keeps (pushCells_keeps _ _);have hcs:∀x c,(x,c)∈cellsFrom (s3.heap.objs.size+1) scope.names []->(pushCells (s3.heap.push {cls:= .type "dict",data:= .dict #[]}) scope.names).IsCell c none:=fun x c h=>((MZ scope.names _ (Heap.size_push ..)).empty x c h).1;have k4:∀b o,s3.heap.get? b=some o->(pushCells (s3.heap.push {cls:= .type "dict",data:= .dict #[]}) scope.names).get? b=some o:=fun b o q=>pushCells_keeps _ _ b o (Heap.get?_push_of_some _ q);generalize(pushCells (s3.heap.push {cls:= .type "dict",data:= .dict #[]}) scope.names)=h' at hn hcs k4⊢;have hobj:∀b∈fp,∃o,s2.heap.get? b=some o/\∀v,o.data≠ .cell v:=T.obj _ _ st2;have hlt2:∀b∈fp,b<s3.heap.objs.size:=fun b hb=>let⟨o,q,_⟩:=hobj b hb;Heap.lt_size (k3 b o q)
 have hnl:∀b∈fp,b≠s2.heap.objs.size:=fun b hb=>by
  obtain⟨o,q,_⟩:=hobj b hb;exact Nat.ne_of_lt (Heap.lt_size q)
 have f3:∀b∈fp,lJ X pins (upd H2 s2.heap.objs.size (.lst [])) b:=fun b hb=>⟨by rw[aG (hnl b hb)];exact(f2 b hb).1,(f2 b hb).2⟩
 have ok:=Nk (C:=s3.heap.objs.size) (fp:=fp) S I3 rfl f3 hlt2 fun b hb=>(f2 b hb).2.2.2.2.1
 have I4:Inv (fo X scope Nc s3.heap.objs.size s3 (upd H2 s2.heap.objs.size (.lst [])) fp) [] (σC fr σ) (upd H2 s2.heap.objs.size (.lst [])) {s3 with heap:=h',toks:=s3.toks}:=
  Gd (s':=s3) S I3 rfl ok (fun b hb=>(f3 b hb).1) k4 hn hcs
 have st4:tn 0 h':=T.keep _ _ _ st2 fun b _ o q=>k4 b o (k3 b o q);generalize hXc:fo X scope Nc s3.heap.objs.size s3 (upd H2 s2.heap.objs.size (.lst [])) fp=Xc at I4;have hgc:PG Xc tg g:=by rw[<-hXc];exact hg _ _ _ _
 have htc:sL Xc ifs c:=by rw[<-hXc];exact ht _ _ _ _
 have hec:PE Xc elt te:=by rw[<-hXc];exact he _ _ _ _
 have xP:Xc.prog=X.prog:=by rw[<-hXc];rfl
 have xW:Xc.w=X.w:=by rw[<-hXc];rfl
 have xK:Xc.K=X.K:=by rw[<-hXc];rfl
 have xc:Xc.calm=true:=by rw[<-hXc];exact hc
 have xA:Xc.A=X.A:=by rw[<-hXc];rfl
 have xE:Xc.env=compEnvC scope (m4 scope s3.heap.objs.size (dG X.env.cells scope.names [])) s3.heap.objs.size X.env:=by rw[<-hXc];rfl
 have xx:Xc.xe=fun _ _=>False:=by rw[<-hXc];rfl
 have fpc:∀ {H':Hp},(∀b∈fp,H' b=none)->∀b∈fp,lJ Xc [] H' b:=fun{H'} hn b hb=>by
  rw[<-hXc];refine⟨hn b hb,Nat.ne_of_lt (hlt2 b hb),ok.u5 b hb,.inl hb,(ok.Ek b hb).2,fun p hp=>by cases hp⟩
 have loop:codeAny (model X.prog X.w) X.A (.compLoop (.ListComp elt [⟨tg,iter,ifs,0⟩] scope pos) 0 (.ref it) (.ref s2.heap.objs.size) (compEnvC scope (m4 scope s3.heap.objs.size (dG X.env.cells scope.names [])) s3.heap.objs.size X.env))
  (RR (.ref s2.heap.objs.size) s3.heap.objs.size) {s3 with heap:=h',toks:=s3.toks}:=by
  refine Bi (fun n s'=>∃i σ' H',Inv Xc [] σ' H' s'/\tn i s'.heap/\(∀b∈fp,H' b=none)/\W i n σ' H') ?_ m0 ⟨0,_,_,I4,st4,fun b hb=>(f3 b hb).1,w0⟩;rintro n s5 ⟨i,σ5,H5,I5,st5,fr5,w5⟩;rcases turn i n σ5 H5 w5 with⟨stop,qn⟩|⟨go,N,hN,step⟩
  . have q:=T.done Xc xP xW xK xc i [] s5 σ5 H5 (fun _ _=>False) I5 (fpc fr5) st5 stop;rw[xA]at q;refine cz q fun r s6 ⟨hr,I6⟩=>?_;subst hr;obtain⟨m,hm,_⟩:=I6.loc;rw[xE]at hm;have free6:H5 s3.heap.objs.size=none:=by have:=I6.free;rw[xE]at this;exact this
    have un6:Un (qi X.stack) fp (upd H2 s2.heap.objs.size (.lst [])) H5 s3.heap s6.heap:=by have:=I6.base;rw[<-hXc]at this;exact this
    have os6:s6.os=s3.os:=by have:=I6.os;rw[<-hXc]at this;exact this
    have hok6:ir X.prog X.w H5 s6.heap:=by have:=I6.aK;rw[xP,xW]at this;exact this
    have J:=I3.Dx (s':=s6) (ch:=fp) os6 un6 hok6 I6.bare fun b hb=>⟨(f3 b hb).2.2.2.1,(f3 b hb).2.1,(f3 b hb).2.2.2.2.1,(f3 b hb).2.2.2.2.2⟩
    exact fin _ _ s6 H5 m hm (I3.uT (Nat.le_refl _) free6) J qn
  . have q:=T.item Xc xP xW xK xc i [] s5 σ5 H5 (fun _ _=>False) I5 (fpc fr5) st5 go;rw[xA]at q;refine cz q fun r s6 ⟨u,hr,h6⟩=>?_;subst hr;refine cz h6 fun _ s7 ⟨x,H7,I7,r7,y7,st7,fr7⟩=>?_;have I7':=I7.pinned (fpc fr7) (T.obj _ _ st7);have q8:=hgc _ s7 σ5 H7 x u _ I7' r7 (step x H7 y7);rw[xP,xW,xA,xE,xx]at q8;refine cz q8 fun _ s8 ⟨σ8,H8,I8,q8⟩=>?_;have q9:=htc _ s8 σ8 H8 _ I8 q8;rw[xP,xW,xA,xE,xx]at q9;refine cz q9 fun b s9 ⟨H9,I9,q9⟩=>?_
    have again:∀ {H':Hp} {s':Shared},Inv Xc ([]++tu fp s7.heap) σ8 H' s'->N σ8 H'->∃m,m<n/\∃i σ' H',Inv Xc [] σ' H' s'/\tn i s'.heap/\(∀b∈fp,H' b=none)/\W i m σ' H':=fun{H' s'} J nn=>by
     obtain⟨m',hm,w7⟩:=hN σ8 H' nn;refine⟨m',hm,i+1,σ8,H',J.hV,T.keep _ _ _ st7 fun b hb o e=>(J.pin (b,o) (List.mem_append_right _ (List.mem_append_right _ (nH hb e)))).1,fun b hb=>?_,w7⟩;obtain⟨o,e,d⟩:=T.obj _ _ st7 b hb;exact(J.pin (b,o) (List.mem_append_right _ (List.mem_append_right _ (nH hb e)))).2.1
    cases b with
    |false=>exact again I9 q9
    |true=>
     have qe:=hec _ s9 σ8 H9 _ I9 q9;rw[xP,xW,xA,xE,xx]at qe;refine cz qe fun y s10 ⟨vy,H10,I10,ry,ys,hy,hlt,qN⟩=>?_;have qa:=yd (X:=Xc) _ s10 σ8 H10 (.ref s2.heap.objs.size) [vy] (.ref s2.heap.objs.size) [y] (fun _ H'=>N σ8 H') I10 rfl (.cons ry .nil) ⟨_,ys,vy,rfl,rfl,hy,hlt,qN⟩;rw[xP,xW,xA,xx]at qa;exact cz qa fun _ s11 ⟨_,H11,I11,_,q11⟩=>again I11 q11
 refine codeAny_compStart_list ?_ ?_
 . exact loop
 . exact T.self _ 0 _ _ _ st4 loop
theorem BU{elt tg iter:Expr}{ifs:List Expr}{wi:TI}{g:TG}{c:TT}{te:TE}{pos:Pos}(hx:X.xe=fun _ _=>False)(hc:X.calm=true)(S:bh X scope Nc fr)(hi:PI X tg iter wi)
 (hg:∀C s H ex,PG (fo X scope Nc C s H ex) tg g) (ht:∀C s H ex,sL (fo X scope Nc C s H ex) ifs c) (he:∀C s H ex,PE (fo X scope Nc C s H ex) elt te)
 (hs:∀x,foldedSetIterable iter X.env x=pure x:=by intro _;rfl):PE X (.ListComp elt [⟨tg,iter,ifs,0⟩] scope pos) (tY wi fr g c te):=by
 intro pins s σ H Q I h;rw[eval_ListComp];have hcl:closureFor scope X.env=pure (dG X.env.cells scope.names []):=ng fun x hx hk=>I.ok.has x.1 (S.free x hx hk);refine wpAny_comprehension_free rfl hs hcl S.kind S.names ?_;exact vZ (RR:=fun acc C=>compPost (model X.prog X.w) X.A X.xe none (EP X pins σ Q) acc C) hx hc S hi hg ht he I h fun l C s6 H5 m hm f J q=>⟨m,hm,fun h'' hs''=>⟨.ref l,H5,Inv.forget J f hs'',rfl,q⟩⟩
theorem BP{elt tg iter:Expr}{ifs:List Expr}{wi:TI}{g:TG}{c:TT}{te:TE}{pos pos' spos:Pos}{i:Nat}{x:Str}(hx:X.xe=fun _ _=>False)(hc:X.calm=true)(S:bh X scope Nc fr)(hi:PI X tg iter wi)
 (hg:∀C s H ex,PG (fo X scope Nc C s H ex) tg g) (ht:∀C s H ex,sL (fo X scope Nc C s H ex) ifs c) (he:∀C s H ex,PE (fo X scope Nc C s H ex) elt te) (hN:X.N.Nodup) (hni:X.N[i]?=some x) (hl:Loc X.env.scope x) (hf:X.fn x=true\/X.env.scope.names.lookup x=some .local)
 (hsw:swapsWith (.ListComp elt [⟨tg,iter,ifs,0⟩] scope pos) (some (.Name x pos')) spos.line X.env=pure true)
 (hs:∀x,foldedSetIterable iter X.env x=pure x:=by intro _;rfl):PS X (.Assign [.Name x pos'] (.ListComp elt [⟨tg,iter,ifs,0⟩] scope pos) spos) (oO (tY wi fr g c te) (mz i)):=by
 intro pins s σ H D I h;have hcl:closureFor scope X.env=pure (dG X.env.cells scope.names []):=ng fun x hx hk=>I.ok.has x.1 (S.free x hx hk);rw[exec_Assign_Name_used _ _ _ _ hsw];refine wpAny_bind (wpAny_standAt (wpAny_bind ?_));show wpAny _ X.A (do let _ <-comprehension (.ListComp elt [⟨tg,iter,ifs,0⟩] scope pos) scope X.env _ (newList []) false (eval iter X.env) (some (assign (.Name x pos') X.env))) _ _ s
 refine wpAny_bind (wpAny_mono (wpAny_comprehension_free (use:=some (assign (.Name x pos') X.env)) (Q:=fun _ s'=>SP X pins D .next s') rfl hs hcl S.kind S.names
  (vZ (RR:=fun acc C=>compPost (model X.prog X.w) X.A X.xe (some (assign (.Name x pos') X.env)) (fun _ s'=>SP X pins D .next s') acc C) hx hc S hi hg ht he I h fun l C s6 H5 m hm f J q=>?_)) (fun _ s' hq=>wpAny_pure (wpAny_pure hq)) fun _ _ e=>e)
 show wpAny _ X.A (assign (.Name x pos') X.env (.ref l)) _ _ _;refine wpAny_assign_Name (xT J hN hni hl (show RelV (.ref l) (.ref l)from rfl) (fun s7 J7 hch=>?_) hf);obtain⟨a,hsame,ha⟩:=hch
 have hCa:C≠a:=by
  rcases ha with rfl|ha
  . exact f.2.1
  . exact fun z=>f.2.2.2.2.1 x a ha z.symm
 refine⟨m,hm.sameBut hsame hCa,fun h'' hs''=>⟨σ.set i (some (.ref l)),H5,Inv.forget J7 f hs'',q⟩⟩
end
inductive D where
 |aE|bl (b:Bool)|int (i:Int)|str (x:Str)|ty (n:String)|ref (n:Nat)|lst (xs:List D)|tup (xs:List D)
inductive Cell where
 |lst (xs:List D)|ins (C:Addr) (fs:List (Str×D))|dead
  |tab (P:Addr) (pos:Pos) (qual:Str) (b:Bool)
abbrev ai:=List Cell
abbrev cn:=List (Option D)
mutual
def Rep(α:List (Option Addr))(H:Hp):D->V->Prop
 | .aE,v=>v= .aE
 | .bl b,v=>v= .bl b
 | .int i,v=>v= .int i
 | .str x,v=>v= .str x
 | .ty n,v=>v= .ty n
 | .ref n,v=>α[n]?=some none\/∃a,α[n]?=some (some a)/\v= .ref a
 | .lst xs,v=>∃a vs,v= .ref a/\some a∉α/\Rd H a (.lst vs)/\aM α H xs vs
 | .tup xs,v=>∃a vs,v= .ref a/\some a∉α/\H a=some (.tup vs)/\aM α H xs vs
def aM(α:List (Option Addr))(H:Hp):List D->List V->Prop
 | [],vs=>vs=[]
 |d::ds,vs=>∃v r,vs=v::r/\Rep α H d v/\aM α H ds r
end
theorem ba{α:List (Option Addr)}{H:Hp}:∀ {ds:List D} {vs:List V},aM α H ds vs↔Paired (Rep α H) ds vs
 | [],vs=>by
   unfold aM;constructor
   . rintro rfl;exact .nil
   . intro h;cases h;rfl
 |d::ds,vs=>by
  unfold aM;constructor
  . rintro⟨v,r,rfl,h1,h2⟩;exact .cons h1 (ba.mp h2)
  . intro h;cases h with|cons h1 h2=>exact⟨_,_,rfl,h1,ba.mpr h2⟩
section
variable {α:List (Option Addr)}{H:Hp}
theorem aM.length{ds:List D}{vs:List V}(h:aM α H ds vs):ds.length=vs.length:=Paired.length (ba.mp h)
theorem wa{A B:Type}{F:A->B->Prop}:∀ {xs:List A} {ys:List B} {i:Nat} {x:A},Paired F xs ys->xs[i]?=some x->∃y,ys[i]?=some y/\F x y
 |_,_,_,_,.nil,e=>by simp at e
 |_,_,0,_,.cons r _,e=>by simp at e;subst e;exact⟨_,rfl,r⟩
 |_,_,i+1,x,.cons _ t,e=>by
  obtain⟨u,h1,h2⟩:=wa (i:=i) (x:=x) t (by simpa using e);exact⟨u,by simpa using h1,h2⟩
theorem f9{A B:Type}{F:A->B->Prop}:∀ {xs xs':List A} {ys ys':List B},Paired F xs ys->Paired F xs' ys'->Paired F (xs++xs') (ys++ys')
 |_,_,_,_,.nil,s=>s
 |_,_,_,_,.cons r t,s=> .cons r (f9 t s)
theorem uH{A B:Type}{F:A->B->Prop}:∀ {xs:List A} {ys:List B} (n:Nat),Paired F xs ys->Paired F (xs.take n) (ys.take n)
 |_,_,0,_=> .nil
 |_,_,_+1,.nil=> .nil
 |_,_,n+1,.cons r t=> .cons r (uH n t)
theorem uu{A B:Type}{F:A->B->Prop}:∀ {xs:List A} {ys:List B} (n:Nat),Paired F xs ys->Paired F (xs.drop n) (ys.drop n)
 |_,_,0,r=>r
 |_,_,_+1,.nil=> .nil
 |_,_,n+1,.cons _ t=>uu n t
theorem wA{A B:Type}{F:A->B->Prop}{x:A}{y:B}(r:F x y):∀ {xs:List A} {ys:List B} (i:Nat),Paired F xs ys->Paired F (xs.set i x) (ys.set i y)
 |_,_,_,.nil=> .nil
 |_,_,0,.cons _ t=> .cons r t
 |_,_,i+1,.cons q t=> .cons q (wA r i t)
theorem mh{A B:Type}{F:A->B->Prop}{xs:List A}{ys:List B}(h:Paired F xs ys):∀k:Nat,Paired F (List.replicate k xs).flatten (List.replicate k ys).flatten
 |0=> .nil
 |k+1=>by
  rw[List.replicate_succ,List.replicate_succ,List.flatten_cons,List.flatten_cons];exact f9 h (mh h k)
theorem aM.get{ds:List D}{vs:List V}{i:Nat}{d:D}(h:aM α H ds vs)(e:ds[i]?=some d):∃v,vs[i]?=some v/\Rep α H d v:=wa (ba.mp h) e
end
structure Step(α:List (Option Addr))(H:Hp)(α':List (Option Addr))(H':Hp):Prop where
 ext:∀b o,some b∉α->H b=some o->H' b=some o
 pre:∀(n:Nat) (x:Option Addr),α[n]?=some x->α'[n]?=some x\/α'[n]?=some none
 new:∀b,some b∈α'->some b∉α->H b=none
theorem Step.refl{α:List (Option Addr)}{H:Hp}:Step α H α H:=⟨fun _ _ _ h=>h,fun _ _ h=> .inl h,fun _ h n=>absurd h n⟩
theorem Step.trans{α α1 α2:List (Option Addr)}{H H1 H2:Hp}(a:Step α H α1 H1)(b:Step α1 H1 α2 H2):Step α H α2 H2 where
 ext:=fun c o hc e=>b.ext c o (fun z=>by rw[a.new c z hc]at e;cases e) (a.ext c o hc e)
 pre:=fun n x e=>by
  rcases a.pre n x e with h|h
  . exact b.pre n x h
  . rcases b.pre n none h with h'|h'
    . exact .inr h'
    . exact .inr h'
 new:=fun c hc n=>by
  by_cases h1:some c∈α1
  . exact a.new c h1 n
  . have:=b.new c hc h1;cases q:H c with
    |none=>rfl
    |some o=>rw[a.ext c o n q]at this;cases this
theorem Step.laid{α:List (Option Addr)}{H:Hp}{p:Addr}{o:HO}(h:H p=none):Step α H α (upd H p o):=
 ⟨fun b u _ e=>by rw[aG (dQ e h)];exact e,fun _ _ h=> .inl h,fun _ h n=>absurd h n⟩
theorem Step.cell{α:List (Option Addr)}{H:Hp}{p:Addr}{o:HO}(h:H p=none):Step α H (α++[some p]) (upd H p o):=
 ⟨fun b u _ e=>by rw[aG (dQ e h)];exact e,fun n x e=> .inl (by rw[List.getElem?_append_left (List.getElem?_eq_some_iff.mp e).1];exact e),fun b hb n=>by
  rcases List.mem_append.mp hb with z|z
  . exact absurd z n
  . have:b=p:=by simpa using z
    subst this;exact h⟩
theorem Step.write{α:List (Option Addr)}{H:Hp}{p:Addr}{o:HO}(h:some p∈α):Step α H α (upd H p o):=
 ⟨fun b u n e=>by rw[aG (fun z=>by subst z;exact n h)];exact e,fun _ _ h=> .inl h,fun _ h n=>absurd h n⟩
theorem Step.fi{α:List (Option Addr)}{H:Hp}{n:Nat}:Step α H (α.set n none) H:=
 ⟨fun _ _ _ h=>h,fun m x e=>by
  by_cases hm:n=m
  . subst hm;exact .inr (List.getElem?_set_self (List.getElem?_eq_some_iff.mp e).1)
  . exact .inl (by rw[List.getElem?_set_ne hm];exact e),fun b hb hn=>by
  rcases List.mem_or_eq_of_mem_set hb with z|z
  . exact absurd z hn
  . cases z⟩
mutual
theorem Rep.step{α α':List (Option Addr)}{H H':Hp}(s:Step α H α' H'):∀ {d:D} {v:V},Rep α H d v->Rep α' H' d v
 | .aE,_,h=>by unfold Rep at h⊢;exact h
 | .bl _,_,h=>by unfold Rep at h⊢;exact h
 | .int _,_,h=>by unfold Rep at h⊢;exact h
 | .str _,_,h=>by unfold Rep at h⊢;exact h
 | .ty _,_,h=>by unfold Rep at h⊢;exact h
 | .ref n,_,h=>by
   unfold Rep at h⊢;rcases h with h|⟨a,e,r⟩
   . rcases s.pre _ _ h with z|z<;>exact .inl z
   . rcases s.pre _ _ e with z|z
     . exact .inr ⟨a,z,r⟩
     . exact .inl z
 | .lst xs,_,h=>by
   unfold Rep at h⊢;obtain⟨a,vs,e,n,r,q⟩:=h;refine⟨a,vs,e,fun z=>?_,?_,aM.step s q⟩
   . have:=s.new a z n;rcases r with r|⟨o,r⟩<;>(rw[this]at r;cases r)
   . rcases r with r|⟨o,r⟩
     . exact .inl (s.ext _ _ n r)
     . exact .inr ⟨o,s.ext _ _ n r⟩
 | .tup xs,_,h=>by
   unfold Rep at h⊢;obtain⟨a,vs,e,n,r,q⟩:=h;exact⟨a,vs,e,(fun z=>by rw[s.new a z n]at r;exact nomatch r),s.ext _ _ n r,aM.step s q⟩
theorem aM.step{α α':List (Option Addr)}{H H':Hp}(s:Step α H α' H'):∀ {ds:List D} {vs:List V},aM α H ds vs->aM α' H' ds vs
 | [],_,h=>by unfold aM at h⊢;exact h
 |d::ds,_,h=>by
  unfold aM at h⊢;obtain⟨v,r,e,h1,h2⟩:=h;exact⟨v,r,e,Rep.step s h1,aM.step s h2⟩
end
structure cE(G F H:Hp):Prop where
 eq:∀b,H b=(G b).or (F b)
 An:∀b o,G b=some o->F b=none
section
variable {G F H:Hp}
theorem cE.get(P:cE G F H){b:Addr}{o:HO}(h:G b=some o):H b=some o:=by rw[P.eq b,h];rfl
theorem cE.same(P:cE G F H):Hy G H:=fun _ _ h=>P.get h
theorem cE.none(P:cE G F H){b:Addr}(h:H b=none):G b=none/\F b=none:=by
 have e:=P.eq b;rw[h]at e;cases q:G b with
 |none=>rw[q]at e;exact⟨rfl,e.symm⟩
 |some o=>rw[q]at e;cases e
theorem cE.frame(P:cE G F H){b:Addr}{o:HO}(h:F b=some o):H b=some o/\G b=Option.none:=by
 have hn:G b=Option.none:=by
  cases q:G b with
  |none=>rfl
  |some u=>rw[P.An b u q]at h;cases h
 exact⟨by rw[P.eq b,hn,h];rfl,hn⟩
theorem cE.laid(P:cE G F H){p:Addr}{o:HO}(h:H p=Option.none):cE (upd G p o) F (upd H p o):=by
 obtain⟨h1,h2⟩:=P.none h;refine⟨fun b=>?_,fun b u e=>?_⟩
 . by_cases hb:b=p
   . subst hb;rw[a5,a5];rfl
   . rw[aG hb,aG hb];exact P.eq b
 . by_cases hb:b=p
   . subst hb;exact h2
   . rw[aG hb]at e;exact P.An b u e
theorem cE.write(P:cE G F H){p:Addr}{o o':HO}(h:G p=some o):cE (upd G p o') F (upd H p o'):=by
 refine⟨fun b=>?_,fun b u e=>?_⟩
 . by_cases hb:b=p
   . subst hb;rw[a5,a5];rfl
   . rw[aG hb,aG hb];exact P.eq b
 . by_cases hb:b=p
   . subst hb;exact P.An b o h
   . rw[aG hb]at e;exact P.An b u e
theorem cE.hide(P:cE G F H){p:Addr}{o:HO}(h:H p=Option.none):cE G (upd F p o) (upd H p o):=by
 obtain⟨h1,h2⟩:=P.none h;refine⟨fun b=>?_,fun b u e=>?_⟩
 . by_cases hb:b=p
   . subst hb;rw[a5,a5,h1];rfl
   . rw[aG hb,aG hb];exact P.eq b
 . by_cases hb:b=p
   . subst hb;rw[h1]at e;cases e
   . rw[aG hb];exact P.An b u e
theorem cE.QP(P:cE G F H){p:Addr}{o o':HO}(h:F p=some o):cE G (upd F p o') (upd H p o'):=by
 have h1:=(P.frame h).2;refine⟨fun b=>?_,fun b u e=>?_⟩
 . by_cases hb:b=p
   . subst hb;rw[a5,a5,h1];rfl
   . rw[aG hb,aG hb];exact P.eq b
 . by_cases hb:b=p
   . subst hb;rw[h1]at e;cases e
   . rw[aG hb];exact P.An b u e
theorem cE.show{p:Addr}{o:HO}(P:cE G (upd F p o) H)(h:F p=Option.none):cE (upd G p o) F H:=by
 have h1:=(P.frame (b:=p) a5)
 refine⟨fun b=>?_,fun b u e=>?_⟩
 . by_cases hb:b=p
   . subst hb;rw[a5,h1.1];rfl
   . rw[aG hb,P.eq b,aG hb]
 . by_cases hb:b=p
   . subst hb;exact h
   . rw[aG hb]at e;have:=P.An b u e;rw[aG hb]at this;exact this
end
mutual
theorem Rep.mono{α:List (Option Addr)}{G H:Hp}(s:Hy G H):∀ {d:D} {v:V},Rep α G d v->Rep α H d v
 | .aE,_,h=>by unfold Rep at h⊢;exact h
 | .bl _,_,h=>by unfold Rep at h⊢;exact h
 | .int _,_,h=>by unfold Rep at h⊢;exact h
 | .str _,_,h=>by unfold Rep at h⊢;exact h
 | .ty _,_,h=>by unfold Rep at h⊢;exact h
 | .ref n,_,h=>by unfold Rep at h⊢;exact h
 | .lst xs,_,h=>by
   unfold Rep at h⊢;obtain⟨a,vs,e,n,r,q⟩:=h;refine⟨a,vs,e,n,?_,aM.mono s q⟩;rcases r with r|⟨o,r⟩
   . exact .inl (s _ _ r)
   . exact .inr ⟨o,s _ _ r⟩
 | .tup xs,_,h=>by
   unfold Rep at h⊢;obtain⟨a,vs,e,n,r,q⟩:=h;exact⟨a,vs,e,n,s _ _ r,aM.mono s q⟩
theorem aM.mono{α:List (Option Addr)}{G H:Hp}(s:Hy G H):∀ {ds:List D} {vs:List V},aM α G ds vs->aM α H ds vs
 | [],_,h=>by unfold aM at h⊢;exact h
 |d::ds,_,h=>by
  unfold aM at h⊢;obtain⟨v,r,e,h1,h2⟩:=h;exact⟨v,r,e,Rep.mono s h1,aM.mono s h2⟩
end
def j_(α:List (Option Addr))(H:Hp):List (Str×D)->List (Str×V)->Prop:=Paired fun p q=>p.1=q.1/\Rep α H p.2 q.2
def kF(α:List (Option Addr))(H:Hp)(a:Addr):Cell->Prop
 | .lst xs=>∃vs,H a=some (.lst vs)/\aM α H xs vs
 | .ins C fs=>∃dx vs,H a=some (.ins C dx vs)/\j_ α H fs vs
 | .dead=>False
 | .tab P pos qual b=>a=P/\∃ps:Array Value,H a=some (.km ps)/\TriplesOk ps.toList/\
    ((b=false/\codeAmong pos ps.toList=none)\/(b=true/\∃c o vs t,codeAmong pos ps.toList=some (.ref c)/\some c∉α/\H c=some (.fi o (.own c))/\o.data= .fields vs/\vs[1]?=some (.str qual t)))
structure aW(α:List (Option Addr))(st:ai)(H:Hp):Prop where
 len:α.length=st.length
 nd:∀(i j:Nat) (a:Addr),α[i]?=some (some a)->α[j]?=some (some a)->i=j
 at':∀(n:Nat) (c:Cell),st[n]?=some c->(c= .dead/\α[n]?=some none)\/∃a,α[n]?=some (some a)/\kF α H a c
theorem j_.step{α α':List (Option Addr)}{H H':Hp}(s:Step α H α' H'){ds:List (Str×D)}{vs:List (Str×V)}(h:j_ α H ds vs):j_ α' H' ds vs:=Paired.HF h fun _ _ z=>⟨z.1,z.2.step s⟩
theorem kF.same{α α':List (Option Addr)}{H H':Hp}{a:Addr}{c:Cell}(s:Step α H α' H')(e:H' a=H a)(h:kF α H a c):kF α' H' a c:=by
 cases c with
 |lst xs=>obtain⟨vs,h1,h2⟩:=h;exact⟨vs,e.trans h1,h2.step s⟩
 |ins C fs=>obtain⟨dx,vs,h1,h2⟩:=h;exact⟨dx,vs,e.trans h1,h2.step s⟩
 |dead=>exact h.elim
 |tab P pos qual b=>
  obtain⟨z,ps,h1,h2,h3⟩:=h;refine⟨z,ps,e.trans h1,h2,?_⟩;rcases h3 with h3|⟨hb,c,o,vs,t,q1,q2,q3,q4⟩
  . exact .inl h3
  . exact .inr ⟨hb,c,o,vs,t,q1,(fun y=>by rw[s.new c y q2]at q3;cases q3),s.ext c _ q2 q3,q4⟩
theorem kF.some{α:List (Option Addr)}{H:Hp}{a:Addr}{c:Cell}(h:kF α H a c):∃o,H a=some o:=by
 cases c with
 |lst xs=>obtain⟨vs,h1,h2⟩:=h;exact⟨_,h1⟩
 |ins C fs=>obtain⟨dx,vs,h1,h2⟩:=h;exact⟨_,h1⟩
 |dead=>exact h.elim
 |tab P pos qual b=>obtain⟨_,ps,h1,_⟩:=h;exact⟨_,h1⟩
theorem d7{α:List (Option Addr)}{H:Hp}{n:Nat}{v:V}{a:Addr}(e:α[n]?=Option.some (Option.some a))(r:Rep α H (.ref n) v):v= .ref a:=by
 unfold Rep at r;rcases r with r|⟨b,eb,rfl⟩
 . rw[e]at r;cases r
 . rw[e]at eb;cases eb;rfl
section
variable {α:List (Option Addr)}{st:ai}{H:Hp}
theorem aW.fZ(S:aW α st H){n:Nat}{xs:List D}(e:st[n]?=Option.some (.lst xs)):∃a,α[n]?=Option.some (Option.some a)/\∃vs,H a=Option.some (.lst vs)/\aM α H xs vs:=by
 rcases S.at' n _ e with⟨z,_⟩|z
 . cases z
 . exact z
theorem aW.yK(S:aW α st H){n:Nat}{C:Addr}{fs:List (Str×D)}(e:st[n]?=Option.some (.ins C fs)):∃a,α[n]?=Option.some (Option.some a)/\∃dx vs,H a=Option.some (.ins C dx vs)/\j_ α H fs vs:=by
 rcases S.at' n _ e with⟨z,_⟩|z
 . cases z
 . exact z
theorem aW.mem(S:aW α st H){a:Addr}(h:Option.some a∈α):∃(n:Nat) (c:Cell),α[n]?=Option.some (Option.some a)/\st[n]?=Option.some c/\kF α H a c:=by
 obtain⟨n,hn,e⟩:=List.mem_iff_getElem.mp h;have hl:n<st.length:=by rw[<-S.len];exact hn
 have e':α[n]?=Option.some (Option.some a):=by rw[List.getElem?_eq_getElem hn,e]
 rcases S.at' n st[n] (by simp[hl])with⟨_,q⟩|⟨a',q,ca⟩
 . rw[e']at q;cases q
 . rw[e']at q;cases q;exact⟨n,_,e',by simp[hl],ca⟩
theorem aW.kU(S:aW α st H){p:Addr}(h:H p=none):Option.some p∉α:=fun z=>by
 obtain⟨n,c,_,_,ca⟩:=S.mem z;obtain⟨o,e⟩:=ca.some;rw[h]at e;cases e
theorem aW.laid(S:aW α st H){p:Addr}{o:HO}(h:H p=none):aW α st (upd H p o):=
 ⟨S.len,S.nd,fun n c e=>by
  rcases S.at' n c e with z|⟨a,q,ca⟩
  . exact .inl z
  . exact .inr ⟨a,q,ca.same (Step.laid h) (aG (by obtain⟨u,z⟩:=ca.some;exact dQ z h))⟩⟩
theorem aW.cell(S:aW α st H){p:Addr}{o:HO}{c:Cell}(h:H p=none)(hc:kF (α++[Option.some p]) (upd H p o) p c):aW (α++[Option.some p]) (st++[c]) (upd H p o) where
 len:=by rw[List.length_append,List.length_append,S.len];rfl
 nd:=fun i j a ei ej=>by
  have key:∀(i:Nat) (a:Addr),(α++[Option.some p])[i]?=Option.some (Option.some a)->(i<α.length/\α[i]?=Option.some (Option.some a))\/(i=α.length/\a=p):=by
   intro i a e;by_cases hi:i<α.length
   . rw[List.getElem?_append_left hi]at e;exact .inl ⟨hi,e⟩
   . rw[List.getElem?_append_right (Nat.le_of_not_lt hi)]at e
     have h0:i-α.length=0:=by
      cases q:i-α.length with
      |zero=>rfl
      |succ k=>rw[q]at e;simp at e
     rw[h0]at e;have:p=a:=by simpa using e
     exact .inr ⟨by omega,this.symm⟩
  rcases key i a ei with⟨h1,e1⟩|⟨h1,e1⟩<;>rcases key j a ej with⟨h2,e2⟩|⟨h2,e2⟩
  . exact S.nd i j a e1 e2
  . subst e2;exact absurd (List.mem_of_getElem? e1) (S.kU h)
  . subst e1;exact absurd (List.mem_of_getElem? e2) (S.kU h)
  . omega
 at':=fun n d e=>by
  by_cases hn:n<st.length
  . rw[List.getElem?_append_left hn]at e;have hl:n<α.length:=by rw[S.len];exact hn
    rcases S.at' n d e with⟨z,q⟩|⟨a,q,ca⟩
    . exact .inl ⟨z,by rw[List.getElem?_append_left hl];exact q⟩
    . exact .inr ⟨a,by rw[List.getElem?_append_left hl];exact q,ca.same (Step.cell h) (aG (by obtain⟨u,z⟩:=ca.some;exact dQ z h))⟩
  . rw[List.getElem?_append_right (Nat.le_of_not_lt hn)]at e
    have h0:n-st.length=0:=by
     cases q:n-st.length with
     |zero=>rfl
     |succ k=>rw[q]at e;simp at e
    rw[h0]at e;have hd:c=d:=by simpa using e
    subst hd;refine .inr ⟨p,?_,hc⟩;rw[List.getElem?_append_right (by rw[S.len];exact Nat.le_of_not_lt hn),S.len,h0];rfl
theorem aW.write(S:aW α st H){p:Addr}{o:HO}{c:Cell}{n:Nat}(e:α[n]?=Option.some (Option.some p))(hc:kF α (upd H p o) p c):aW α (st.set n c) (upd H p o) where
 len:=by rw[List.length_set];exact S.len
 nd:=S.nd
 at':=fun m d q=>by
  have hp:Option.some p∈α:=List.mem_of_getElem? e;by_cases hm:m=n
  . subst hm
    have hl:m<st.length:=by
     have:=(List.getElem?_eq_some_iff.mp q).1;rw[List.length_set]at this;exact this
    rw[List.getElem?_set_self hl]at q;cases q;exact .inr ⟨p,e,hc⟩
  . rw[List.getElem?_set_ne (Ne.symm hm)]at q;rcases S.at' m d q with z|⟨a,r,ca⟩
    . exact .inl z
    . refine .inr ⟨a,r,ca.same (Step.write hp) (aG fun z=>?_)⟩;subst z;exact hm (S.nd m n _ r e)
theorem aW.fi(S:aW α st H){n:Nat}(hn:n<st.length):aW (α.set n none) (st.set n .dead) H where
 len:=by rw[List.length_set,List.length_set];exact S.len
 nd:=fun i j a ei ej=>by
  have key:∀(i:Nat),(α.set n none)[i]?=Option.some (Option.some a)->α[i]?=Option.some (Option.some a):=by
   intro i e;by_cases hi:n=i
   . subst hi;rw[List.getElem?_set_self (by rw[S.len];exact hn)]at e;cases e
   . rw[List.getElem?_set_ne hi]at e;exact e
  exact S.nd i j a (key i ei) (key j ej)
 at':=fun m d q=>by
  by_cases hm:n=m
  . subst hm;rw[List.getElem?_set_self hn]at q;cases q;exact .inl ⟨rfl,List.getElem?_set_self (by rw[S.len];exact hn)⟩
  . rw[List.getElem?_set_ne hm]at q;rcases S.at' m d q with⟨z,r⟩|⟨a,r,ca⟩
    . exact .inl ⟨z,by rw[List.getElem?_set_ne hm];exact r⟩
    . exact .inr ⟨a,by rw[List.getElem?_set_ne hm];exact r,ca.same Step.fi rfl⟩
theorem aW.Jh(S:aW α st H){n:Nat}{xs:List D}{v:V}(e:st[n]?=Option.some (.lst xs))(r:Rep α H (.ref n) v):Rep (α.set n none) H (.lst xs) v:=by
 obtain⟨a,ea,vs,h1,h2⟩:=S.fZ e;have:=d7 ea r;subst this;unfold Rep;refine⟨a,vs,rfl,fun z=>?_,.inl h1,h2.step Step.fi⟩;obtain⟨m,hm,em⟩:=List.mem_iff_getElem.mp z;have em':(α.set n none)[m]?=Option.some (Option.some a):=by rw[List.getElem?_eq_getElem hm,em]
 by_cases hx:n=m
 . subst hx;rw[List.getElem?_set_self (List.getElem?_eq_some_iff.mp ea).1]at em';cases em'
 . rw[List.getElem?_set_ne hx]at em';exact hx (S.nd n m a ea em')
end
abbrev DK:=D->ai->Prop
abbrev DE:=cn->ai->DK->Prop
abbrev DT:=cn->ai->(Bool->ai->Prop)->Prop
abbrev DA:=cn->ai->(List D->ai->Prop)->Prop
structure mj where
 nx:cn->ai->Prop
 rt:DK
 bk:cn->ai->Prop:=fun _ _=>False
 ct:cn->ai->Prop:=fun _ _=>False
abbrev DS:=mj->cn->ai->Prop
structure eg(α:List (Option Addr))(H:Hp)(σd:cn)(σ:L2.St):Prop where
 len:σd.length=σ.length
 at':∀(i:Nat) (d:D),σd[i]?=some (some d)->∃v,σ[i]?=some (some v)/\Rep α H d v
theorem eg.step{α α':List (Option Addr)}{H H':Hp}{σd:cn}{σ:L2.St}(s:Step α H α' H')(h:eg α H σd σ):eg α' H' σd σ:=
 ⟨h.len,fun i d e=>let⟨v,q,r⟩:=h.at' i d e;⟨v,q,r.step s⟩⟩
theorem eg.set{α:List (Option Addr)}{H:Hp}{σd:cn}{σ:L2.St}(h:eg α H σd σ)(i:Nat){d:D}{v:V}(r:Rep α H d v):eg α H (σd.set i (some d)) (σ.set i (some v)):=by
 refine⟨by rw[List.length_set,List.length_set,h.len],fun j e q=>?_⟩;have hl:=h.len;by_cases hj:j=i
 . subst hj
   have hlt:j<σd.length:=by
    have:=(List.getElem?_eq_some_iff.mp q).1;rw[List.length_set]at this;exact this
   rw[List.getElem?_set_self hlt]at q;cases q;exact⟨v,List.getElem?_set_self (by omega),r⟩
 . rw[List.getElem?_set_ne (Ne.symm hj)]at q;rw[List.getElem?_set_ne (Ne.symm hj)];exact h.at' j e q
def LK(α:List (Option Addr))(G F:Hp)(K:DK)(Q:VK):Prop:=∀d st',K d st'->∀α' G' H' v,Step α G α' G'->cE G' F H'->aW α' st' G'->Rep α' G' d v->Q v H'
def II(α:List (Option Addr))(G F:Hp)(K:Bool->ai->Prop)(Q:Bool->Hp->Prop):Prop:=∀b st',K b st'->∀α' G' H',Step α G α' G'->cE G' F H'->aW α' st' G'->Q b H'
def QV(α:List (Option Addr))(G F:Hp)(K:List D->ai->Prop)(Q:List V->Hp->Prop):Prop:=∀ds st',K ds st'->∀α' G' H' vs,Step α G α' G'->cE G' F H'->aW α' st' G'->aM α' G' ds vs->Q vs H'
inductive PJ(t:DE)(σ:L2.St)(H:Hp)(Q:VK):Prop
 |mk (α:List (Option Addr)) (σd:cn) (st:ai) (K:DK) (G F:Hp) (P:cE G F H) (R:eg α G σd σ) (S:aW α st G) (h:t σd st K) (k:LK α G F K Q):PJ t σ H Q
def LE(t:DE):TE:=PJ t
inductive Po(t:DT)(σ:L2.St)(H:Hp)(Q:Bool->Hp->Prop):Prop
 |mk (α:List (Option Addr)) (σd:cn) (st:ai) (K:Bool->ai->Prop) (G F:Hp) (P:cE G F H) (R:eg α G σd σ) (S:aW α st G) (h:t σd st K) (k:II α G F K Q):Po t σ H Q
def LT(t:DT):TT:=Po t
inductive PB(t:DA)(σ:L2.St)(H:Hp)(Q:List V->Hp->Prop):Prop
 |mk (α:List (Option Addr)) (σd:cn) (st:ai) (K:List D->ai->Prop) (G F:Hp) (P:cE G F H) (R:eg α G σd σ) (S:aW α st G) (h:t σd st K) (k:QV α G F K Q):PB t σ H Q
def LA(t:DA):TA:=PB t
theorem LK.here{α:List (Option Addr)}{G F H:Hp}{K:DK}{Q:VK}(h:LK α G F K Q)(P:cE G F H){d:D}{st:ai}{v:V}(k:K d st)(S:aW α st G)(r:Rep α G d v):Q v H:=h d st k α G H v Step.refl P S r
theorem LK.at{α α1:List (Option Addr)}{G F G1:Hp}{K:DK}{Q:VK}(h:LK α G F K Q)(s:Step α G α1 G1):LK α1 G1 F K Q:=fun d st' k α' G' H' v s' P S r=>h d st' k α' G' H' v (s.trans s') P S r
theorem II.at{α α1:List (Option Addr)}{G F G1:Hp}{K:Bool->ai->Prop}{Q:Bool->Hp->Prop}(h:II α G F K Q)(s:Step α G α1 G1):II α1 G1 F K Q:=fun d st' k α' G' H' s' P S=>h d st' k α' G' H' (s.trans s') P S
section
variable {X:Cx}{a b c e:Expr}{es:List Expr}{ta tb tc te:DE}{pos:Pos}
theorem PE.imp{t t':TE}(h:PE X e t)(f:∀σ H Q,t' σ H Q->t σ H Q):PE X e t':=fun pins s σ H Q I q=>h pins s σ H Q I (f σ H Q q)
theorem PT.imp{t t':TT}(h:PT X e t)(f:∀σ H Q,t' σ H Q->t σ H Q):PT X e t':=fun pins s σ H Q I q=>h pins s σ H Q I (f σ H Q q)
theorem PW.imp{t t':TT}(h:PW X e t)(f:∀σ H Q,t' σ H Q->t σ H Q):PW X e t':=fun w pins s σ H Q I q=>h w pins s σ H Q I (f σ H Q q)
theorem PA.imp{t t':TA}(h:PA X es t)(f:∀σ H Q,t' σ H Q->t σ H Q):PA X es t':=fun p pins s σ H Q I q=>h p pins s σ H Q I (f σ H Q q)
def af(i:Nat):DE:=fun σ st K=>match σ[i]? with|some (some d)=>K d st|_=>False
def dC(d:D):DE:=fun _ st K=>K d st
theorem OK{i:Nat}{x:Str}(h:PE X (.Name x pos) (L8 i)):PE X (.Name x pos) (LE (af i)):=PE.imp h fun σ H Q ⟨α,σd,st,K,G,F,P,R,S,t,k⟩=>by
 unfold af at t;split at t
 . rename_i d q;obtain⟨v,e,r⟩:=R.at' i d q;exact⟨v,e,k.here P t S r⟩
 . exact t.elim
theorem qd{v:V}{d:D}(h:PE X e (tC v))(r:∀α H,Rep α H d v):PE X e (LE (dC d)):=PE.imp h fun σ H Q ⟨α,σd,st,K,G,F,P,R,S,t,k⟩=>k.here P t S (r α G)
theorem Oo{i:Int}{j:Nat}:PE X (.Constant (.int i) j pos) (LE (dC (.int i))):=qd M6 fun _ _=>by unfold Rep;rfl
theorem Qb{i:Bool}{j:Nat}:PE X (.Constant (.bool i) j pos) (LE (dC (.bl i))):=qd OM fun _ _=>by unfold Rep;rfl
theorem Oy{i:Str}{j:Nat}:PE X (.Constant (.str i) j pos) (LE (dC (.str i))):=qd Lb fun _ _=>by unfold Rep;rfl
theorem Pf{j:Nat}:PE X (.Constant .none j pos) (LE (dC .aE)):=qd NJ fun _ _=>by unfold Rep;rfl
abbrev dX:=D->D->ai->DK->Prop
abbrev zT:=D->ai->DK->Prop
abbrev fk:=List D->ai->DK->Prop
inductive Pt(r:dX)(x y:V)(H:Hp)(Q:VK):Prop
 |mk (α:List (Option Addr)) (d e:D) (st:ai) (K:DK) (G F:Hp) (P:cE G F H) (rx:Rep α G d x) (ry:Rep α G e y) (S:aW α st G) (h:r d e st K) (k:LK α G F K Q):Pt r x y H Q
def LR(r:dX):R2:=Pt r
inductive NN(r:zT)(x:V)(H:Hp)(Q:VK):Prop
 |mk (α:List (Option Addr)) (d:D) (st:ai) (K:DK) (G F:Hp) (P:cE G F H) (rx:Rep α G d x) (S:aW α st G) (h:r d st K) (k:LK α G F K Q):NN r x H Q
def HZ(r:zT):V->Hp->VK->Prop:=NN r
inductive K5(r:fk)(xs:List V)(H:Hp)(Q:VK):Prop
 |mk (α:List (Option Addr)) (ds:List D) (st:ai) (K:DK) (G F:Hp) (P:cE G F H) (rx:aM α G ds xs) (S:aW α st G) (h:r ds st K) (k:LK α G F K Q):K5 r xs H Q
def gm(r:fk):List V->Hp->VK->Prop:=K5 r
def au(r:dX)(ta tb:DE):DE:=fun σ st K=>ta σ st fun x st1=>tb σ st1 fun y st2=>r x y st2 K
def nu(r:zT)(ta:DE):DE:=fun σ st K=>ta σ st fun x st1=>r x st1 K
theorem LE.op{r:dX}{σ:L2.St}{H:Hp}{Q:VK}(h:LE (au r ta tb) σ H Q):Fo (LR r) (LE ta) (LE tb) σ H Q:=by
 obtain⟨α,σd,st,K,G,F,P,R,S,t,k⟩:=h;refine⟨α,σd,st,_,G,F,P,R,S,t,fun d st1 q α1 G1 H1 v s1 P1 S1 r1=>?_⟩;refine⟨α1,σd,st1,_,G1,F,P1,R.step s1,S1,q,fun d2 st2 q2 α2 G2 H2 v2 s2 P2 S2 r2=>?_⟩;exact⟨α2,d,d2,st2,K,G2,F,P2,r1.step s2,r2,S2,q2,(k.at s1).at s2⟩
theorem LE.un{r:zT}{σ:L2.St}{H:Hp}{Q:VK}(h:LE (nu r ta) σ H Q):Pu (HZ r) (LE ta) σ H Q:=by
 obtain⟨α,σd,st,K,G,F,P,R,S,t,k⟩:=h;refine⟨α,σd,st,_,G,F,P,R,S,t,fun d st1 q α1 G1 H1 v s1 P1 S1 r1=>?_⟩;exact⟨α1,d,st1,K,G1,F,P1,r1,S1,q,k.at s1⟩
theorem QH{op:Operator}{r:dX}(ho:cJ X (binaryOp op) (LR r))(ha:PE X a (LE ta))(hb:PE X b (LE tb)):PE X (.BinOp a op b pos) (LE (au r ta tb)):=PE.imp (OU ho ha hb) fun _ _ _ h=>LE.op h
theorem QL{op:UnaryOp}{r:zT}(ho:Cb X (unaryOp op) (HZ r))(ha:PE X a (LE ta)):PE X (.UnaryOp op a pos) (LE (nu r ta)):=PE.imp (Pj ho ha) fun _ _ _ h=>LE.un h
theorem Og{op:CmpOp}{r:dX}(ho:cJ X (compareOp op) (LR r))(ha:PE X a (LE ta))(hb:PE X b (LE tb))(hm:behindInMarks op b=false:=by first|exact aQ _|rfl):PE X (.Compare a [op] [b] pos) (LE (au r ta tb)):=PE.imp (JX ho ha hb hm) fun _ _ _ h=>LE.op h
def aR(t:DE):DT:=fun σ st K=>t σ st fun d st1=>match d with| .bl b=>K b st1|_=>False
theorem LT.test{σ:L2.St}{H:Hp}{Q:Bool->Hp->Prop}(h:LT (aR te) σ H Q):LE te σ H fun x H'=>∃k,x= .bl k/\Q k H':=by
 obtain⟨α,σd,st,K,G,F,P,R,S,t,k⟩:=h;refine⟨α,σd,st,_,G,F,P,R,S,t,fun d st1 q α1 G1 H1 v s1 P1 S1 r1=>?_⟩;cases d with
 |bl b=>
  unfold Rep at r1;exact⟨b,r1,k b st1 q α1 G1 H1 s1 P1 S1⟩
 |_=>exact q.elim
theorem Ls{op:CmpOp}{r:dX}(ho:cJ X (compareOp op) (LR r))(ha:PE X a (LE ta))(hb:PE X b (LE tb))(hm:behindInMarks op b=false:=by first|exact aQ _|rfl):PT X (.Compare a [op] [b] pos) (LT (aR (au r ta tb))):=PT.imp (JQ ho ha hb hm) fun σ H Q h=>by
 have q:=LT.test h;exact LE.op (Q:=fun x H'=>∃k,x= .bl k/\Q k H') q
theorem LJ(he:PE X e (LE te))(hv:∀whole,isTrue e X.env whole=(do let v <-whole;standAt e.pos;holding [v] (truthy v)):=by intro _;rfl):PT X e (LT (aR te)):=PT.imp (Mj he hv) fun σ H Q h=>LT.test h
def j6(t:DT):DT:=fun σ st K=>t σ st fun b st1=>K (!b) st1
def jZ(t u:DT):DT:=fun σ st K=>t σ st fun b st1=>if b=true then u σ st1 K else K false st1
def nj(t u:DT):DT:=fun σ st K=>t σ st fun b st1=>if b=true then K true st1 else u σ st1 K
theorem Ms{t:DT}(ha:PT X a (LT t)):PT X (.UnaryOp .Not a pos) (LT (j6 t)):=PT.imp (MT ha) fun σ H Q ⟨α,σd,st,K,G,F,P,R,S,t,k⟩=>
 ⟨α,σd,st,_,G,F,P,R,S,t,fun b st1 q α1 G1 H1 s1 P1 S1=>k _ st1 q α1 G1 H1 s1 P1 S1⟩
theorem LT.and{t u:DT}{σ:L2.St}{H:Hp}{Q:Bool->Hp->Prop}(h:LT (jZ t u) σ H Q):Me (LT t) (LT u) σ H Q:=by
 obtain⟨α,σd,st,K,G,F,P,R,S,t,k⟩:=h;refine⟨α,σd,st,_,G,F,P,R,S,t,fun b st1 q α1 G1 H1 s1 P1 S1=>?_⟩;cases b with
 |true=>exact⟨α1,σd,st1,K,G1,F,P1,R.step s1,S1,q,k.at s1⟩
 |false=>exact k _ st1 q α1 G1 H1 s1 P1 S1
theorem LT.or{t u:DT}{σ:L2.St}{H:Hp}{Q:Bool->Hp->Prop}(h:LT (nj t u) σ H Q):PX (LT t) (LT u) σ H Q:=by
 obtain⟨α,σd,st,K,G,F,P,R,S,t,k⟩:=h;refine⟨α,σd,st,_,G,F,P,R,S,t,fun b st1 q α1 G1 H1 s1 P1 S1=>?_⟩;cases b with
 |false=>exact⟨α1,σd,st1,K,G1,F,P1,R.step s1,S1,q,k.at s1⟩
 |true=>exact k _ st1 q α1 G1 H1 s1 P1 S1
theorem Jj{t:DT}(ha:PT X a (LT t)):PW X (.BoolOp .And [a] pos) (LT t):=pw_and1 ha
theorem Nf{t:DT}(ha:PT X a (LT t)):PW X (.BoolOp .Or [a] pos) (LT t):=pw_or1 ha
theorem M_{t u:DT}(ha:PT X a (LT t))(hb:PW X (.BoolOp .And (b::es) pos) (LT u)):PW X (.BoolOp .And (a::b::es) pos) (LT (jZ t u)):=PW.imp (pw_and ha hb) fun _ _ _ h=>LT.and h
theorem Pe{t u:DT}(ha:PT X a (LT t))(hb:PW X (.BoolOp .Or (b::es) pos) (LT u)):PW X (.BoolOp .Or (a::b::es) pos) (LT (nj t u)):=PW.imp (pw_or ha hb) fun _ _ _ h=>LT.or h
def ie(ta tb:DE):DE:=fun σ st K=>ta σ st fun d st1=>match d with| .bl b=>if b=true then tb σ st1 K else K (.bl false) st1|_=>False
def rh(t:DT):DE:=fun σ st K=>t σ st fun b st1=>K (.bl (!b)) st1
theorem Oq{op:BoolOp}(ha:PE X a (LE ta)):PE X (.BoolOp op [a] pos) (LE ta):=Mh ha
theorem OI(ha:PE X a (LE ta))(hb:PE X (.BoolOp .And (b::es) pos) (LE tb)):PE X (.BoolOp .And (a::b::es) pos) (LE (ie ta tb)):=PE.imp (Ml ha hb) fun σ H Q ⟨α,σd,st,K,G,F,P,R,S,t,k⟩=>by
 refine⟨α,σd,st,_,G,F,P,R,S,t,fun d st1 q α1 G1 H1 v s1 P1 S1 r1=>?_⟩;cases d with
 |bl b=>
  unfold Rep at r1;refine⟨b,r1,?_⟩;cases b with
  |true=>exact⟨α1,σd,st1,K,G1,F,P1,R.step s1,S1,q,k.at s1⟩
  |false=>exact k _ st1 q α1 G1 H1 _ s1 P1 S1 (by unfold Rep;rfl)
 |_=>exact q.elim
theorem OG(ha:PE X a (LE ta)):PE X (.UnaryOp .Not a pos) (LE (rh (aR ta))):=PE.imp (M3 ha) fun σ H Q ⟨α,σd,st,K,G,F,P,R,S,t,k⟩=>by
 refine⟨α,σd,st,_,G,F,P,R,S,t,fun d st1 q α1 G1 H1 v s1 P1 S1 r1=>?_⟩;cases d with
 |bl b=>
  unfold Rep at r1;exact⟨b,r1,k _ st1 q α1 G1 H1 _ s1 P1 S1 (by unfold Rep;rfl)⟩
 |_=>exact q.elim
def IJ(t:DT)(ta tb:DE):DE:=fun σ st K=>t σ st fun b st1=>if b=true then ta σ st1 K else tb σ st1 K
theorem Oa{t:DT}(hc:PT X c (LT t))(ha:PE X a (LE ta))(hb:PE X b (LE tb)):PE X (.IfExp c a b pos) (LE (IJ t ta tb)):=PE.imp (Hj hc ha hb) fun σ H Q ⟨α,σd,st,K,G,F,P,R,S,t,k⟩=>by
 refine⟨α,σd,st,_,G,F,P,R,S,t,fun b st1 q α1 G1 H1 s1 P1 S1=>?_⟩;cases b with
 |true=>exact⟨α1,σd,st1,K,G1,F,P1,R.step s1,S1,q,k.at s1⟩
 |false=>exact⟨α1,σd,st1,K,G1,F,P1,R.step s1,S1,q,k.at s1⟩
def ao:DA:=fun _ st K=>K [] st
def ae(ta:DE)(tr:DA):DA:=fun σ st K=>ta σ st fun x st1=>tr σ st1 fun xs st2=>K (x::xs) st2
theorem tK:PA X [] (LA ao):=PA.imp LH fun σ H Q ⟨α,σd,st,K,G,F,P,R,S,t,k⟩=>k [] st t α G H [] Step.refl P S (by unfold aM;rfl)
theorem nS{tr:DA}(ha:PE X e (LE te))(hr:PA X es (LA tr))(hs:starEach (e::es) X.env=(false,eval e X.env)::starEach es X.env:=by rfl):PA X (e::es) (LA (ae te tr)):=PA.imp (J8 ha hr hs) fun σ H Q ⟨α,σd,st,K,G,F,P,R,S,t,k⟩=>by
 refine⟨α,σd,st,_,G,F,P,R,S,t,fun d st1 q α1 G1 H1 v s1 P1 S1 r1=>?_⟩;refine⟨α1,σd,st1,_,G1,F,P1,R.step s1,S1,q,fun ds st2 q2 α2 G2 H2 vs s2 P2 S2 r2=>?_⟩;exact k _ st2 q2 α2 G2 H2 (v::vs) (s1.trans s2) P2 S2 (by unfold aM;exact⟨v,vs,rfl,r1.step s2,r2⟩)
def c5(t:DA):DE:=fun σ st K=>t σ st fun ds st1=>ds.length<=sizeLine/\K (.tup ds) st1
def fV(t:DA):DE:=fun σ st K=>t σ st fun ds st1=>ds.length<=sizeLine/\K (.lst ds) st1
def w6(t:DA):DE:=fun σ st K=>t σ st fun ds st1=>ds.length<=sizeLine/\K (.ref st1.length) (st1++[.lst ds])
theorem LK.tup{α:List (Option Addr)}{G F H:Hp}{K:DK}{Q:VK}{ds:List D}{vs:List V}{st:ai}{p:Addr}(k:LK α G F K Q)(P:cE G F H)(q:K (.tup ds) st)(S:aW α st G)(r:aM α G ds vs)(hp:H p=none):Q (.ref p) (upd H p (.tup vs)):=
 have hg:=(P.none hp).1
 k _ st q α _ _ _ (Step.laid hg) (P.laid hp) (S.laid hg) (by unfold Rep;exact⟨p,vs,rfl,S.kU hg,a5,r.step (Step.laid hg)⟩)
theorem LK.lst{α:List (Option Addr)}{G F H:Hp}{K:DK}{Q:VK}{ds:List D}{vs:List V}{st:ai}{p:Addr}(k:LK α G F K Q)(P:cE G F H)(q:K (.lst ds) st)(S:aW α st G)(r:aM α G ds vs)(hp:H p=none):Q (.ref p) (upd H p (.lst vs)):=
 have hg:=(P.none hp).1
 k _ st q α _ _ _ (Step.laid hg) (P.laid hp) (S.laid hg) (by unfold Rep;exact⟨p,vs,rfl,S.kU hg,.of a5,r.step (Step.laid hg)⟩)
theorem LK.new{α:List (Option Addr)}{G F H:Hp}{K:DK}{Q:VK}{ds:List D}{vs:List V}{st:ai}{p:Addr}(k:LK α G F K Q)(P:cE G F H)(q:K (.ref st.length) (st++[.lst ds]))(S:aW α st G)(r:aM α G ds vs)(hp:H p=none):Q (.ref p) (upd H p (.lst vs)):=
 have hg:=(P.none hp).1
 k _ _ q (α++[some p]) _ _ _ (Step.cell hg) (P.laid hp) (S.cell hg ⟨vs,a5,r.step (Step.cell hg)⟩) (by
  unfold Rep;refine .inr ⟨p,?_,rfl⟩;rw[List.getElem?_append_right (by rw[S.len];exact Nat.le_refl _),S.len,Nat.sub_self];rfl)
theorem OF{n:Nat}{t:DA}(h:PA X es (LA t)):PE X (.Tuple es n pos) (LE (c5 t)):=PE.imp (Np h) fun σ H Q ⟨α,σd,st,K,G,F,P,R,S,t,k⟩=>
 ⟨α,σd,st,_,G,F,P,R,S,t,fun ds st1 q α1 G1 H1 vs s1 P1 S1 r1=>⟨by rw[<-r1.length];exact q.1,fun p hp=>(k.at s1).tup P1 q.2 S1 r1 hp⟩⟩
theorem OZ{t:DA}(h:PA X es (LA t)):PE X (.List es pos) (LE (fV t)):=PE.imp (E_ h) fun σ H Q ⟨α,σd,st,K,G,F,P,R,S,t,k⟩=>
 ⟨α,σd,st,_,G,F,P,R,S,t,fun ds st1 q α1 G1 H1 vs s1 P1 S1 r1=>⟨by rw[<-r1.length];exact q.1,fun p hp=>(k.at s1).lst P1 q.2 S1 r1 hp⟩⟩
theorem Oz{t:DA}(h:PA X es (LA t)):PE X (.List es pos) (LE (w6 t)):=PE.imp (E_ h) fun σ H Q ⟨α,σd,st,K,G,F,P,R,S,t,k⟩=>
 ⟨α,σd,st,_,G,F,P,R,S,t,fun ds st1 q α1 G1 H1 vs s1 P1 S1 r1=>⟨by rw[<-r1.length];exact q.1,fun p hp=>(k.at s1).new P1 q.2 S1 r1 hp⟩⟩
abbrev cA:=List D->ai->DK->Prop
inductive NA(T:cA)(vs:List V)(H:Hp)(Q:VK):Prop
 |mk (α:List (Option Addr)) (ds:List D) (st:ai) (K:DK) (G F:Hp) (P:cE G F H) (rx:aM α G ds vs) (S:aW α st G) (h:T ds st K) (k:LK α G F K Q):NA T vs H Q
def cG(S:cA):Sp:=fun vs H Q _=>NA S vs H Q
def aC(S:cA)(t:DA):DE:=fun σ st K=>t σ st fun ds st1=>S ds st1 K
theorem LE.call{S:cA}{t:DA}{σ:L2.St}{H:Hp}{Q:VK}(h:LE (aC S t) σ H Q):Ie (cG S) [] E0 (LA t) σ H Q:=by
 obtain⟨α,σd,st,K,G,F,P,R,S,t,k⟩:=h;refine⟨α,σd,st,_,G,F,P,R,S,t,fun ds st1 q α1 G1 H1 vs s1 P1 S1 r1=>?_⟩;try dsimp only
 rw[List.append_nil];exact⟨α1,ds,st1,K,G1,F,P1,r1,S1,q,k.at s1⟩
theorem Lh{S:cA}{k:Nat}{f:Addr}{fd:FuncData}{ps:List Str}{x:Str}{p:Pos}{t:DA}(F:bf X.prog X.w X.K X.mg X.base cD k f fd ps (cG S))(hr:c8 k X.A)(hg:Gl X x)(hm:X.mg x=some (.ref f))(hk:PySem.W.keepIn X.K (.ref f)=true)(hb:Binds X.K fd ps [])
 (ha:PA X (e::es) (LA t)) (hdb:(x==("__debug__":Str))=false:=by decide) (he:starEach (e::es) X.env=(false,eval e X.env)::starEach es X.env:=by rfl) (hpl:(backTo pos (starEach es X.env)).any (·.1)=false:=by rfl):
 PE X (.Call (.Name x p) (e::es) [] pos) (LE (aC S t)):=PE.imp (Jk F hr hg hm hk hb .nil C2 ha hdb he hpl) fun _ _ _ h=>LE.call h
def bw(r:fk)(t:DA):DE:=fun σ st K=>t σ st fun ds st1=>r ds st1 K
theorem LE.cb{r:fk}{t:DA}{σ:L2.St}{H:Hp}{Q:VK}(h:LE (bw r t) σ H Q):Mv (gm r) (LA t) σ H Q:=by
 obtain⟨α,σd,st,K,G,F,P,R,S,t,k⟩:=h;refine⟨α,σd,st,_,G,F,P,R,S,t,fun ds st1 q α1 G1 H1 vs s1 P1 S1 r1=>?_⟩;exact⟨α1,ds,st1,K,G1,F,P1,r1,S1,q,k.at s1⟩
end
section
variable {X:Cx}
theorem cJ.imp{f:Value->Value->Sem Value}{r r':R2}(h:cJ X f r)(k:∀x y H Q,r' x y H Q->r x y H Q):cJ X f r':=fun pins s σ H x y v u Q I rx ry q=>h pins s σ H x y v u Q I rx ry (k x y H Q q)
theorem cj.imp{f:Value}{r r':List V->Hp->VK->Prop}(h:cj X f r)(k:∀xs H Q,r' xs H Q->r xs H Q):cj X f r':=fun pins s σ H xs us Q I rs q=>h pins s σ H xs us Q I rs (k xs H Q q)
def yb(C:Int->Int->Prop)(g:Int->Int->D):dX:=fun x y st K=>match x,y with| .int i,.int j=>C i j/\K (g i j) st|_,_=>False
theorem ot{f:Value->Value->Sem Value}{C:Int->Int->Prop}{g:Int->Int->D}{g':Int->Int->V}(hg:∀i j α H,Rep α H (g i j) (g' i j))(h:cJ X f (rI C g')):cJ X f (LR (yb C g)):=cJ.imp h fun x y H Q ⟨α,d,e,st,K,G,F',P,r1,r2,S,q,k⟩=>by
 cases d<;>cases e<;>first
  |exact q.elim
  |(unfold Rep at r1 r2;exact⟨_,_,r1,r2,q.1,k.here P q.2 S (hg _ _ _ _)⟩)
abbrev T2:Int->Int->Prop:=fun _ _=>True
theorem CS{g:Int->Int->V}{f:Value->Value->Sem Value}(h:cJ X f (Af g)):cJ X f (rI T2 g):=cJ.imp h fun x y H Q ⟨i,j,e1,e2,_,q⟩=>⟨i,j,e1,e2,q⟩
abbrev IL:dX:=yb T2 fun i j=> .int (i-j)
abbrev Eh:dX:=yb (fun _ j=>j≠0/\j.natAbs.log2<9000) fun i j=> .int (i.fdiv j)
abbrev Ib:dX:=yb (fun _ j=>j≠0) fun i j=> .int (i.fmod j)
abbrev IU:dX:=yb GJ fun i j=> .int (i^j.toNat)
abbrev Nq:dX:=yb T2 fun i j=> .bl (decide (i<j))
abbrev Mc:dX:=yb T2 fun i j=> .bl (decide (j<i))
theorem N2:cJ X (binaryOp .Sub) (LR IL):=ot (fun _ _ _ _=>by unfold Rep;rfl) (CS Nz)
theorem M8:cJ X (binaryOp .FloorDiv) (LR Eh):=ot (fun _ _ _ _=>by unfold Rep;rfl) (HX fun i j _ _ _ _ _ hc q=>floordiv_int hc.1 q (.inl (PyProof.noPylong_of_log2 hc.2)))
theorem NY:cJ X (binaryOp .Mod) (LR Ib):=ot (fun _ _ _ _=>by unfold Rep;rfl) Kq
theorem N7:cJ X (binaryOp .Pow) (LR IU):=ot (fun _ _ _ _=>by unfold Rep;rfl) Ng
theorem Qv:cJ X (compareOp .Lt) (LR Nq):=ot (fun _ _ _ _=>by unfold Rep;rfl) (CS OR)
theorem QA:cJ X (compareOp .Gt) (LR Mc):=ot (fun _ _ _ _=>by unfold Rep;rfl) (CS OO)
def H_:zT:=fun x st K=>match x with| .int i=>K (.int (-i)) st|_=>False
theorem NP:Cb X (unaryOp .USub) (HZ H_):=fun pins s σ H x v Q I rx ⟨α,d,st,K,G,F',P,r,S,q,k⟩=>by
 cases d<;>first
  |exact q.elim
  |(unfold Rep at r;exact LX pins s σ H x v Q I rx ⟨_,r,k.here P q S (by unfold Rep;rfl)⟩)
theorem Inv.uV{pins:List (Addr×Obj)}{σ:L2.St}{H:Hp}{s:Shared}{l:Addr}{xs:List V}(I:Inv X pins σ H s)(h:Rd H l (.lst xs)):
 xs.length<=sizeLine/\∃(aq:List Value) (n:Nat),Vals xs aq/\xs.length=aq.length/\s.heap.get? l=some {cls:= .type "list",data:= .seq aq.toArray n}:=by
 obtain⟨z,aq,n,r,e⟩:=h.ok I.aK;exact⟨z,aq,n,r,r.length,e⟩
theorem gh{G F H:Hp}(P:cE G F H){a:Addr}{u:HO}(h:Rd G a u):Rd H a u:=by
 rcases h with h|⟨o,h⟩
 . exact .inl (P.get h)
 . exact .inr ⟨o,P.get h⟩
theorem Ka:cJ X (binaryOp .Add) (fun x y H Q=>∃l b xs zs,x= .ref l/\y= .ref b/\Rd H l (.lst xs)/\Rd H b (.lst zs)/\xs.length+zs.length<=sizeLine/\∀p,H p=none->Q (.ref p) (upd H p (.lst (xs++zs)))):=by
 intro pins s σ H x y v u Q I rx ry h;obtain⟨l,b,xs,zs,rfl,rfl,hH,hB,hz,q⟩:=h;cases rx;cases ry;obtain⟨z,aq,n,r,hl,e⟩:=Inv.uV I hH;obtain⟨z2,its2,n2,r2,hl2,e2⟩:=Inv.uV I hB;refine PySem.P.add_list e e2 ?_ (by rw[List.size_toArray,List.size_toArray];omega);have ea:aq.toArray++its2.toArray=(aq++its2).toArray:=by simp
 rw[ea];exact⟨.ref _,_,I.Gx (t':=s.toks) (r.append r2) (by rw[List.length_append];omega),rfl,q _ I.fresh⟩
theorem BS:cJ X (binaryOp .Mult) (fun x y H Q=>∃l k xs,x= .ref l/\y= .int k/\Rd H l (.lst xs)/\ -(2^63)<=k/\k<2^63/\xs.length*k.toNat<=sizeLine/\
 ∀p,H p=none->Q (.ref p) (upd H p (.lst (List.replicate k.toNat xs).flatten))):=by
 intro pins s σ H x y v u Q I rx ry h;obtain⟨l,k,xs,rfl,rfl,hH,h1,h2,hz,q⟩:=h;cases rx;obtain⟨t,rfl⟩:=ry;obtain⟨z,aq,n,r,hl,e⟩:=Inv.uV I hH;have hlen:aq.toArray.size*k.toNat<=sizeLine:=by rw[List.size_toArray,<-hl];exact hz
 have hcap:¬aq.toArray.size*k.toNat>(2^63-1)/8:=by
  have:(sizeLine:Nat)<=(2^63-1)/8:=by decide
  omega
 have hfit:¬(!Builtin.List.listFitsIndex k)=true:=by
  rw[fitsIndex_both h1 h2];exact Bool.false_ne_true
 have hlong:¬Builtin.List.listTooLong (aq.toArray.size*k.toNat)=true:=by
  rw[Hm hlen];exact Bool.false_ne_true
 have hnew:List.foldl (fun x1 x2=>x1++x2) #[] (List.replicate (if aq.toArray.isEmpty=true then 0 else k.toNat) aq.toArray)=(List.replicate k.toNat aq).flatten.toArray:=by
  have f0:∀m:Nat,List.foldl (fun x1 x2=>x1++x2) #[] (List.replicate m aq.toArray)=(List.replicate m aq).flatten.toArray:=fun m=>by
   have:=foldl_rep aq m [];rw[List.nil_append]at this;exact this
  rw[f0];cases aq with
  |nil=>simp
  |cons a r'=>rw[if_neg (by simp)]
 refine wpAny_binaryOp_repeat_ref (T:="list") (U:="int") (by decide) ⟨_,e,rfl⟩ (fun s'=>typeIs_int s' k t) noFill_list_mul F.fills_int_mul F.slot_int_rmul repeat_list F.slot_int_index.lookup
  (call_meets F.slot_int_rmul (typeIs_int s k t) F.entry_int_rmul (F.args_int_rmul_2 _ _) (int___rmul___int_list k t l aq.toArray n)
    ⟨e,rfl,⟨_,e,rfl⟩,call_meets F.slot_list_mul ⟨_,e,rfl⟩ F.entry_list_mul (F.args_list_mul_2 _ _) (AutoListH.list___mul___list_int_3 l aq.toArray n k t hfit hcap hlong) ⟨e,?_⟩⟩)
 rw[hnew];exact⟨.ref _,_,I.Gx (t':=s.toks) (r.rep k.toNat) (by rw[len_rep,Nat.mul_comm];exact hz),rfl,q _ I.fresh⟩
theorem Gk:cJ X (binaryOp .Add) (fun x y H Q=>∃a b xs ys,x= .ref a/\y= .ref b/\H a=some (.tup xs)/\H b=some (.tup ys)/\xs.length+ys.length<=sizeLine/\
 (xs=[]->Q (.ref b) H)/\(xs≠ []->ys=[]->Q (.ref a) H)/\(xs≠ []->ys≠ []->∀p,H p=none->Q (.ref p) (upd H p (.tup (xs++ys))))):=by
 intro pins s σ H x y v u Q I rx ry h;obtain⟨a,b,xs,ys,rfl,rfl,ha,hb,hz,q0,q1,q2⟩:=h;by_cases hx:xs=[]
 . cases rx;cases ry;obtain⟨aq,r1,p1,_⟩:=I.tuple (.of ha);obtain⟨its2,r2,p2,_⟩:=I.tuple (.of hb);obtain⟨⟨cls,dd,data,sl⟩,ho,hc,n,hd⟩:=id p1;obtain⟨⟨cls2,dd2,data2,sl2⟩,ho2,hc2,n2,hd2⟩:=id p2;simp only at hc hd hc2 hd2;subst hc hd hc2 hd2;have hi:aq=[]:=(L2.Vals.tW r1).mpr hx
   exact concat_meets ⟨_,ho,rfl⟩ ⟨_,ho2,rfl⟩ noFill_tuple_add seq_tuple_add PySem.F.slot_tuple_add PySem.F.entry_tuple_add (PySem.F.args_tuple_add_2 _ _)
    (tuple_addW0 a b aq.toArray its2.toArray n n2 dd dd2 sl sl2 (by simp[hi])) ⟨ho,ho2,⟨.ref b,H,I,rfl,q0 hx⟩⟩
 . exact IV pins s σ H _ _ v u Q I rx ry ⟨a,b,xs,ys,rfl,rfl,.of ha,.of hb,hx,hz,q1 hx,q2 hx⟩
theorem xo:fillsNumberSlot (.type "tuple") "mul"=pure false:=
 PySem.fillsNumberSlot_seq (id:="tuple.__mul__") (r:=some (.builtin "tuple.__rmul__")) F.slot_tuple_mul.lookup (by decide+kernel) F.slot_tuple_rmul.lookup (by decide+kernel)
theorem C4:seqRepeat? (.type "tuple")=pure (some (.builtin "tuple.__mul__")):=by
 unfold seqRepeat?;rw[PySem.seqSlot_of (T:="tuple") (name:="__mul__") (id:="tuple.__mul__") F.slot_tuple_mul.lookup (by decide+kernel),PySem.seqSlot_of (T:="tuple") (name:="__rmul__") (id:="tuple.__rmul__") F.slot_tuple_rmul.lookup (by decide+kernel)];rfl
theorem AU(a:Int)(t:Tok)(l:Addr)(aq:Array Value)(n:Nat)(dd:Option Addr)(sl:Array (Option Value)):Meets (Builtin.«int.__rmul__» ⟨[.int a t,.ref l],[]⟩) (fun _ R s=>s.heap.get? l=some {cls:= .type "tuple",dict:=dd,data:= .seq aq n,slots:=sl}/\R (.ok (.ret Value.notImplemented)) s):=
 .of_wp fun P w A R s h=>by
  obtain⟨hp,g,d,tk,os⟩:=s;obtain⟨hl,h⟩:=h
  wp_walk
  exact⟨_,rfl,h⟩
theorem zQ(l:Addr)(aq:Array Value)(n:Nat)(dd:Option Addr)(sl:Array (Option Value))(x:Int)(u:Tok)(h0:(decide (x< -(2^63))||decide (x>=2^63))=false)(h1:(aq.isEmpty||x==1)=true):
 Meets (Builtin.«tuple.__mul__» ⟨[.ref l,.int x u],[]⟩) (fun _ R s=>s.heap.get? l=some {cls:= .type "tuple",dict:=dd,data:= .seq aq n,slots:=sl}/\R (.ok (.ret (.ref l))) s):=
 .of_wp fun P w A R s h=>by
  obtain⟨hp,g,d,tk,os⟩:=s;obtain⟨hl,h⟩:=h
  wp_walk
  refine wpAny_ite_false (by rw[h0];rfl) ?_
  wp_walk
  exact⟨_,rfl,h⟩
theorem zY(l:Addr)(aq:Array Value)(n:Nat)(dd:Option Addr)(sl:Array (Option Value))(x:Int)(u:Tok)(h0:(decide (x< -(2^63))||decide (x>=2^63))=false)(h1:(aq.isEmpty||x==1)=false)(h2:(decide (x<=0)||aq.isEmpty)=true):
 Meets (Builtin.«tuple.__mul__» ⟨[.ref l,.int x u],[]⟩) (fun _ R s=>s.heap.get? l=some {cls:= .type "tuple",dict:=dd,data:= .seq aq n,slots:=sl}/\R (.ok (.ret (.ref s.heap.objs.size))) {s with heap:=s.heap.push {cls:= .type "tuple",data:= .seq #[]}}):=
 .of_wp fun P w A R s h=>by
  obtain⟨hp,g,d,tk,os⟩:=s;obtain⟨hl,h⟩:=h
  wp_walk
  refine wpAny_ite_false (by rw[h0];rfl) ?_
  wp_walk
  exact⟨_,rfl,h⟩
theorem Ay(l:Addr)(aq:Array Value)(n:Nat)(dd:Option Addr)(sl:Array (Option Value))(x:Int)(u:Tok)(h0:(decide (x< -(2^63))||decide (x>=2^63))=false)(h1:(aq.isEmpty||x==1)=false)(h2:(decide (x<=0)||aq.isEmpty)=false)(h3:¬((aq.size:Int)*x>(2^63-1)/8))(h4:Builtin.Tuple.tupleTooMany (aq.size*x)=false)
 (hz:(List.foldl (fun x1 x2=>x1++x2) #[] (List.replicate x.toNat aq)).size<=sizeLine):
 Meets (Builtin.«tuple.__mul__» ⟨[.ref l,.int x u],[]⟩) (fun _ R s=>s.heap.get? l=some {cls:= .type "tuple",dict:=dd,data:= .seq aq n,slots:=sl}/\R (.ok (.ret (.ref s.heap.objs.size))) {s with heap:=s.heap.push {cls:= .type "tuple",data:= .seq (List.foldl (fun x1 x2=>x1++x2) #[] (List.replicate x.toNat aq))}}):=
 .of_wp fun P w A R s h=>by
  obtain⟨hp,g,d,tk,os⟩:=s;obtain⟨hl,h⟩:=h
  wp_walk
  refine wpAny_ite_false (by rw[h0];rfl) ?_
  wp_walk
  refine wpAny_ite_false (decide_eq_false h3) ?_
  wp_walk
  exact⟨_,rfl,h⟩
theorem JY:cJ X (binaryOp .Mult) (fun x y H Q=>∃l k xs,x= .ref l/\y= .int k/\H l=some (.tup xs)/\ -(2^63)<=k/\k<2^63/\xs.length*k.toNat<=sizeLine/\
 ((xs=[]\/k=1)->Q (.ref l) H)/\(¬(xs=[]\/k=1)->∀p,H p=none->Q (.ref p) (upd H p (.tup (List.replicate k.toNat xs).flatten)))):=by
 intro pins s σ H x y v u Q I rx ry h;obtain⟨l,k,xs,rfl,rfl,hH,h1,h2,hz,q1,q2⟩:=h;cases rx;obtain⟨t,rfl⟩:=ry;obtain⟨aq,r,p1,_⟩:=I.tuple (.of hH);obtain⟨⟨cls,dd,data,sl⟩,ho,hc,n,hd⟩:=id p1;simp only at hc hd;subst hc hd;have hl:xs.length=aq.length:=r.length
 have f0:(decide (k< -(2^63))||decide (k>=2^63))=false:=by
  rw[decide_eq_false (by omega),decide_eq_false (by omega)];rfl
 refine wpAny_binaryOp_repeat_ref (T:="tuple") (U:="int") (by decide) ⟨_,ho,rfl⟩ (fun s'=>typeIs_int s' k t) xo F.fills_int_mul F.slot_int_rmul C4 F.slot_int_index.lookup
  (call_meets F.slot_int_rmul (typeIs_int s k t) F.entry_int_rmul (F.args_int_rmul_2 _ _) (AU k t l aq.toArray n dd sl) ⟨ho,rfl,⟨_,ho,rfl⟩,?_⟩)
 by_cases hs:xs=[]\/k=1
 . have f1:(aq.toArray.isEmpty||k==1)=true:=by
    rcases hs with z|z
    . have:aq=[]:=List.length_eq_zero_iff.mp (by rw[<-hl,z];rfl);rw[this];rfl
    . rw[z];simp
   exact call_meets F.slot_tuple_mul ⟨_,ho,rfl⟩ F.entry_tuple_mul (F.args_tuple_mul_2 _ _) (zQ l aq.toArray n dd sl k t f0 f1) ⟨ho,⟨.ref l,H,I,rfl,q1 hs⟩⟩
 . have hne:aq≠ []:=fun z=>hs (.inl (List.length_eq_zero_iff.mp (by rw[hl,z];rfl)));have hk1:k≠1:=fun z=>hs (.inr z);have e1:aq.toArray.isEmpty=false:=by simpa using hne
   have f1:(aq.toArray.isEmpty||k==1)=false:=by rw[e1];simpa using hk1
   have new:∀(us:List Value) (ys:List V),Vals ys us->ys.length<=sizeLine->Inv X pins σ (upd H s.heap.objs.size (.tup ys)) {s with heap:=s.heap.push {cls:= .type "tuple",data:= .seq us.toArray}}:=fun us ys hv hy=>
    I.laid (t':=s.toks) (fun _ _ q=>Heap.get?_push_of_some _ q) (Nat.le_refl _) ⟨hy,us,hv,⟨_,Heap.get?_push_size _ rfl,rfl,_,rfl⟩⟩
   by_cases h0:k<=0
   . have f2:(decide (k<=0)||aq.toArray.isEmpty)=true:=by rw[decide_eq_true h0];rfl
     refine call_meets F.slot_tuple_mul ⟨_,ho,rfl⟩ F.entry_tuple_mul (F.args_tuple_mul_2 _ _) (zY l aq.toArray n dd sl k t f0 f1 f2) ⟨ho,?_⟩;have ez:k.toNat=0:=by omega
     rw[ez]at q2;exact⟨.ref _,_,new [] [] .nil (Nat.zero_le _),rfl,q2 hs _ I.fresh⟩
   . have f2:(decide (k<=0)||aq.toArray.isEmpty)=false:=by rw[decide_eq_false h0,e1];rfl
     have hk:(k.toNat:Int)=k:=by omega
     have hlen:aq.toArray.size*k.toNat<=sizeLine:=by rw[List.size_toArray,<-hl];exact hz
     have hsz:((aq.toArray.size:Nat):Int)*k<=(sizeLine:Int):=by
      rw[<-hk]
      exact_mod_cast hlen
     have f3:¬(((aq.toArray.size:Nat):Int)*k>(2^63-1)/8):=by
      have:((sizeLine:Nat):Int)<=(2^63-1)/8:=by decide
      omega
     have f4:Builtin.Tuple.tupleTooMany (((aq.toArray.size:Nat):Int)*k)=false:=by
      unfold Builtin.Tuple.tupleTooMany;exact decide_eq_false (by omega)
     have hnew:List.foldl (fun x1 x2=>x1++x2) #[] (List.replicate k.toNat aq.toArray)=(List.replicate k.toNat aq).flatten.toArray:=by
      have:=foldl_rep aq k.toNat [];rw[List.nil_append]at this;exact this
     have hfl:(List.replicate k.toNat aq).flatten.length=aq.length*k.toNat:=by rw[len_rep,Nat.mul_comm]
     refine call_meets F.slot_tuple_mul ⟨_,ho,rfl⟩ F.entry_tuple_mul (F.args_tuple_mul_2 _ _) (Ay l aq.toArray n dd sl k t f0 f1 f2 f3 f4 (by rw[hnew,List.size_toArray,hfl];exact hlen)) ⟨ho,?_⟩;rw[hnew];exact⟨.ref _,_,new _ _ (r.rep k.toNat) (by rw[len_rep,Nat.mul_comm];exact hz),rfl,q2 hs _ I.fresh⟩
def IT:dX:=fun x y st K=>match x,y with
 | .int i,.int j=>K (.int (i+j)) st
 | .tup xs,.tup ys=>xs.length+ys.length<=sizeLine/\K (.tup (xs++ys)) st
 | .lst xs,.lst ys=>xs.length+ys.length<=sizeLine/\K (.lst (xs++ys)) st
 | .str x,.str y=>x.length+y.length<=sizeLine/\K (.str (x++y)) st
 |_,_=>False
theorem Oh:cJ X (binaryOp .Add) (LR IT):=fun pins s σ H x y v u Q I rx ry ⟨α,d,e,st,K,G,F',P,r1,r2,S,q,k⟩=>by
 cases d<;>cases e<;>try exact q.elim
 . unfold Rep at r1 r2;exact L9 pins s σ H x y v u Q I rx ry ⟨_,_,r1,r2,k.here P q S (by unfold Rep;rfl)⟩
 . unfold Rep at r1 r2;exact CG pins s σ H x y v u Q I rx ry ⟨_,_,r1,r2,q.1,k.here P q.2 S (by unfold Rep;rfl)⟩
 . unfold Rep at r1 r2;obtain⟨a,vs,rfl,na,ha,ra⟩:=r1;obtain⟨b,ws,rfl,nb,hb,rb⟩:=r2;refine Ka pins s σ H _ _ v u Q I rx ry ⟨a,b,vs,ws,rfl,rfl,gh P ha,gh P hb,by rw[<-ra.length,<-rb.length];exact q.1,fun p hp=>?_⟩;exact k.lst P q.2 S (ba.mpr (f9 (ba.mp ra) (ba.mp rb))) hp
 . rename_i xs ys;unfold Rep at r1 r2;obtain⟨a,vs,rfl,na,ha,ra⟩:=r1;obtain⟨b,ws,rfl,nb,hb,rb⟩:=r2;have hl1:=ra.length;have hl2:=rb.length;refine Gk pins s σ H _ _ v u Q I rx ry ⟨a,b,vs,ws,rfl,rfl,P.get ha,P.get hb,by rw[<-hl1,<-hl2];exact q.1,fun z=>?_,fun _ z=>?_,fun _ _ p hp=>?_⟩
   . refine k.here P q.2 S ?_;unfold Rep;have:xs=[]:=by rw[z]at hl1;exact List.length_eq_zero_iff.mp hl1
     subst this;exact⟨b,ws,rfl,nb,hb,rb⟩
   . refine k.here P q.2 S ?_;unfold Rep;have:ys=[]:=by rw[z]at hl2;exact List.length_eq_zero_iff.mp hl2
     subst this;rw[List.append_nil];exact⟨a,vs,rfl,na,ha,ra⟩
   . exact k.tup P q.2 S (ba.mpr (f9 (ba.mp ra) (ba.mp rb))) hp
def H0:dX:=fun x y st K=>match x,y with
 | .int i,.int j=>IntMulOk i j/\K (.int (i*j)) st
 | .lst xs,.int k=>(-(2^63)<=k/\k<2^63/\xs.length*k.toNat<=sizeLine)/\K (.lst (List.replicate k.toNat xs).flatten) st
 | .tup xs,.int k=>(-(2^63)<=k/\k<2^63/\xs.length*k.toNat<=sizeLine)/\K (.tup (List.replicate k.toNat xs).flatten) st
 |_,_=>False
theorem Pg:cJ X (binaryOp .Mult) (LR H0):=fun pins s σ H x y v u Q I rx ry ⟨α,d,e,st,K,G,F',P,r1,r2,S,q,k⟩=>by
 cases d<;>cases e<;>try exact q.elim
 . unfold Rep at r1 r2;have h:cJ X (binaryOp .Mult) (rI IntMulOk fun i j=> .int (i*j)):=HX fun _ _ _ _ _ _ _ hc q=>mul_int q hc;exact h pins s σ H x y v u Q I rx ry ⟨_,_,r1,r2,q.1,k.here P q.2 S (by unfold Rep;rfl)⟩
 . unfold Rep at r1 r2;obtain⟨a,vs,rfl,na,ha,ra⟩:=r1;refine BS pins s σ H _ _ v u Q I rx ry ⟨a,_,vs,rfl,r2,gh P ha,q.1.1,q.1.2.1,by rw[<-ra.length];exact q.1.2.2,fun p hp=>?_⟩;exact k.lst P q.2 S (ba.mpr (mh (ba.mp ra) _)) hp
 . rename_i xs m;have r1':=r1;unfold Rep at r1 r2;obtain⟨a,vs,rfl,na,ha,ra⟩:=r1;refine JY pins s σ H _ _ v u Q I rx ry ⟨a,_,vs,rfl,r2,P.get ha,q.1.1,q.1.2.1,by rw[<-ra.length];exact q.1.2.2,fun hs=>?_,fun _ p hp=>k.tup P q.2 S (ba.mpr (mh (ba.mp ra) _)) hp⟩
   have e:(List.replicate m.toNat xs).flatten=xs:=by
    rcases hs with z|z
    . have:xs=[]:=List.length_eq_zero_iff.mp (by rw[ra.length,z];rfl);rw[this];simp
    . rw[z];simp
   have q2:=q.2;rw[e]at q2;exact k.here P q2 S r1'
def live(st:ai):D->Bool
 | .ref n=>(match st[n]? with|some (.lst _)=>true|some (.ins _ _)=>true|_=>false)
 |_=>true
theorem zt{α:List (Option Addr)}{H:Hp}{st:ai}{n:Nat}{v:V}(S:aW α st H)(h:live st (.ref n)=true)(r:Rep α H (.ref n) v):∃a,v= .ref a:=by
 unfold live at h;simp only at h;split at h
 . rename_i e;obtain⟨a,ea,_⟩:=S.fZ e;exact⟨a,d7 ea r⟩
 . rename_i e;obtain⟨a,ea,_⟩:=S.yK e;exact⟨a,d7 ea r⟩
 . cases h
def Kx:dX:=fun x y st K=>match y with| .aE=>live st x=true/\K (.bl (match x with| .aE=>false|_=>true)) st|_=>False
theorem Kh:cJ X (compareOp .IsNot) (LR Kx):=cJ.imp JM fun x y H Q ⟨α,d,e,st,K,G,F',P,r1,r2,S,q,k⟩=>by
 cases e<;>try exact q.elim
 unfold Rep at r2;refine⟨r2,k.here P q.2 S ?_⟩;unfold Rep;cases d
 case ref n=>
  obtain⟨a,rfl⟩:=zt S q.1 r1;rfl
 all_goals(unfold Rep at r1;first|(rw[r1];rfl)|(obtain⟨a,vs,rfl,_⟩:=r1;rfl))
def rf:dX:=fun x y st K=>match y with
 | .int i=>(match x with
   | .lst xs=>(match dU xs i with|some d=>K d st|none=>False)
   | .tup xs=>(match dU xs i with|some d=>K d st|none=>False)
   | .ref n=>(match st[n]? with|some (.lst xs)=>(match dU xs i with|some d=>K d st|none=>False)|_=>False)
   |_=>False)
 |_=>False
theorem aM.dU{α:List (Option Addr)}{H:Hp}{ds:List D}{vs:List V}{i:Int}{d:D}(h:aM α H ds vs)(e:L2.dU ds i=some d):∃v,L2.dU vs i=some v/\Rep α H d v:=by
 unfold L2.dU at e⊢;rw[<-h.length];cases q:ko ds.length i with
 |none=>rw[q]at e;cases e
 |some j=>rw[q]at e;exact h.get e
theorem P9:Io X (LR rf):=fun value slice pins s σ H x y v u Q I rx ry ⟨α,d,e,st,K,G,F',P,r1,r2,S,q,k⟩ hs=>by
 cases e<;>try exact q.elim
 unfold Rep at r2;cases d<;>try exact q.elim
 . rename_i i n;unfold rf at q;simp only at q;split at q
   . split at q
     . rename_i xs e1 _ d' e2;obtain⟨a,ea,vs,hv,rv⟩:=S.fZ e1;have r1':=d7 ea r1;subst r1';obtain⟨z,ez,rz⟩:=rv.dU e2;exact Ce value slice pins s σ H _ _ v u Q I rx ry ⟨a,vs,_,z,rfl,r2,.of (P.get hv),ez,k.here P q S rz⟩ hs
     . exact q.elim
   . exact q.elim
 . unfold rf at q;simp only at q;split at q
   . rename_i xs d' e2;unfold Rep at r1;obtain⟨a,vs,rfl,na,ha,ra⟩:=r1;obtain⟨z,ez,rz⟩:=ra.dU e2;exact Ce value slice pins s σ H _ _ v u Q I rx ry ⟨a,vs,_,z,rfl,r2,.inl (gh P ha),ez,k.here P q S rz⟩ hs
   . exact q.elim
 . unfold rf at q;simp only at q;split at q
   . rename_i xs d' e2;unfold Rep at r1;obtain⟨a,vs,rfl,na,ha,ra⟩:=r1;obtain⟨z,ez,rz⟩:=ra.dU e2;exact MA value slice pins s σ H _ _ v u Q I rx ry ⟨a,vs,_,z,rfl,r2,.of (P.get ha),ez,k.here P q S rz⟩ hs
   . exact q.elim
theorem Qp{a b:Expr}{ta tb:DE}{pos:Pos}(ha:PE X a (LE ta))(hb:PE X b (LE tb))(hs:tT b:=by intro _ _;rfl):PE X (.Subscript a b pos) (LE (au rf ta tb)):=PE.imp (Oe P9 ha hb hs) fun _ _ _ h=>LE.op h
def items?(st:ai):D->Option (List D)
 | .lst xs=>some xs
 | .tup xs=>some xs
 | .ref n=>(match st[n]? with|some (.lst xs)=>some xs|_=>none)
 |_=>none
@[simp] theorem Pp(st:ai)(xs:List D):items? st (.lst xs)=some xs:=rfl
@[simp] theorem Pl(st:ai)(xs:List D):items? st (.tup xs)=some xs:=rfl
@[simp] theorem items_int(st:ai)(i:Int):items? st (.int i)=none:=rfl
@[simp] theorem Qa(st:ai)(i:Bool):items? st (.bl i)=none:=rfl
@[simp] theorem items_str(st:ai)(i:Str):items? st (.str i)=none:=rfl
@[simp] theorem PK(st:ai):items? st .aE=none:=rfl
theorem aD{st:ai}{n:Nat}{xs:List D}(h:st[n]?=some (.lst xs)):items? st (.ref n)=some xs:=by unfold items?;simp only[h]
theorem pv{α:List (Option Addr)}{H:Hp}{st:ai}{d:D}{v:V}{xs:List D}(S:aW α st H)(r:Rep α H d v)(e:items? st d=some xs):
 ∃p vs,v= .ref p/\aM α H xs vs/\(Rd H p (.lst vs)\/H p=some (.tup vs)):=by
 cases d<;>try(cases e;done)
 . unfold items? at e;simp only at e;split at e
   . rename_i ys q;cases e;obtain⟨a,ea,vs,h1,h2⟩:=S.fZ q;have r':=d7 ea r;subst r';exact⟨a,vs,rfl,h2,.inl (.of h1)⟩
   . cases e
 . cases e;unfold Rep at r;obtain⟨a,vs,rfl,_,h1,h2⟩:=r;exact⟨a,vs,rfl,h2,.inl h1⟩
 . cases e;unfold Rep at r;obtain⟨a,vs,rfl,_,h1,h2⟩:=r;exact⟨a,vs,rfl,h2,.inr h1⟩
theorem DJ{K:PySem.W.Frag}{G F H:Hp}(P:cE G F H){p:Addr}{vs:List V}(h:Rd G p (.lst vs)\/G p=some (.tup vs)):mO K H p vs\/iZ K H p vs:=h.elim (fun z=> .inl (.inl (gh P z))) fun z=> .inr (.of (P.get z))
theorem gH{α:List (Option Addr)}{H:Hp}{ds:List D}{xs:List V}{d:D}(r:aM α H ds xs)(e:ds=[d]):∃v,xs=[v]/\Rep α H d v:=by
 subst e;unfold aM at r;obtain⟨v,q,rfl,h1,h2⟩:=r;unfold aM at h2;subst h2;exact⟨v,rfl,h1⟩
theorem nz{α:List (Option Addr)}{H:Hp}{ds:List D}{xs:List V}{d e:D}(r:aM α H ds xs)(q:ds=[d,e]):∃v u,xs=[v,u]/\Rep α H d v/\Rep α H e u:=by
 subst q;unfold aM at r;obtain⟨v,q,rfl,h1,h2⟩:=r;obtain⟨u,rfl,h3⟩:=gH h2 rfl;exact⟨v,u,rfl,h1,h3⟩
def yR:fk:=fun ds st K=>match ds with
 | [.str x]=>x.length<=sizeLine/\K (.int x.length) st
 | [d]=>(match items? st d with|some xs=>K (.int xs.length) st|none=>False)
 |_=>False
theorem Pd:cj X (.builtin "len") (gm yR):=fun pins s σ H xs us Q I rs ⟨α,ds,st,K,G,F',P,r,S,q,k⟩=>by
 unfold yR at q;split at q
 . rename_i x;obtain⟨v,rfl,r1⟩:=gH r rfl;unfold Rep at r1;subst r1;exact zi pins s σ H _ us Q I rs ⟨x,rfl,q.1,k.here P q.2 S (by unfold Rep;rfl)⟩
 . rename_i d _;split at q
   . rename_i ys e;obtain⟨v,rfl,r1⟩:=gH r rfl;obtain⟨p,vs,rfl,r2,h⟩:=pv S r1 e;refine zj pins s σ H _ us Q I rs ⟨p,vs,rfl,DJ P h,k.here P q S (by unfold Rep;rw[r2.length])⟩
   . exact q.elim
 . exact q.elim
def PV(g:Int->Int):fk:=fun ds st K=>match ds with| [.int i]=>K (.int (g i)) st|_=>False
abbrev CV:fk:=PV fun i=>if i<0 then-i else i
theorem N3:cj X (.builtin "abs") (gm CV):=cj.imp GP fun xs H Q ⟨α,ds,st,K,G,F',P,r,S,q,k⟩=>by
 unfold CV PV at q;split at q
 . obtain⟨v,rfl,r1⟩:=gH r rfl;unfold Rep at r1;subst r1;exact⟨_,rfl,k.here P q S (by unfold Rep;rfl)⟩
 . exact q.elim
def K_(g:Int->Int->Int):fk:=fun ds st K=>match ds with| [.int i,.int j]=>K (.int (g i j)) st|_=>False
abbrev CF:fk:=K_ fun i j=>if j>i then j else i
theorem OB(hc:X.calm=true):cj X (.builtin "max") (gm CF):=cj.imp (FE hc) fun xs H Q ⟨α,ds,st,K,G,F',P,r,S,q,k⟩=>by
 unfold CF K_ at q;split at q
 . obtain⟨v,u,rfl,r1,r2⟩:=nz r rfl;unfold Rep at r1 r2;subst r1 r2;exact⟨_,_,rfl,k.here P q S (by unfold Rep;rfl)⟩
 . exact q.elim
def Dq:fk:=fun ds st K=>match ds with| [.int i]=>K (.int i) st| [.bl b]=>K (.int (if b then 1 else 0)) st|_=>False
theorem NW:cj X (.type "int") (gm Dq):=cj.imp F7 fun xs H Q ⟨α,ds,st,K,G,F',P,r,S,q,k⟩=>by
 unfold Dq at q;split at q
 . obtain⟨v,rfl,r1⟩:=gH r rfl;unfold Rep at r1;subst r1;exact .inl ⟨_,rfl,k.here P q S (by unfold Rep;rfl)⟩
 . obtain⟨v,rfl,r1⟩:=gH r rfl;unfold Rep at r1;subst r1;exact .inr ⟨_,rfl,k.here P q S (by unfold Rep;rfl)⟩
 . exact q.elim
def tN:fk:=fun ds st K=>match ds with| [d]=>(match items? st d with|some xs=>K (.tup xs) st|none=>False)|_=>False
theorem KR:cj X (.type "tuple") (gm tN):=cj.imp yD fun xs H Q ⟨α,ds,st,K,G,F',P,r,S,q,k⟩=>by
 unfold tN at q;split at q
 . rename_i d;split at q
   . rename_i ys e;obtain⟨v,rfl,r1⟩:=gH r rfl;cases d with
     |tup zs=>
      cases e;have r0:=r1;unfold Rep at r1;obtain⟨a,vs,rfl,na,h1,h2⟩:=r1;exact⟨a,vs,rfl,.inr ⟨.of (P.get h1),k.here P q S r0⟩⟩
     |_=>
      obtain⟨p,vs,rfl,r2,h⟩:=pv S r1 e;refine⟨p,vs,rfl,?_⟩;rcases h with h|h
      . exact .inl ⟨.inl (gh P h),fun l hl=>k.tup P q S r2 hl⟩
      . first
         |(cases e;done)
         |(exfalso
           unfold items? at e;simp only at e
           first
            |(split at e
              . rename_i z;obtain⟨a,ea,vs',h1,h2⟩:=S.fZ z;have e':=d7 ea r1;cases e';rw[h]at h1;cases h1
              . cases e)
            |(unfold Rep at r1
              obtain⟨a,vs',e',_,h1,_⟩:=r1;cases e';rcases h1 with h1|⟨o,h1⟩<;>(rw[h]at h1;cases h1)))
   . exact q.elim
 . exact q.elim
def wK:fk:=fun ds st K=>match ds with| [d]=>(match items? st d with|some xs=>K (.lst xs) st|none=>False)|_=>False
theorem Mz:cj X (.type "list") (gm wK):=cj.imp sI fun xs H Q ⟨α,ds,st,K,G,F',P,r,S,q,k⟩=>by
 unfold wK at q;split at q
 . split at q
   . rename_i ys e;obtain⟨v,rfl,r1⟩:=gH r rfl;obtain⟨p,vs,rfl,r2,h⟩:=pv S r1 e;exact⟨p,vs,rfl,DJ P h,fun l hl=>k.lst P q S r2 hl⟩
   . exact q.elim
 . exact q.elim
def ud:fk:=fun ds st K=>match ds with| [d]=>(match items? st d with|some xs=>K (.ref st.length) (st++[.lst xs])|none=>False)|_=>False
theorem Kj:cj X (.type "list") (gm ud):=cj.imp sI fun xs H Q ⟨α,ds,st,K,G,F',P,r,S,q,k⟩=>by
 unfold ud at q;split at q
 . split at q
   . rename_i ys e;obtain⟨v,rfl,r1⟩:=gH r rfl;obtain⟨p,vs,rfl,r2,h⟩:=pv S r1 e;exact⟨p,vs,rfl,DJ P h,fun l hl=>k.new P q S r2 hl⟩
   . exact q.elim
 . exact q.elim
def jL:List D->Option (List Bool)
 | []=>some []
 | .bl b::r=>(jL r).map (b:: ·)
 |_::_=>none
def mi:List D->Option (List Int)
 | []=>some []
 | .int b::r=>(mi r).map (b:: ·)
 |_::_=>none
theorem wu{α:List (Option Addr)}{H:Hp}:∀ {ds:List D} {vs:List V} {bs:List Bool},aM α H ds vs->jL ds=some bs->vs=bs.map V.bl
 | [],vs,bs,r,e=>by
   unfold aM at r;cases e;exact r
 |d::ds,vs,bs,r,e=>by
  unfold aM at r;obtain⟨v,q,rfl,h1,h2⟩:=r;cases d<;>try(cases e;done)
  unfold jL at e;cases z:jL ds with
  |none=>rw[z]at e;cases e
  |some cs=>
   rw[z]at e;cases e;unfold Rep at h1;rw[h1,wu h2 z];rfl
theorem sE{α:List (Option Addr)}{H:Hp}:∀ {ds:List D} {vs:List V} {bs:List Int},aM α H ds vs->mi ds=some bs->vs=bs.map V.int
 | [],vs,bs,r,e=>by
   unfold aM at r;cases e;exact r
 |d::ds,vs,bs,r,e=>by
  unfold aM at r;obtain⟨v,q,rfl,h1,h2⟩:=r;cases d<;>try(cases e;done)
  unfold mi at e;cases z:mi ds with
  |none=>rw[z]at e;cases e
  |some cs=>
   rw[z]at e;cases e;unfold Rep at h1;rw[h1,sE h2 z];rfl
theorem vt:∀ {bs:List Bool} {us:List Value},Vals (bs.map V.bl) us->us=bs.map Value.bool
 | [],_,.nil=>rfl
 |b::bs,_,.cons h t=>by
  have h:_=Value.bool b:=h;rw[h,vt t];rfl
def yZ:fk:=fun ds st K=>match ds with| [.lst xs]=>(match jL xs with|some bs=>K (.bl (bs.all id)) st|none=>False)|_=>False
theorem range_all{α:Type}(l:List α)(f:α->Bool)(tr:Nat->Bool)(h:∀i x,l[i]?=some x->tr i=f x):(List.range l.length).all tr=l.all f:=by
 induction l generalizing tr with
 |nil=>rfl
 |cons a l ih=>
  rw[List.length_cons,List.range_succ_eq_map,List.all_cons,List.all_cons,List.all_map,h 0 a rfl];congr 1;exact ih (tr∘Nat.succ) fun i x e=>h (i+1) x (by simpa using e)
theorem NU(hc:X.calm=true):cj X (.builtin "all") (gm yZ):=fun pins s σ H xs us Q I rs ⟨α,ds,st,K,G,F',P,r,S,q,k⟩=>by
 unfold yZ at q;split at q
 . rename_i ys;split at q
   . rename_i bs e;obtain⟨v,rfl,r1⟩:=gH r rfl;unfold Rep at r1;obtain⟨a,vs,rfl,na,h1,h2⟩:=r1;obtain⟨u,rfl,ru⟩:=vals1 rs;cases ru;have hv:=wu h2 e;subst hv;obtain⟨z,aq,n,rv,hl,eo⟩:=Inv.uV I (gh P h1);have hits:=vt rv;subst hits;have isL:s.heap.IsList a (bs.map Value.bool).toArray:=⟨_,eo,rfl,n,rfl⟩
     refine call_all_walk (wpAny_pyIter_list isL ?_);have hne:a≠s.heap.objs.size:=Nat.ne_of_lt (Heap.lt_size eo);refine⟨s.heap.objs.size,_,_,_,_,_,fun i=>(bs[i]?).getD true,rfl,Walks.list (A:=X.A.in1) (I.ok.hd hc) _ a hne (bs.map Value.bool).toArray,⟨⟨_,Heap.get?_push_size _ rfl,rfl,rfl⟩,⟨_,Heap.get?_push_of_some _ eo,rfl,n,rfl⟩⟩,?_,?_⟩
     . intro i w s' Q' E' hP hQ;rw[List.getElem?_toArray,List.getElem?_map]at hP;cases zb:bs[i]? with
       |none=>rw[zb]at hP;cases hP
       |some b=>
        rw[zb]at hP;cases hP;simp only[zb]at hQ;exact wpAny_truthy_bool hQ
     . intro h' tk hk
       have kp:∀b o,s.heap.get? b=some o->h'.get? b=some o:=fun b o q=>hk b o (by
        intro hb;have:b=s.heap.objs.size:=by simpa using hb
        exact absurd (Heap.lt_size q) (by rw[this];exact Nat.lt_irrefl _)) (Heap.get?_push_of_some _ q)
       have ea:(List.range (bs.map Value.bool).toArray.size).all (fun i=>(bs[i]?).getD true)=bs.all id:=by
        rw[List.size_toArray,List.length_map];exact range_all bs id _ fun i x e=>by rw[e];rfl
       rw[ea];exact⟨.bl (bs.all id),H,I.kept (t':=tk) kp,rfl,k.here P q S (by unfold Rep;rfl)⟩
   . exact q.elim
 . exact q.elim
def fF(st:ai):D->Option String
 | .aE=>some "NoneType"
 | .bl _=>some "bool"
 | .int _=>some "int"
 | .str _=>some "str"
 | .lst _=>some "list"
 | .tup _=>some "tuple"
 | .ref n=>(match st[n]? with|some (.lst _)=>some "list"|_=>none)
 | .ty _=>none
@[simp] theorem Q_(st:ai)(xs:List D):fF st (.lst xs)=some "list":=rfl
@[simp] theorem Q0(st:ai)(xs:List D):fF st (.tup xs)=some "tuple":=rfl
@[simp] theorem ty_int(st:ai)(i:Int):fF st (.int i)=some "int":=rfl
@[simp] theorem Ra(st:ai)(i:Bool):fF st (.bl i)=some "bool":=rfl
@[simp] theorem ty_str(st:ai)(i:Str):fF st (.str i)=some "str":=rfl
@[simp] theorem QZ(st:ai):fF st .aE=some "NoneType":=rfl
def tE(t c:String):Bool:=t==c||(t=="bool"&&c=="int")
theorem zu{α:List (Option Addr)}{H:Hp}{st:ai}{K:PySem.W.Frag}{d:D}{v:V}{t:String}(S:aW α st H)(r:Rep α H d v)(e:fF st d=some t):jE K H v (.type t):=by
 cases d<;>unfold fF at e<;>try(cases e;done)
 . unfold Rep at r;cases e;subst r;exact .aE
 . unfold Rep at r;cases e;subst r;exact .bl _
 . unfold Rep at r;cases e;subst r;exact .int _
 . unfold Rep at r;cases e;subst r;exact .str _
 . simp only at e;split at e
   . rename_i z;cases e;obtain⟨a,ea,vs',h1,h2⟩:=S.fZ z;have r':=d7 ea r;subst r';exact .lst h1
   . cases e
 . cases e;unfold Rep at r;obtain⟨a,vs,rfl,na,h1,h2⟩:=r;rcases h1 with h1|⟨o,h1⟩
   . exact .lst h1
   . exact .fi h1
 . cases e;unfold Rep at r;obtain⟨a,vs,rfl,na,h1,h2⟩:=r;exact .tup h1
theorem Ca{G F H:Hp}{K:PySem.W.Frag}(P:cE G F H){x:V}{t:Value}(h:jE K G x t):jE K H x t:=by
 cases h with
 |aE=>exact .aE
 |bl x=>exact .bl x
 |int x=>exact .int x
 |str x=>exact .str x
 |uK x=>exact .uK x
 |lst e=>exact .lst (P.get e)
 |fi e=>exact .fi (P.get e)
 |tup e=>exact .tup (P.get e)
 |dK e=>exact .dK (P.get e)
 |dT e=>exact .dT (P.get e)
 |ins e a b c d f=>exact .ins (P.get e) a b c d f
def nQ:List String:=["NoneType","bool","int","str","list","tuple"]
def lV:List String:=["bool","int","str","list","tuple"]
theorem Cd(K:PySem.W.Frag){t c:String}(ht:t∈nQ)(hc:c∈lV):PySem.W.kitOne K (.type t) (.type c)=some (tE t c):=by
 simp only[nQ,lV,List.mem_cons,List.not_mem_nil,or_false]at ht hc;rcases ht with rfl|rfl|rfl|rfl|rfl|rfl<;>rcases hc with rfl|rfl|rfl|rfl|rfl<;>with_unfolding_all rfl
theorem rm{st:ai}{d:D}{t:String}(e:fF st d=some t):t∈nQ:=by
 cases d<;>unfold fF at e<;>first
  |(cases e;done)
  |(cases e;decide)
  |(simp only at e;split at e<;>cases e;decide)
theorem kitx_of{pins:List (Addr×Obj)}{σ:L2.St}{H:Hp}{s:Shared}{x:V}{u:Value}{t:String}(I:Inv X pins σ H s)(rx:RelV x u)(ty:jE X.K H x (.type t)):
 ∃Hh:Heap->Prop,PySem.W.KitX X.K u (.type t) Hh/\Hh s.heap/\u≠ .builtin "__main__.__loader__#opaque":=by
 cases ty with
 |aE=>cases (show u=Value.none from rx);exact⟨_,PySem.W.kitx_none,True.intro,fun z=>nomatch z⟩
 |bl y=>cases (show u=Value.bool y from rx);exact⟨_,PySem.W.kitx_bool,True.intro,fun z=>nomatch z⟩
 |int i=>obtain⟨t,q⟩:=(show∃t,u=Value.int i t from rx);cases q;exact⟨_,PySem.W.kitx_int,True.intro,fun z=>nomatch z⟩
 |str y=>obtain⟨t,q⟩:=(show∃t,u=Value.str y t from rx);cases q;exact⟨_,PySem.W.kitx_str,True.intro,fun z=>nomatch z⟩
 |uK y=>obtain⟨t,q⟩:=(show∃t,u=Value.float y t from rx);cases q;exact⟨_,PySem.W.kitx_float,True.intro,fun z=>nomatch z⟩
 | @lst a xs ea=>
   cases (show u=Value.ref a from rx);obtain⟨_,_,n,_,h1⟩:=(show dS X.prog X.w H s.heap a (.lst xs)from I.aK a _ ea)
   exact⟨_,PySem.W.kitx_list,⟨_,h1,rfl⟩,fun z=>nomatch z⟩
 | @fi a ob xs ea=>
   cases (show u=Value.ref a from rx);obtain⟨_,_,_,n,_,h1⟩:=(show dS X.prog X.w H s.heap a (.fi ob (.lst xs))from I.aK a _ ea)
   exact⟨_,PySem.W.kitx_list,⟨_,h1,rfl⟩,fun z=>nomatch z⟩
 | @tup a xs ea=>
   cases (show u=Value.ref a from rx);obtain⟨_,_,_,p⟩:=(show dS X.prog X.w H s.heap a (.tup xs)from I.aK a _ ea)
   obtain⟨o,h1,h2,_⟩:=p;exact⟨_,PySem.W.kitx_tuple,⟨o,h1,h2⟩,fun z=>nomatch z⟩
 | @dK a kvs ea=>
   cases (show u=Value.ref a from rx);obtain⟨_,_,vs,_,p⟩:=(show dS X.prog X.w H s.heap a (.dK kvs)from I.aK a _ ea)
   obtain⟨o,es,ep,h1,h2,_⟩:=p;exact⟨_,PySem.W.kitx_dict,⟨o,h1,h2.1⟩,fun z=>nomatch z⟩
 | @dT a kvs ea=>
   cases (show u=Value.ref a from rx);obtain⟨_,_,xs,_,o,es,ep,h1,h2,_⟩:=(show dS X.prog X.w H s.heap a (.dT kvs)from I.aK a _ ea)
   exact⟨_,PySem.W.kitx_dict,⟨o,h1,h2.1⟩,fun z=>nomatch z⟩
def oh:List D->Option (List String)
 | []=>some []
 | .ty b::r=>(oh r).map (b:: ·)
 |_::_=>none
theorem AX{α:List (Option Addr)}{H:Hp}:∀ {ds:List D} {vs:List V} {bs:List String},aM α H ds vs->oh ds=some bs->vs=bs.map V.ty
 | [],vs,bs,r,e=>by
   unfold aM at r;cases e;exact r
 |d::ds,vs,bs,r,e=>by
  unfold aM at r;obtain⟨v,q,rfl,h1,h2⟩:=r;cases d<;>try(cases e;done)
  unfold oh at e;cases z:oh ds with
  |none=>rw[z]at e;cases e
  |some cs=>
   rw[z]at e;cases e;unfold Rep at h1;rw[h1,AX h2 z];rfl
theorem zE:∀ {bs:List String} {us:List Value},Vals (bs.map V.ty) us->us=bs.map Value.type
 | [],_,.nil=>rfl
 |b::bs,_,.cons h t=>by
  have h:_=Value.type b:=h;rw[h,zE t];rfl
theorem Cg(K:PySem.W.Frag){t:String}(ht:t∈nQ):∀cs:List String,(∀c∈cs,c∈lV)->PySem.W.kitAny K (.type t) (cs.map Value.type)=some (cs.any (tE t))
 | [],_=>rfl
 |c::cs,h=>by
  show(match PySem.W.kitOne K (.type t) (.type c)with|some true=>some true|some false=>PySem.W.kitAny K (.type t) (cs.map Value.type)|none=>none)=_;rw[Cd K ht (h c List.mem_cons_self),List.any_cons];cases tE t c with
  |true=>rfl
  |false=>exact Cg K ht cs fun c hc=>h c (List.mem_cons_of_mem _ hc)
def vY:fk:=fun ds st K=>match ds with
 | [d,.ty c]=>(match fF st d with|some t=>c∈lV/\K (.bl (tE t c)) st|none=>False)
 | [d,.tup cs]=>(match fF st d,oh cs with|some t,some cl=>(∀c∈cl,c∈lV)/\K (.bl (cl.any (tE t))) st|_,_=>False)
 |_=>False
theorem ON:cj X (.builtin "isinstance") (gm vY):=fun pins s σ H xs us Q I rs ⟨α,ds,st,K,G,F',P,r,S,q,k⟩=>by
 unfold vY at q;split at q
 . rename_i d c;split at q
   . rename_i t e;obtain⟨v,v2,rfl,r1,r2⟩:=nz r rfl;obtain⟨u,u2,rfl,ru,ru2⟩:=vals2 rs;unfold Rep at r2;subst r2;cases (show u2=Value.type c from ru2);exact EE I ru (Ca P (zu S r1 e)) (Cd _ (rm e) q.1) fun tk=>⟨.bl (tE t c),H,I.tok tk,rfl,k.here P q.2 S (by unfold Rep;rfl)⟩
   . exact q.elim
 . rename_i d cs;split at q
   . rename_i t cl e ec;obtain⟨v,v2,rfl,r1,r2⟩:=nz r rfl;obtain⟨u,u2,rfl,ru,ru2⟩:=vals2 rs;unfold Rep at r2;obtain⟨a,vs,rfl,na,h1,h2⟩:=r2;cases (show u2=Value.ref a from ru2);have hv:=AX h2 ec;subst hv;obtain⟨Hh,Z,hh,hne⟩:=kitx_of I ru (Ca P (zu S r1 e));obtain⟨aq,r',pl,hz⟩:=I.tuple (iZ.of (P.get h1));have hi:=zE r';subst hi;obtain⟨⟨cls,dd,data,sl⟩,ho,hc,n,hd⟩:=pl;simp only at hc hd;subst hc hd;exact PySem.W.kia_tup Z I.g_ hh ho (Cg _ (rm e) cl q.1) hne fun tk=>⟨.bl _,H,I.tok tk,rfl,k.here P q.2 S (by unfold Rep;rfl)⟩
   . exact q.elim
 . exact q.elim
end
end L3
namespace L3
open PySem PySem.Spec L2 PySem.SeqAt
open PyProof.Rows hiding St
mutual
def bU:D->D->Bool
 | .aE,.aE=>true
 | .bl a,.bl b=>a==b
 | .bl a,.int b=>(if a then 1 else 0)==b
 | .int a,.bl b=>a==(if b then 1 else 0)
 | .int a,.int b=>a==b
 | .str a,.str b=>a==b
 | .lst xs,.lst ys=>iI xs ys
 | .tup xs,.tup ys=>iI xs ys
 |_,_=>false
def iI:List D->List D->Bool
 | [],[]=>true
 |x::xs,y::ys=>bU x y&&iI xs ys
 |_,_=>false
end
def pl:Nat->D->Bool
 |_,.aE=>true
 |_,.bl _=>true
 |_,.int _=>true
 |_,.str _=>true
 |n+1,.lst xs=>xs.all (pl n)
 |n+1,.tup xs=>xs.all (pl n)
 |_,_=>false
mutual
theorem Am:∀(n:Nat) (d:D),pl n d=true->bU d d=true
 |_,.aE,_=>rfl
 |_,.bl _,_=>by simp[bU]
 |_,.int _,_=>by simp[bU]
 |_,.str _,_=>by simp[bU]
 |n+1,.lst xs,h=>by unfold bU;exact tF n xs (by unfold pl at h;exact h)
 |n+1,.tup xs,h=>by unfold bU;exact tF n xs (by unfold pl at h;exact h)
 |0,.lst xs,h=>by cases h
 |0,.tup xs,h=>by cases h
 |_,.ref _,h=>by unfold pl at h;cases h
 |_,.ty _,h=>by unfold pl at h;cases h
theorem tF:∀(n:Nat) (xs:List D),xs.all (pl n)=true->iI xs xs=true
 |_,[],_=>by unfold iI;rfl
 |n,x::xs,h=>by
  rw[List.all_cons,Bool.and_eq_true]at h;unfold iI;rw[Am n x h.1,tF n xs h.2];rfl
end
mutual
theorem Rep.inj{α:List (Option Addr)}{H:Hp}:∀ {d e:D} {v:V} (n:Nat),pl n d=true->pl n e=true->Rep α H d v->Rep α H e v->d=e
 | .aE,e,v,n,_,he,h1,h2=>by
   unfold Rep at h1;subst h1;cases e<;>first|(unfold pl at he;cases he;done)|(unfold Rep at h2;cases h2;rfl)|(unfold Rep at h2;cases h2;done)|(unfold Rep at h2;obtain⟨_,_,h2,_⟩:=h2;cases h2)|rfl|(cases h2;done)|(obtain⟨_,_,h2,_⟩:=h2;cases h2)|(obtain⟨_,_,h2⟩:=h2;cases h2)
 | .bl b,e,v,n,_,he,h1,h2=>by
   unfold Rep at h1;subst h1;cases e<;>first|(unfold pl at he;cases he;done)|(unfold Rep at h2;cases h2;rfl)|(unfold Rep at h2;cases h2;done)|(unfold Rep at h2;obtain⟨_,_,h2,_⟩:=h2;cases h2)|(cases h2;rfl)|(cases h2;done)|(obtain⟨_,_,h2,_⟩:=h2;cases h2)|(obtain⟨_,_,h2⟩:=h2;cases h2)
 | .int b,e,v,n,_,he,h1,h2=>by
   unfold Rep at h1;subst h1;cases e<;>first|(unfold pl at he;cases he;done)|(unfold Rep at h2;cases h2;rfl)|(unfold Rep at h2;cases h2;done)|(unfold Rep at h2;obtain⟨_,_,h2,_⟩:=h2;cases h2)|(cases h2;rfl)|(cases h2;done)|(obtain⟨_,_,h2,_⟩:=h2;cases h2)|(obtain⟨_,_,h2⟩:=h2;cases h2)
 | .str b,e,v,n,_,he,h1,h2=>by
   unfold Rep at h1;subst h1;cases e<;>first|(unfold pl at he;cases he;done)|(unfold Rep at h2;cases h2;rfl)|(unfold Rep at h2;cases h2;done)|(unfold Rep at h2;obtain⟨_,_,h2,_⟩:=h2;cases h2)|(cases h2;rfl)|(cases h2;done)|(obtain⟨_,_,h2,_⟩:=h2;cases h2)|(obtain⟨_,_,h2⟩:=h2;cases h2)
 | .ty b,e,v,n,hd,he,h1,h2=>by unfold pl at hd;cases hd
 | .ref b,e,v,n,hd,he,h1,h2=>by unfold pl at hd;cases hd
 | .lst xs,e,v,0,hd,he,h1,h2=>by cases hd
 | .tup xs,e,v,0,hd,he,h1,h2=>by cases hd
 | .lst xs,e,v,n+1,hd,he,h1,h2=>by
   unfold Rep at h1;obtain⟨a,vs,rfl,na,ha,ra⟩:=h1;cases e<;>unfold Rep at h2<;>try(cases h2;done)
   . unfold pl at he;cases he
   . obtain⟨a',vs',e',na',ha',ra'⟩:=h2;cases e'
     have:vs=vs':=by
      rcases ha with ha|⟨o,ha⟩<;>rcases ha' with ha'|⟨o',ha'⟩<;>(rw[ha]at ha';first|(cases ha';rfl)|(cases ha';done))
     subst this;rw[aM.inj n (by unfold pl at hd;exact hd) (by unfold pl at he;exact he) ra ra']
   . obtain⟨a',vs',e',na',ha',ra'⟩:=h2;cases e';rcases ha with ha|⟨o,ha⟩<;>(rw[ha]at ha';cases ha')
 | .tup xs,e,v,n+1,hd,he,h1,h2=>by
   unfold Rep at h1;obtain⟨a,vs,rfl,na,ha,ra⟩:=h1;cases e<;>unfold Rep at h2<;>try(cases h2;done)
   . unfold pl at he;cases he
   . obtain⟨a',vs',e',na',ha',ra'⟩:=h2;cases e';rcases ha' with ha'|⟨o,ha'⟩<;>(rw[ha]at ha';cases ha')
   . obtain⟨a',vs',e',na',ha',ra'⟩:=h2;cases e';rw[ha]at ha';cases ha';rw[aM.inj n (by unfold pl at hd;exact hd) (by unfold pl at he;exact he) ra ra']
theorem aM.inj{α:List (Option Addr)}{H:Hp}:∀ {ds es:List D} {vs:List V} (n:Nat),ds.all (pl n)=true->es.all (pl n)=true->aM α H ds vs->aM α H es vs->ds=es
 | [],es,vs,n,_,_,h1,h2=>by
   unfold aM at h1;subst h1;cases es with
   |nil=>rfl
   |cons e es=>unfold aM at h2;obtain⟨_,_,h,_⟩:=h2;cases h
 |d::ds,es,vs,n,hd,he,h1,h2=>by
  unfold aM at h1;obtain⟨v,r,rfl,r1,r2⟩:=h1;cases es with
  |nil=>unfold aM at h2;cases h2
  |cons e es=>
   unfold aM at h2;obtain⟨v',r',h,q1,q2⟩:=h2;cases h;rw[List.all_cons,Bool.and_eq_true]at hd he;rw[Rep.inj n hd.1 he.1 r1 q1,aM.inj n hd.2 he.2 r2 q2]
end
theorem oV:∀ {xs ys:List D},xs.length≠ys.length->iI xs ys=false
 | [],[],h=>absurd rfl h
 | [],_::_,_=>by unfold iI;rfl
 |_::_,[],_=>by unfold iI;rfl
 |x::xs,y::ys,h=>by
  unfold iI;rw[oV (by simpa using h),Bool.and_false]
theorem oH:∀ {xs ys:List D},xs.length=ys.length->iI xs ys=(List.range xs.length).all fun j=>bU (xs.getD j .aE) (ys.getD j .aE)
 | [],[],_=>by unfold iI;rfl
 | [],_::_,h=>by cases h
 |_::_,[],h=>by cases h
 |x::xs,y::ys,h=>by
  unfold iI;rw[List.length_cons,List.range_succ_eq_map,List.all_cons,List.all_map,oH (by simpa using h)];rfl
section
variable {X:Cx}{pins:List (Addr×Obj)}{σ:L2.St}{H:Hp}{s:Shared}{α:List (Option Addr)}
theorem ku{xs:List D}{vs:List V}{aq:List Value}(r:aM α H xs vs)(v:Vals vs aq)(j:Nat)(hj:j<aq.length):∃x,xs[j]?=some (xs.getD j .aE)/\Rep α H (xs.getD j .aE) x/\RelV x aq[j]:=by
 have h1:=r.length;have h2:=v.length;have hx:j<xs.length:=by omega
 have e:xs[j]?=some (xs.getD j .aE):=by rw[List.getElem?_eq_getElem hx,List.getD_eq_getElem?_getD,List.getElem?_eq_getElem hx];rfl
 obtain⟨x,q,rr⟩:=r.get e;obtain⟨u,q2,rv⟩:=v.get q;rw[List.getElem?_eq_getElem hj]at q2;cases q2;exact⟨x,e,rr,rv⟩
theorem i7{xs:List D}{n:Nat}(h:xs.all (pl n)=true)(j:Nat):pl n (xs.getD j .aE)=true:=by
 rw[List.getD_eq_getElem?_getD];cases e:xs[j]? with
 |none=>cases n<;>rfl
 |some d=>exact List.all_eq_true.mp h d (List.mem_of_getElem? e)
def yh:D->Bool
 | .aE=>true
 | .bl _=>true
 | .int _=>true
 | .str _=>true
 |_=>false
theorem B8{A:Around}{d e:D}{x y:V}{u v:Value}(hd:yh d=true)(he:yh e=true)(rd:Rep α H d x)(re:Rep α H e y)(rx:RelV x u)(ry:RelV y v):RcAt A s u v (bU d e)/\EqAt A s u v (bU d e):=by
 cases d<;>cases e<;>try(first|(cases hd;done)|(cases he;done))
 all_goals(unfold Rep at rd re;subst rd re)
 all_goals(first|(obtain⟨t,rfl⟩:=rx;obtain⟨t',rfl⟩:=ry)|(obtain⟨t,rfl⟩:=rx;cases ry)|(cases rx;obtain⟨t,rfl⟩:=ry)|(cases rx;cases ry))
 all_goals unfold bU
 . exact⟨RcAt.none_none,EqAt.same _⟩
 . exact⟨RcAt.none_bool _,EqAt.none_bool _⟩
 . exact⟨RcAt.none_int _ _,EqAt.none_int _ _⟩
 . exact⟨RcAt.none_str _ _,EqAt.none_str _ _⟩
 . exact⟨RcAt.bool_none _,EqAt.bool_none _⟩
 . exact⟨RcAt.bool_bool _ _,EqAt.bool_bool _ _⟩
 . exact⟨RcAt.bool_int _ _ _,EqAt.bool_int _ _ _⟩
 . exact⟨RcAt.bool_str _ _ _,EqAt.bool_str _ _ _⟩
 . exact⟨RcAt.int_none _ _,EqAt.int_none _ _⟩
 . exact⟨RcAt.int_bool _ _ _,EqAt.int_bool _ _ _⟩
 . exact⟨RcAt.int_int _ _ _ _,EqAt.int_int _ _ _ _⟩
 . exact⟨RcAt.int_str _ _ _ _,EqAt.int_str _ _ _ _⟩
 . exact⟨RcAt.str_none _ _,EqAt.str_none _ _⟩
 . exact⟨RcAt.str_bool _ _ _,EqAt.str_bool _ _ _⟩
 . exact⟨RcAt.str_int _ _ _ _,EqAt.str_int _ _ _ _⟩
 . exact⟨RcAt.str_str _ _ _ _,EqAt.str_str _ _ _ _⟩
theorem lst_is(I:Inv X pins σ H s){xs:List D}{x:V}{u:Value}(r:Rep α H (.lst xs) x)(rx:RelV x u):∃a vs aq,u= .ref a/\aM α H xs vs/\Vals vs aq/\s.heap.IsList a aq.toArray:=by
 unfold Rep at r;obtain⟨a,vs,rfl,na,ha,ra⟩:=r;cases rx;obtain⟨z,aq,n,rv,hl,eo⟩:=Inv.uV I ha;exact⟨a,vs,aq,rfl,ra,rv,⟨_,eo,rfl,n,rfl⟩⟩
theorem tup_is(I:Inv X pins σ H s){xs:List D}{x:V}{u:Value}(r:Rep α H (.tup xs) x)(rx:RelV x u):∃a vs aq,u= .ref a/\aM α H xs vs/\Vals vs aq/\s.heap.IsTuple a aq.toArray:=by
 unfold Rep at r;obtain⟨a,vs,rfl,na,ha,ra⟩:=r;cases rx;obtain⟨aq,r',p,hz⟩:=I.tuple (iZ.of ha);exact⟨a,vs,aq,rfl,ra,r',p⟩
theorem ye(I:Inv X pins σ H s){A:Around}{xs:List D}{e:D}{x y:V}{u v:Value}(he:yh e=true)(rd:Rep α H (.lst xs) x)(re:Rep α H e y)(rx:RelV x u)(ry:RelV y v)(hu:A.units<cLine):
 (RcAt A s u v (bU (.lst xs) e)/\EqAt A s u v (bU (.lst xs) e))/\RcAt A s v u (bU e (.lst xs))/\EqAt A s v u (bU e (.lst xs)):=by
 obtain⟨a,vs,aq,rfl,_,_,hl⟩:=lst_is I rd rx;cases e<;>try(cases he;done)
 all_goals(unfold Rep at re;subst re)
 all_goals(first|(obtain⟨t,rfl⟩:=ry)|(cases ry))
 all_goals unfold bU
 . exact⟨⟨RcAt.list_none hl hu,EqAt.list_none hl hu⟩,RcAt.none_list hl hu,EqAt.none_list hl hu⟩
 . exact⟨⟨RcAt.list_bool _ hl hu,EqAt.list_bool _ hl hu⟩,RcAt.bool_list _ hl hu,EqAt.bool_list _ hl hu⟩
 . exact⟨⟨RcAt.list_int _ _ hl hu,EqAt.list_int _ _ hl hu⟩,RcAt.int_list _ _ hl hu,EqAt.int_list _ _ hl hu⟩
 . exact⟨⟨RcAt.list_str _ _ hl hu,EqAt.list_str _ _ hl hu⟩,RcAt.str_list _ _ hl hu,EqAt.str_list _ _ hl hu⟩
theorem xZ(I:Inv X pins σ H s){A:Around}{xs:List D}{e:D}{x y:V}{u v:Value}(he:yh e=true)(rd:Rep α H (.tup xs) x)(re:Rep α H e y)(rx:RelV x u)(ry:RelV y v)(hu:A.units<cLine):
 (RcAt A s u v (bU (.tup xs) e)/\EqAt A s u v (bU (.tup xs) e))/\RcAt A s v u (bU e (.tup xs))/\EqAt A s v u (bU e (.tup xs)):=by
 obtain⟨a,vs,aq,rfl,_,_,hl⟩:=tup_is I rd rx;cases e<;>try(cases he;done)
 all_goals(unfold Rep at re;subst re)
 all_goals(first|(obtain⟨t,rfl⟩:=ry)|(cases ry))
 all_goals unfold bU
 . exact⟨⟨RcAt.tuple_none hl hu,EqAt.tuple_none hl hu⟩,RcAt.none_tuple hl hu,EqAt.none_tuple hl hu⟩
 . exact⟨⟨RcAt.tuple_bool _ hl hu,EqAt.tuple_bool _ hl hu⟩,RcAt.bool_tuple _ hl hu,EqAt.bool_tuple _ hl hu⟩
 . exact⟨⟨RcAt.tuple_int _ _ hl hu,EqAt.tuple_int _ _ hl hu⟩,RcAt.int_tuple _ _ hl hu,EqAt.int_tuple _ _ hl hu⟩
 . exact⟨⟨RcAt.tuple_str _ _ hl hu,EqAt.tuple_str _ _ hl hu⟩,RcAt.str_tuple _ _ hl hu,EqAt.str_tuple _ _ hl hu⟩
theorem Cj{A:Around}{n:Nat}{d e:D}{x y:V}{a b:Addr}(hd:pl n d=true)(he:pl n e=true)(rd:Rep α H d x)(re:Rep α H e y)(rx:RelV x (.ref a))(ry:RelV y (.ref b))(h:RcAt A s (.ref a) (.ref b) (bU d e)):
 RcAt A s (.ref a) (.ref b) (bU d e)/\EqAt A s (.ref a) (.ref b) (bU d e):=by
 refine⟨h,?_⟩;by_cases hab:a=b
 . subst hab;have hx:x=y:=RelV.inj rx ry;subst hx;have:=Rep.inj n hd he rd re;subst this;rw[Am n d hd];exact EqAt.same _
 . exact EqAt.of_refs hab h
theorem CK(I:Inv X pins σ H s):∀(n:Nat) (A:Around) (d e:D) (x y:V) (u v:Value),pl n d=true->pl n e=true->Rep α H d x->Rep α H e y->RelV x u->RelV y v->A.units+n<cLine->
 RcAt A s u v (bU d e)/\EqAt A s u v (bU d e):=by
 intro n;induction n with
 |zero=>
  intro A d e x y u v hd he rd re rx ry hu;refine B8 ?_ ?_ rd re rx ry
  . cases d<;>first|rfl|(cases hd)
  . cases e<;>first|rfl|(cases he)
 |succ n ih=>
  intro A d e x y u v hd he rd re rx ry hu;have hu0:A.units<cLine:=by omega
  have hin:A.in1.units+n<cLine:=by rw[Around.in1_units];omega
  cases d<;>try(cases hd;done)
  case lst xs=>
   cases e<;>try(cases he;done)
   case lst ys=>
    have rd0:=rd;have re0:=re;have rx0:=rx;have ry0:=ry;obtain⟨a,vs,aq,rfl,r1,v1,l1⟩:=lst_is I rd rx;obtain⟨b,ws,jts,rfl,r2,v2,l2⟩:=lst_is I re ry;have e1:=r1.length;have e2:=v1.length;have e3:=r2.length;have e4:=v2.length;refine Cj hd he rd0 re0 rx0 ry0 ?_;unfold bU;by_cases hlen:xs.length=ys.length
    . rw[oH hlen];have hsz:aq.toArray.size=jts.toArray.size:=by simp only[List.size_toArray];omega
      have hx:xs.length=aq.toArray.size:=by simp only[List.size_toArray];omega
      rw[hx];refine RcAt.lists l1 l2 hsz hu0 fun j h1 h2=>?_;have h1':j<aq.length:=by simpa using h1
      have h2':j<jts.length:=by simpa using h2
      obtain⟨p,_,q1,q2⟩:=ku r1 v1 j h1';obtain⟨p',_,q1',q2'⟩:=ku r2 v2 j h2';exact(ih A.in1 _ _ p p' _ _ (i7 (by unfold pl at hd;exact hd) j) (i7 (by unfold pl at he;exact he) j) q1 q1' (by simpa using q2) (by simpa using q2') hin).2
    . rw[oV hlen];exact RcAt.lists_lengths l1 l2 (by simp only[List.size_toArray,bne_iff_ne,ne_eq];omega) hu0
   case tup ys=>
    obtain⟨a,vs,aq,rfl,r1,v1,l1⟩:=lst_is I rd rx;obtain⟨b,ws,jts,rfl,r2,v2,l2⟩:=tup_is I re ry;unfold bU;exact⟨RcAt.list_tuple l1 l2 hu0,EqAt.list_tuple l1 l2 hu0⟩
   all_goals exact(ye I rfl rd re rx ry hu0).1
  case tup xs=>
   cases e<;>try(cases he;done)
   case tup ys=>
    have rd0:=rd;have re0:=re;have rx0:=rx;have ry0:=ry;obtain⟨a,vs,aq,rfl,r1,v1,l1⟩:=tup_is I rd rx;obtain⟨b,ws,jts,rfl,r2,v2,l2⟩:=tup_is I re ry;have e1:=r1.length;have e2:=v1.length;have e3:=r2.length;have e4:=v2.length;refine Cj hd he rd0 re0 rx0 ry0 ?_;unfold bU
    have key:=RcAt.tuples (e:=fun j=>bU (xs.getD j .aE) (ys.getD j .aE)) l1 l2 hu0 fun j h1 h2=>by
     have h1':j<aq.length:=by simpa using h1
     have h2':j<jts.length:=by simpa using h2
     obtain⟨p,_,q1,q2⟩:=ku r1 v1 j h1';obtain⟨p',_,q1',q2'⟩:=ku r2 v2 j h2';exact(ih A.in1 _ _ p p' _ _ (i7 (by unfold pl at hd;exact hd) j) (i7 (by unfold pl at he;exact he) j) q1 q1' (by simpa using q2) (by simpa using q2') hin).2
    by_cases hlen:xs.length=ys.length
    . rw[oH hlen];have hsz:aq.toArray.size=jts.toArray.size:=by simp only[List.size_toArray];omega
      have hx:xs.length=aq.toArray.size:=by simp only[List.size_toArray];omega
      rw[hsz,Nat.min_self,beq_self_eq_true,Bool.and_true,<-hsz,<-hx]at key;exact key
    . rw[oV hlen];have hne:(aq.toArray.size==jts.toArray.size)=false:=by simp only[List.size_toArray,beq_eq_false_iff_ne,ne_eq];omega
      rw[hne,Bool.and_false]at key;exact key
   case lst ys=>
    obtain⟨a,vs,aq,rfl,r1,v1,l1⟩:=tup_is I rd rx;obtain⟨b,ws,jts,rfl,r2,v2,l2⟩:=lst_is I re ry;unfold bU;exact⟨RcAt.tuple_list l1 l2 hu0,EqAt.tuple_list l1 l2 hu0⟩
   all_goals exact(xZ I rfl rd re rx ry hu0).1
  all_goals
   cases e<;>try(cases he;done)
   case lst ys=>exact(ye I rfl re rd ry rx hu0).2
   case tup ys=>exact(xZ I rfl re rd ry rx hu0).2
   all_goals exact B8 rfl rfl rd re rx ry
def MP:dX:=fun x y st K=>pl 40 x=true/\pl 40 y=true/\K (.bl (bU x y)) st
theorem Qj{k:Nat}(hr:c8 k X.A):cJ X (compareOp .Eq) (LR MP):=fun pins s σ H x y v u Q I rx ry ⟨α,d,e,st,K,G,F',P,r1,r2,S,q,k⟩=>by
 have hu:=hr.units;exact(CK I 40 X.A d e x y v u q.1 q.2.1 (r1.mono P.same) (r2.mono P.same) rx ry (by omega)).1 _ _ _ _ ⟨.bl (bU d e),H,I,rfl,k.here P q.2.2 S (by unfold Rep;rfl)⟩
def Mr:dX:=fun x y st K=>match x,y with
 | .int i,.int j=>K (.bl (!decide (i=j))) st
 | .bl i,.bl j=>K (.bl (!decide (i=j))) st
 | .str i,.str j=>K (.bl (!decide (i=j))) st
 |_,_=>False
theorem Qu:cJ X (compareOp .NotEq) (LR Mr):=cJ.imp Ph fun x y H Q ⟨α,d,e,st,K,G,F',P,r1,r2,S,q,k⟩=>by
 cases d<;>cases e<;>try exact q.elim
 all_goals(unfold Rep at r1 r2;subst r1 r2)
 . exact⟨rfl,k.here P q S (by unfold Rep;congr 2;exact decide_eq_decide.mpr ⟨fun h=>by cases h;rfl,fun h=>by rw[h]⟩)⟩
 . exact⟨rfl,k.here P q S (by unfold Rep;congr 2;exact decide_eq_decide.mpr ⟨fun h=>by cases h;rfl,fun h=>by rw[h]⟩)⟩
 . exact⟨rfl,k.here P q S (by unfold Rep;congr 2;exact decide_eq_decide.mpr ⟨fun h=>by cases h;rfl,fun h=>by rw[h]⟩)⟩
end
end L3
namespace L3
open PySem PySem.Spec L2
open PyProof.Rows hiding St
def LC(α:List (Option Addr))(G F:Hp)(K:cn->ai->Prop)(Q:L2.St->Hp->Prop):Prop:=∀σd' st',K σd' st'->∀α' G' H' σ',Step α G α' G'->cE G' F H'->eg α' G' σd' σ'->aW α' st' G'->Q σ' H'
structure y6(α:List (Option Addr))(G F:Hp)(DD:mj)(D:Ends):Prop where
 nx:LC α G F DD.nx D.nx
 rt:LK α G F DD.rt D.rt
 bk:LC α G F DD.bk D.bk
 ct:LC α G F DD.ct D.ct
inductive Px(t:DS)(D:Ends)(σ:L2.St)(H:Hp):Prop
 |mk (α:List (Option Addr)) (σd:cn) (st:ai) (DD:mj) (G F:Hp) (P:cE G F H) (R:eg α G σd σ) (S:aW α st G) (h:t DD σd st) (k:y6 α G F DD D):Px t D σ H
def LS(t:DS):TS:=Px t
theorem LC.at{α α1:List (Option Addr)}{G F G1:Hp}{K:cn->ai->Prop}{Q:L2.St->Hp->Prop}(h:LC α G F K Q)(s:Step α G α1 G1):LC α1 G1 F K Q:=fun d st' k α' G' H' v s' P R S=>h d st' k α' G' H' v (s.trans s') P R S
theorem LC.here{α:List (Option Addr)}{G F H:Hp}{K:cn->ai->Prop}{Q:L2.St->Hp->Prop}(h:LC α G F K Q)(P:cE G F H){σd:cn}{st:ai}{σ:L2.St}(k:K σd st)(R:eg α G σd σ)(S:aW α st G):Q σ H:=h σd st k α G H σ Step.refl P R S
theorem y6.at{α α1:List (Option Addr)}{G F G1:Hp}{DD:mj}{D:Ends}(h:y6 α G F DD D)(s:Step α G α1 G1):y6 α1 G1 F DD D:=⟨h.nx.at s,h.rt.at s,h.bk.at s,h.ct.at s⟩
section
variable {X:Cx}{a b c e o i:Expr}{es:List Expr}{ta tb tc te:DE}{pos:Pos}{st:Stmt}{sts:List Stmt}{t u:DS}
theorem PS.imp{t t':TS}(h:PS X st t)(f:∀D σ H,t' D σ H->t D σ H):PS X st t':=fun pins s σ H D I q=>h pins s σ H D I (f D σ H q)
theorem g8.imp{t t':TS}(h:g8 X sts t)(f:∀D σ H,t' D σ H->t D σ H):g8 X sts t':=fun pins s σ H D I q=>h pins s σ H D I (f D σ H q)
def bY:DS:=fun D σ st=>D.nx σ st
def aF(t u:DS):DS:=fun D σ st=>t {D with nx:=u D} σ st
theorem KH:g8 X [] (LS bY):=g8.imp Ky fun D σ H ⟨α,σd,st,DD,G,F,P,R,S,t,k⟩=>k.nx.here P t R S
theorem Jq(h:PS X st (LS t)):g8 X [st] (LS t):=Jv h
theorem Gs(h:PS X st (LS t))(h2:g8 X sts (LS u)):g8 X (st::sts) (LS (aF t u)):=g8.imp (G9 h h2) fun D σ H ⟨α,σd,st,DD,G,F,P,R,S,t,k⟩=>
 ⟨α,σd,st,_,G,F,P,R,S,t,fun σd' st' q α' G' H' σ' s' P' R' S'=>⟨α',σd',st',DD,G',F,P',R',S',q,k.at s'⟩,k.rt,k.bk,k.ct⟩
def bc(te:DE):DS:=fun D σ st=>te σ st D.rt
theorem Nb(h:PE X e (LE te)):PS X (.Return (some e) pos) (LS (bc te)):=PS.imp (Md h) fun D σ H ⟨α,σd,st,DD,G,F,P,R,S,t,k⟩=>⟨α,σd,st,_,G,F,P,R,S,t,k.rt⟩
def jy(te:DE):DS:=fun D σ st=>te σ st fun _ st1=>D.nx σ st1
theorem Kv(h:PE X e (LE te))(hs:swapsWith e none pos.line X.env=pure false:=by rfl):PS X (.Expr e pos) (LS (jy te)):=PS.imp (Ja h hs) fun D σ H ⟨α,σd,st,DD,G,F,P,R,S,t,k⟩=>
 ⟨α,σd,st,_,G,F,P,R,S,t,fun d st1 q α1 G1 H1 v s1 P1 S1 r1=>(k.nx.at s1).here P1 q (R.step s1) S1⟩
def cO(c:DT)(t u:DS):DS:=fun D σ st=>c σ st fun b st1=>if b=true then t D σ st1 else u D σ st1
theorem Ol{x y:List Stmt}{tc:DT}(hc:PT X c (LT tc))(ha:g8 X x (LS t))(hb:g8 X y (LS u)):PS X (.If c x y pos) (LS (cO tc t u)):=PS.imp (Ob hc ha hb) fun D σ H ⟨α,σd,st,DD,G,F,P,R,S,t,k⟩=>by
 refine⟨α,σd,st,_,G,F,P,R,S,t,fun b st1 q α1 G1 H1 s1 P1 S1=>?_⟩;cases b with
 |true=>exact⟨α1,σd,st1,DD,G1,F,P1,R.step s1,S1,q,k.at s1⟩
 |false=>exact⟨α1,σd,st1,DD,G1,F,P1,R.step s1,S1,q,k.at s1⟩
abbrev fB:=D->cn->Option cn
def bN(i:Nat):fB:=fun d σ=>some (σ.set i (some d))
def gc(i j:Nat):fB:=fun d σ=>match d with| .tup [x,y]=>some ((σ.set i (some x)).set j (some y))|_=>none
inductive PL(t:fB)(v:V)(σ:L2.St)(H:Hp)(Q:L2.St->Hp->Prop):Prop
 |mk (α:List (Option Addr)) (σd:cn) (st:ai) (d:D) (K:cn->ai->Prop) (G F:Hp) (P:cE G F H) (R:eg α G σd σ) (S:aW α st G) (r:Rep α G d v) (h:∃σ',t d σd=some σ'/\K σ' st) (k:LC α G F K Q):PL t v σ H Q
def LG(t:fB):TG:=PL t
theorem PG.imp{tg:Expr}{t t':TG}(h:PG X tg t)(f:∀v σ H Q,t' v σ H Q->t v σ H Q):PG X tg t':=fun pins s σ H v u Q I r q=>h pins s σ H v u Q I r (f v σ H Q q)
theorem KP{tg:Expr}{i:Nat}(h:PG X tg (mz i)):PG X tg (LG (bN i)):=PG.imp h fun v σ H Q ⟨α,σd,st,d,K,G,F,P,R,S,r,⟨σ',e,q⟩,k⟩=>by
 cases e;exact k.here P q (R.set i r) S
theorem LV{tg:Expr}{i j:Nat}(h:PG X tg (K9 X.K 2 (CA (mz i) (CA (mz j) Le)))):PG X tg (LG (gc i j)):=PG.imp h fun v σ H Q ⟨α,σd,st,d,K,G,F,P,R,S,r,⟨σ',e,q⟩,k⟩=>by
 unfold gc at e;split at e
 . rename_i x y;cases e;unfold Rep at r;obtain⟨a,vs,rfl,na,h1,h2⟩:=r;obtain⟨v1,v2,rfl,r1,r2⟩:=nz h2 rfl;exact⟨a,_,rfl,.of (P.get h1),rfl,v1,_,rfl,v2,_,rfl,rfl,k.here P q ((R.set i r1).set j r2) S⟩
 . cases e
def a7(i:Nat)(te:DE):DS:=fun D σ st=>te σ st fun d st1=>D.nx (σ.set i (some d)) st1
theorem LU{i:Nat}(h:PS X st (oO (LE te) (mz i))):PS X st (LS (a7 i te)):=PS.imp h fun D σ H ⟨α,σd,st,DD,G,F,P,R,S,t,k⟩=>
 ⟨α,σd,st,_,G,F,P,R,S,t,fun d st1 q α1 G1 H1 v s1 P1 S1 r1=>(k.nx.at s1).here P1 q ((R.step s1).set i r1) S1⟩
def w4(tg:fB)(te:DE):DS:=fun D σ st=>te σ st fun d st1=>∃σ',tg d σ=some σ'/\D.nx σ' st1
theorem M4{tg:fB}(h:PS X st (oO (LE te) (LG tg))):PS X st (LS (w4 tg te)):=PS.imp h fun D σ H ⟨α,σd,st,DD,G,F,P,R,S,t,k⟩=>
 ⟨α,σd,st,_,G,F,P,R,S,t,fun d st1 q α1 G1 H1 v s1 P1 S1 r1=>⟨α1,σd,st1,d,DD.nx,G1,F,P1,R.step s1,S1,r1,q,k.nx.at s1⟩⟩
def CN(i j:Nat)(ta:DA):DS:=fun D σ st=>ta σ st fun ds st1=>match ds with| [x,y]=>D.nx ((σ.set i (some x)).set j (some y)) st1|_=>False
theorem Mo{i j:Nat}{ta:DA}(h:PS X st (Lp i j (LA ta))):PS X st (LS (CN i j ta)):=PS.imp h fun D σ H ⟨α,σd,st,DD,G,F,P,R,S,t,k⟩=>by
 refine⟨α,σd,st,_,G,F,P,R,S,t,fun ds st1 q α1 G1 H1 vs s1 P1 S1 r1=>?_⟩;match ds,q,r1 with
 | [x,y],q,r1=>
   obtain⟨v1,v2,rfl,q1,q2⟩:=nz r1 rfl;exact⟨v1,v2,rfl,(k.nx.at s1).here P1 q (((R.step s1).set i q1).set j q2) S1⟩
def Df(i:Nat)(r:dX)(te:DE):DS:=fun D σ st=>match σ[i]? with|some (some x)=>te σ st fun y st1=>r x y st1 fun z st2=>D.nx (σ.set i (some z)) st2|_=>False
def zV(f:Int->Int->Int):dX:=fun x y st K=>match x,y with| .int i,.int j=>K (.int (f i j)) st|_,_=>False
theorem Ln{i:Nat}{f:Int->Int->Int}(h:PS X st (Mq i (LE te) (L7 f))):PS X st (LS (Df i (zV f) te)):=PS.imp h fun D σ H ⟨α,σd,st,DD,G,F,P,R,S,t,k⟩=>by
 unfold Df at t;split at t
 . rename_i x e;obtain⟨v,ev,rv⟩:=R.at' i x e;refine⟨v,ev,α,σd,st,_,G,F,P,R,S,t,fun y st1 q α1 G1 H1 w s1 P1 S1 r1=>?_⟩;cases x<;>cases y<;>try exact q.elim
   have rv':=rv;unfold Rep at rv r1;exact⟨_,_,rv,r1,(k.nx.at s1).here P1 q ((R.step s1).set i (by unfold Rep;rfl)) S1⟩
 . exact t.elim
def Dc(x y d:D)(st:ai)(K:ai->Prop):Prop:=match x,y with
 | .ref n,.int k=>(match st[n]? with
   |some (.lst xs)=>(match ko xs.length k with|some j=>K (st.set n (.lst (xs.set j d)))|none=>False)
   |_=>False)
 |_,_=>False
def Ny(to ti te:DE):DS:=fun D σ st=>te σ st fun d st1=>to σ st1 fun x st2=>ti σ st2 fun y st3=>Dc x y d st3 fun st4=>D.nx σ st4
theorem GC{to ti:DE}(h:PS X st (oO (LE te) (Dl (LE to) (LE ti) yI))):PS X st (LS (Ny to ti te)):=PS.imp h fun D σ H ⟨α,σd,st,DD,G,F,P,R,S,t,k⟩=>by
 refine⟨α,σd,st,_,G,F,P,R,S,t,fun d st1 q α1 G1 H1 v s1 P1 S1 r1=>?_⟩;refine⟨α1,σd,st1,_,G1,F,P1,R.step s1,S1,q,fun x st2 q2 α2 G2 H2 v2 s2 P2 S2 r2=>?_⟩;refine⟨α2,σd,st2,_,G2,F,P2,(R.step s1).step s2,S2,q2,fun y st3 q3 α3 G3 H3 v3 s3 P3 S3 r3=>?_⟩;cases x<;>cases y<;>try exact q3.elim
 rename_i n kk;unfold Dc at q3;simp only at q3;split at q3
 . rename_i xs e;split at q3
   . rename_i j ej;obtain⟨p,ep,vs,hv,rv⟩:=S3.fZ e;have r2':=d7 ep (r2.step s3);subst r2';unfold Rep at r3;have hm:some p∈α3:=List.mem_of_getElem? ep;have rd:=(r1.step s2).step s3;refine⟨p,vs,kk,j,rfl,r3,P3.get hv,by rw[<-rv.length];exact ej,?_⟩;refine(((k.nx.at s1).at s2).at s3) σd _ q3 α3 (upd G3 p (.lst (vs.set j v))) _ σ (Step.write hm) (P3.write hv) ((((R.step s1).step s2).step s3).step (Step.write hm)) ?_;exact S3.write ep ⟨vs.set j v,a5,(ba.mpr (wA rd j (ba.mp rv))).step (Step.write hm)⟩
   . exact q3.elim
 . exact q3.elim
def sX(c:DT)(tb:DS):DS:=fun D σ st=>∃W:Nat->cn->ai->Prop,(∃m,W m σ st)/\∀m σ st,W m σ st->
 c σ st fun b st1=>if b=true then tb {D with nx:=fun σ' st'=>∃m',m'<m/\W m' σ' st',ct:=fun σ' st'=>∃m',m'<m/\W m' σ' st',bk:=D.nx} σ st1 else D.nx σ st1
theorem F_{tc:DT}(h:PS X st (Fw (LT tc) (LS t))):PS X st (LS (sX tc t)):=PS.imp h fun D σ H ⟨α,σd,st,DD,G,F,P,R,S,⟨W,⟨m0,w0⟩,turn⟩,k⟩=>by
 refine⟨fun m σ' H'=>∃α' σd' st' G',Step α G α' G'/\cE G' F H'/\eg α' G' σd' σ'/\aW α' st' G'/\W m σd' st',⟨m0,α,σd,st,G,Step.refl,P,R,S,w0⟩,?_⟩;rintro m σ1 H1 ⟨α1,σd1,st1,G1,s1,P1,R1,S1,w1⟩;refine⟨α1,σd1,st1,_,G1,F,P1,R1,S1,turn m σd1 st1 w1,fun b st2 q α2 G2 H2 s2 P2 S2=>?_⟩;cases b with
 |false=>exact((k.nx.at s1).at s2).here P2 q (R1.step s2) S2
 |true=>
  refine⟨fun σ' H'=>∃m',m'<m/\∃α' σd' st' G',Step α G α' G'/\cE G' F H'/\eg α' G' σd' σ'/\aW α' st' G'/\W m' σd' st',fun σ' H' z=>z,?_⟩;refine⟨α2,σd1,st2,_,G2,F,P2,R1.step s2,S2,q,?_⟩;refine⟨?_,(k.rt.at s1).at s2,(k.nx.at s1).at s2,?_⟩
  . rintro σd3 st3 ⟨m',hm,w3⟩ α3 G3 H3 σ3 s3 P3 R3 S3;exact⟨m',hm,α3,σd3,st3,G3,(s1.trans s2).trans s3,P3,R3,S3,w3⟩
  . rintro σd3 st3 ⟨m',hm,w3⟩ α3 G3 H3 σ3 s3 P3 R3 S3;exact⟨m',hm,α3,σd3,st3,G3,(s1.trans s2).trans s3,P3,R3,S3,w3⟩
abbrev DI:=cn->ai->(List D->(ai->Prop)->ai->Prop)->Prop
structure vi(J:It)(α:List (Option Addr))(G:Hp)(ok:ai->Prop)(xs:List D):Prop where
 stop:∀(n:Nat) α' G' F' H' st',Step α G α' G'->cE G' F' H'->aW α' st' G'->ok st'->xs.length<=n->J.stop n H'
 go:∀(n:Nat) d α' G' F' H' st',Step α G α' G'->cE G' F' H'->aW α' st' G'->ok st'->xs[n]?=some d->J.go n H'
 o4:∀(n:Nat) d α' G' F' H' st' x H'',Step α G α' G'->cE G' F' H'->aW α' st' G'->ok st'->xs[n]?=some d->J.o4 n H' x H''->∃G'',Step α' G' α' G''/\cE G'' F' H''/\aW α' st' G''/\Rep α' G'' d x
def LI(t:DI):TI:=fun σ H R=>∃α σd st K G F,cE G F H/\eg α G σd σ/\aW α st G/\t σd st K/\∀xs ok st1,K xs ok st1->∀J α1 G1 H1,Step α G α1 G1->cE G1 F H1->aW α1 st1 G1->vi J α1 G1 ok xs->R J H1
def xv(d:D)(st1:ai)(K:List D->(ai->Prop)->ai->Prop):Prop:=match d with
 | .lst xs=>K xs (fun _=>True) st1
 | .tup xs=>K xs (fun _=>True) st1
 | .ref n=>(match st1[n]? with|some (.lst xs)=>K xs (fun st'=>st'[n]?=some (.lst xs)) st1|_=>False)
 |_=>False
def N0(t:DE):DI:=fun σ st K=>t σ st fun d st1=>xv d st1 K
theorem B_{K:PySem.W.Frag}{a:Addr}{α:List (Option Addr)}{G:Hp}{ok:ai->Prop}{xs:List D}
 (h:∀α' G' st',Step α G α' G'->aW α' st' G'->ok st'->∃vs,Rd G' a (.lst vs)/\aM α' G' xs vs):vi (Nx K a) α G ok xs where
 stop:=fun n α' G' F' H' st' s P S o hn=>by
  obtain⟨vs,h1,h2⟩:=h α' G' st' s S o;exact⟨vs,.inl (gh P h1),by rw[<-h2.length];exact hn⟩
 go:=fun n d α' G' F' H' st' s P S o hn=>by
  obtain⟨vs,h1,h2⟩:=h α' G' st' s S o;obtain⟨v,e,_⟩:=h2.get hn;exact⟨vs,v,.inl (gh P h1),e⟩
 o4:=fun n d α' G' F' H' st' x H'' s P S o hn y=>by
  obtain⟨vs,h1,h2⟩:=h α' G' st' s S o;obtain⟨v,e,r⟩:=h2.get hn;obtain⟨rfl,y⟩:=y;have:=y vs (.inl (gh P h1));rw[e]at this;cases this;exact⟨G',Step.refl,P,S,r⟩
theorem Mb{K:PySem.W.Frag}{a:Addr}{α:List (Option Addr)}{G:Hp}{ok:ai->Prop}{xs:List D}
 (h:∀α' G' st',Step α G α' G'->aW α' st' G'->ok st'->∃vs,G' a=some (.tup vs)/\aM α' G' xs vs):vi (MF K a) α G ok xs where
 stop:=fun n α' G' F' H' st' s P S o hn=>by
  obtain⟨vs,h1,h2⟩:=h α' G' st' s S o;exact⟨vs,.of (P.get h1),by rw[<-h2.length];exact hn⟩
 go:=fun n d α' G' F' H' st' s P S o hn=>by
  obtain⟨vs,h1,h2⟩:=h α' G' st' s S o;obtain⟨v,e,_⟩:=h2.get hn;exact⟨vs,v,.of (P.get h1),e⟩
 o4:=fun n d α' G' F' H' st' x H'' s P S o hn y=>by
  obtain⟨vs,h1,h2⟩:=h α' G' st' s S o;obtain⟨v,e,r⟩:=h2.get hn;obtain⟨rfl,y⟩:=y;have:=y vs (.of (P.get h1));rw[e]at this;cases this;exact⟨G',Step.refl,P,S,r⟩
theorem Hb{α α':List (Option Addr)}{G G':Hp}{a:Addr}{vs:List V}{xs:List D}(s:Step α G α' G')(na:some a∉α)(h1:Rd G a (.lst vs))(h2:aM α G xs vs):Rd G' a (.lst vs)/\aM α' G' xs vs:=by
 refine⟨?_,h2.step s⟩;rcases h1 with h|⟨o,h⟩
 . exact .inl (s.ext _ _ na h)
 . exact .inr ⟨o,s.ext _ _ na h⟩
theorem ND{l tg:Expr}{tl:DE}(hl:PE X l (LE tl)):PI X tg l (LI (N0 tl)):=by
 intro pins s σ H R I h;obtain⟨α,σd,st,K,G,F,P,RS,S,t,k⟩:=h;refine cz (hl pins s σ H (fun x H1=>∃d α1 G1 st1,Step α G α1 G1/\cE G1 F H1/\aW α1 st1 G1/\Rep α1 G1 d x/\xv d st1 K) I ⟨α,σd,st,_,G,F,P,RS,S,t,fun d st1 q α1 G1 H1 v s1 P1 S1 r1=>⟨d,α1,G1,st1,s1,P1,S1,r1,q⟩⟩) fun v s1 ⟨x,H1,I1,rx,d,α1,G1,st1,s1',P1,S1,r1,q⟩=>?_;unfold xv at q
 have viaL:∀ {a:Addr} {vs:List V},x= .ref a->Rd H1 a (.lst vs)->R (Nx X.K a) H1->wpAny (model X.prog X.w) X.A (pyIter v) (IF X pins σ tg R) X.xe s1:=by
  intro a vs ex hr hR;subst ex;cases rx;obtain⟨aq,rv,p,hz⟩:=I1.list (.inl hr);refine wpAny_pyIter_list p.isList ?_;refine⟨s1.heap.objs.size,[s1.heap.objs.size],_,_,H1,rfl,I1.kept (t':=s1.toks) fun b o e=>Heap.get?_push_of_some _ e,E1 a _,⟨_,Heap.get?_push_size _ rfl,rfl,rfl⟩,fun b hb=>?_,hR⟩;have e:b=s1.heap.objs.size:=by simpa using hb
  subst e;exact I1.uT (Nat.le_refl _) (I1.aK.fresh (Nat.le_refl _))
 have viaT:∀ {a:Addr} {vs:List V},x= .ref a->H1 a=some (.tup vs)->R (MF X.K a) H1->wpAny (model X.prog X.w) X.A (pyIter v) (IF X pins σ tg R) X.xe s1:=by
  intro a vs ex hr hR;subst ex;cases rx;obtain⟨aq,rv,p,hz⟩:=I1.tuple (iZ.of hr);refine wpAny_pyIter_tuple (show s1.heap.IsTuple a aq.toArray from p) ?_;refine⟨s1.heap.objs.size,[s1.heap.objs.size],_,_,H1,rfl,I1.kept (t':=s1.toks) fun b o e=>Heap.get?_push_of_some _ e,CU a _,⟨_,Heap.get?_push_size _ rfl,rfl,rfl⟩,fun b hb=>?_,hR⟩;have e:b=s1.heap.objs.size:=by simpa using hb
  subst e;exact I1.uT (Nat.le_refl _) (I1.aK.fresh (Nat.le_refl _))
 cases d<;>try exact q.elim
 . rename_i n;simp only at q;split at q
   . rename_i xs e;obtain⟨a,ea,vs,h1,h2⟩:=S1.fZ e;have r1':=d7 ea r1;subst r1';refine viaL rfl (gh P1 (.of h1)) (k _ _ st1 q _ α1 G1 H1 s1' P1 S1 (B_ fun α' G' st' s S o=>?_));obtain⟨b,eb,ws,g1,g2⟩:=S.fZ o
     have hb:b=a:=by
      rcases s.pre _ _ ea with z|z<;>(rw[z]at eb;cases eb)
      rfl
     subst hb;exact⟨ws,.of g1,g2⟩
   . exact q.elim
 . unfold Rep at r1;obtain⟨a,vs,rfl,na,ha,ra⟩:=r1;exact viaL rfl (gh P1 ha) (k _ _ st1 q _ α1 G1 H1 s1' P1 S1 (B_ fun α' G' st' s S o=>⟨vs,Hb s na ha ra⟩))
 . unfold Rep at r1;obtain⟨a,vs,rfl,na,ha,ra⟩:=r1;exact viaT rfl (P1.get ha) (k _ _ st1 q _ α1 G1 H1 s1' P1 S1 (Mb fun α' G' st' s S o=>⟨vs,s.ext _ _ na ha,ra.step s⟩))
def eO(lo:Int)(n:Nat):List D:=(List.range n).map fun(k:Nat)=>D.int (lo+(k:Int))
theorem vJ{lo:Int}{n k:Nat}:(eO lo n)[k]?=if k<n then some (.int (lo+(k:Int)))else none:=by
 unfold eO;rw[List.getElem?_map];by_cases h:k<n
 . rw[List.getElem?_range h,if_pos h];rfl
 . rw[List.getElem?_eq_none (by simpa using h),if_neg h];rfl
theorem ik{lo:Int}{n:Nat}:(eO lo n).length=n:=by unfold eO;simp
theorem zX{α:List (Option Addr)}{G:Hp}{lo:Int}{n:Nat}:vi (yo lo n) α G (fun _=>True) (eO lo n) where
 stop:=fun m α' G' F' H' st' s P S o hn=>by rw[ik]at hn;exact hn
 go:=fun m d α' G' F' H' st' s P S o hn=>by
  rw[vJ]at hn;split at hn
  . assumption
  . cases hn
 o4:=fun m d α' G' F' H' st' x H'' s P S o hn y=>by
  obtain⟨rfl,rfl⟩:=y;rw[vJ]at hn;split at hn
  . cases hn;exact⟨G',Step.refl,P,S,by unfold Rep;rfl⟩
  . cases hn
theorem PI.imp{tg iter:Expr}{t t':TI}(h:PI X tg iter t)(f:∀σ H R,t' σ H R->t σ H R):PI X tg iter t':=fun pins s σ H R I q=>h pins s σ H R I (f σ H R q)
def IC(ds:List D)(st1:ai)(K:List D->(ai->Prop)->ai->Prop):Prop:=match ds with
 | [.int j]=>(-(2^62)<=j/\j<2^62)/\K (eO 0 j.toNat) (fun _=>True) st1
 |_=>False
def HR(ds:List D)(st1:ai)(K:List D->(ai->Prop)->ai->Prop):Prop:=match ds with
 | [.int i,.int j]=>(-(2^62)<=i/\i<2^62/\ -(2^62)<=j/\j<2^62)/\K (eO i (j-i).toNat) (fun _=>True) st1
 |_=>False
def IW(t:DA):DI:=fun σ st K=>t σ st fun ds st1=>IC ds st1 K
def IY(t:DA):DI:=fun σ st K=>t σ st fun ds st1=>HR ds st1 K
theorem FK{tg iter:Expr}{t:DA}(h:PI X tg iter (C0 (LA t))):PI X tg iter (LI (IW t)):=PI.imp h fun σ H R ⟨α,σd,st,K,G,F,P,RS,S,t,k⟩=>by
 refine⟨α,σd,st,_,G,F,P,RS,S,t,fun ds st1 q α1 G1 H1 vs s1 P1 S1 r1=>?_⟩;match ds,q,r1 with
 | [.int j],q,r1=>
   obtain⟨v,rfl,r2⟩:=gH r1 rfl;unfold Rep at r2;subst r2;exact⟨j,rfl,q.1.1,q.1.2,k _ _ st1 q.2 _ α1 G1 H1 s1 P1 S1 zX⟩
theorem EZ{tg iter:Expr}{t:DA}(h:PI X tg iter (C_ (LA t))):PI X tg iter (LI (IY t)):=PI.imp h fun σ H R ⟨α,σd,st,K,G,F,P,RS,S,t,k⟩=>by
 refine⟨α,σd,st,_,G,F,P,RS,S,t,fun ds st1 q α1 G1 H1 vs s1 P1 S1 r1=>?_⟩;match ds,q,r1 with
 | [.int i,.int j],q,r1=>
   obtain⟨v,u,rfl,r2,r3⟩:=nz r1 rfl;unfold Rep at r2 r3;subst r2 r3;exact⟨i,j,rfl,q.1,k _ _ st1 q.2 _ α1 G1 H1 s1 P1 S1 zX⟩
def ja(tg:fB)(body:DS)(ok:ai->Prop)(E:mj):List D->cn->ai->Prop
 | [],σ,st=>ok st/\E.nx σ st
 |x::xs,σ,st=>ok st/\∃σ1,tg x σ=some σ1/\body {E with nx:=ja tg body ok E xs,ct:=ja tg body ok E xs,bk:=E.nx} σ1 st
def iN(src:DI)(tg:fB)(body:DS):DS:=fun D σ st=>src σ st fun xs ok st1=>ja tg body ok D xs σ st1
theorem Nj{src:DI}{tg:fB}(h:PS X st (Lv (LI src) (LG tg) (LS t))):PS X st (LS (iN src tg t)):=PS.imp h fun D σ H ⟨α,σd,st,DD,G,F,P,R,S,tt,k⟩=>by
 refine⟨α,σd,st,_,G,F,P,R,S,tt,fun xs ok st1 q J α1 G1 H1 s1 P1 S1 it=>?_⟩;refine⟨fun i m σ' H'=>∃α' σd' st' G',Step α1 G1 α' G'/\cE G' F H'/\eg α' G' σd' σ'/\aW α' st' G'/\ja tg t ok DD (xs.drop i) σd' st'/\m=xs.length-i,⟨xs.length,α1,σd,st1,G1,Step.refl,P1,R.step s1,S1,q,rfl⟩,?_⟩;rintro i m σ2 H2 ⟨α2,σd2,st2,G2,s2,P2,R2,S2,q2,rfl⟩;cases e:xs[i]? with
 |none=>
  have hl:xs.length<=i:=List.getElem?_eq_none_iff.mp e;rw[List.drop_eq_nil_of_le hl]at q2;unfold ja at q2;exact .inl ⟨it.stop i α2 G2 F H2 st2 s2 P2 S2 q2.1 hl,((k.nx.at s1).at s2).here P2 q2.2 R2 S2⟩
 |some d=>
  have hl:i<xs.length:=(List.getElem?_eq_some_iff.mp e).1
  have ed:xs.drop i=d::xs.drop (i+1):=by
   rw[List.drop_eq_getElem_cons hl];congr 1;rw[List.getElem?_eq_getElem hl]at e;exact Option.some.inj e
  rw[ed]at q2;unfold ja at q2;obtain⟨aK,σ3,e3,q3⟩:=q2;refine .inr ⟨it.go i d α2 G2 F H2 st2 s2 P2 S2 aK e,fun σ' H'=>∃α' σd' st' G',Step α1 G1 α' G'/\cE G' F H'/\eg α' G' σd' σ'/\aW α' st' G'/\ja tg t ok DD (xs.drop (i+1)) σd' st',?_,?_⟩
  . rintro σ' H' ⟨α',σd',st',G',z1,z2,z3,z4,z5⟩;exact⟨xs.length-(i+1),by omega,α',σd',st',G',z1,z2,z3,z4,z5,rfl⟩
  . intro x H' y;obtain⟨G3,s3,P3,S3,r3⟩:=it.o4 i d α2 G2 F H2 st2 x H' s2 P2 S2 aK e y;refine⟨α2,σd2,st2,d,fun σ' st'=>σ'=σ3/\st'=st2,G3,F,P3,R2.step s3,S3,r3,⟨σ3,e3,rfl,rfl⟩,?_⟩;rintro σ' st' ⟨rfl,rfl⟩ α4 G4 H4 σ4 s4 P4 R4 S4;have s24:=(s2.trans s3).trans s4;refine⟨α4,σ',st',_,G4,F,P4,R4,S4,q3,?_,((k.rt.at s1).at s24),(k.nx.at s1).at s24,?_⟩
    . intro σd5 st5 q5 α5 G5 H5 σ5 s5 P5 R5 S5;exact⟨α5,σd5,st5,G5,s24.trans s5,P5,R5,S5,q5⟩
    . intro σd5 st5 q5 α5 G5 H5 σ5 s5 P5 R5 S5;exact⟨α5,σd5,st5,G5,s24.trans s5,P5,R5,S5,q5⟩
end
def g5(fr:List (Option Nat))(σ:cn):cn:=fr.map fun o=>o.bind fun j=>(σ[j]?).join
theorem eg.comp{α:List (Option Addr)}{G:Hp}{σd:cn}{σ:L2.St}{fr:List (Option Nat)}(h:eg α G σd σ):eg α G (g5 fr σd) (σC fr σ):=by
 refine⟨by unfold g5 σC;simp,fun i d e=>?_⟩;unfold g5 at e;rw[List.getElem?_map]at e;cases q:fr[i]? with
 |none=>rw[q]at e;cases e
 |some o=>
  rw[q]at e;cases o with
  |none=>simp at e
  |some j=>
   simp only[Option.map_some,Option.some.injEq,Option.bind_some]at e
   have ej:σd[j]?=some (some d):=by
    cases r:σd[j]? with
    |none=>rw[r]at e;cases e
    |some u=>rw[r]at e;simp at e;rw[e]
   obtain⟨v,ev,rv⟩:=h.at' j d ej;refine⟨v,?_,rv⟩;unfold σC;rw[List.getElem?_map,q];simp[ev]
def dk(tg:fB)(c:DT)(te:DE)(ok:ai->Prop)(σc:cn):List D->List D->ai->(List D->ai->Prop)->Prop
 | [],acc,st,K=>ok st/\K acc st
 |x::xs,acc,st,K=>ok st/\∃σ2,tg x σc=some σ2/\c σ2 st fun b st1=>if b=true then te σ2 st1 fun y st2=>dk tg c te ok σc xs (acc++[y]) st2 K else dk tg c te ok σc xs acc st1 K
def dH(src:DI)(fr:List (Option Nat))(tg:fB)(c:DT)(te:DE):DE:=fun σ st K=>src σ st fun xs ok st1=>xs.length<=sizeLine/\dk tg c te ok (g5 fr σ) xs [] st1 fun ys st2=>K (.lst ys) st2
def iY(src:DI)(fr:List (Option Nat))(tg:fB)(c:DT)(te:DE):DE:=fun σ st K=>src σ st fun xs ok st1=>xs.length<=sizeLine/\dk tg c te ok (g5 fr σ) xs [] st1 fun ys st2=>K (.ref st2.length) (st2++[.lst ys])
def cw:DT:=fun _ st K=>K true st
def rW(fr:List (Option Nat))(tg:fB):Prop:=∀(σ:cn) (d:D) (σ2:cn),tg d (g5 fr σ)=some σ2->σ2.length=(g5 fr σ).length/\∀(i:Nat) (e:D),(g5 fr σ)[i]?=some (some e)->σ2[i]?=some (some e)
theorem su{fr:List (Option Nat)}{σ:cn}{k:Nat}(h:fr[k]?=some none){e:D}(q:(g5 fr σ)[k]?=some (some e)):False:=by
 unfold g5 at q;rw[List.getElem?_map,h]at q;simp at q
theorem cx{fr:List (Option Nat)}{k:Nat}(h:fr[k]?=some none:=by rfl):rW fr (bN k):=fun σ d σ2 e=>by
 cases e;refine⟨List.length_set,fun i x q=>?_⟩;by_cases hi:i=k
 . subst hi;exact(su h q).elim
 . rw[List.getElem?_set_ne (Ne.symm hi)];exact q
theorem ue{fr:List (Option Nat)}{k j:Nat}(h:fr[k]?=some none:=by rfl)(h':fr[j]?=some none:=by rfl):rW fr (gc k j):=fun σ d σ2 e=>by
 unfold gc at e;split at e
 . cases e;refine⟨by rw[List.length_set,List.length_set],fun i x q=>?_⟩;by_cases hi:i=k
   . subst hi;exact(su h q).elim
   . by_cases hj:i=j
     . subst hj;exact(su h' q).elim
     . rw[List.getElem?_set_ne (Ne.symm hj),List.getElem?_set_ne (Ne.symm hi)];exact q
 . cases e
section
variable {X:Cx}
theorem Lg{c:Expr}{t:DT}(h:PT X c (LT t)):sL X [c] (LT t):=Jp h
theorem Gj:sL X [] (LT cw):=fun pins s σ H Q I ⟨α,σd,st,K,G,F,P,R,S,t,k⟩=>IZ pins s σ H Q I (k true st t α G H Step.refl P S)
theorem LE.comp{src:DI}{fr:List (Option Nat)}{tg:fB}{c:DT}{te:DE}(fit:rW fr tg){σ:L2.St}{H:Hp}{Q:VK}{α:List (Option Addr)}{σd:cn}{st:ai}{KE:List D->ai->Prop}{G F:Hp}(P:cE G F H)(R:eg α G σd σ)(S:aW α st G)
 (t:src σd st fun xs ok st1=>xs.length<=sizeLine/\dk tg c te ok (g5 fr σd) xs [] st1 KE)
 (fin:∀ys st2 α2 G2 H2 l vs,KE ys st2->Step α G α2 G2->cE G2 (upd F l (.lst vs)) H2->F l=none->aW α2 st2 G2->aM α2 G2 ys vs->Q (.ref l) H2):
 tY (LI src) fr (LG tg) (LT c) (LE te) σ H Q:=by
 refine⟨α,σd,st,_,G,F,P,R,S,t,fun xs ok st1 q J α1 G1 H1 s1 P1 S1 it l hl=>?_⟩;obtain⟨hsz,q⟩:=q;obtain⟨hG,hF⟩:=P1.none hl
 refine⟨fun i m σ' H'=>∃α' st' G' acc vs,Step α1 G1 α' G'/\cE G' (upd F l (.lst vs)) H'/\eg α' G' (g5 fr σd) σ'/\aW α' st' G'/\aM α' G' acc vs/\acc.length<=i/\i<=xs.length/\dk tg c te ok (g5 fr σd) (xs.drop i) acc st' KE/\m=xs.length-i,
  ⟨xs.length,α1,st1,G1,[],[],Step.refl,P1.hide hl,(R.step s1).comp,S1,by unfold aM;rfl,Nat.le_refl _,Nat.zero_le _,q,rfl⟩,?_⟩
 rintro i m σ2 H2 ⟨α2,st2,G2,acc,vs,s2,P2,R2,S2,ra,hacc,hi,q2,rfl⟩;cases e:xs[i]? with
 |none=>
  have hl2:xs.length<=i:=List.getElem?_eq_none_iff.mp e;rw[List.drop_eq_nil_of_le hl2]at q2;unfold dk at q2;exact .inl ⟨it.stop i α2 G2 _ H2 st2 s2 P2 S2 q2.1 hl2,fin acc st2 α2 G2 H2 l vs q2.2 (s1.trans s2) P2 hF S2 ra⟩
 |some d=>
  have hl2:i<xs.length:=(List.getElem?_eq_some_iff.mp e).1
  have ed:xs.drop i=d::xs.drop (i+1):=by
   rw[List.drop_eq_getElem_cons hl2];congr 1;rw[List.getElem?_eq_getElem hl2]at e;exact Option.some.inj e
  rw[ed]at q2;unfold dk at q2;obtain⟨aK,σ3,e3,q3⟩:=q2;refine .inr ⟨it.go i d α2 G2 _ H2 st2 s2 P2 S2 aK e,fun σ' H'=>∃α' st' G' acc vs,Step α1 G1 α' G'/\cE G' (upd F l (.lst vs)) H'/\eg α' G' (g5 fr σd) σ'/\aW α' st' G'/\aM α' G' acc vs/\acc.length<=i+1/\dk tg c te ok (g5 fr σd) (xs.drop (i+1)) acc st' KE,?_,?_⟩
  . rintro σ' H' ⟨α',st',G',acc',vs',z1,z2,z3,z4,z5,z6,z7⟩;exact⟨xs.length-(i+1),by omega,α',st',G',acc',vs',z1,z2,z3,z4,z5,z6,hl2,z7,rfl⟩
  . intro x H' y;obtain⟨G3,s3,P3,S3,r3⟩:=it.o4 i d α2 G2 _ H2 st2 x H' s2 P2 S2 aK e y;refine⟨α2,g5 fr σd,st2,d,fun σ' st'=>σ'=σ3/\st'=st2,G3,_,P3,R2.step s3,S3,r3,⟨σ3,e3,rfl,rfl⟩,?_⟩;rintro σ' st' ⟨rfl,rfl⟩ α4 G4 H4 σ4 s4 P4 R4 S4;have s24:=(s2.trans s3).trans s4;have Rc:eg α4 G4 (g5 fr σd) σ4:=⟨by rw[<-(fit σd d σ' e3).1];exact R4.len,fun j z hz=>R4.at' j z ((fit σd d σ' e3).2 j z hz)⟩
    refine⟨α4,σ',st',_,G4,_,P4,R4,S4,q3,fun b st5 q5 α5 G5 H5 s5 P5 S5=>?_⟩;cases b with
    |false=>exact⟨α5,st5,G5,acc,vs,s24.trans s5,P5,Rc.step s5,S5,((ra.step s3).step s4).step s5,by omega,q5⟩
    |true=>
     refine⟨α5,σ',st5,_,G5,_,P5,R4.step s5,S5,q5,fun z st6 q6 α6 G6 H6 v6 s6 P6 S6 r6=>?_⟩;have hr:=(((ra.step s3).step s4).step s5).step s6;refine⟨vs,(P6.frame a5).1,by rw[<-hr.length];omega,α6,st6,G6,acc++[z],vs++[v6],(s24.trans s5).trans s6,?_,(Rc.step s5).step s6,S6,ba.mpr (f9 (ba.mp hr) (.cons r6 .nil)),by rw[List.length_append,List.length_singleton];omega,q6⟩;have:=P6.QP (p:=l) (o':= .lst (vs++[v6])) a5;rw[Kc]at this;exact this
theorem MY{scope:Scope}{Nc:List Str}{elt tg iter:Expr}{ifs:List Expr}{pos:Pos}{src:DI}{fr:List (Option Nat)}{dtg:fB}{c:DT}{te:DE}(S:bh X scope Nc fr)(hi:PI X tg iter (LI src))
 (hg:∀C s H ex,PG (fo X scope Nc C s H ex) tg (LG dtg)) (ht:∀C s H ex,sL (fo X scope Nc C s H ex) ifs (LT c)) (he:∀C s H ex,PE (fo X scope Nc C s H ex) elt (LE te)) (fit:rW fr dtg)
 (hx:X.xe=fun _ _=>False:=by rfl) (hc:X.calm=true:=by rfl) (hs:∀x,foldedSetIterable iter X.env x=pure x:=by intro _;rfl):PE X (.ListComp elt [⟨tg,iter,ifs,0⟩] scope pos) (LE (dH src fr dtg c te)):=
 PE.imp (BU hx hc S hi hg ht he hs) fun σ H Q ⟨α,σd,st,K,G,F,P,R,S,t,k⟩=>LE.comp fit P R S t fun ys st2 α2 G2 H2 l vs q s2 P2 hl S2 r=>by
  have hg:G2 l=none:=(P2.frame a5).2;refine k _ st2 q α2 (upd G2 l (.lst vs)) H2 (.ref l) (s2.trans (Step.laid hg)) (P2.show hl) (S2.laid hg) ?_;unfold Rep;exact⟨l,vs,rfl,S2.kU hg,.of a5,r.step (Step.laid hg)⟩
theorem KG{scope:Scope}{Nc:List Str}{elt tg iter:Expr}{ifs:List Expr}{pos:Pos}{src:DI}{fr:List (Option Nat)}{dtg:fB}{c:DT}{te:DE}(S:bh X scope Nc fr)(hi:PI X tg iter (LI src))
 (hg:∀C s H ex,PG (fo X scope Nc C s H ex) tg (LG dtg)) (ht:∀C s H ex,sL (fo X scope Nc C s H ex) ifs (LT c)) (he:∀C s H ex,PE (fo X scope Nc C s H ex) elt (LE te)) (fit:rW fr dtg)
 (hx:X.xe=fun _ _=>False:=by rfl) (hc:X.calm=true:=by rfl) (hs:∀x,foldedSetIterable iter X.env x=pure x:=by intro _;rfl):PE X (.ListComp elt [⟨tg,iter,ifs,0⟩] scope pos) (LE (iY src fr dtg c te)):=
 PE.imp (BU hx hc S hi hg ht he hs) fun σ H Q ⟨α,σd,st,K,G,F,P,R,S,t,k⟩=>LE.comp fit P R S t fun ys st2 α2 G2 H2 l vs q s2 P2 hl S2 r=>by
  have hg:G2 l=none:=(P2.frame a5).2;refine k _ _ q (α2++[some l]) (upd G2 l (.lst vs)) H2 (.ref l) (s2.trans (Step.cell hg)) (P2.show hl) (S2.cell hg ⟨vs,a5,r.step (Step.cell hg)⟩) ?_;unfold Rep;refine .inr ⟨l,?_,rfl⟩;rw[List.getElem?_append_right (by rw[S2.len];exact Nat.le_refl _),S2.len,Nat.sub_self];rfl
theorem JZ{st:Stmt}{k:Nat}{src:DI}{fr:List (Option Nat)}{dtg:fB}{c:DT}{te:DE}(fit:rW fr dtg)(h:PS X st (oO (tY (LI src) fr (LG dtg) (LT c) (LE te)) (mz k))):PS X st (LS (a7 k (dH src fr dtg c te))):=
 PS.imp h fun D σ H ⟨α,σd,st,DD,G,F,P,R,S,t,q⟩=>LE.comp fit P R S t fun ys st2 α2 G2 H2 l vs qq s2 P2 hl S2 r=>by
  have hg:G2 l=none:=(P2.frame a5).2;have s3:=s2.trans (Step.laid (o:= .lst vs) hg);refine q.nx _ st2 qq α2 (upd G2 l (.lst vs)) H2 _ s3 (P2.show hl) ((R.step s3).set k ?_) (S2.laid hg);unfold Rep;exact⟨l,vs,rfl,S2.kU hg,.of a5,r.step (Step.laid hg)⟩
theorem Hu{st:Stmt}{k:Nat}{src:DI}{fr:List (Option Nat)}{dtg:fB}{c:DT}{te:DE}(fit:rW fr dtg)(h:PS X st (oO (tY (LI src) fr (LG dtg) (LT c) (LE te)) (mz k))):PS X st (LS (a7 k (iY src fr dtg c te))):=
 PS.imp h fun D σ H ⟨α,σd,st,DD,G,F,P,R,S,t,q⟩=>LE.comp fit P R S t fun ys st2 α2 G2 H2 l vs qq s2 P2 hl S2 r=>by
  have hg:G2 l=none:=(P2.frame a5).2;have s3:=s2.trans (Step.cell (o:= .lst vs) hg);refine q.nx _ _ qq (α2++[some l]) (upd G2 l (.lst vs)) H2 _ s3 (P2.show hl) ((R.step s3).set k ?_) (S2.cell hg ⟨vs,a5,r.step (Step.cell hg)⟩);unfold Rep;refine .inr ⟨l,?_,rfl⟩;rw[List.getElem?_append_right (by rw[S2.len];exact Nat.le_refl _),S2.len,Nat.sub_self];rfl
def aU(N:List Str)(ds:List D):cn:=ds.map some++List.replicate (N.length-ds.length) none
theorem eg.start{α:List (Option Addr)}{G:Hp}{N:List Str}{ds:List D}{vs:List V}(r:aM α G ds vs):eg α G (aU N ds) (L2.start N vs):=by
 have hl:=r.length;refine⟨by unfold aU L2.start;simp[hl],fun i d e=>?_⟩;unfold aU at e;by_cases hi:i<ds.length
 . rw[List.getElem?_append_left (by simpa using hi),List.getElem?_map]at e;cases q:ds[i]? with
   |none=>rw[q]at e;cases e
   |some x=>
    rw[q]at e;cases e;obtain⟨v,ev,rv⟩:=r.get q;refine⟨v,?_,rv⟩;unfold L2.start;rw[List.getElem?_append_left (by rw[List.length_map];omega),List.getElem?_map,ev];rfl
 . rw[List.getElem?_append_right (by simpa using hi),List.getElem?_replicate]at e;split at e<;>cases e
theorem Ot{P:Program}{w:World}{K:PySem.W.Frag}{mg:Str->Option Value}{base:Heap}{x qual:Str}{st:Stmt}{f:Addr}{fd:FuncData}{N ps:List Str}{k:Nat}{sp:cA}{t:DS}(F:ou K x qual st f fd)(S:aN N ps (aj st))
 (hbody:∀(cdv:Value) (A:Around) (outer:List Env) (s:Shared) (H:Hp) (E:XK),c8 k (A.deeper (envOfC qual (aj st) s.heap.objs.size f cdv))->g8 (qT cD P w K mg base N qual (aj st) f cdv A outer s H E).wI (gZ st) (LS t))
 (hsp:∀ds st K,sp ds st K->ds.length=ps.length/\t {nx:=fun _ st'=>K .aE st',rt:=K} (aU N ds) st):bf P w K mg base cD (k+1) f fd ps (cG sp):=by
 refine F.ok S (fun vs H Q E h=>?_) fun cdv A outer s H vs Q E hr h=>⟨_,hbody cdv A outer s H E hr,?_⟩
 . obtain⟨α,ds,st,K,G,F,P,r,S,q,k⟩:=h;rw[<-r.length];exact(hsp ds st K q).1
 . obtain⟨α,ds,st,K,G,F,P,r,S,q,k⟩:=h;refine⟨α,aU N ds,st,_,G,F,P,eg.start r,S,(hsp ds st K q).2,?_,k,?_,?_⟩
   . intro σd' st' kk α' G' H' σ' s' P' R' S';exact k .aE st' kk α' G' H' .aE s' P' S' (by unfold Rep;rfl)
   . intro σd' st' kk;exact kk.elim
   . intro σd' st' kk;exact kk.elim
def qf(to te:DE):DE:=fun σ st K=>to σ st fun x st1=>match x with
 | .ref n=>(match st1[n]? with
   |some (.lst _)=>te σ st1 fun y st2=>∃y',[y]=[y']/\(match st2[n]? with|some (.lst xs)=>xs.length<sizeLine/\K .aE (st2.set n (.lst (xs++[y'])))|_=>False)
   |_=>False)
 |_=>False
end
structure bE(K:PySem.W.Frag)(mg:Str->Option Value)(x qual:Str)(st:Stmt)(ps:List Str)(f:Addr)(fd:FuncData):Prop where
 fn:ou K x qual st f fd
 mg:mg x=some (.ref f)
 bd:Binds K fd ps []
def vH(sc:Scope)(N:List Str)(scope:Scope)(Nc:List Str)(fr:List (Option Nat)):Bool:=
 (scope.kind== .function)&&scope.names.all (fun x=>x.2 != .cell||scope.names.lookup x.1==some .cell)&&scope.names.all (fun x=>x.2 != .local||scope.names.lookup x.1==some .local)&&
 scope.names.all (fun x=>x.2 != .free||sc.names.lookup x.1==some .cell||sc.names.lookup x.1==some .free)&&(fr.length==Nc.length)&&
 (List.range fr.length).all fun i=>match fr[i]?,Nc[i]? with
   |some (some j),some x=>(N[j]?==some x)&&(scope.names.lookup x==some .free)&&(sc.names.lookup x==some .cell||sc.names.lookup x==some .free)
   |_,_=>true
theorem bh.look{X:Cx}{scope:Scope}{Nc:List Str}{fr:List (Option Nat)}(sc:Scope)(N:List Str)(h:vH sc N scope Nc fr=true)(hsc:X.env.scope=sc:=by rfl)(hN:X.N=N:=by rfl):bh X scope Nc fr:=by
 unfold vH at h;simp only[Bool.and_eq_true]at h;obtain⟨⟨⟨⟨⟨h1,h2⟩,h3⟩,h4⟩,h5⟩,h6⟩:=h;subst hsc hN;refine⟨by simpa using h1,fun x hx hk=>?_,fun x hx hk=>?_,fun x hx hk=>?_,by simpa using h5,fun i j x e1 e2=>?_⟩
 . have:=List.all_eq_true.mp h2 x hx;rw[hk]at this;simpa using this
 . have:=List.all_eq_true.mp h3 x hx;rw[hk]at this;simpa using this
 . have:=List.all_eq_true.mp h4 x hx;rw[hk]at this;have z:X.env.scope.names.lookup x.1=some .cell\/X.env.scope.names.lookup x.1=some .free:=by simpa using this
   exact z
 . have hi:i<fr.length:=(List.getElem?_eq_some_iff.mp e2).1;have:=List.all_eq_true.mp h6 i (List.mem_range.mpr hi);rw[e1,e2]at this;simp only[Bool.and_eq_true,Bool.or_eq_true,beq_iff_eq]at this;exact⟨this.1.1,this.1.2,this.2⟩
section
variable {X:Cx}
theorem Qk{e:Expr}{es:List Expr}{pos p:Pos}{x:Str}{id:String}{r:fk}{t:DA}(hc:cj X (.builtin id) (gm r))(ha:PA X (e::es) (LA t))(hm:X.mg x=none)(hv:bootBuiltins x=some (.builtin id))(hg:Gl X x:=by rfl)(hn:x≠"__name__":=by decide)(hdb:(x==("__debug__":Str))=false:=by decide)
 (he:starEach (e::es) X.env=(false,eval e X.env)::starEach es X.env:=by rfl) (hpl:(backTo pos (starEach es X.env)).any (·.1)=false:=by rfl):PE X (.Call (.Name x p) (e::es) [] pos) (LE (bw r t)):=PE.imp (GQ hc hg hm hv ha hn hdb he hpl) fun _ _ _ h=>LE.cb h
theorem Qs{e:Expr}{es:List Expr}{pos p:Pos}{x:Str}{T:String}{r:fk}{t:DA}(hc:cj X (.type T) (gm r))(ha:PA X (e::es) (LA t))(hm:X.mg x=none)(hv:bootBuiltins x=some (.type T))(hg:Gl X x:=by rfl)(hn:x≠"__name__":=by decide)(hdb:(x==("__debug__":Str))=false:=by decide)
 (he:starEach (e::es) X.env=(false,eval e X.env)::starEach es X.env:=by rfl) (hpl:(backTo pos (starEach es X.env)).any (·.1)=false:=by rfl):PE X (.Call (.Name x p) (e::es) [] pos) (LE (bw r t)):=PE.imp (Eu hc hg hm hv ha hn hdb he hpl) fun _ _ _ h=>LE.cb h
theorem QJ{pos:Pos}{x:Str}{T:String}(hm:X.mg x=none)(hv:bootBuiltins x=some (.type T))(hg:Gl X x:=by rfl)(hn:x≠"__name__":=by decide)(hdb:(x==("__debug__":Str))=false:=by decide):PE X (.Name x pos) (LE (dC (.ty T))):=
 qd (v:= .ty T) (Jl hg hm hv rfl hn hdb) fun _ _=>by unfold Rep;rfl
theorem QE{e:Expr}{es:List Expr}{pos p:Pos}{x qual:Str}{st:Stmt}{ps:List Str}{f:Addr}{fd:FuncData}{k:Nat}{S:cA}{t:DA}(A:bE X.K X.mg x qual st ps f fd)(F:bf X.prog X.w X.K X.mg X.base cD k f fd ps (cG S))(hr:c8 k X.A)
 (ha:PA X (e::es) (LA t)) (hg:Gl X x:=by rfl) (hdb:(x==("__debug__":Str))=false:=by decide) (he:starEach (e::es) X.env=(false,eval e X.env)::starEach es X.env:=by rfl) (hpl:(backTo pos (starEach es X.env)).any (·.1)=false:=by rfl):
 PE X (.Call (.Name x p) (e::es) [] pos) (LE (aC S t)):=Lh F hr hg A.mg A.fn.kp A.bd ha hdb he hpl
def HP(d:D)(b:Bool):Bool:=match d with| .bl c=>c==b|_=>false
def PY(d:D):Bool:=match d with| .aE=>true|_=>false
theorem Jc{α:List (Option Addr)}{H:Hp}{st:ai}{d:D}{v:V}{u:Value}{b:Bool}(S:aW α st H)(hl:live st d=true)(r:Rep α H d v)(ru:RelV v u):(u==Value.bool b)=HP d b:=by
 cases d
 case ref n=>
  obtain⟨a,rfl⟩:=zt S hl r;cases ru;rfl
 all_goals unfold Rep at r
 case bl c=>
  subst r;cases ru;cases c<;>cases b<;>rfl
 all_goals first
  |(subst r;first|(cases ru;rfl)|(obtain⟨t,rfl⟩:=ru;rfl))
  |(obtain⟨a,vs,rfl,_⟩:=r;cases ru;rfl)
theorem LE.append{to te:DE}{σ:L2.St}{H:Hp}{Q:VK}(h:LE (qf to te) σ H Q):Lz X.K "list" BX (LE to) (LA (ae te ao)) σ H Q:=by
 obtain⟨α,σd,st,K,G,F,P,R,S,t,k⟩:=h;refine⟨α,σd,st,_,G,F,P,R,S,t,fun x st1 q α1 G1 H1 v s1 P1 S1 r1=>?_⟩;cases x<;>try exact q.elim
 rename_i n;simp only at q;split at q
 . rename_i ys e;obtain⟨p,ep,vs,h1,h2⟩:=S1.fZ e;have r1':=d7 ep r1;subst r1';refine⟨.inl ⟨rfl,vs,.inl (.of (P1.get h1))⟩,α1,σd,st1,fun ds st2=>∃y,ds=[y]/\(match st2[n]? with|some (.lst xs)=>xs.length<sizeLine/\K .aE (st2.set n (.lst (xs++[y])))|_=>False),G1,F,P1,R.step s1,S1,?_,?_⟩
   . refine Eq.mp ?_ q;rfl
   . rintro ds st2 ⟨y,rfl,q2⟩ α2 G2 H2 ws s2 P2 S2 r2;obtain⟨w,rfl,rw'⟩:=gH r2 rfl;split at q2
     . rename_i xs e2;obtain⟨p2,ep2,us,g1,g2⟩:=S2.fZ e2
       have:p2=p:=by
        rcases s2.pre _ _ ep with z|z<;>(rw[z]at ep2;cases ep2)
        rfl
       subst this;have hm:some p2∈α2:=List.mem_of_getElem? ep2;refine⟨p2,us,w,rfl,rfl,P2.get g1,by rw[<-g2.length];exact q2.1,?_⟩;refine((k.at s1).at s2) _ _ q2.2 α2 (upd G2 p2 (.lst (us++[w]))) _ .aE (Step.write hm) (P2.write g1) ?_ (by unfold Rep;rfl);exact S2.write ep2 ⟨us++[w],a5,(ba.mpr (f9 (ba.mp g2) (.cons rw' .nil))).step (Step.write hm)⟩
     . exact q2.elim
 . exact q.elim
theorem Hw{o e:Expr}{to te:DE}{apos cpos:Pos}(ho:PE X o (LE to))(he:PE X e (LE te))(hbase:attributeBase o "append" X.env (eval o X.env)=eval o X.env:=by rfl)
 (hfew:((backTo cpos (starEach [e] X.env)).all (fun x=> !x.1)&&(backToKw cpos (keywordEach [] X.env)).all (fun x=>x.1.isSome)
   &&decide (([e]:List Expr).length+([]:List Keyword).length+(if([]:List Keyword).isEmpty then 0 else 1)<30))=true:=by rfl)
 (hline:(apos.endLine==cpos.line)=true:=by rfl) (hs:starEach [e] X.env=(false,eval e X.env)::starEach [] X.env:=by rfl) (hplain:(backTo cpos (starEach [] X.env)).any (·.1)=false:=by rfl):PE X (.Call (.Attribute o "append" apos) [e] [] cpos) (LE (qf to te)):=
 PE.imp (HL PySem.F.plainAttrs_list PySem.F.slot_list_append PySem.F.type_list_append yd ho (nS he tK hs) hbase hfew hline hs hplain) fun _ _ _ h=>LE.append h
end
end L3
namespace L3
open PySem L2
open PySem.Spec hiding items?
open PyProof.Rows hiding St
section
variable {X:Cx}
@[irreducible] def d6:dX:=IT
theorem ff:cJ X (binaryOp .Add) (LR d6):=by unfold d6;exact Oh
@[irreducible] def lb:dX:=IL
theorem mI:cJ X (binaryOp .Sub) (LR lb):=by unfold lb;exact N2
@[irreducible] def cX:dX:=H0
theorem c7:cJ X (binaryOp .Mult) (LR cX):=by unfold cX;exact Pg
@[irreducible] def nB:dX:=Eh
theorem v8:cJ X (binaryOp .FloorDiv) (LR nB):=by unfold nB;exact M8
@[irreducible] def f7:dX:=Ib
theorem jl:cJ X (binaryOp .Mod) (LR f7):=by unfold f7;exact NY
@[irreducible] def sW:dX:=IU
theorem yV:cJ X (binaryOp .Pow) (LR sW):=by unfold sW;exact N7
@[irreducible] def qw:dX:=Nq
theorem xt:cJ X (compareOp .Lt) (LR qw):=by unfold qw;exact Qv
@[irreducible] def oS:dX:=Mc
theorem sA:cJ X (compareOp .Gt) (LR oS):=by unfold oS;exact QA
@[irreducible] def kO:dX:=Mr
theorem pR:cJ X (compareOp .NotEq) (LR kO):=by unfold kO;exact Qu
@[irreducible] def dE:dX:=MP
theorem dc{k:Nat}(hr:c8 k X.A):cJ X (compareOp .Eq) (LR dE):=by unfold dE;exact Qj hr
@[irreducible] def iM:zT:=H_
theorem N9:Cb X (unaryOp .USub) (HZ iM):=by unfold iM;exact NP
@[irreducible] def aS:dX:=rf
theorem Qh{a b:Expr}{ta tb:DE}{pos:Pos}(ha:PE X a (LE ta))(hb:PE X b (LE tb))(hs:tT b:=by intro _ _;rfl):PE X (.Subscript a b pos) (LE (au aS ta tb)):=by unfold aS;exact Qp ha hb hs
@[irreducible] def dR:fk:=yR
theorem dj:cj X (.builtin "len") (gm dR):=by unfold dR;exact Pd
@[irreducible] def oK:fk:=CV
theorem qF:cj X (.builtin "abs") (gm oK):=by unfold oK;exact N3
@[irreducible] def zW:fk:=CF
theorem NR(hc:X.calm=true):cj X (.builtin "max") (gm zW):=by unfold zW;exact OB hc
@[irreducible] def zS:fk:=Dq
theorem N5:cj X (.type "int") (gm zS):=by unfold zS;exact NW
@[irreducible] def d9:fk:=tN
theorem eB:cj X (.type "tuple") (gm d9):=by unfold d9;exact KR
@[irreducible] def jr:fk:=wK
theorem ll:cj X (.type "list") (gm jr):=by unfold jr;exact Mz
@[irreducible] def qg:fk:=ud
theorem Ct:cj X (.type "list") (gm qg):=by unfold qg;exact Kj
@[irreducible] def oU:fk:=yZ
theorem tS(hc:X.calm=true):cj X (.builtin "all") (gm oU):=by unfold oU;exact NU hc
@[irreducible] def fJ:fk:=vY
theorem jX:cj X (.builtin "isinstance") (gm fJ):=by unfold fJ;exact ON
@[irreducible] def p7:D->ai->(List D->(ai->Prop)->ai->Prop)->Prop:=xv
def dJ(t:DE):DI:=fun σ st K=>t σ st fun d st1=>p7 d st1 K
theorem NH{l tg:Expr}{tl:DE}(hl:PE X l (LE tl)):PI X tg l (LI (dJ tl)):=by unfold dJ p7;exact ND hl
@[irreducible] def yX:List D->ai->(List D->(ai->Prop)->ai->Prop)->Prop:=IC
@[irreducible] def yU:List D->ai->(List D->(ai->Prop)->ai->Prop)->Prop:=HR
def fO(t:DA):DI:=fun σ st K=>t σ st fun ds st1=>yX ds st1 K
def t4(t:DA):DI:=fun σ st K=>t σ st fun ds st1=>yU ds st1 K
theorem FY{tg iter:Expr}{t:DA}(h:PI X tg iter (C0 (LA t))):PI X tg iter (LI (fO t)):=by unfold fO yX;exact FK h
theorem ED{tg iter:Expr}{t:DA}(h:PI X tg iter (C_ (LA t))):PI X tg iter (LI (t4 t)):=by unfold t4 yU;exact EZ h
@[irreducible] def zM:D->D->D->ai->(ai->Prop)->Prop:=Dc
def et(to ti te:DE):DS:=fun D σ st=>te σ st fun d st1=>to σ st1 fun x st2=>ti σ st2 fun y st3=>zM x y d st3 fun st4=>D.nx σ st4
theorem GS{st:Stmt}{to ti te:DE}(h:PS X st (oO (LE te) (Dl (LE to) (LE ti) yI))):PS X st (LS (et to ti te)):=by unfold et zM;exact GC h
end
section
variable {st:ai}{K:DK}{i j:Int}{b c:Bool}{xs ys:List D}{d e:D}{n:Nat}
theorem eh(k:K (.int (i+j)) st):d6 (.int i) (.int j) st K:=by unfold d6;exact k
theorem KJ(h:xs.length+ys.length<=sizeLine)(k:K (.lst (xs++ys)) st):d6 (.lst xs) (.lst ys) st K:=by unfold d6;exact⟨h,k⟩
theorem jF(k:K (.int (i-j)) st):lb (.int i) (.int j) st K:=by unfold lb;exact⟨trivial,k⟩
theorem cM(h:IntMulOk i j)(k:K (.int (i*j)) st):cX (.int i) (.int j) st K:=by unfold cX;exact⟨h,k⟩
theorem Ck(h: -(2^63)<=i/\i<2^63/\xs.length*i.toNat<=sizeLine)(k:K (.lst (List.replicate i.toNat xs).flatten) st):cX (.lst xs) (.int i) st K:=by unfold cX;exact⟨h,k⟩
theorem tR(h0:j≠0)(h:j.natAbs.log2<9000)(k:K (.int (i.fdiv j)) st):nB (.int i) (.int j) st K:=by unfold nB;exact⟨⟨h0,h⟩,k⟩
theorem g6(h0:j≠0)(k:K (.int (i.fmod j)) st):f7 (.int i) (.int j) st K:=by unfold f7;exact⟨h0,k⟩
theorem vT(h:GJ i j)(k:K (.int (i^j.toNat)) st):sW (.int i) (.int j) st K:=by unfold sW;exact⟨h,k⟩
theorem yL(k:K (.bl (decide (i<j))) st):qw (.int i) (.int j) st K:=by unfold qw;exact⟨trivial,k⟩
theorem rG(k:K (.bl (decide (j<i))) st):oS (.int i) (.int j) st K:=by unfold oS;exact⟨trivial,k⟩
theorem C5(k:K (.bl (!decide (i=j))) st):kO (.int i) (.int j) st K:=by unfold kO;exact k
theorem Nu(k:K (.bl (!decide (b=c))) st):kO (.bl b) (.bl c) st K:=by unfold kO;exact k
theorem mK(h1:pl 40 d=true)(h2:pl 40 e=true)(k:K (.bl (bU d e)) st):dE d e st K:=by unfold dE;exact⟨h1,h2,k⟩
theorem B9(a b:Int):(a==b)=decide (a=b):=by
 by_cases h:a=b
 . subst h;simp
 . simp[h]
theorem Ae(k:K (.bl (decide (i=j))) st):dE (.int i) (.int j) st K:=by
 refine mK rfl rfl ?_;have:bU (.int i) (.int j)=decide (i=j):=by unfold bU;exact B9 i j
 rw[this];exact k
theorem gL(k:K (.int (-i)) st):iM (.int i) st K:=by unfold iM;exact k
theorem GR(h:items? st d=some xs)(a:dU xs i=some e)(k:K e st):rf d (.int i) st K:=by
 cases d<;>unfold items? at h<;>first
  |(cases h;done)
  |(cases h;simp only[rf,a];exact k)
  |(simp only at h
    split at h
    . rename_i q;cases h;simp only[rf,q,a];exact k
    . cases h)
theorem aA(h:items? st d=some xs)(a:dU xs i=some e)(k:K e st):aS d (.int i) st K:=by unfold aS;exact GR h a k
theorem cT(h:items? st d=some xs)(k:K (.int xs.length) st):dR [d] st K:=by
 unfold dR yR;split
 . rename_i z;cases z;cases h
 . rename_i z;cases z;rw[h];exact k
 . rename_i z1 z2;exact absurd rfl (z2 d)
theorem JV(i:Int):(if i<0 then-i else i)=((i.natAbs:Nat):Int):=by split<;>omega
theorem oE(k:K (.int ((i.natAbs:Nat):Int)) st):oK [.int i] st K:=by unfold oK;show K (.int (if i<0 then-i else i)) st;rw[JV];exact k
theorem MS(k:K (.int (if j>i then j else i)) st):zW [.int i,.int j] st K:=by unfold zW;exact k
theorem J5(k:K (.int (if b then 1 else 0)) st):zS [.bl b] st K:=by unfold zS;exact k
theorem dB(h:items? st d=some xs)(k:K (.tup xs) st):d9 [d] st K:=by unfold d9 tN;simp only[h];exact k
theorem jj(h:items? st d=some xs)(k:K (.lst xs) st):jr [d] st K:=by unfold jr wK;simp only[h];exact k
theorem AK(h:items? st d=some xs)(k:K (.ref st.length) (st++[.lst xs])):qg [d] st K:=by unfold qg ud;simp only[h];exact k
theorem sZ{bs:List Bool}(h:jL xs=some bs)(k:K (.bl (bs.all id)) st):oU [.lst xs] st K:=by unfold oU yZ;simp only[h];exact k
theorem iX{t c:String}(h:fF st d=some t)(hc:c∈lV)(k:K (.bl (tE t c)) st):fJ [d,.ty c] st K:=by unfold fJ vY;simp only[h];exact⟨hc,k⟩
theorem BJ{t:String}{cs:List D}{cl:List String}(h:fF st d=some t)(h2:oh cs=some cl)(hc:∀c∈cl,c∈lV)(k:K (.bl (cl.any (tE t))) st):fJ [d,.tup cs] st K:=by unfold fJ vY;simp only[h,h2];exact⟨hc,k⟩
theorem jQ{K:List D->(ai->Prop)->ai->Prop}(h:items? st d=some xs)(k:∀ok:ai->Prop,ok st->K xs ok st):p7 d st K:=by
 unfold p7 xv
 cases d<;>unfold items? at h<;>first
  |(cases h;done)
  |(cases h;exact k _ trivial)
  |(simp only at h
    split at h
    . rename_i q;cases h;simp only[q];exact k _ q
    . cases h)
theorem xr{K:List D->(ai->Prop)->ai->Prop}(k:K xs (fun _=>True) st):p7 (.lst xs) st K:=by unfold p7;exact k
theorem iD{K:List D->(ai->Prop)->ai->Prop}(k:K xs (fun _=>True) st):p7 (.tup xs) st K:=by unfold p7;exact k
theorem iB{K:List D->(ai->Prop)->ai->Prop}(h: -(2^62)<=j/\j<2^62)(k:K (eO 0 j.toNat) (fun _=>True) st):yX [.int j] st K:=by unfold yX;exact⟨h,k⟩
theorem Ko{K:List D->(ai->Prop)->ai->Prop}(h: -(2^62)<=i/\i<2^62/\ -(2^62)<=j/\j<2^62)(k:K (eO i (j-i).toNat) (fun _=>True) st):yU [.int i,.int j] st K:=by unfold yU;exact⟨h,k⟩
theorem i5{K:ai->Prop}{m:Nat}(h:st[n]?=some (.lst xs))(e:ko xs.length i=some m)(k:K (st.set n (.lst (xs.set m d)))):zM (.ref n) (.int i) d st K:=by unfold zM Dc;simp only[h,e];exact k
end
def FH(K:PySem.W.Frag):Bool:=K.all fun p=>p.2.cls != .type "list"
theorem uB{a:Addr}{o:Obj}:∀ {l:List (Addr×Obj)},l.lookup a=some o->(a,o)∈l
 | [],h=>by cases h
 |(b,u)::r,h=>by
  rw[List.lookup_cons]at h;split at h
  . rename_i z;cases h;have:a=b:=by simpa using z
    subst this;exact List.mem_cons_self
  . exact List.mem_cons_of_mem _ (uB h)
theorem yv{K:PySem.W.Frag}(h:FH K=true){a:Addr}{o:Obj}(e:K.lookup a=some o):o.cls≠ .type "list":=by
 have:=List.all_eq_true.mp h (a,o) (uB e);simpa using this
theorem ya{α:List (Option Addr)}{G:Hp}:∀ns:List Int,aM α G (ns.map D.int) (ns.map V.int)
 | []=>by unfold aM;rfl
 |n::ns=>by
  rw[List.map_cons,List.map_cons];unfold aM;exact⟨_,_,rfl,by unfold Rep;rfl,ya ns⟩
def notStar:Expr->Bool
 | .Starred .. =>false
 |_=>true
theorem bS{e:Expr}{es:List Expr}{env:Env}(h:notStar e=true):starEach (e::es) env=(false,eval e env)::starEach es env:=by
 cases e<;>first|rfl|cases h
def f_:List Expr->Bool
 | []=>true
 |e::es=>notStar e&&f_ es
theorem kb{pos:Pos}{env:Env}:∀ {es:List Expr},f_ es=true->(backTo pos (starEach es env)).any (·.1)=false
 | [],_=>rfl
 |e::es,h=>by
  unfold f_ at h;rw[Bool.and_eq_true]at h;rw[bS h.1];have ih:=kb (pos:=pos) (env:=env) h.2;unfold backTo at ih⊢;rw[List.map_cons,List.any_cons,ih];rfl
def ox:Expr->Bool
 | .Slice .. =>false
 |_=>true
def sq:Expr->Bool
 | .Name .. =>true
 | .Call .. =>true
 | .Subscript .. =>true
 | .Attribute .. =>true
 |_=>false
def md:Expr->Bool
 | .ListComp .. =>false
 | .SetComp .. =>false
 | .DictComp .. =>false
 |_=>true
section
variable {X:Cx}
theorem Hv{b:Expr}(h:ox b=true):tT b:=by
 intro o i;cases b<;>first|rfl|cases h
theorem Di{e:Expr}(h:sq e=true):∀whole,isTrue e X.env whole=(do let v <-whole;standAt e.pos;holding [v] (truthy v)):=by
 intro whole;cases e<;>first|(cases h;done)|rfl
theorem xG{e:Expr}{tg:Option Expr}{n:Nat}{env:Env}(h:md e=true):swapsWith e tg n env=pure false:=by
 cases e<;>first|(cases h;done)|rfl
theorem Gg{e:Expr}{es:List Expr}{te:DE}{tr:DA}(ha:PE X e (LE te))(hr:PA X es (LA tr))(hs:notStar e=true:=by rfl):PA X (e::es) (LA (ae te tr)):=nS ha hr (bS hs)
theorem N_{e:Expr}{es:List Expr}{pos p:Pos}{x:Str}{id:String}{r:fk}{t:DA}(hc:cj X (.builtin id) (gm r))(ha:PA X (e::es) (LA t))(hm:X.mg x=none)(hv:bootBuiltins x=some (.builtin id))(hn:x≠"__name__")(hdb:(x==("__debug__":Str))=false)(hg:Gl X x:=by rfl)(hs:notStar e=true:=by rfl)(hs2:f_ es=true:=by rfl):
 PE X (.Call (.Name x p) (e::es) [] pos) (LE (bw r t)):=Qk hc ha hm hv hg hn hdb (bS hs) (kb hs2)
theorem Oi{e:Expr}{es:List Expr}{pos p:Pos}{x:Str}{T:String}{r:fk}{t:DA}(hc:cj X (.type T) (gm r))(ha:PA X (e::es) (LA t))(hm:X.mg x=none)(hv:bootBuiltins x=some (.type T))(hn:x≠"__name__")(hdb:(x==("__debug__":Str))=false)(hg:Gl X x:=by rfl)(hs:notStar e=true:=by rfl)(hs2:f_ es=true:=by rfl):
 PE X (.Call (.Name x p) (e::es) [] pos) (LE (bw r t)):=Qs hc ha hm hv hg hn hdb (bS hs) (kb hs2)
theorem O8{e:Expr}{es:List Expr}{pos p:Pos}{x qual:Str}{st:Stmt}{ps:List Str}{f:Addr}{fd:FuncData}{k:Nat}{S:cA}{t:DA}(A:bE X.K X.mg x qual st ps f fd)(F:bf X.prog X.w X.K X.mg X.base cD k f fd ps (cG S))(hr:c8 k X.A)
 (ha:PA X (e::es) (LA t)) (hdb:(x==("__debug__":Str))=false) (hg:Gl X x:=by rfl) (hs:notStar e=true:=by rfl) (hs2:f_ es=true:=by rfl):
 PE X (.Call (.Name x p) (e::es) [] pos) (LE (aC S t)):=QE A F hr ha hg hdb (bS hs) (kb hs2)
theorem O5{a b:Expr}{ta tb:DE}{pos:Pos}(ha:PE X a (LE ta))(hb:PE X b (LE tb))(hs:ox b=true:=by rfl):PE X (.Subscript a b pos) (LE (au aS ta tb)):=Qh ha hb (Hv hs)
theorem Jn{e:Expr}{te:DE}(he:PE X e (LE te))(h:sq e=true:=by rfl):PT X e (LT (aR te)):=LJ he (Di h)
theorem GD{e:Expr}{te:DE}{pos:Pos}(he:PE X e (LE te))(h:md e=true:=by rfl):PS X (.Expr e pos) (LS (jy te)):=Kv he (xG h)
theorem Jt{i:Nat}{x:Str}{e:Expr}{te:TE}{pos pos':Pos}(hN:X.N.Nodup)(hi:X.N[i]?=some x)(hx:Loc X.env.scope x)(he:PE X e te)(hf:X.fn x=true\/X.env.scope.names.lookup x=some .local:=by first|exact .inl rfl|exact .inr rfl)(h:md e=true:=by rfl):
 PS X (.Assign [.Name x pos'] e pos) (oO te (mz i)):=M5 hN hi hx he (xG h) hf
theorem J3{i:Nat}{x:Str}{pos:Pos}(hd:(x==("__debug__":Str))=false)(hcd:(x==("__classdict__":Str))=false)(hv:AJ X.env.scope x)(hN:X.N[i]?=some x:=by rfl):PE X (.Name x pos) (LE (af i)):=OK (MR hN hv hd hcd)
theorem NO{o i e:Expr}{to ti te:TE}{pos pos':Pos}(he:PE X e te)(ho:PE X o to)(hi:PE X i ti)(h1:md e=true:=by rfl)(h2:ox i=true:=by rfl):PS X (.Assign [.Subscript o i pos'] e pos) (oO te (Dl to ti yI)):=
 FF he (MH ho hi set_list (by intro v;cases i<;>first|rfl|cases h2)) (by unfold swapsWithSole;exact xG h1) (by cases e<;>rfl) rfl
end
@[irreducible] def JE(X:Cx)(e:Expr)(t:DE):Prop:=PE X e (LE t)
@[irreducible] def JT(X:Cx)(e:Expr)(t:DT):Prop:=PT X e (LT t)
@[irreducible] def JW(X:Cx)(e:Expr)(t:DT):Prop:=PW X e (LT t)
@[irreducible] def JA(X:Cx)(es:List Expr)(t:DA):Prop:=PA X es (LA t)
@[irreducible] def JS(X:Cx)(s:Stmt)(t:DS):Prop:=PS X s (LS t)
@[irreducible] def JB(X:Cx)(s:List Stmt)(t:DS):Prop:=g8 X s (LS t)
@[irreducible] def JG(X:Cx)(e:Expr)(t:fB):Prop:=PG X e (LG t)
@[irreducible] def JI(X:Cx)(tg e:Expr)(t:DI):Prop:=PI X tg e (LI t)
@[irreducible] def JC(X:Cx)(es:List Expr)(t:DT):Prop:=sL X es (LT t)
section
variable {X:Cx}{a b c e o i:Expr}{es:List Expr}{ta tb tc te to ti:DE}{t u:DT}{ar:DA}{pos p pos':Pos}{s:Stmt}{ss:List Stmt}{T U:DS}
theorem EK{n:Nat}{x:Str}(hd:(x==("__debug__":Str))=false)(hcd:(x==("__classdict__":Str))=false)(hv:AJ X.env.scope x)(hN:X.N[n]?=some x:=by rfl):JE X (.Name x pos) (af n):=by unfold JE;exact J3 hd hcd hv hN
theorem jD{x:Str}{T:String}(hm:X.mg x=none)(hv:bootBuiltins x=some (.type T))(hn:x≠"__name__")(hdb:(x==("__debug__":Str))=false)(hg:Gl X x):JE X (.Name x pos) (dC (.ty T)):=by unfold JE;exact QJ hm hv hg hn hdb
theorem ak{k:Int}{j:Nat}:JE X (.Constant (.int k) j pos) (dC (.int k)):=by unfold JE;exact Oo
theorem iJ{k:Bool}{j:Nat}:JE X (.Constant (.bool k) j pos) (dC (.bl k)):=by unfold JE;exact Qb
theorem f6{k:Str}{j:Nat}:JE X (.Constant (.str k) j pos) (dC (.str k)):=by unfold JE;exact Oy
theorem tV{j:Nat}:JE X (.Constant .none j pos) (dC .aE):=by unfold JE;exact Pf
theorem aX{op:Operator}{r:dX}(ho:cJ X (binaryOp op) (LR r))(ha:JE X a ta)(hb:JE X b tb):JE X (.BinOp a op b pos) (au r ta tb):=by unfold JE at*;exact QH ho ha hb
theorem jz(ha:JE X a ta):JE X (.UnaryOp .USub a pos) (nu iM ta):=by unfold JE at*;exact QL N9 ha
theorem CM(ha:JE X a ta):JE X (.UnaryOp .Not a pos) (rh (aR ta)):=by unfold JE at*;exact OG ha
theorem mr{op:BoolOp}(ha:JE X a ta):JE X (.BoolOp op [a] pos) ta:=by unfold JE at*;exact Oq ha
theorem kP(ha:JE X a ta)(hb:JE X (.BoolOp .And (b::es) pos) tb):JE X (.BoolOp .And (a::b::es) pos) (ie ta tb):=by unfold JE at*;exact OI ha hb
theorem kW{op:CmpOp}{r:dX}(ho:cJ X (compareOp op) (LR r))(hm:behindInMarks op b=false)(ha:JE X a ta)(hb:JE X b tb):JE X (.Compare a [op] [b] pos) (au r ta tb):=by unfold JE at*;exact Og ho ha hb hm
theorem Im(hc:JT X c t)(ha:JE X a ta)(hb:JE X b tb):JE X (.IfExp c a b pos) (IJ t ta tb):=by unfold JE at*;unfold JT at hc;exact Oa hc ha hb
theorem cH{n:Nat}(h:JA X es ar):JE X (.Tuple es n pos) (c5 ar):=by unfold JE;unfold JA at h;exact OF h
theorem e_(h:JA X es ar):JE X (.List es pos) (fV ar):=by unfold JE;unfold JA at h;exact OZ h
theorem yS(h:JA X es ar):JE X (.List es pos) (w6 ar):=by unfold JE;unfold JA at h;exact Oz h
theorem ag:JA X [] ao:=by unfold JA;exact tK
theorem aa(ha:JE X e te)(hr:JA X es ar)(hs:notStar e=true:=by rfl):JA X (e::es) (ae te ar):=by unfold JA at*;unfold JE at ha;exact Gg ha hr hs
theorem aJ(ha:JE X a ta)(hb:JE X b tb)(hs:ox b=true:=by rfl):JE X (.Subscript a b pos) (au aS ta tb):=by unfold JE at*;exact O5 ha hb hs
theorem b_{x:Str}{id:String}{r:fk}(hc:cj X (.builtin id) (gm r))(ha:JA X (e::es) ar)(hm:X.mg x=none)(hv:bootBuiltins x=some (.builtin id))(hn:x≠"__name__")(hdb:(x==("__debug__":Str))=false)(hg:Gl X x)(hs:notStar e=true:=by rfl)(hs2:f_ es=true:=by rfl):JE X (.Call (.Name x p) (e::es) [] pos) (bw r ar):=by
 unfold JE;unfold JA at ha;exact N_ hc ha hm hv hn hdb hg hs hs2
theorem eK{x:Str}{T:String}{r:fk}(hc:cj X (.type T) (gm r))(ha:JA X (e::es) ar)(hm:X.mg x=none)(hv:bootBuiltins x=some (.type T))(hn:x≠"__name__")(hdb:(x==("__debug__":Str))=false)(hg:Gl X x)(hs:notStar e=true:=by rfl)(hs2:f_ es=true:=by rfl):JE X (.Call (.Name x p) (e::es) [] pos) (bw r ar):=by
 unfold JE;unfold JA at ha;exact Oi hc ha hm hv hn hdb hg hs hs2
theorem aO{x qual:Str}{st:Stmt}{ps:List Str}{f:Addr}{fd:FuncData}{k:Nat}{S:cA}(A:bE X.K X.mg x qual st ps f fd)(F:bf X.prog X.w X.K X.mg X.base cD k f fd ps (cG S))(hr:c8 k X.A)(ha:JA X (e::es) ar)(hdb:(x==("__debug__":Str))=false)(hg:Gl X x)(hs:notStar e=true:=by rfl)(hs2:f_ es=true:=by rfl):
 JE X (.Call (.Name x p) (e::es) [] pos) (aC S ar):=by unfold JE;unfold JA at ha;exact O8 A F hr ha hdb hg hs hs2
theorem Hl{apos cpos:Pos}(ho:JE X o to)(he:JE X e te)(hbase:attributeBase o "append" X.env (eval o X.env)=eval o X.env:=by rfl)(hline:(apos.endLine==cpos.line)=true:=by rfl)(hs:notStar e=true:=by rfl):JE X (.Call (.Attribute o "append" apos) [e] [] cpos) (qf to te):=by
 unfold JE at*;refine Hw ho he hbase ?_ hline (bS hs) rfl;rw[bS hs];rfl
theorem a6{op:CmpOp}{r:dX}(ho:cJ X (compareOp op) (LR r))(hm:behindInMarks op b=false)(ha:JE X a ta)(hb:JE X b tb):JT X (.Compare a [op] [b] pos) (aR (au r ta tb)):=by unfold JE at*;unfold JT;exact Ls ho ha hb hm
theorem jP(ha:JT X a t):JT X (.UnaryOp .Not a pos) (j6 t):=by unfold JT at*;exact Ms ha
theorem ip(he:JE X e te)(h:sq e=true:=by rfl):JT X e (aR te):=by unfold JT;unfold JE at he;exact Jn he h
theorem jv(ha:JT X a t):JW X (.BoolOp .And [a] pos) t:=by unfold JW;unfold JT at ha;exact Jj ha
theorem m9(ha:JT X a t):JW X (.BoolOp .Or [a] pos) t:=by unfold JW;unfold JT at ha;exact Nf ha
theorem lz(ha:JT X a t)(hb:JW X (.BoolOp .And (b::es) pos) u):JW X (.BoolOp .And (a::b::es) pos) (jZ t u):=by unfold JW at*;unfold JT at ha;exact M_ ha hb
theorem nC(ha:JT X a t)(hb:JW X (.BoolOp .Or (b::es) pos) u):JW X (.BoolOp .Or (a::b::es) pos) (nj t u):=by unfold JW at*;unfold JT at ha;exact Pe ha hb
theorem gd(h:JW X e t):JT X e t:=by unfold JT;unfold JW at h;exact PW.pt h
theorem d_{l tg:Expr}(hl:JE X l ta):JI X tg l (dJ ta):=by unfold JI;unfold JE at hl;exact NH hl
theorem gB{tg:Expr}(hg:Gl X "range")(hm:X.mg "range"=none)(ha:JA X [a] ar)(hs:notStar a=true:=by rfl):JI X tg (.Call (.Name "range" p) [a] [] pos) (fO ar):=by unfold JI;unfold JA at ha;exact FY (D2 hg hm ha (bS hs))
theorem GF{tg:Expr}(hg:Gl X "range")(hm:X.mg "range"=none)(ha:JA X [a,b] ar)(hs:notStar a=true:=by rfl)(hs2:notStar b=true:=by rfl):JI X tg (.Call (.Name "range" p) [a,b] [] pos) (t4 ar):=by unfold JI;unfold JA at ha;exact ED (EL hg hm ha (by rw[bS hs,bS hs2];rfl) (bS hs2))
theorem dz{k:Nat}{x:Str}(hN:X.N.Nodup)(hx:Loc X.env.scope x)(hf:X.fn x=true\/X.env.scope.names.lookup x=some .local)(hi:X.N[k]?=some x:=by rfl):JG X (.Name x pos) (bN k):=by unfold JG;exact KP (wW hN hi hx hf)
theorem jS{k j n:Nat}{x y:Str}{px py:Pos}(hc:X.calm=true)(hN:X.N.Nodup)(hx:Loc X.env.scope x)(hf:X.fn x=true\/X.env.scope.names.lookup x=some .local)(hy:Loc X.env.scope y)(hg:X.fn y=true\/X.env.scope.names.lookup y=some .local)(hi:X.N[k]?=some x:=by rfl)(hj:X.N[j]?=some y:=by rfl):
 JG X (.Tuple [.Name x px,.Name y py] n pos) (gc k j):=by unfold JG;exact LV (MK hc (zd (wW hN hi hx hf) (zd (wW hN hj hy hg) Ku)))
theorem cB:JC X [] cw:=by unfold JC;exact Gj
theorem Nm(h:JT X c t):JC X [c] t:=by unfold JC;unfold JT at h;exact Lg h
theorem eN{scope:Scope}{Nc:List Str}{elt tg iter:Expr}{ifs:List Expr}{src:DI}{fr:List (Option Nat)}{dtg:fB}(S:bh X scope Nc fr)(hi:JI X tg iter src)(hg:∀C s H ex,JG (fo X scope Nc C s H ex) tg dtg)(ht:∀C s H ex,JC (fo X scope Nc C s H ex) ifs t)(he:∀C s H ex,JE (fo X scope Nc C s H ex) elt te)(fit:rW fr dtg)
 (hx:X.xe=fun _ _=>False:=by rfl) (hc:X.calm=true:=by rfl) (hs:∀x,foldedSetIterable iter X.env x=pure x:=by intro _;rfl):JE X (.ListComp elt [⟨tg,iter,ifs,0⟩] scope pos) (dH src fr dtg t te):=by
 unfold JE JI JG JC at*;exact MY S hi hg ht he fit hx hc hs
theorem xa{scope:Scope}{Nc:List Str}{elt tg iter:Expr}{ifs:List Expr}{src:DI}{fr:List (Option Nat)}{dtg:fB}(S:bh X scope Nc fr)(hi:JI X tg iter src)(hg:∀C s H ex,JG (fo X scope Nc C s H ex) tg dtg)(ht:∀C s H ex,JC (fo X scope Nc C s H ex) ifs t)(he:∀C s H ex,JE (fo X scope Nc C s H ex) elt te)(fit:rW fr dtg)
 (hx:X.xe=fun _ _=>False:=by rfl) (hc:X.calm=true:=by rfl) (hs:∀x,foldedSetIterable iter X.env x=pure x:=by intro _;rfl):JE X (.ListComp elt [⟨tg,iter,ifs,0⟩] scope pos) (iY src fr dtg t te):=by
 unfold JE JI JG JC at*;exact KG S hi hg ht he fit hx hc hs
theorem bI:JB X [] bY:=by unfold JB;exact KH
theorem az(h:JS X s T):JB X [s] T:=by unfold JB;unfold JS at h;exact Jq h
theorem av(h:JS X s T)(h2:JB X ss U):JB X (s::ss) (aF T U):=by unfold JB at*;unfold JS at h;exact Gs h h2
theorem aL(h:JE X e te):JS X (.Return (some e) pos) (bc te):=by unfold JS;unfold JE at h;exact Nb h
theorem iz(h:JE X e te)(hc:md e=true:=by rfl):JS X (.Expr e pos) (jy te):=by unfold JS;unfold JE at h;exact GD h hc
theorem cp{x y:List Stmt}(hc:JT X c t)(ha:JB X x T)(hb:JB X y U):JS X (.If c x y pos) (cO t T U):=by unfold JS;unfold JB at*;unfold JT at hc;exact Ol hc ha hb
theorem u4{x:List Stmt}(hc:JT X c t)(hb:JB X x T)(hx:X.xe=fun _ _=>False:=by rfl):JS X (.While c x [] pos) (sX t T):=by unfold JS;unfold JB at hb;unfold JT at hc;exact F_ (G7 (by rw[hx];exact PassesOwn.never) hc hb)
theorem gn{tg iter:Expr}{x:List Stmt}{src:DI}{dtg:fB}(hi:JI X tg iter src)(hg:JG X tg dtg)(hb:JB X x T)(hx:X.xe=fun _ _=>False:=by rfl)(hc:X.calm=true:=by rfl)(hs:∀x,foldedSetIterable iter X.env x=pure x:=by intro _;rfl):JS X (.For tg iter x [] pos) (iN src dtg T):=by
 unfold JS;unfold JI at hi;unfold JG at hg;unfold JB at hb;exact Nj (Lo (by rw[hx];exact PassesOwn.never) hc hi hg hb hs)
theorem aV{k:Nat}{x:Str}(hN:X.N.Nodup)(hx:Loc X.env.scope x)(he:JE X e te)(hf:X.fn x=true\/X.env.scope.names.lookup x=some .local:=by first|exact .inl rfl|exact .inr rfl)(h:md e=true:=by rfl)(hi:X.N[k]?=some x:=by rfl):JS X (.Assign [.Name x pos'] e pos) (a7 k te):=by
 unfold JS;unfold JE at he;exact LU (Jt hN hi hx he hf h)
theorem qv{scope:Scope}{Nc:List Str}{elt tg iter:Expr}{ifs:List Expr}{src:DI}{fr:List (Option Nat)}{dtg:fB}{k:Nat}{x:Str}(hN:X.N.Nodup)(hl:Loc X.env.scope x)(S:bh X scope Nc fr)(hi:JI X tg iter src)(hg:∀C s H ex,JG (fo X scope Nc C s H ex) tg dtg)(ht:∀C s H ex,JC (fo X scope Nc C s H ex) ifs t)(he:∀C s H ex,JE (fo X scope Nc C s H ex) elt te)(fit:rW fr dtg)
 (hf:X.fn x=true\/X.env.scope.names.lookup x=some .local:=by first|exact .inl rfl|exact .inr rfl) (hsw:swapsWith (.ListComp elt [⟨tg,iter,ifs,0⟩] scope p) (some (.Name x pos')) pos.line X.env=pure true:=by rfl) (hni:X.N[k]?=some x:=by rfl) (hx:X.xe=fun _ _=>False:=by rfl) (hc:X.calm=true:=by rfl) (hs:∀x,foldedSetIterable iter X.env x=pure x:=by intro _;rfl):
 JS X (.Assign [.Name x pos'] (.ListComp elt [⟨tg,iter,ifs,0⟩] scope p) pos) (a7 k (dH src fr dtg t te)):=by
 unfold JS;unfold JE JI JG JC at*;exact JZ fit (BP hx hc S hi hg ht he hN hni hl hf hsw hs)
theorem qH{scope:Scope}{Nc:List Str}{elt tg iter:Expr}{ifs:List Expr}{src:DI}{fr:List (Option Nat)}{dtg:fB}{k:Nat}{x:Str}(hN:X.N.Nodup)(hl:Loc X.env.scope x)(S:bh X scope Nc fr)(hi:JI X tg iter src)(hg:∀C s H ex,JG (fo X scope Nc C s H ex) tg dtg)(ht:∀C s H ex,JC (fo X scope Nc C s H ex) ifs t)(he:∀C s H ex,JE (fo X scope Nc C s H ex) elt te)(fit:rW fr dtg)
 (hf:X.fn x=true\/X.env.scope.names.lookup x=some .local:=by first|exact .inl rfl|exact .inr rfl) (hsw:swapsWith (.ListComp elt [⟨tg,iter,ifs,0⟩] scope p) (some (.Name x pos')) pos.line X.env=pure true:=by rfl) (hni:X.N[k]?=some x:=by rfl) (hx:X.xe=fun _ _=>False:=by rfl) (hc:X.calm=true:=by rfl) (hs:∀x,foldedSetIterable iter X.env x=pure x:=by intro _;rfl):
 JS X (.Assign [.Name x pos'] (.ListComp elt [⟨tg,iter,ifs,0⟩] scope p) pos) (a7 k (iY src fr dtg t te)):=by
 unfold JS;unfold JE JI JG JC at*;exact Hu fit (BP hx hc S hi hg ht he hN hni hl hf hsw hs)
theorem dN(he:JE X e te)(ho:JE X o to)(hi:JE X i ti)(h1:md e=true:=by rfl)(h2:ox i=true:=by rfl):JS X (.Assign [.Subscript o i pos'] e pos) (et to ti te):=by unfold JS;unfold JE at*;exact GS (NO he ho hi h1 h2)
theorem LQ{k:Nat}{x:Str}{op:Operator}{f:Int->Int->Int}(hN:X.N.Nodup)(hx:Loc X.env.scope x)(he:JE X e te)(ho:Nh X op (L7 f))(hf:X.fn x=true\/X.env.scope.names.lookup x=some .local:=by first|exact .inl rfl|exact .inr rfl)(hi:X.N[k]?=some x:=by rfl):JS X (.AugAssign (.Name x pos') op e pos) (Df k (zV f) te):=by
 unfold JS;unfold JE at he;exact Ln (L0 hN hi hx he ho hf)
theorem D_{k j kt k2:Nat}{x y:Str}{px py pt pt2:Pos}(hN:X.N.Nodup)(hij:k≠j)(hx:X.env.scope.names.lookup x=some .local)(hy:X.env.scope.names.lookup y=some .local)(ha:JA X [a,b] ar)
 (hw:swappedStores [.Tuple [.Name x px,.Name y py] kt pt] (.Tuple [a,b] k2 pt2) X.env=pure (some [x,y]):=by rfl) (hc:X.calm=true:=by rfl) (hi:X.N[k]?=some x:=by rfl) (hj:X.N[j]?=some y:=by rfl) (hs:swapsWithSole [.Tuple [.Name x px,.Name y py] kt pt] (.Tuple [a,b] k2 pt2) pos.line X.env=pure false:=by rfl):
 JS X (.Assign [.Tuple [.Name x px,.Name y py] kt pt] (.Tuple [a,b] k2 pt2) pos) (CN k j ar):=by unfold JS;unfold JA at ha;exact Mo (La hc hN hi hj hij hx hy ha hw hs)
theorem wJ{tg:Expr}{dtg:fB}(he:JE X e te)(hg:JG X tg dtg)(hs:swapsWithSole [tg] e pos.line X.env=pure false:=by rfl)(hw:swappedStores [tg] e X.env=pure none:=by rfl)(h1:(assignEach [tg] X.env).map (·.2)=[assign tg X.env]:=by rfl):JS X (.Assign [tg] e pos) (w4 dtg te):=by
 unfold JS;unfold JE at he;unfold JG at hg;exact M4 (FF he hg hs hw h1)
end
theorem bH{P:Program}{w:World}{K:PySem.W.Frag}{mg:Str->Option Value}{base:Heap}{x qual:Str}{st:Stmt}{f:Addr}{fd:FuncData}{N ps:List Str}{k:Nat}{sp:cA}{t:DS}(F:ou K x qual st f fd)(S:aN N ps (aj st))
 (hbody:∀(cdv:Value) (A:Around) (outer:List Env) (s:Shared) (H:Hp) (E:XK),c8 k (A.deeper (envOfC qual (aj st) s.heap.objs.size f cdv))->JB (qT cD P w K mg base N qual (aj st) f cdv A outer s H E).wI (gZ st) t)
 (hsp:∀ds st K,sp ds st K->ds.length=ps.length/\t {nx:=fun _ st'=>K .aE st',rt:=K} (aU N ds) st):bf P w K mg base cD (k+1) f fd ps (cG sp):=by
 unfold JB at hbody;exact Ot F S hbody hsp
end L3
namespace HT
open PySem PyProof.Rows
section
variable {prog:Program}{w:World}{A:Around}{E:Value->Shared->Prop}{s:Shared}
theorem rZ{t sl:Addr}{items:Array Value}{vl vu:Value}{lo hi:Option Int}{Q:Value->Shared->Prop}(ht:IsTup s.heap t items)(hs:s.heap.IsSliceOf sl vl vu .none)(pl:IsPart vl lo)(pu:IsPart vu hi)
 (hw:cu items.size 0 lo=0/\cu items.size items.size hi=items.size) (h:Q (.ref t) s):wpAny (model prog w) A (getItem (.ref t) (.ref sl)) Q E s:=by
 obtain⟨os,hos,hcs,hds⟩:=id hs;have hTs:s.TypeIs (.ref sl) "slice":=⟨os,hos,hcs⟩
 unfold getItem;try with_reducible refine wpAny_holding ?_
 first|refine wpAny_bind (wpAny_pure ?_)|skip
 refine wpAny_bind (wpAny_sequenceKey ht.typeIs (by decide) ?_)
 refine wpAny_bind (wpAny_callSpecial?_slot (name:=Str.ofString "__getitem__") ht.typeIs PyProof.Rows.slot_tuple_getitem
  (wpAny_call_entry PyProof.Rows.slot_tuple_getitem ht.typeIs entry_tuple_getitem ?_ (args_tuple_getitem _ _)))
 show wpAny _ _ (Builtin.Tuple.tupleItemsOf (.ref t) >>= _) _ _ s;refine wpAny_bind (tupleItemsOf_ ht ?_);refine wpAny_bind (wpAny_typeOf hTs ?_);rw[if_pos (by decide)];refine wpAny_bind (oB hs pl pu ?_)
 have hyes:(((cu items.size 0 lo:Nat):Int)==0&&(1:Int)==1&&(cu items.size items.size hi-cu items.size 0 lo)==items.size)=true:=by
  rw[hw.1,hw.2];simp
 show wpAny _ _ (if(((cu items.size 0 lo:Nat):Int)==0&&(1:Int)==1&&(cu items.size items.size hi-cu items.size 0 lo)==items.size)=true then _ else _) _ _ s;rw[if_pos hyes];refine wpAny_bind ?_;unfold Builtin.Tuple.tupleIsExact;exact wpAny_bind (wpAny_typeOf ht.typeIs (wpAny_pure (wpAny_bind (wpAny_rule (wpAny_pure ⟨_,rfl,wpAny_pure h⟩)))))
end
end HT
namespace L3
open PySem L2
open PySem.Spec hiding items?
open PyProof.Rows hiding St
abbrev DO:=cn->ai->(Option Int->ai->Prop)->Prop
def qD:DO:=fun _ st K=>K none st
def vz(t:DE):DO:=fun σ st K=>t σ st fun d st1=>match d with| .int i=>K (some i) st1|_=>False
def cutD(xs:List D)(lo hi:Option Int):List D:=(xs.drop (HT.cu xs.length 0 lo)).take (HT.cu xs.length xs.length hi-HT.cu xs.length 0 lo)
def A8(d:D)(lo hi:Option Int)(st:ai)(K:DK):Prop:=match d with
 | .lst xs=>K (.lst (cutD xs lo hi)) st
 | .tup xs=>K (.tup (cutD xs lo hi)) st
 | .ref n=>(match st[n]? with|some (.lst xs)=>K (.lst (cutD xs lo hi)) st|_=>False)
 |_=>False
@[irreducible] def kX:D->Option Int->Option Int->ai->DK->Prop:=A8
def tx(t:DE)(lo hi:DO):DE:=fun σ st K=>t σ st fun d st1=>lo σ st1 fun l st2=>hi σ st2 fun u st3=>kX d l u st3 K
theorem vq{α:List (Option Addr)}{G:Hp}{xs:List D}{vs:List V}{lo hi:Option Int}(r:aM α G xs vs):aM α G (cutD xs lo hi) (qR vs lo hi):=by
 unfold cutD qR;rw[<-r.length];exact ba.mpr (uH _ (uu _ (ba.mp r)))
def Q6(α:List (Option Addr))(G F:Hp)(K:Option Int->ai->Prop)(Q:Option Int->Hp->Prop):Prop:=∀o st',K o st'->∀α' G' H',Step α G α' G'->cE G' F H'->aW α' st' G'->Q o H'
inductive Py(t:DO)(σ:L2.St)(H:Hp)(Q:Option Int->Hp->Prop):Prop
 |mk (α:List (Option Addr)) (σd:cn) (st:ai) (K:Option Int->ai->Prop) (G F:Hp) (P:cE G F H) (R:eg α G σd σ) (S:aW α st G) (h:t σd st K) (k:Q6 α G F K Q):Py t σ H Q
def LO(t:DO):TO:=Py t
section
variable {X:Cx}
theorem PO.imp{e:Option Expr}{t t':TO}(h:PO X e t)(f:∀σ H Q,t' σ H Q->t σ H Q):PO X e t':=fun pins s σ H Q I q=>h pins s σ H Q I (f σ H Q q)
theorem JN:PO X none (LO qD):=PO.imp Kn fun σ H Q ⟨α,σd,st,K,G,F,P,R,S,t,k⟩=>k none st t α G H Step.refl P S
theorem Kw{e:Expr}{te:DE}(h:PE X e (LE te)):PO X (some e) (LO (vz te)):=PO.imp (Kt h) fun σ H Q ⟨α,σd,st,K,G,F,P,R,S,t,k⟩=>by
 refine⟨α,σd,st,_,G,F,P,R,S,t,fun d st1 q α1 G1 H1 v s1 P1 S1 r1=>?_⟩;cases d<;>try exact q.elim
 unfold Rep at r1;exact⟨_,r1,k _ st1 q α1 G1 H1 s1 P1 S1⟩
def Q4(x:V)(lo hi:Option Int)(H:Hp)(Q:VK):Prop:=∃α d st K G F,cE G F H/\Rep α G d x/\aW α st G/\kX d lo hi st K/\LK α G F K Q
theorem JJ:EX X (fun x lo hi H Q=>∃a xs,x= .ref a/\H a=some (.tup xs)/\((HT.cu xs.length 0 lo=0/\HT.cu xs.length xs.length hi=xs.length)->Q (.ref a) H)/\(¬(HT.cu xs.length 0 lo=0/\HT.cu xs.length xs.length hi=xs.length)->∀p,H p=none->Q (.ref p) (upd H p (.tup (qR xs lo hi))))):=by
 intro pins s σ H x v vl vu lo hi sl Q I rx hs pl pu h;obtain⟨a,xs,rfl,hx,q1,q2⟩:=h;by_cases hw:HT.cu xs.length 0 lo=0/\HT.cu xs.length xs.length hi=xs.length
 . cases rx;obtain⟨aq,r,ht,hz⟩:=I.tuple (iZ.of hx);have hlen:aq.toArray.size=xs.length:=by rw[List.size_toArray];exact r.length.symm
   exact⟨"tuple",_,PyProof.Rows.slot_tuple_getitem.lookup,ht.typeIs,HT.rZ ht hs pl pu (by rw[hlen];exact hw) ⟨.ref a,H,I,rfl,q1 hw⟩⟩
 . exact NG pins s σ H _ v vl vu lo hi sl Q I rx hs pl pu ⟨a,xs,rfl,.of hx,hw,q2 hw⟩
theorem Fs{xs:List D}{lo hi:Option Int}(hw:HT.cu xs.length 0 lo=0/\HT.cu xs.length xs.length hi=xs.length):cutD xs lo hi=xs:=by
 unfold cutD;rw[hw.1,hw.2];simp
theorem Lq:EX X Q4:=by
 intro pins s σ H x v vl vu lo hi sl Q I rx hs pl pu ⟨α,d,st,K,G,F',P,r1,S,q,k⟩;unfold kX A8 at q;cases d<;>try exact q.elim
 . rename_i n;simp only at q;split at q
   . rename_i xs e;obtain⟨a,ea,vs,h1,h2⟩:=S.fZ e;have r1':=d7 ea r1;subst r1';exact BQ pins s σ H _ v vl vu lo hi sl Q I rx hs pl pu ⟨a,vs,rfl,.inl (.of (P.get h1)),fun p hp=>k.lst P q S (vq h2) hp⟩
   . exact q.elim
 . unfold Rep at r1;obtain⟨a,vs,rfl,na,ha,ra⟩:=r1;exact BQ pins s σ H _ v vl vu lo hi sl Q I rx hs pl pu ⟨a,vs,rfl,.inl (gh P ha),fun p hp=>k.lst P q S (vq ra) hp⟩
 . rename_i xs;have r0:=r1;unfold Rep at r1;obtain⟨a,vs,rfl,na,ha,ra⟩:=r1;refine JJ pins s σ H _ v vl vu lo hi sl Q I rx hs pl pu ⟨a,vs,rfl,P.get ha,fun hw=>?_,fun _ p hp=>k.tup P q S (vq ra) hp⟩;rw[<-ra.length]at hw;simp only at q;rw[Fs hw]at q;exact k.here P q S r0
theorem KS{e:Expr}{lo hi:Option Expr}{te:DE}{tl th:DO}{p2 pos:Pos}(he:PE X e (LE te))(hl:PO X lo (LO tl))(hh:PO X hi (LO th)):PE X (.Subscript e (.Slice lo hi none p2) pos) (LE (tx te tl th)):=PE.imp (Hn Lq he hl hh) fun σ H Q ⟨α,σd,st,K,G,F,P,R,S,t,k⟩=>by
 refine⟨α,σd,st,_,G,F,P,R,S,t,fun d st1 q α1 G1 H1 v s1 P1 S1 r1=>?_⟩;refine⟨α1,σd,st1,_,G1,F,P1,R.step s1,S1,q,fun l st2 q2 α2 G2 H2 s2 P2 S2=>?_⟩;refine⟨α2,σd,st2,_,G2,F,P2,(R.step s1).step s2,S2,q2,fun u st3 q3 α3 G3 H3 s3 P3 S3=>?_⟩;exact⟨α3,d,st3,K,G3,F,P3,(r1.step s2).step s3,S3,q3,((k.at s1).at s2).at s3⟩
@[irreducible] def JO(X:Cx)(e:Option Expr)(t:DO):Prop:=PO X e (LO t)
theorem wM:JO X none qD:=by unfold JO;exact JN
theorem w9{e:Expr}{te:DE}(h:JE X e te):JO X (some e) (vz te):=by unfold JO;unfold JE at h;exact Kw h
theorem wR{e:Expr}{lo hi:Option Expr}{te:DE}{tl th:DO}{p2 pos:Pos}(he:JE X e te)(hl:JO X lo tl)(hh:JO X hi th):JE X (.Subscript e (.Slice lo hi none p2) pos) (tx te tl th):=by unfold JE at*;unfold JO at*;exact KS he hl hh
end
theorem E2{st:ai}{K:DK}{xs:List D}{lo hi:Option Int}(k:K (.lst (cutD xs lo hi)) st):kX (.lst xs) lo hi st K:=by unfold kX;exact k
theorem EH{st:ai}{K:DK}{xs:List D}{lo hi:Option Int}(k:K (.tup (cutD xs lo hi)) st):kX (.tup xs) lo hi st K:=by unfold kX;exact k
theorem En{st:ai}{K:DK}{xs:List D}{lo hi:Option Int}{n:Nat}(h:st[n]?=some (.lst xs))(k:K (.lst (cutD xs lo hi)) st):kX (.ref n) lo hi st K:=by unfold kX A8;simp only[h];exact k
section
variable {prog:Program}{w:World}{A:Around}{E:Value->Shared->Prop}{s:Shared}
theorem CY{iT tp:Addr}{n:Nat}{aq:Array Value}{v:Value}{Q:Value->Shared->Prop}(hI:s.heap.IsTupleIter iT tp n)(hT:s.heap.IsTuple tp aq)(hv:aq[n]?=some v)
 (q:∀g,g.IsTupleIter iT tp (n+1)->Heap.SameBut iT s.heap g->Q v {s with heap:=g}):wpAny (model prog w) A (Builtin.SmallTypes.nextOf (.ref iT)) Q E s:=by
 obtain⟨oI,eI,cI,dI⟩:=id hI;obtain⟨oT,eT,_,nT,dT⟩:=hT;unfold Builtin.SmallTypes.nextOf;refine wpAny_bind (wpAny_callSpecial?_slot (name:=Str.ofString "__next__") hI.typeIs F.slot_tuple_iterator_next (wpAny_call_entry F.slot_tuple_iterator_next hI.typeIs F.entry_tuple_iterator_next ?_ (F.args_tuple_iterator_next_1 _)));show wpAny _ _ (field (.ref iT) 0 >>= _) _ _ s;refine wpAny_bind (wpAny_field eI dI (x:= .ref tp) rfl ?_);show wpAny _ _ (if(Value.ref tp==Value.none)=true then _ else _) _ _ s;rw[if_neg (show¬((Value.ref tp==Value.none)=true)from Bool.false_ne_true)];show wpAny _ _ (field (.ref iT) 1 >>= _) _ _ s;refine wpAny_bind (wpAny_field eI dI (x:= .int n 0) rfl ?_);show wpAny _ _ (seqItems? (.ref tp) >>= _) _ _ s;refine wpAny_bind (wpAny_seqItems eT dT ?_);simp only[Int.toNat_natCast,hv];refine wpAny_bind (wpAny_setField eI dI (by simp) (wpAny_pure ⟨v,rfl,wpAny_pure (q _ ?_ (Heap.SameBut.update ..))⟩));refine⟨_,Heap.get?_update_self _ eI (Obj.isFreed_of_fields (Obj.data_mapFields dI _)),(Obj.cls_mapFields ..).trans cI,?_⟩;rw[Obj.data_mapFields dI];simp[rawInt]
theorem ER{iT tp:Addr}{n:Nat}{aq:Array Value}{Q:Value->Shared->Prop}(hh:A.handled=none)(hI:s.heap.IsTupleIter iT tp n)(hT:s.heap.IsTuple tp aq)(hv:aq[n]?=none)
 (q:∀g e,Heap.ExtBut iT s.heap g->(∃o,g.get? e=some o/\o.cls= .type "StopIteration")->E (.ref e) {s with heap:=g}):wpAny (model prog w) A (Builtin.SmallTypes.nextOf (.ref iT)) Q E s:=by
 obtain⟨oI,eI,cI,dI⟩:=id hI;obtain⟨oT,eT,_,nT,dT⟩:=hT;unfold Builtin.SmallTypes.nextOf;refine wpAny_bind (wpAny_callSpecial?_slot (name:=Str.ofString "__next__") hI.typeIs F.slot_tuple_iterator_next (wpAny_call_entry F.slot_tuple_iterator_next hI.typeIs F.entry_tuple_iterator_next ?_ (F.args_tuple_iterator_next_1 _)));show wpAny _ _ (field (.ref iT) 0 >>= _) _ _ s;refine wpAny_bind (wpAny_field eI dI (x:= .ref tp) rfl ?_);show wpAny _ _ (if(Value.ref tp==Value.none)=true then _ else _) _ _ s;rw[if_neg (show¬((Value.ref tp==Value.none)=true)from Bool.false_ne_true)];show wpAny _ _ (field (.ref iT) 1 >>= _) _ _ s;refine wpAny_bind (wpAny_field eI dI (x:= .int n 0) rfl ?_);show wpAny _ _ (seqItems? (.ref tp) >>= _) _ _ s;refine wpAny_bind (wpAny_seqItems eT dT ?_);simp only[Int.toNat_natCast,hv];refine wpAny_bind (wpAny_rule (wpAny_bind (wpAny_setField eI dI (by simp) ?_)));show wpAny _ _ (newExc (.type "StopIteration") [] >>= _) _ _ _;refine wpAny_bind ?_;simp only[newExc,newTuple];refine wpAny_bind (wpAny_newObj_type ?_ (by size_fits));refine wpAny_bind (m:=firstArgMember _ _) (wpAny_of_eq (a:=Value.none) (by first|rfl|(simp only[firstArgMember];rfl)) ?_);refine wpAny_newObj_type ?_ (by size_fits);simp only[raiseNew];refine wpAny_bind (wpAny_handled ?_);first|rw[show A.in1.handled=none from hh]|rw[hh]
 refine wpAny_bind (wpAny_pure (wpAny_throw ?_));exact q _ _ (((Heap.SameBut.update ..).extBut.push _).push _) ⟨_,Heap.get?_push_size _ rfl,rfl⟩
end
section
variable {st:ai}{K:DK}{i j:Int}{b c:Bool}{xs ys:List D}{d e:D}{n:Nat}
theorem eqT(h:i=j)(k:K (.bl true) st):dE (.int i) (.int j) st K:=Ae (by rw[decide_eq_true h];exact k)
theorem QQ(h:i≠j)(k:K (.bl false) st):dE (.int i) (.int j) st K:=Ae (by rw[decide_eq_false h];exact k)
theorem eq2(h1:i=j->K (.bl true) st)(h2:i≠j->K (.bl false) st):dE (.int i) (.int j) st K:=by
 by_cases h:i=j
 . exact eqT h (h1 h)
 . exact QQ h (h2 h)
theorem neT(h:i≠j)(k:K (.bl true) st):kO (.int i) (.int j) st K:=C5 (by rw[decide_eq_false h];exact k)
theorem Ew(h:i=j)(k:K (.bl false) st):kO (.int i) (.int j) st K:=C5 (by rw[decide_eq_true h];exact k)
theorem ne2(h1:i≠j->K (.bl true) st)(h2:i=j->K (.bl false) st):kO (.int i) (.int j) st K:=by
 by_cases h:i=j
 . exact Ew h (h2 h)
 . exact neT h (h1 h)
theorem Q9(h:i<j)(k:K (.bl true) st):qw (.int i) (.int j) st K:=yL (by rw[decide_eq_true h];exact k)
theorem QN(h:j<=i)(k:K (.bl false) st):qw (.int i) (.int j) st K:=yL (by rw[decide_eq_false (by omega)];exact k)
theorem IQ(h1:i<j->K (.bl true) st)(h2:j<=i->K (.bl false) st):qw (.int i) (.int j) st K:=by
 by_cases h:i<j
 . exact Q9 h (h1 h)
 . exact QN (by omega) (h2 (by omega))
theorem Pq(h:j<i)(k:K (.bl true) st):oS (.int i) (.int j) st K:=rG (by rw[decide_eq_true h];exact k)
theorem PF(h:i<=j)(k:K (.bl false) st):oS (.int i) (.int j) st K:=rG (by rw[decide_eq_false (by omega)];exact k)
theorem PC(h1:j<i->K (.bl true) st)(h2:i<=j->K (.bl false) st):oS (.int i) (.int j) st K:=by
 by_cases h:j<i
 . exact Pq h (h1 h)
 . exact PF (by omega) (h2 (by omega))
theorem Pm{P:Prop}(h:xs.length<=1000)(k:P):xs.length<=sizeLine/\P:=⟨by rw[sizeLine_eq];omega,k⟩
theorem cF{m:Nat}(h:m<=1000):m<=sizeLine:=by rw[sizeLine_eq];omega
theorem xC(h0:0<=i)(e:xs[i.toNat]?=some d):dU xs i=some d:=by
 have:=jm e;rw[Int.toNat_of_nonneg h0]at this;exact this
theorem tD{m:Nat}(h0:0<=i)(h:i.toNat<m):ko m i=some i.toNat:=by
 unfold ko;have:i<(m:Int):=by omega
 simp[h0,this]
end
theorem gK{tg:fB}{body:DS}{ok:ai->Prop}{E:mj}(I:List D->cn->ai->Prop)(hend:∀σ st,I [] σ st->ok st/\E.nx σ st)
 (hstep:∀x xs σ st,I (x::xs) σ st->(∀σ' st',I xs σ' st'->ja tg body ok E xs σ' st')->ok st/\∃σ1,tg x σ=some σ1/\body {E with nx:=ja tg body ok E xs,ct:=ja tg body ok E xs,bk:=E.nx} σ1 st):
 ∀xs σ st,I xs σ st->ja tg body ok E xs σ st
 | [],σ,st,h=>by unfold ja;exact hend σ st h
 |x::xs,σ,st,h=>by unfold ja;exact hstep x xs σ st h fun σ' st' h'=>gK I hend hstep xs σ' st' h'
theorem i0{tg:fB}{c:DT}{te:DE}{ok:ai->Prop}{σc:cn}{K:List D->ai->Prop}(I:List D->List D->ai->Prop)(hend:∀acc st,I [] acc st->ok st/\K acc st)
 (hstep:∀x xs acc st,I (x::xs) acc st->(∀acc' st',I xs acc' st'->dk tg c te ok σc xs acc' st' K)->ok st/\∃σ2,tg x σc=some σ2/\c σ2 st fun b st1=>if b=true then te σ2 st1 fun y st2=>dk tg c te ok σc xs (acc++[y]) st2 K else dk tg c te ok σc xs acc st1 K):
 ∀xs acc st,I xs acc st->dk tg c te ok σc xs acc st K
 | [],acc,st,h=>by unfold dk;exact hend acc st h
 |x::xs,acc,st,h=>by unfold dk;exact hstep x xs acc st h fun acc' st' h'=>i0 I hend hstep xs acc' st' h'
theorem comp_map{tg:fB}{te:DE}{ok:ai->Prop}{σc:cn}{st:ai}{K:List D->ai->Prop}{g:D->D}(aK:ok st)(xs:List D)(hx:∀x∈xs,∀K',K' (g x) st->∃σ2,tg x σc=some σ2/\te σ2 st K')(k:K (xs.map g) st):dk tg cw te ok σc xs [] st K:=by
 refine i0 (fun r acc st'=>st'=st/\(∀x∈r,x∈xs)/\acc++r.map g=xs.map g) (fun acc st' h=>?_) (fun x r acc st' h next=>?_) xs [] st ⟨rfl,fun _ h=>h,rfl⟩
 . obtain⟨rfl,_,e⟩:=h;rw[List.map_nil,List.append_nil]at e;rw[e];exact⟨aK,k⟩
 . obtain⟨rfl,hm,e⟩:=h;obtain⟨σ2,e2,q⟩:=hx x (hm x List.mem_cons_self) (fun y st2=>dk tg cw te ok σc r (acc++[y]) st2 K) (next _ _ ⟨rfl,fun z hz=>hm z (List.mem_cons_of_mem _ hz),by rw[<-e];simp⟩);exact⟨aK,σ2,e2,q⟩
theorem c_{A B:DS}{E:mj}{σ:cn}{st:ai}(J:cn->ai->Prop)(h:∀nx,(∀σ' st',J σ' st'->nx σ' st')->A {E with nx:=nx} σ st)(k:∀σ' st',J σ' st'->B E σ' st'):aF A B E σ st:=h (B E) k
def Ly(n:Nat)(K:DK)(y:D)(st2:ai):Prop:=∃y',[y]=[y']/\(match st2[n]? with|some (.lst xs)=>xs.length<sizeLine/\K .aE (st2.set n (.lst (xs++[y'])))|_=>False)
theorem xQ{n:Nat}{K:DK}{y:D}{st:ai}{xs:List D}(e:st[n]?=some (.lst xs))(h:xs.length<sizeLine)(k:K .aE (st.set n (.lst (xs++[y])))):Ly n K y st:=by
 refine⟨y,rfl,?_⟩;simp only[e];exact⟨h,k⟩
@[irreducible] def lY(to te:DE):DE:=qf to te
theorem AZ{σ:cn}{st:ai}{K:DK}{i n:Nat}{xs:List D}{te:DE}(ei:σ[i]?=some (some (.ref n)))(e:st[n]?=some (.lst xs))(h:te σ st (Ly n K)):lY (af i) te σ st K:=by
 unfold lY qf af;simp only[ei,e];exact h
theorem sO{X:Cx}{o e:Expr}{to te:DE}{apos cpos:Pos}(ho:JE X o to)(he:JE X e te)(hbase:attributeBase o "append" X.env (eval o X.env)=eval o X.env:=by rfl)(hline:(apos.endLine==cpos.line)=true:=by rfl)(hs:notStar e=true:=by rfl):JE X (.Call (.Attribute o "append" apos) [e] [] cpos) (lY to te):=by
 unfold lY;exact Hl ho he hbase hline hs
@[irreducible] def qJ(i:Nat)(t:DS):DS:=fun D σ st=>match σ[i]? with
 |some (some (.ref n))=>(match st[n]? with|some (.lst xs)=>t D (σ.set i (some (.lst xs))) (st.set n .dead)|_=>False)
 |_=>False
section
variable {X:Cx}
theorem K6{s:Stmt}{i:Nat}{t:DS}(h:PS X s (LS t)):PS X s (LS (qJ i t)):=PS.imp h fun D σ H ⟨α,σd,st,DD,G,F,P,R,S,q,k⟩=>by
 unfold qJ at q;split at q
 . rename_i n e;split at q
   . rename_i xs e2;have hn:n<st.length:=(List.getElem?_eq_some_iff.mp e2).1;obtain⟨v,ev,rv⟩:=R.at' i _ e;have R2:eg (α.set n none) G (σd.set i (some (.lst xs))) (σ.set i (some v)):=(R.step Step.fi).set i (S.Jh e2 rv)
     have es:σ.set i (some v)=σ:=by
      refine List.ext_getElem? fun j=>?_;by_cases hj:i=j
      . subst hj;rw[List.getElem?_set_self (List.getElem?_eq_some_iff.mp ev).1,ev]
      . rw[List.getElem?_set_ne hj]
     rw[es]at R2;exact⟨α.set n none,_,_,DD,G,F,P,R2,S.fi hn,q,k.at Step.fi⟩
   . exact q.elim
 . exact q.elim
theorem FI{s:Stmt}{i:Nat}{t:DS}(h:JS X s t):JS X s (qJ i t):=by unfold JS at*;exact K6 h
end
theorem F4{σ:cn}{st:ai}{E:mj}{i n:Nat}{t:DS}{xs:List L3.D}(e:σ[i]?=some (some (.ref n)))(e2:st[n]?=some (.lst xs))(k:t E (σ.set i (some (.lst xs))) (st.set n .dead)):qJ i t E σ st:=by
 unfold qJ;simp only[e,e2];exact k
structure Src(P:Program)(w:World)(t a:Addr)(J:Nat->Heap->Prop)(us:Array Value):Prop where
 fr:∀n g k,J n g->(∀b,b=t\/b=a->∀o,g.get? b=some o->k.get? b=some o)->J n k
 lv:∀n g,J n g->(∃o,g.get? t=some o)/\∃o,g.get? a=some o
 nx:∀n (A:Around) (s:Shared) (Q:Value->Shared->Prop) (E:Value->Shared->Prop) v,J n s.heap->us[n]?=some v->(∀k,J (n+1) k->Heap.SameBut t s.heap k->Q v {s with heap:=k})->wpAny (model P w) A (Builtin.SmallTypes.nextOf (.ref t)) Q E s
 en:∀n (A:Around) (s:Shared) (Q:Value->Shared->Prop) (E:Value->Shared->Prop),A.handled=none->J n s.heap->us[n]?=none->(∀k e,Heap.ExtBut t s.heap k->(∃o,k.get? e=some o/\o.cls= .type "StopIteration")->E (.ref e) {s with heap:=k})->wpAny (model P w) A (Builtin.SmallTypes.nextOf (.ref t)) Q E s
section
variable {P:Program}{w:World}
theorem src_list(t a:Addr)(hne:a≠t)(us:Array Value):Src P w t a (fun n g=>g.IsListIter t a n/\g.IsList a us) us where
 fr:=fun n g k j kp=>⟨j.1.at fun o e=>kp t (.inl rfl) o e,j.2.at fun o e=>kp a (.inr rfl) o e⟩
 lv:=fun n g j=>⟨let⟨o,e,_⟩:=j.1;⟨o,e⟩,let⟨o,e,_⟩:=j.2;⟨o,e⟩⟩
 nx:=fun n A s Q E v j hv q=>wpAny_nextOf_list_item j.1 j.2 hv fun k jk sb=>q k ⟨jk,j.2.extBut sb.extBut hne⟩ sb
 en:=fun n A s Q E hh j hv q=>wpAny_nextOf_list_end hh j.1 j.2 hv q
theorem Jw(t a:Addr)(hne:a≠t)(us:Array Value):Src P w t a (fun n g=>g.IsTupleIter t a n/\g.IsTuple a us) us where
 fr:=fun n g k j kp=>by
  obtain⟨⟨o,e,r⟩,⟨o2,e2,r2⟩⟩:=j;exact⟨⟨o,kp t (.inl rfl) o e,r⟩,⟨o2,kp a (.inr rfl) o2 e2,r2⟩⟩
 lv:=fun n g j=>⟨let⟨o,e,_⟩:=j.1;⟨o,e⟩,let⟨o,e,_⟩:=j.2;⟨o,e⟩⟩
 nx:=fun n A s Q E v j hv q=>CY j.1 j.2 hv fun k jk sb=>q k ⟨jk,j.2.extBut sb.extBut hne⟩ sb
 en:=fun n A s Q E hh j hv q=>ER hh j.1 j.2 hv q
theorem Src.ext{t a c:Addr}{J:Nat->Heap->Prop}{us:Array Value}(S:Src P w t a J us){n:Nat}{g k:Heap}(j:J n g)(x:Heap.ExtBut c g k)(h1:c≠t)(h2:c≠a):J n k:=
 S.fr n g k j fun b hb o e=>x b o (by rcases hb with rfl|rfl;exact Ne.symm h1;exact Ne.symm h2) e
structure Cf(z ti to t1 t2 a1 a2:Addr):Prop where
 nd: [z,ti,to,t1,t2].Nodup
 a1:a1∉[z,ti,to,t1,t2]
 a2:a2∉[z,ti,to,t1,t2]
section
variable {z ti to t1 t2 a1 a2:Addr}
theorem Cf.n(D:Cf z ti to t1 t2 a1 a2):(ti≠z/\to≠z/\t1≠z/\t2≠z)/\(ti≠to/\ti≠t1/\ti≠t2)/\(to≠t1/\to≠t2)/\t1≠t2:=by
 have:=D.nd;simp only[List.nodup_cons,List.mem_cons,not_or,List.not_mem_nil,not_false_eq_true,and_true,List.nodup_nil]at this;obtain⟨⟨b1,b2,b3,b4⟩,⟨b5,b6,b7⟩,⟨b8,b9⟩,b10⟩:=this;exact⟨⟨Ne.symm b1,Ne.symm b2,Ne.symm b3,Ne.symm b4⟩,⟨b5,b6,b7⟩,⟨b8,b9⟩,b10⟩
theorem FT{A:Around}{s:Shared}{E:Value->Shared->Prop}{J1 J2:Nat->Heap->Prop}{us vs:Array Value}{n:Nat}{x y a b:Value}{Q:Value->Shared->Prop}(D:Cf z ti to t1 t2 a1 a2)(S1:Src P w t1 a1 J1 us)(S2:Src P w t2 a2 J2 vs)
 (Z:IsZip s.heap z ti to .none) (pI:IsPair s.heap ti (.ref t1) (.ref t2)) (pO:IsPair s.heap to a b) (j1:J1 n s.heap) (j2:J2 n s.heap) (ex:us[n]?=some x) (ey:vs[n]?=some y)
 (q:∀k,IsZip k z ti to (rawInt s.heap.objs.size)->IsPair k to x y->J1 (n+1) k->J2 (n+1) k->IsPair k s.heap.objs.size x y->k.objs.size=s.heap.objs.size+1->
   (∀c o,c≠z->c≠to->c≠t1->c≠t2->s.heap.get? c=some o->k.get? c=some o)->Q (.ref s.heap.objs.size) {s with heap:=k}):
 wpAny (model P w) A (Builtin.«zip.__next__» ⟨[.ref z],[]⟩) (fun fin s'=>∃v,fin= .done (.ret v)/\Q v s') E s:=by
 obtain⟨⟨n1,n2,n3,n4⟩,⟨n5,n6,n7⟩,⟨n8,n9⟩,n10⟩:=D.n;have m1:=D.a1;have m2:=D.a2;simp only[List.mem_cons,not_or,List.not_mem_nil,not_false_eq_true,and_true]at m1 m2;show wpAny _ _ (field (.ref z) 2 >>= _) _ _ _;refine wpAny_bind (wpAny_field Z rfl (x:= .bool false) rfl ?_);show wpAny _ _ (field (.ref z) 3 >>= _) _ _ _;refine wpAny_bind (wpAny_field Z rfl (x:= .ref ti) rfl ?_);refine wpAny_bind (wpAny_seqItems pI rfl ?_);show wpAny _ _ (Builtin.SmallTypes.ownedTupleIsFree (.ref z) >>= _) _ _ _;refine wpAny_bind ?_;unfold Builtin.SmallTypes.ownedTupleIsFree;refine wpAny_bind (wpAny_field Z rfl (x:= .none) rfl (wpAny_pure ?_));simp only[if_true];refine wpAny_bind (wpAny_rule ?_);refine wpAny_bind (wpAny_field Z rfl (x:= .ref to) rfl ?_);refine wpAny_bind (wpAny_setField_rec Z (by simp) fun k1 Z1 b1=>?_);replace Z1:IsZip k1 z ti to .ellipsis:=Z1;refine wpAny_bind ?_;simp only[List.zipIdx_cons,List.zipIdx_nil,List.forIn_cons,List.forIn_nil];refine wpAny_bind (wpAny_bind (wpAny_onRaise ?_));show wpAny _ _ (Builtin.SmallTypes.nextOf (.ref t1) >>= _) _ _ _;refine wpAny_bind (S1.nx n _ _ _ _ x (S1.ext j1 b1.extBut (Ne.symm n3) (Ne.symm m1.1)) ex fun k2 j1b b2=>wpAny_pure ?_);have pO2:IsPair k2 to a b:=b2.extBut _ _ n8 (b1.extBut _ _ n2 pO);refine wpAny_bind (wpAny_seqItems pO2 rfl ?_);refine wpAny_bind (wpAny_updateSeq_pair pO2 fun k3 pO3 b3=>?_);replace pO3:IsPair k3 to x b:=pO3;refine wpAny_bind (wpAny_letGo (wpAny_pure ?_));refine wpAny_bind (wpAny_bind (wpAny_onRaise ?_));show wpAny _ _ (Builtin.SmallTypes.nextOf (.ref t2) >>= _) _ _ _;have j2c:J2 n k3:=S2.ext (S2.ext (S2.ext j2 b1.extBut (Ne.symm n4) (Ne.symm m2.1)) b2.extBut n10 (Ne.symm m2.2.2.2.1)) b3.extBut n9 (Ne.symm m2.2.2.1);refine wpAny_bind (S2.nx n _ _ _ _ y j2c ey fun k4 j2d b4=>wpAny_pure ?_);have pO4:IsPair k4 to x b:=b4.extBut _ _ n9 pO3;refine wpAny_bind (wpAny_seqItems pO4 rfl ?_);refine wpAny_bind (wpAny_updateSeq_pair pO4 fun k5 pO5 b5=>?_);replace pO5:IsPair k5 to x y:=pO5;refine wpAny_bind (wpAny_letGo (wpAny_pure (wpAny_pure ?_)));refine wpAny_bind (wpAny_seqItems pO5 rfl ?_);refine wpAny_bind (wpAny_newTuple ?_);have sz:k5.objs.size=s.heap.objs.size:=by rw[b5.1,b4.1,b3.1,b2.1,b1.1]
 have Z5:IsZip k5 z ti to .ellipsis:=b5.extBut _ _ (Ne.symm n2) (b4.extBut _ _ (Ne.symm n4) (b3.extBut _ _ (Ne.symm n2) (b2.extBut _ _ (Ne.symm n3) Z1)));have kp5:∀c o,c≠z->c≠to->c≠t1->c≠t2->s.heap.get? c=some o->k5.get? c=some o:=fun c o c1 c2 c3 c4 e=>b5.extBut _ _ c2 (b4.extBut _ _ c4 (b3.extBut _ _ c2 (b2.extBut _ _ c3 (b1.extBut _ _ c1 e))));have j1e:J1 (n+1) k5:=S1.ext (S1.ext (S1.ext j1b b3.extBut n8 (Ne.symm m1.2.2.1)) b4.extBut (Ne.symm n10) (Ne.symm m1.2.2.2.2)) b5.extBut n8 (Ne.symm m1.2.2.1);have j2e:J2 (n+1) k5:=S2.ext j2d b5.extBut n9 (Ne.symm m2.2.2.1);have ltz:z<k5.objs.size:=Heap.lt_size Z5;show wpAny _ _ (Builtin.SmallTypes.ownedTupleHandOut (.ref z) (.ref k5.objs.size) >>= _) _ _ _;refine wpAny_bind ?_;unfold Builtin.SmallTypes.ownedTupleHandOut;have Z6:IsZip (k5.push {cls:= .type "tuple",data:= .seq #[x,y]}) z ti to .ellipsis:=Heap.get?_push_of_some _ Z5;refine wpAny_bind (wpAny_setField_rec Z6 (by simp) fun k7 Z7 b7=>?_);replace Z7:IsZip k7 z ti to (rawInt k5.objs.size):=Z7;refine wpAny_setField_rec Z7 (by simp) fun k8 Z8 b8=>?_;replace Z8:IsZip k8 z ti to (rawInt k5.objs.size):=Z8;have up:∀c o,c≠z->k5.get? c=some o->k8.get? c=some o:=fun c o c1 e=>b8.extBut _ _ c1 (b7.extBut _ _ c1 (Heap.get?_push_of_some _ e));have pT:IsPair k8 k5.objs.size x y:=b8.extBut _ _ (Nat.ne_of_gt ltz) (b7.extBut _ _ (Nat.ne_of_gt ltz) (Heap.get?_push_size _ rfl));have sz8:k8.objs.size=k5.objs.size+1:=by rw[b8.1,b7.1,Heap.size_push]
 rw[sz]at Z8 pT sz8;refine wpAny_pure ⟨_,rfl,?_⟩;show Q (.ref k5.objs.size) _;rw[sz];refine q k8 Z8 (up _ _ n2 pO5) (S1.fr _ _ _ j1e fun b hb o e=>up b o ?_ e) (S2.fr _ _ _ j2e fun b hb o e=>up b o ?_ e) pT sz8 fun c o c1 c2 c3 c4 e=>up c o c1 (kp5 c o c1 c2 c3 c4 e)
 . rcases hb with rfl|rfl
   . exact n3
   . exact m1.1
 . rcases hb with rfl|rfl
   . exact n4
   . exact m2.1
theorem G8{A:Around}{s:Shared}{E:Value->Shared->Prop}{J1 J2:Nat->Heap->Prop}{us vs:Array Value}{n:Nat}{a b:Value}{Q:Fin->Shared->Prop}(hh:A.handled=none)(D:Cf z ti to t1 t2 a1 a2)(S1:Src P w t1 a1 J1 us)(S2:Src P w t2 a2 J2 vs)
 (Z:IsZip s.heap z ti to .none) (pI:IsPair s.heap ti (.ref t1) (.ref t2)) (pO:IsPair s.heap to a b) (j1:J1 n s.heap) (j2:J2 n s.heap) (he:us[n]?=none\/vs[n]?=none)
 (q:∀k e,(∀c o,c≠z->c≠to->c≠t1->c≠t2->s.heap.get? c=some o->k.get? c=some o)->(∃o,k.get? e=some o/\o.cls= .type "StopIteration")->E (.ref e) {s with heap:=k}):
 wpAny (model P w) A (Builtin.«zip.__next__» ⟨[.ref z],[]⟩) Q E s:=by
 obtain⟨⟨n1,n2,n3,n4⟩,⟨n5,n6,n7⟩,⟨n8,n9⟩,n10⟩:=D.n;have m1:=D.a1;have m2:=D.a2;simp only[List.mem_cons,not_or,List.not_mem_nil,not_false_eq_true,and_true]at m1 m2;show wpAny _ _ (field (.ref z) 2 >>= _) _ _ _;refine wpAny_bind (wpAny_field Z rfl (x:= .bool false) rfl ?_);show wpAny _ _ (field (.ref z) 3 >>= _) _ _ _;refine wpAny_bind (wpAny_field Z rfl (x:= .ref ti) rfl ?_);refine wpAny_bind (wpAny_seqItems pI rfl ?_);show wpAny _ _ (Builtin.SmallTypes.ownedTupleIsFree (.ref z) >>= _) _ _ _;refine wpAny_bind ?_;unfold Builtin.SmallTypes.ownedTupleIsFree;refine wpAny_bind (wpAny_field Z rfl (x:= .none) rfl (wpAny_pure ?_));simp only[if_true];refine wpAny_bind (wpAny_rule ?_);refine wpAny_bind (wpAny_field Z rfl (x:= .ref to) rfl ?_);refine wpAny_bind (wpAny_setField_rec Z (by simp) fun k1 Z1 b1=>?_);replace Z1:IsZip k1 z ti to .ellipsis:=Z1;refine wpAny_bind ?_;simp only[List.zipIdx_cons,List.zipIdx_nil,List.forIn_cons,List.forIn_nil];refine wpAny_bind (wpAny_bind (wpAny_onRaise ?_));show wpAny _ _ (Builtin.SmallTypes.nextOf (.ref t1) >>= _) _ _ _;have j1a:J1 n k1:=S1.ext j1 b1.extBut (Ne.symm n3) (Ne.symm m1.1);cases ex:us[n]? with
 |none=>
  refine wpAny_bind (S1.en n _ _ _ _ hh j1a ex fun k2 e b2 hx=>?_);obtain⟨oe,he1,he2⟩:=hx;have Z2:IsZip k2 z ti to .ellipsis:=b2 _ _ (Ne.symm n3) Z1;have hez:e≠z:=fun c=>by subst c;rw[Z2]at he1;cases he1;simp at he2
  refine wpAny_setField_rec Z2 (by simp) fun k3 _ b3=>q k3 e (fun c o c1 _ c3 _ f=>b3.extBut _ _ c1 (b2 _ _ c3 (b1.extBut _ _ c1 f))) ⟨oe,b3.extBut _ _ hez he1,he2⟩
 |some x=>
  have ey:vs[n]?=none:=by
   rcases he with h|h
   . rw[ex]at h;cases h
   . exact h
  refine wpAny_bind (S1.nx n _ _ _ _ x j1a ex fun k2 j1b b2=>wpAny_pure ?_);have pO2:IsPair k2 to a b:=b2.extBut _ _ n8 (b1.extBut _ _ n2 pO);refine wpAny_bind (wpAny_seqItems pO2 rfl ?_);refine wpAny_bind (wpAny_updateSeq_pair pO2 fun k3 pO3 b3=>?_);refine wpAny_bind (wpAny_letGo (wpAny_pure ?_));refine wpAny_bind (wpAny_bind (wpAny_onRaise ?_));show wpAny _ _ (Builtin.SmallTypes.nextOf (.ref t2) >>= _) _ _ _;have j2c:J2 n k3:=S2.ext (S2.ext (S2.ext j2 b1.extBut (Ne.symm n4) (Ne.symm m2.1)) b2.extBut n10 (Ne.symm m2.2.2.2.1)) b3.extBut n9 (Ne.symm m2.2.2.1);refine wpAny_bind (S2.en n _ _ _ _ hh j2c ey fun k4 e b4 hx=>?_);obtain⟨oe,he1,he2⟩:=hx;have Z4:IsZip k4 z ti to .ellipsis:=b4 _ _ (Ne.symm n4) (b3.extBut _ _ (Ne.symm n2) (b2.extBut _ _ (Ne.symm n3) Z1));have hez:e≠z:=fun c=>by subst c;rw[Z4]at he1;cases he1;simp at he2
  refine wpAny_setField_rec Z4 (by simp) fun k5 _ b5=>q k5 e (fun c o c1 c2 c3 c4 f=>b5.extBut _ _ c1 (b4 _ _ c4 (b3.extBut _ _ c2 (b2.extBut _ _ c3 (b1.extBut _ _ c1 f))))) ⟨oe,b5.extBut _ _ hez he1,he2⟩
end
end
theorem IS{X:Cx}{pins:List (Addr×Obj)}{σ:L2.St}{H:Hp}{s:Shared}{g:Heap}{tk:Nat}{fp:List Addr}{T:Addr}{xs:List V}(I:Inv X pins σ H s)(hf:∀b∈fp,lJ X pins H b)
 (k:∀b o,b∉fp->s.heap.get? b=some o->g.get? b=some o) (hT:s.heap.objs.size<=T) (new:dS X.prog X.w (upd H T (.tup xs)) g T (.tup xs)):Inv X pins σ (upd H T (.tup xs)) {s with heap:=g,toks:=tk}:=by
 have hn:H T=none:=I.aK.fresh hT;have nfp:∀b u,H b=some u->b∉fp:=fun b u e z=>by rw[(hf b z).1]at e;cases e
 have nT:∀b u,H b=some u->b≠T:=fun b u e=>dQ e hn
 refine I.step (g':=s.gens) (d':=s.drawn) (ch:=fp) (fun b hb=>?_) (fun b o _ _ hc e _=>k b o hc e) (fun b o _ _ hc e _=>⟨o.slots,k b o hc e⟩) (fun b o _ e n=>?_) (fun b o hc e=>⟨o,k b o hc e⟩)
  (fun b ys e=>by rw[aG (nT b _ e)];exact e) (fun b o u e=>by rw[aG (nT b _ e)];exact e) (fun b ps e=>⟨#[],by rw[aG (nT b _ e),e];simp⟩) (fun m hm=>?_) (fun b u e=>?_) I.bare
 . obtain⟨f0,f1,f2,f3,f4,f5⟩:=hf b hb;exact⟨f3,f1,f4,f5⟩
 . rw[aG (Nat.ne_of_lt (Nat.lt_of_lt_of_le (Heap.lt_size e) hT))];exact n
 . obtain⟨o,es,ep,ho,r⟩:=hm;exact⟨o,es,ep,k _ o (fun z=>(hf _ z).2.1 rfl) ho,r⟩
 . by_cases hb:b=T
   . subst hb;rw[a5]at e;cases e;exact new
   . rw[aG hb]at e;refine(I.aK b u e).pS (fun c v hc q=>k c v ?_ q) (fun c q=>by rw[aG (nT c _ q)];exact q) fun c ys q=>by rw[aG (nT c _ q)];exact q
     rcases hc with z|z
     . rw[z];exact nfp b u e
     . exact nfp c _ z
theorem IP{X:Cx}{pins:List (Addr×Obj)}{σ:L2.St}{H:Hp}{s:Shared}{g:Heap}{tk:Nat}{fp:List Addr}(I:Inv X pins σ H s)(hf:∀b∈fp,lJ X pins H b)
 (k:∀b o,b∉fp->s.heap.get? b=some o->g.get? b=some o):Inv X pins σ H {s with heap:=g,toks:=tk}:=by
 have nfp:∀b u,H b=some u->b∉fp:=fun b u e z=>by rw[(hf b z).1]at e;cases e
 refine I.step (g':=s.gens) (d':=s.drawn) (ch:=fp) (fun b hb=>?_) (fun b o _ _ hc e _=>k b o hc e) (fun b o _ _ hc e _=>⟨o.slots,k b o hc e⟩) (fun b o _ e n=>n) (fun b o hc e=>⟨o,k b o hc e⟩)
  (fun b ys e=>e) (fun b o u e=>e) (fun b ps e=>⟨#[],by rw[e];simp⟩) (fun m hm=>?_) (fun b u e=>?_) I.bare
 . obtain⟨f0,f1,f2,f3,f4,f5⟩:=hf b hb;exact⟨f3,f1,f4,f5⟩
 . obtain⟨o,es,ep,ho,r⟩:=hm;exact⟨o,es,ep,k _ o (fun z=>(hf _ z).2.1 rfl) ho,r⟩
 . refine(I.aK b u e).pS (fun c v hc q=>k c v ?_ q) (fun c q=>q) fun c ys q=>q;rcases hc with z|z
   . rw[z];exact nfp b u e
   . exact nfp c _ z
inductive SK where
 |l|t
def qb(k:SK)(K:PySem.W.Frag)(H:Hp)(a:Addr)(xs:List V):Prop:=match k with
 | .l=>mO K H a xs
 | .t=>iZ K H a xs
def rX(k:SK)(t a:Addr)(n:Nat)(g:Heap):Prop:=match k with
 | .l=>g.IsListIter t a n
 | .t=>g.IsTupleIter t a n
def mR(k:SK)(g:Heap)(a:Addr)(us:Array Value):Prop:=match k with
 | .l=>g.IsList a us
 | .t=>g.IsTuple a us
def Aq(k:SK)(a:Addr):Obj:=match k with
 | .l=>{cls:= .type "list_iterator",data:= .fields #[.ref a,.int 0 0]}
 | .t=>{cls:= .type "tuple_iterator",data:= .fields #[.ref a,.int 0 0]}
theorem nA{P:Program}{w:World}(k:SK)(t a:Addr)(hne:a≠t)(us:Array Value):Src P w t a (fun n g=>rX k t a n g/\mR k g a us) us:=by
 cases k
 . exact src_list t a hne us
 . exact Jw t a hne us
theorem kD{X:Cx}{pins:List (Addr×Obj)}{σ:L2.St}{H:Hp}{s:Shared}{k:SK}{a:Addr}{xs:List V}(I:Inv X pins σ H s)(h:qb k X.K H a xs):∃aq:List Value,Vals xs aq/\mR k s.heap a aq.toArray:=by
 cases k
 . obtain⟨aq,rv,p,_⟩:=I.list h;exact⟨aq,rv,p.isList⟩
 . obtain⟨aq,rv,p,_⟩:=I.tuple h;exact⟨aq,rv,p⟩
theorem xg{X:Cx}{pins:List (Addr×Obj)}{σ:L2.St}{H:Hp}{s:Shared}{k:SK}{a:Addr}{xs ys:List V}(I:Inv X pins σ H s)(h:qb k X.K H a xs)(h':qb k X.K H a ys):xs=ys:=by
 cases k
 . exact I.z9 h h'
 . exact I.xS h h'
theorem Ft{P:Program}{w:World}{A:Around}{s:Shared}{E:Value->Shared->Prop}{k:SK}{a:Addr}{us:Array Value}{Q:Value->Shared->Prop}(h:mR k s.heap a us)(q:Q (.ref s.heap.objs.size) {s with heap:=s.heap.push (Aq k a)}):wpAny (model P w) A (pyIter (.ref a)) Q E s:=by
 cases k
 . exact wpAny_pyIter_list h q
 . exact wpAny_pyIter_tuple h q
theorem mR.push{k:SK}{g:Heap}{a:Addr}{us:Array Value}(h:mR k g a us)(o:Obj):mR k (g.push o) a us:=by
 cases k
 . obtain⟨o',e,r⟩:=h;exact⟨o',Heap.get?_push_of_some _ e,r⟩
 . obtain⟨o',e,r⟩:=h;exact⟨o',Heap.get?_push_of_some _ e,r⟩
theorem mR.some{k:SK}{g:Heap}{a:Addr}{us:Array Value}(h:mR k g a us):∃o,g.get? a=Option.some o:=by
 cases k
 . obtain⟨o',e,r⟩:=h;exact⟨o',e⟩
 . obtain⟨o',e,r⟩:=h;exact⟨o',e⟩
theorem Cy{k:SK}{g h:Heap}{t a:Addr}(e:g.get? t=Option.some (Aq k a)):rX k t a 0 g:=by
 cases k
 . exact⟨_,e,rfl,rfl⟩
 . exact⟨_,e,rfl,rfl⟩
theorem qr{k:SK}{t a:Addr}{n:Nat}{g g':Heap}(h:rX k t a n g)(kp:∀o,g.get? t=Option.some o->g'.get? t=Option.some o):rX k t a n g':=by
 cases k
 . obtain⟨o,e,r⟩:=h;exact⟨o,kp o e,r⟩
 . obtain⟨o,e,r⟩:=h;exact⟨o,kp o e,r⟩
theorem oa{k:SK}{t a:Addr}{n:Nat}{g:Heap}(h:rX k t a n g):∃o,g.get? t=Option.some o/\∀v,o.data≠ .cell v:=by
 cases k
 . obtain⟨o,e,c,d⟩:=h;exact⟨o,e,fun v z=>by rw[d]at z;cases z⟩
 . obtain⟨o,e,c,d⟩:=h;exact⟨o,e,fun v z=>by rw[d]at z;cases z⟩
def PQ(K:PySem.W.Frag)(k1 k2:SK)(a1 a2:Addr):It:=
 ⟨fun i H=>∃xs ys x y,qb k1 K H a1 xs/\qb k2 K H a2 ys/\xs[i]?=some x/\ys[i]?=some y,
  fun i H v H'=>∃T x y,H T=none/\v= .ref T/\H'=upd H T (.tup [x,y])/\(∀xs,qb k1 K H a1 xs->xs[i]?=some x)/\∀ys,qb k2 K H a2 ys->ys[i]?=some y,
  fun i H=>∃xs ys,qb k1 K H a1 xs/\qb k2 K H a2 ys/\(xs.length<=i\/ys.length<=i)⟩
def Oc(z ti to t1 t2 a1 a2:Addr)(k1 k2:SK)(i:Nat)(h:Heap):Prop:=IsZip h z ti to .none/\IsPair h ti (.ref t1) (.ref t2)/\(∃a b,IsPair h to a b)/\rX k1 t1 a1 i h/\rX k2 t2 a2 i h
theorem HD{P:Program}{w:World}{K:PySem.W.Frag}{elts:List Expr}{kx:Nat}{pos:Pos}{z ti to t1 t2 a1 a2:Addr}(k1 k2:SK)(D:Cf z ti to t1 t2 a1 a2):
 Turn P w K (.Tuple elts kx pos) (PQ K k1 k2 a1 a2) [z,ti,to,t1,t2] z (Oc z ti to t1 t2 a1 a2 k1 k2) where
 mem:=by simp
 obj:=fun i h st b hb=>by
  obtain⟨Z,pI,⟨a,b',pO⟩,i1,i2⟩:=st;simp only[List.mem_cons,List.not_mem_nil,or_false]at hb;rcases hb with rfl|rfl|rfl|rfl|rfl
  . exact⟨_,Z,fun v e=>by cases e⟩
  . exact⟨_,pI,fun v e=>by cases e⟩
  . exact⟨_,pO,fun v e=>by cases e⟩
  . exact oa i1
  . exact oa i2
 keep:=fun i h h' st k=>by
  obtain⟨Z,pI,⟨a,b',pO⟩,i1,i2⟩:=st;exact⟨k z (by simp) _ Z,k ti (by simp) _ pI,⟨a,b',k to (by simp) _ pO⟩,qr i1 (k t1 (by simp)),qr i2 (k t2 (by simp))⟩
 item:=by
  intro X hP hw hK hc i pins s σ H E I hf st hg;subst hP hw hK;obtain⟨Z,pI,⟨a,b',pO⟩,i1,i2⟩:=st;obtain⟨xs,ys,x,y,q1,q2,ex,ey⟩:=hg;obtain⟨us,r1,l1⟩:=kD I q1;obtain⟨vs,r2,l2⟩:=kD I q2;obtain⟨u,eu,ru⟩:=r1.get ex;obtain⟨v,ev,rv⟩:=r2.get ey;have m1:=D.a1;have m2:=D.a2;simp only[List.mem_cons,not_or,List.not_mem_nil,not_false_eq_true,and_true]at m1 m2;obtain⟨⟨n1,n2,n3,n4⟩,⟨n5,n6,n7⟩,⟨n8,n9⟩,n10⟩:=D.n;have tz:s.TypeIs (.ref z) "zip":=⟨_,Z,rfl⟩
  unfold pyNext;refine wpAny_bind (wpAny_attempt (wpAny_callSpecial?_slot (name:=Str.ofString "__next__") tz F.slot_zip_next (wpAny_call_entry F.slot_zip_next tz F.entry_zip_next (FT D (nA k1 t1 a1 m1.2.2.2.1 us.toArray) (nA k2 t2 a2 m2.2.2.2.2 vs.toArray) Z pI pO ⟨i1,l1⟩ ⟨i2,l2⟩ (x:=u) (y:=v) (by simpa using eu) (by simpa using ev) fun k Z2 pO2 j1 j2 pT szk kp=>wpAny_pure ⟨_,rfl,?_⟩) (F.args_zip_next_1 _))));refine wpAny_letOwnedTupleGo_zip (s:={s with heap:=k}) Z2 fun k' Z3 b3=>?_;have hT:s.heap.objs.size≠z:=Nat.ne_of_gt (Heap.lt_size Z)
  have kp3:∀b o,b∉[z,ti,to,t1,t2]->s.heap.get? b=some o->k'.get? b=some o:=fun b o hb e=>by
   simp only[List.mem_cons,not_or,List.not_mem_nil,not_false_eq_true,and_true]at hb;exact b3.extBut _ _ hb.1 (kp b o hb.1 hb.2.2.1 hb.2.2.2.1 hb.2.2.2.2 e)
  refine⟨.ref s.heap.objs.size,upd H s.heap.objs.size (.tup [x,y]),IS (s:=s) (tk:=s.toks) I hf kp3 (Nat.le_refl _) ?_,rfl,⟨s.heap.objs.size,x,y,I.aK.fresh (Nat.le_refl _),rfl,rfl,?_,?_⟩,?_,?_⟩
  . refine⟨Nat.le_of_ble_eq_true rfl,[u,v],.cons ru (.cons rv .nil),?_⟩;exact⟨_,b3.extBut _ _ hT pT,rfl,_,rfl⟩
  . intro xs' q';rw[xg I q' q1];exact ex
  . intro ys' q';rw[xg I q' q2];exact ey
  . refine⟨Z3,b3.extBut _ _ n1 (kp _ _ n1 n5 n6 n7 pI),⟨_,_,b3.extBut _ _ n2 pO2⟩,qr j1.1 fun o e=>b3.extBut _ _ n3 e,qr j2.1 fun o e=>b3.extBut _ _ n4 e⟩
  . intro b hb
    have:b≠s.heap.objs.size:=by
     obtain⟨o,e,_⟩:∃o,s.heap.get? b=some o/\True:=by
      simp only[List.mem_cons,List.not_mem_nil,or_false]at hb;rcases hb with rfl|rfl|rfl|rfl|rfl
      . exact⟨_,Z,trivial⟩
      . exact⟨_,pI,trivial⟩
      . exact⟨_,pO,trivial⟩
      . obtain⟨o,e,_⟩:=oa i1;exact⟨o,e,trivial⟩
      . obtain⟨o,e,_⟩:=oa i2;exact⟨o,e,trivial⟩
     exact Nat.ne_of_lt (Heap.lt_size e)
    rw[aG this];exact(hf b hb).1
 done:=by
  intro X hP hw hK hc i pins s σ H E I hf st hg;subst hP hw hK;obtain⟨Z,pI,⟨a,b',pO⟩,i1,i2⟩:=st;obtain⟨xs,ys,q1,q2,he⟩:=hg;obtain⟨us,r1,l1⟩:=kD I q1;obtain⟨vs,r2,l2⟩:=kD I q2;have e1:=r1.length;have e2:=r2.length;have m1:=D.a1;have m2:=D.a2;simp only[List.mem_cons,not_or,List.not_mem_nil,not_false_eq_true,and_true]at m1 m2;have tz:s.TypeIs (.ref z) "zip":=⟨_,Z,rfl⟩
  unfold pyNext;refine wpAny_bind (wpAny_attempt (wpAny_callSpecial?_slot (name:=Str.ofString "__next__") tz F.slot_zip_next (wpAny_call_entry F.slot_zip_next tz F.entry_zip_next (G8 (I.ok.hd hc) D (nA k1 t1 a1 m1.2.2.2.1 us.toArray) (nA k2 t2 a2 m2.2.2.2.2 vs.toArray) Z pI pO ⟨i1,l1⟩ ⟨i2,l2⟩ ?_ fun k e kp hx=>?_) (F.args_zip_next_1 _))))
  . rcases he with h|h
    . left;simp;omega
    . right;simp;omega
  . obtain⟨o,ho,hc2⟩:=hx;refine wpAny_bind (wpAny_isInstance (T:="StopIteration") (b:=true) ⟨o,ho,hc2⟩ isSubtype_stop ?_);refine wpAny_pure ⟨rfl,IP (s:=s) (tk:=s.toks) I hf fun b o hb e=>?_⟩;simp only[List.mem_cons,not_or,List.not_mem_nil,not_false_eq_true,and_true]at hb;exact kp b o hb.1 hb.2.2.1 hb.2.2.2.1 hb.2.2.2.2 e
 self:=fun _ _ _ _ _ st h=>wpAny_pyIter_zip st.1 h
abbrev IM(h:Heap)(k1:SK)(a1:Addr):Heap:=h.push (Aq k1 a1)
abbrev IE(h:Heap)(k1 k2:SK)(a1 a2:Addr):Heap:=(IM h k1 a1).push (Aq k2 a2)
abbrev IG(h:Heap)(k1 k2:SK)(a1 a2:Addr):Heap:=(IE h k1 k2 a1 a2).push {cls:= .type "tuple",data:= .seq #[.ref h.objs.size,.ref (IM h k1 a1).objs.size]}
abbrev Ig(h:Heap)(k1 k2:SK)(a1 a2:Addr):Heap:=(IG h k1 k2 a1 a2).push {cls:= .type "tuple",data:= .seq #[.none,.none]}
abbrev Cv(h:Heap)(k1 k2:SK)(a1 a2:Addr):Heap:=(Ig h k1 k2 a1 a2).push {cls:= .type "zip",data:= .fields #[.none,.bool false,.bool false,.ref (IE h k1 k2 a1 a2).objs.size,.ref (IG h k1 k2 a1 a2).objs.size]}
theorem E6(k1 k2:SK)(a1 a2:Addr)(us vs:Array Value):Meets (Builtin.«zip.__new__» ⟨[.type "zip",.ref a1,.ref a2],[]⟩) (fun _ R s=>mR k1 s.heap a1 us/\mR k2 s.heap a2 vs/\
 R (.ok (.ret (.ref (Ig s.heap k1 k2 a1 a2).objs.size))) {s with heap:=Cv s.heap k1 k2 a1 a2}):=
 .of_wp fun P w A R s h=>by
  obtain⟨hp,g,d,tk,os⟩:=s;obtain⟨c1,c2,h⟩:=h;have hsub:=sub_zip;have L1:mR k1 (Shared.heap ⟨hp,g,d,tk,os⟩) a1 us:=c1;have L2:mR k2 (Shared.heap ⟨hp.push (Aq k1 a1),g,d,tk,os⟩) a2 vs:=mR.push c2 _
  wp_walk using Ft L1,Ft L2
  exact⟨_,rfl,h⟩
theorem Hf{P:Program}{w:World}{A:Around}{s:Shared}{E:Value->Shared->Prop}{k1 k2:SK}{a1 a2:Addr}{us vs:Array Value}{Q:Value->Shared->Prop}(c1:mR k1 s.heap a1 us)(c2:mR k2 s.heap a2 vs)
 (q:∀g n,n=s.heap.objs.size->IsZip g (n+4) (n+2) (n+3) .none->IsPair g (n+2) (.ref n) (.ref (n+1))->IsPair g (n+3) .none .none->rX k1 n a1 0 g->rX k2 (n+1) a2 0 g->(∀c o,s.heap.get? c=some o->g.get? c=some o)->Q (.ref (n+4)) {s with heap:=g}):
 wpAny (model P w) A (call (.type "zip") [.ref a1,.ref a2]) Q E s:=by
 refine callType_new F.called_zip (by decide) (F.typeCall_zip_2 _ _) (F.newCall_zip_2 _ _) (fun ob=>F.args_object_init_3 ob _ _) F.entry_zip_new (E6 k1 k2 a1 a2 us vs) ⟨c1,c2,?_⟩;have y1:(IM s.heap k1 a1).objs.size=s.heap.objs.size+1:=Heap.size_push ..;have y2:(IE s.heap k1 k2 a1 a2).objs.size=s.heap.objs.size+2:=by rw[Heap.size_push,y1]
 have y3:(IG s.heap k1 k2 a1 a2).objs.size=s.heap.objs.size+3:=by rw[Heap.size_push,y2]
 have y4:(Ig s.heap k1 k2 a1 a2).objs.size=s.heap.objs.size+4:=by rw[Heap.size_push,y3]
 have e5:(Cv s.heap k1 k2 a1 a2).get? (Ig s.heap k1 k2 a1 a2).objs.size=some _:=Heap.get?_push_size _ rfl;have e4:(Cv s.heap k1 k2 a1 a2).get? (IG s.heap k1 k2 a1 a2).objs.size=some _:=Heap.get?_push_of_some _ (Heap.get?_push_size _ rfl);have e3:(Cv s.heap k1 k2 a1 a2).get? (IE s.heap k1 k2 a1 a2).objs.size=some _:=Heap.get?_push_of_some _ (Heap.get?_push_of_some _ (Heap.get?_push_size _ rfl));have e2:(Cv s.heap k1 k2 a1 a2).get? (IM s.heap k1 a1).objs.size=some (Aq k2 a2):=Heap.get?_push_of_some _ (Heap.get?_push_of_some _ (Heap.get?_push_of_some _ (Heap.get?_push_size _ (by cases k2<;>rfl))));have e1:(Cv s.heap k1 k2 a1 a2).get? s.heap.objs.size=some (Aq k1 a1):=Heap.get?_push_of_some _ (Heap.get?_push_of_some _ (Heap.get?_push_of_some _ (Heap.get?_push_of_some _ (Heap.get?_push_size _ (by cases k1<;>rfl)))));show _/\_;rw[y2,y3,y4]at e5;rw[y1,y2]at e3;rw[y3]at e4;rw[y1]at e2;rw[y4];exact⟨⟨_,e5,rfl⟩,q _ _ rfl e5 e3 e4 (Cy (h:=s.heap) e1) (Cy (h:=s.heap) e2) fun c o x=>Heap.get?_push_of_some _ (Heap.get?_push_of_some _ (Heap.get?_push_of_some _ (Heap.get?_push_of_some _ (Heap.get?_push_of_some _ x))))⟩
def Iw:D->SK
 | .tup _=> .t
 |_=> .l
def FV(k:SK)(G:Hp)(a:Addr)(vs:List V):Prop:=match k with
 | .l=>Rd G a (.lst vs)
 | .t=>G a=some (.tup vs)
theorem j4{K:PySem.W.Frag}{k:SK}{G F H:Hp}(P:cE G F H){a:Addr}{vs:List V}(h:FV k G a vs):qb k K H a vs:=by
 cases k
 . exact .inl (gh P h)
 . exact iZ.of (P.get h)
theorem nX{α:List (Option Addr)}{H:Hp}{st:ai}{d:D}{v:V}{xs:List D}(S:aW α st H)(r:Rep α H d v)(e:items? st d=some xs):∃p vs,v= .ref p/\aM α H xs vs/\FV (Iw d) H p vs:=by
 cases d<;>try(cases e;done)
 . unfold items? at e;simp only at e;split at e
   . rename_i ys q;cases e;obtain⟨a,ea,vs,h1,h2⟩:=S.fZ q;exact⟨a,vs,d7 ea r,h2,Rd.of h1⟩
   . cases e
 . cases e;unfold Rep at r;obtain⟨a,vs,rfl,_,h1,h2⟩:=r;exact⟨a,vs,rfl,h2,h1⟩
 . cases e;unfold Rep at r;obtain⟨a,vs,rfl,_,h1,h2⟩:=r;exact⟨a,vs,rfl,h2,h1⟩
def eQ(xs ys:List D):List D:=(xs.zip ys).map fun p=> .tup [p.1,p.2]
theorem oW{xs ys:List D}:(eQ xs ys).length=min xs.length ys.length:=by unfold eQ;simp
theorem vn{xs ys:List D}{n:Nat}{d:D}(e:(eQ xs ys)[n]?=some d):∃x y,xs[n]?=some x/\ys[n]?=some y/\d= .tup [x,y]:=by
 unfold eQ at e;rw[List.getElem?_map]at e;cases q:(xs.zip ys)[n]? with
 |none=>rw[q]at e;cases e
 |some p=>
  rw[q]at e;cases e;rw[List.getElem?_zip_eq_some]at q;exact⟨p.1,p.2,q.1,q.2,rfl⟩
theorem MW{K:PySem.W.Frag}{k1 k2:SK}{a1 a2:Addr}{α:List (Option Addr)}{G:Hp}{ok:ai->Prop}{xs ys:List D}
 (h:∀α' G' st',Step α G α' G'->aW α' st' G'->ok st'->∃vs ws,FV k1 G' a1 vs/\FV k2 G' a2 ws/\aM α' G' xs vs/\aM α' G' ys ws):vi (PQ K k1 k2 a1 a2) α G ok (eQ xs ys) where
 stop:=fun n α' G' F' H' st' s P S o hn=>by
  obtain⟨vs,ws,h1,h2,r1,r2⟩:=h α' G' st' s S o;rw[oW]at hn;refine⟨vs,ws,j4 P h1,j4 P h2,?_⟩;have:=r1.length;have:=r2.length;omega
 go:=fun n d α' G' F' H' st' s P S o hn=>by
  obtain⟨vs,ws,h1,h2,r1,r2⟩:=h α' G' st' s S o;obtain⟨x,y,ex,ey,rfl⟩:=vn hn;obtain⟨v,ev,_⟩:=r1.get ex;obtain⟨u,eu,_⟩:=r2.get ey;exact⟨vs,ws,v,u,j4 P h1,j4 P h2,ev,eu⟩
 o4:=fun n d α' G' F' H' st' x H'' s P S o hn y=>by
  obtain⟨vs,ws,h1,h2,r1,r2⟩:=h α' G' st' s S o;obtain⟨c,e,ec,ee,rfl⟩:=vn hn;obtain⟨T,v,u,hT,rfl,rfl,y1,y2⟩:=y;obtain⟨v',ev,rv⟩:=r1.get ec;obtain⟨u',eu,ru⟩:=r2.get ee;rw[y1 vs (j4 P h1)]at ev;rw[y2 ws (j4 P h2)]at eu;cases ev;cases eu;have hg:=(P.none hT).1;refine⟨upd G' T (.tup [v,u]),Step.laid hg,P.laid hT,S.laid hg,?_⟩;unfold Rep;refine⟨T,[v,u],rfl,S.kU hg,a5,?_⟩;unfold aM;refine⟨v,[u],rfl,rv.step (Step.laid hg),?_⟩;unfold aM;exact⟨u,[],rfl,ru.step (Step.laid hg),by unfold aM;rfl⟩
def GI(ds:List D)(st1:ai)(K:List D->(ai->Prop)->ai->Prop):Prop:=match ds with
 | [x,y]=>(match items? st1 x,items? st1 y with
   |some xs,some ys=>K (eQ xs ys) (fun st'=>items? st' x=some xs/\items? st' y=some ys) st1
   |_,_=>False)
 |_=>False
@[irreducible] def wC:List D->ai->(List D->(ai->Prop)->ai->Prop)->Prop:=GI
def qZ(t:DA):DI:=fun σ st K=>t σ st fun ds st1=>wC ds st1 K
theorem Ju{n a1 a2:Nat}(h1:a1<n)(h2:a2<n):Cf (n+4) (n+2) (n+3) n (n+1) a1 a2:=by
 have e0:([n+4,n+2,n+3,n,n+1]:List Nat).Nodup:=by
  simp only[List.nodup_cons,List.mem_cons,not_or,List.not_mem_nil,not_false_eq_true,and_true,List.nodup_nil];omega
 have e1:∀a:Nat,a<n->a∉([n+4,n+2,n+3,n,n+1]:List Nat):=fun a ha=>by
  simp only[List.mem_cons,not_or,List.not_mem_nil,not_false_eq_true,and_true];omega
 exact⟨e0,e1 a1 h1,e1 a2 h2⟩
theorem MD{X:Cx}{a b:Expr}{elts:List Expr}{kx:Nat}{tpos p pos:Pos}{t:DA}(hg:Gl X "zip")(hm:X.mg "zip"=none)(ha:PA X [a,b] (LA t))(hs:starEach [a,b] X.env=[(false,eval a X.env),(false,eval b X.env)])(hs2:starEach [b] X.env=[(false,eval b X.env)]):
 PI X (.Tuple elts kx tpos) (.Call (.Name "zip" p) [a,b] [] pos) (LI (qZ t)):=by
 intro pins s σ H R I h;obtain⟨α,σd,st,K,G,F,P,RS,S,t,k⟩:=h;refine Call_ (kK I hg hm boot_zip (PyProof.Rows.callWith_type1 (cz (ha pos pins s σ H (fun vs H1=>∃ds α1 G1 st1,Step α G α1 G1/\cE G1 F H1/\aW α1 st1 G1/\aM α1 G1 ds vs/\wC ds st1 K) I ⟨α,σd,st,_,G,F,P,RS,S,t,fun ds st1 q α1 G1 H1 vs s1 P1 S1 r1=>⟨ds,α1,G1,st1,s1,P1,S1,r1,q⟩⟩) fun us s1 ⟨vs,H1,I1,rv,ds,α1,G1,st1,w1,P1,S1,r1,q⟩=>?_) (by rw[hs,hs2]) (by rw[hs2];rfl)));unfold wC GI at q;split at q
 . rename_i x y;split at q
   . rename_i xs ys ex ey;obtain⟨v1,v2,rfl,q1,q2⟩:=nz r1 rfl;obtain⟨p1,vs1,rfl,g1,c1⟩:=nX S1 q1 ex;obtain⟨p2,vs2,rfl,g2,c2⟩:=nX S1 q2 ey;obtain⟨u1,u2,rfl,ru1,ru2⟩:=vals2 rv;cases ru1;cases ru2;obtain⟨its1,_,l1⟩:=kD I1 (j4 P1 c1);obtain⟨its2,_,l2⟩:=kD I1 (j4 P1 c2);refine Hf l1 l2 fun g n hn Z pI pO i1 i2 kp=>?_;obtain⟨o1,eo1⟩:=l1.some;obtain⟨o2,eo2⟩:=l2.some;refine wpAny_pyIter_zip (s:={s1 with heap:=g}) Z ?_;refine⟨n+4,[n+4,n+2,n+3,n,n+1],_,_,H1,rfl,I1.kept (t':=s1.toks) kp,HD (Iw x) (Iw y) (Ju (by rw[hn];exact Heap.lt_size eo1) (by rw[hn];exact Heap.lt_size eo2)),⟨Z,pI,⟨_,_,pO⟩,i1,i2⟩,fun b hb=>?_,?_⟩
     . have hb':s1.heap.objs.size<=b:=by
        simp only[List.mem_cons,List.not_mem_nil,or_false]at hb;rcases hb with rfl|rfl|rfl|rfl|rfl<;>(rw[<-hn];first|exact Nat.le_refl _|exact Nat.le_add_right _ _)
       exact I1.uT hb' (I1.aK.fresh hb')
     . refine k _ _ st1 q _ α1 G1 H1 w1 P1 S1 (MW fun α' G' st' s' S' o=>?_);obtain⟨p1',ws1,e1,f1,d1⟩:=nX S' (q1.step s') o.1;obtain⟨p2',ws2,e2,f2,d2⟩:=nX S' (q2.step s') o.2;cases e1;cases e2;exact⟨ws1,ws2,d1,d2,f1,f2⟩
   . exact q.elim
 . exact q.elim
theorem om{st:ai}{x y:D}{xs ys:List D}{K:List D->(ai->Prop)->ai->Prop}(ex:items? st x=some xs)(ey:items? st y=some ys)(k:∀ok:ai->Prop,(∀st',items? st' x=some xs->items? st' y=some ys->ok st')->K (eQ xs ys) ok st):wC [x,y] st K:=by
 unfold wC GI;simp only[ex,ey];exact k _ fun st' h1 h2=>⟨h1,h2⟩
theorem qE{X:Cx}{a b:Expr}{elts:List Expr}{kx:Nat}{tpos p pos:Pos}{ar:DA}(hg:Gl X "zip")(hm:X.mg "zip"=none)(ha:JA X [a,b] ar)(hs:notStar a=true:=by rfl)(hs2:notStar b=true:=by rfl):JI X (.Tuple elts kx tpos) (.Call (.Name "zip" p) [a,b] [] pos) (qZ ar):=by
 unfold JI;unfold JA at ha;exact MD hg hm ha (by rw[bS hs,bS hs2];rfl) (bS hs2)
theorem Ac(f:Nat->Int):∀n,preSum f (n+1)=f 0+preSum (fun i=>f (i+1)) n
 |0=>by show preSum f 0+f 0=f 0+0;show(0:Int)+f 0=f 0+0;omega
 |n+1=>by
  have h:=Ac f n;show preSum f (n+1)+f (n+1)=f 0+(preSum (fun i=>f (i+1)) n+f (n+1));rw[h];omega
theorem Ci:∀ns:List Int,preSum (fun i=>ns.getD i 0) ns.length=ns.sum
 | []=>rfl
 |n::ns=>by
  rw[List.length_cons,Ac];have:(fun i=>(n::ns).getD (i+1) 0)=fun i=>ns.getD i 0:=by funext i;simp
  rw[this,Ci ns,List.sum_cons];rfl
section
variable {X:Cx}
def yJ:fk:=fun ds st K=>match ds with| [.lst xs]=>(match mi xs with|some ns=>K (.int ns.sum) st|none=>False)|_=>False
theorem mX:∀ {ns:List Int} {us:List Value},Vals (ns.map V.int) us->∀(i:Nat) (u:Value),us[i]?=some u->∃t,u=Value.int (ns.getD i 0) t
 | [],_,.nil,i,u,e=>by simp at e
 |n::ns,_,.cons h t,0,u,e=>by
  obtain⟨tk,rfl⟩:=h;simp at e;exact⟨tk,by rw[<-e];rfl⟩
 |n::ns,_,.cons h t,i+1,u,e=>by
  obtain⟨tk,q⟩:=mX t i u (by simpa using e);exact⟨tk,by rw[q];simp⟩
theorem O4(hc:X.calm=true):cj X (.builtin "sum") (gm yJ):=fun pins s σ H xs us Q I rs ⟨α,ds,st,K,G,F',P,r,S,q,k⟩=>by
 unfold yJ at q;split at q
 . rename_i ys;split at q
   . rename_i ns e;obtain⟨v,rfl,r1⟩:=gH r rfl;unfold Rep at r1;obtain⟨a,vs,rfl,na,h1,h2⟩:=r1;obtain⟨u,rfl,ru⟩:=vals1 rs;cases ru;have hv:=sE h2 e;subst hv;obtain⟨z,aq,n,rv,hl,eo⟩:=Inv.uV I (gh P h1);have isL:s.heap.IsList a aq.toArray:=⟨_,eo,rfl,n,rfl⟩
     refine call_sum_walkAnyB (wpAny_pyIter_list isL ?_);have hne:a≠s.heap.objs.size:=Nat.ne_of_lt (Heap.lt_size eo);refine⟨s.heap.objs.size,_,_,_,_,_,_,fun i=>ns.getD i 0,rfl,(Walks.list (A:=X.A.in1) (I.ok.hd hc) _ a hne aq.toArray).toS,⟨⟨_,Heap.get?_push_size _ rfl,rfl,rfl⟩,⟨_,Heap.get?_push_of_some _ eo,rfl,n,rfl⟩⟩,?_,?_,?_⟩
     . intro b hb;rw[Heap.size_push];simp only[List.mem_cons,List.not_mem_nil,or_false]at hb;rcases hb with rfl|rfl
       . exact Nat.lt_succ_self _
       . exact Nat.lt_succ_of_lt (Heap.lt_size eo)
     . intro i w hw;obtain⟨t,e⟩:=mX rv i w (by simpa using hw);exact .inl ⟨t,e⟩
     . intro s' t' hm
       have kp:∀b o,s.heap.get? b=some o->s'.heap.get? b=some o:=fun b o q=>hm.heap b o (by
        intro hb;have:b=s.heap.objs.size:=by simpa using hb
        exact absurd (Heap.lt_size q) (by rw[this];exact Nat.lt_irrefl _)) (Heap.get?_push_of_some _ q)
       have es:s'= {s with heap:=s'.heap,toks:=s'.toks}:=by
        have g:=hm.gens;have d:=hm.drawn;have o:=hm.os;cases s';cases s
        simp_all
       have en:preSum (fun i=>ns.getD i 0) aq.toArray.size=ns.sum:=by
        have:aq.toArray.size=ns.length:=by rw[List.size_toArray,<-hl,List.length_map]
        rw[this];exact Ci ns
       rw[en,es];exact⟨.int ns.sum,H,I.kept (t':=s'.toks) kp,⟨t',rfl⟩,k.here P q S (by unfold Rep;rfl)⟩
   . exact q.elim
 . exact q.elim
@[irreducible] def Aj:fk:=yJ
theorem Ou(hc:X.calm=true):cj X (.builtin "sum") (gm Aj):=by unfold Aj;exact O4 hc
end
theorem ints_map:∀ns:List Int,mi (ns.map D.int)=some ns
 | []=>rfl
 |n::ns=>by simp[mi,ints_map ns]
theorem Nv{st:ai}{K:DK}{xs:List D}{ns:List Int}(h:mi xs=some ns)(k:K (.int ns.sum) st):Aj [.lst xs] st K:=by unfold Aj yJ;simp only[h];exact k
section
variable {X:Cx}{pos:Pos}
theorem NZ{α:List (Option Addr)}{H:Hp}{ds:List D}{xs:List V}{d e f:D}(r:aM α H ds xs)(q:ds=[d,e,f]):∃v u t,xs=[v,u,t]/\Rep α H d v/\Rep α H e u/\Rep α H f t:=by
 subst q;unfold aM at r;obtain⟨v,q,rfl,h1,h2⟩:=r;obtain⟨u,t,rfl,h3,h4⟩:=nz h2 rfl;exact⟨v,u,t,rfl,h1,h3,h4⟩
end
end L3
namespace L3
open PySem L2 PySem.SeqAt
open PySem.Spec hiding items?
open PyProof.Rows hiding St
section
variable {X:Cx}{pins:List (Addr×Obj)}{σ:L2.St}{H:Hp}{s:Shared}{α:List (Option Addr)}
theorem Cm{A:Around}{d e:D}{x y:V}{u v:Value}(hd:yh d=true)(he:yh e=true)(rd:Rep α H d x)(re:Rep α H e y)(rx:RelV x u)(ry:RelV y v):RcNeAt A s u v (!bU d e):=by
 cases d<;>cases e<;>try(first|(cases hd;done)|(cases he;done))
 all_goals(unfold Rep at rd re;subst rd re)
 all_goals(first|(obtain⟨t,rfl⟩:=rx;obtain⟨t',rfl⟩:=ry)|(obtain⟨t,rfl⟩:=rx;cases ry)|(cases rx;obtain⟨t,rfl⟩:=ry)|(cases rx;cases ry))
 all_goals unfold bU
 . exact RcNeAt.none_none
 . exact RcNeAt.none_bool _
 . exact RcNeAt.none_int _ _
 . exact RcNeAt.none_str _ _
 . exact RcNeAt.bool_none _
 . exact RcNeAt.bool_bool _ _
 . exact RcNeAt.bool_int _ _ _
 . exact RcNeAt.bool_str _ _ _
 . exact RcNeAt.int_none _ _
 . exact RcNeAt.int_bool _ _ _
 . exact RcNeAt.int_int _ _ _ _
 . exact RcNeAt.int_str _ _ _ _
 . exact RcNeAt.str_none _ _
 . exact RcNeAt.str_bool _ _ _
 . exact RcNeAt.str_int _ _ _ _
 . exact RcNeAt.str_str _ _ _ _
theorem x9(I:Inv X pins σ H s){A:Around}{xs:List D}{e:D}{x y:V}{u v:Value}(he:yh e=true)(rd:Rep α H (.lst xs) x)(re:Rep α H e y)(rx:RelV x u)(ry:RelV y v)(hu:A.units<cLine):
 RcNeAt A s u v (!bU (.lst xs) e)/\RcNeAt A s v u (!bU e (.lst xs)):=by
 obtain⟨a,vs,aq,rfl,_,_,hl⟩:=lst_is I rd rx;cases e<;>try(cases he;done)
 all_goals(unfold Rep at re;subst re)
 all_goals(first|(obtain⟨t,rfl⟩:=ry)|(cases ry))
 all_goals unfold bU
 . exact⟨RcNeAt.list_none hl hu,RcNeAt.none_list hl hu⟩
 . exact⟨RcNeAt.list_bool _ hl hu,RcNeAt.bool_list _ hl hu⟩
 . exact⟨RcNeAt.list_int _ _ hl hu,RcNeAt.int_list _ _ hl hu⟩
 . exact⟨RcNeAt.list_str _ _ hl hu,RcNeAt.str_list _ _ hl hu⟩
theorem xX(I:Inv X pins σ H s){A:Around}{xs:List D}{e:D}{x y:V}{u v:Value}(he:yh e=true)(rd:Rep α H (.tup xs) x)(re:Rep α H e y)(rx:RelV x u)(ry:RelV y v)(hu:A.units<cLine):
 RcNeAt A s u v (!bU (.tup xs) e)/\RcNeAt A s v u (!bU e (.tup xs)):=by
 obtain⟨a,vs,aq,rfl,_,_,hl⟩:=tup_is I rd rx;cases e<;>try(cases he;done)
 all_goals(unfold Rep at re;subst re)
 all_goals(first|(obtain⟨t,rfl⟩:=ry)|(cases ry))
 all_goals unfold bU
 . exact⟨RcNeAt.tuple_none hl hu,RcNeAt.none_tuple hl hu⟩
 . exact⟨RcNeAt.tuple_bool _ hl hu,RcNeAt.bool_tuple _ hl hu⟩
 . exact⟨RcNeAt.tuple_int _ _ hl hu,RcNeAt.int_tuple _ _ hl hu⟩
 . exact⟨RcNeAt.tuple_str _ _ hl hu,RcNeAt.str_tuple _ _ hl hu⟩
theorem Iu(I:Inv X pins σ H s)(n:Nat)(A:Around)(d e:D)(x y:V)(u v:Value)(hd:pl n d=true)(he:pl n e=true)(rd:Rep α H d x)(re:Rep α H e y)(rx:RelV x u)(ry:RelV y v)(hu:A.units+n<cLine):RcNeAt A s u v (!bU d e):=by
 cases n with
 |zero=>
  refine Cm ?_ ?_ rd re rx ry
  . cases d<;>first|rfl|(cases hd)
  . cases e<;>first|rfl|(cases he)
 |succ n=>
  have hu0:A.units<cLine:=by omega
  have hin:A.in1.units+n<cLine:=by rw[Around.in1_units];omega
  cases d<;>try(cases hd;done)
  case lst xs=>
   cases e<;>try(cases he;done)
   case lst ys=>
    obtain⟨a,vs,aq,rfl,r1,v1,l1⟩:=lst_is I rd rx;obtain⟨b,ws,jts,rfl,r2,v2,l2⟩:=lst_is I re ry;have e1:=r1.length;have e2:=v1.length;have e3:=r2.length;have e4:=v2.length;unfold bU;by_cases hlen:xs.length=ys.length
    . rw[oH hlen];have hsz:aq.toArray.size=jts.toArray.size:=by simp only[List.size_toArray];omega
      have hx:xs.length=aq.toArray.size:=by simp only[List.size_toArray];omega
      rw[hx];refine RcNeAt.lists l1 l2 hsz hu0 fun j h1 h2=>?_;obtain⟨p,_,q1,q2⟩:=ku r1 v1 j (by simpa using h1);obtain⟨p',_,q1',q2'⟩:=ku r2 v2 j (by simpa using h2);exact(CK I n A.in1 _ _ p p' _ _ (i7 (by unfold pl at hd;exact hd) j) (i7 (by unfold pl at he;exact he) j) q1 q1' (by simpa using q2) (by simpa using q2') hin).2
    . rw[oV hlen];exact RcNeAt.lists_lengths l1 l2 (by simp only[List.size_toArray,bne_iff_ne,ne_eq];omega) hu0
   case tup ys=>
    obtain⟨a,vs,aq,rfl,r1,v1,l1⟩:=lst_is I rd rx;obtain⟨b,ws,jts,rfl,r2,v2,l2⟩:=tup_is I re ry;unfold bU;exact RcNeAt.list_tuple l1 l2 hu0
   all_goals exact(x9 I rfl rd re rx ry hu0).1
  case tup xs=>
   cases e<;>try(cases he;done)
   case tup ys=>
    obtain⟨a,vs,aq,rfl,r1,v1,l1⟩:=tup_is I rd rx;obtain⟨b,ws,jts,rfl,r2,v2,l2⟩:=tup_is I re ry;have e1:=r1.length;have e2:=v1.length;have e3:=r2.length;have e4:=v2.length;unfold bU
    have key:=RcNeAt.tuples (e:=fun j=>bU (xs.getD j .aE) (ys.getD j .aE)) l1 l2 hu0 fun j h1 h2=>by
     obtain⟨p,_,q1,q2⟩:=ku r1 v1 j (by simpa using h1);obtain⟨p',_,q1',q2'⟩:=ku r2 v2 j (by simpa using h2);exact(CK I n A.in1 _ _ p p' _ _ (i7 (by unfold pl at hd;exact hd) j) (i7 (by unfold pl at he;exact he) j) q1 q1' (by simpa using q2) (by simpa using q2') hin).2
    by_cases hlen:xs.length=ys.length
    . rw[oH hlen];have hsz:aq.toArray.size=jts.toArray.size:=by simp only[List.size_toArray];omega
      have hx:xs.length=aq.toArray.size:=by simp only[List.size_toArray];omega
      rw[hsz,Nat.min_self,beq_self_eq_true,Bool.and_true,<-hsz,<-hx]at key;exact key
    . rw[oV hlen];have hne:(aq.toArray.size==jts.toArray.size)=false:=by simp only[List.size_toArray,beq_eq_false_iff_ne,ne_eq];omega
      rw[hne,Bool.and_false]at key;exact key
   case lst ys=>
    obtain⟨a,vs,aq,rfl,r1,v1,l1⟩:=tup_is I rd rx;obtain⟨b,ws,jts,rfl,r2,v2,l2⟩:=lst_is I re ry;unfold bU;exact RcNeAt.tuple_list l1 l2 hu0
   all_goals exact(xX I rfl rd re rx ry hu0).1
  all_goals
   cases e<;>try(cases he;done)
   case lst ys=>exact(x9 I rfl re rd ry rx hu0).2
   case tup ys=>exact(xX I rfl re rd ry rx hu0).2
   all_goals exact Cm rfl rfl rd re rx ry
def Mg:dX:=fun x y st K=>pl 40 x=true/\pl 40 y=true/\K (.bl (!bU x y)) st
theorem OX{k:Nat}(hr:c8 k X.A):cJ X (compareOp .NotEq) (LR Mg):=fun pins s σ H x y v u Q I rx ry ⟨α,d,e,st,K,G,F',P,r1,r2,S,q,k⟩=>by
 have hu:=hr.units;exact Iu I 40 X.A d e x y v u q.1 q.2.1 (r1.mono P.same) (r2.mono P.same) rx ry (by omega) _ _ _ _ ⟨.bl (!bU d e),H,I,rfl,k.here P q.2.2 S (by unfold Rep;rfl)⟩
@[irreducible] def zN:dX:=Mg
theorem OA{k:Nat}(hr:c8 k X.A):cJ X (compareOp .NotEq) (LR zN):=by unfold zN;exact OX hr
end
theorem L4{st:ai}{K:DK}{d e:D}(h1:pl 40 d=true)(h2:pl 40 e=true)(k:K (.bl (!bU d e)) st):zN d e st K:=by unfold zN;exact⟨h1,h2,k⟩
theorem tw{st:ai}{n:Nat}{xs:List D}(h:items? st (.ref n)=some xs):st[n]?=some (.lst xs):=by
 unfold items? at h;simp only at h;split at h
 . rename_i q;cases h;exact q
 . cases h
theorem tO{st:ai}{d:D}{xs:List D}{K:List D->(ai->Prop)->ai->Prop}(h:items? st d=some xs)(k:∀ok:ai->Prop,(∀st',items? st' d=some xs->ok st')->K xs ok st):p7 d st K:=by
 cases d with
 |lst ys=>cases h;exact xr (k _ fun _ _=>trivial)
 |tup ys=>cases h;exact iD (k _ fun _ _=>trivial)
 |ref n=>
  have e:=tw h;unfold p7 xv;simp only[e];exact k _ fun st' h'=>tw h'
 |_=>cases h
theorem rO{env:Env}:∀(l:List (Str×NameKind)) (x:Str),(l.lookup x=some .cell\/l.lookup x=some .free)->
 ((l.map fun(n,k)=>if(k== .free&&env.scope.kind== .function&&env.kindOf n==some .cell)then(n,.cell)else(n,k)).lookup x=some .cell\/(l.map fun(n,k)=>if(k== .free&&env.scope.kind== .function&&env.kindOf n==some .cell)then(n,.cell)else(n,k)).lookup x=some .free)
 | [],x,h=>by simp at h
 |(n,k)::l,x,h=>by
  rw[List.map_cons];dsimp only;by_cases hx:x=n
  . subst hx;rw[List.lookup_cons_self]at h;split
    . rw[List.lookup_cons_self];exact .inl rfl
    . rw[List.lookup_cons_self];exact h
  . have hb:(x==n)=false:=by simpa using hx
    have e1:List.lookup x ((n,k)::l)=List.lookup x l:=by rw[List.lookup_cons,hb]
    rw[e1]at h;have ih:=rO (env:=env) l x h;split
    . rw[List.lookup_cons,hb];exact ih
    . rw[List.lookup_cons,hb];exact ih
theorem bh.Pa{X0:Cx}{scope0 scope:Scope}{Nc0 Nc:List Str}{C:Addr}{s:Shared}{H:Hp}{ex:List Addr}{fr:List (Option Nat)}(h:vH scope0 Nc0 scope Nc fr=true):bh (fo X0 scope0 Nc0 C s H ex) scope Nc fr:=by
 unfold vH at h;simp only[Bool.and_eq_true]at h;obtain⟨⟨⟨⟨⟨h1,h2⟩,h3⟩,h4⟩,h5⟩,h6⟩:=h;refine⟨by simpa using h1,fun x hx hk=>?_,fun x hx hk=>?_,fun x hx hk=>?_,by simpa using h5,fun i j x e1 e2=>?_⟩
 . have:=List.all_eq_true.mp h2 x hx;rw[hk]at this;simpa using this
 . have:=List.all_eq_true.mp h3 x hx;rw[hk]at this;simpa using this
 . have:=List.all_eq_true.mp h4 x hx;rw[hk]at this;have z:scope0.names.lookup x.1=some .cell\/scope0.names.lookup x.1=some .free:=by simpa using this
   exact rO _ _ z
 . have hi:i<fr.length:=(List.getElem?_eq_some_iff.mp e2).1;have:=List.all_eq_true.mp h6 i (List.mem_range.mpr hi);rw[e1,e2]at this;simp only[Bool.and_eq_true,Bool.or_eq_true,beq_iff_eq]at this;exact⟨this.1.1,this.1.2,rO _ _ this.2⟩
end L3
namespace L3
open PySem L2
open PySem.Spec hiding items?
open PyProof.Rows hiding St
section
variable {X:Cx}
def HQ:dX:=fun x y st K=>match x,y with
 | .lst xs,.int k=>(-(2^63)<=k/\k<2^63/\xs.length*k.toNat<=sizeLine)/\K (.ref st.length) (st++[.lst (List.replicate k.toNat xs).flatten])
 |_,_=>False
theorem Lr:cJ X (binaryOp .Mult) (LR HQ):=fun pins s σ H x y v u Q I rx ry ⟨α,d,e,st,K,G,F',P,r1,r2,S,q,k⟩=>by
 cases d<;>cases e<;>try exact q.elim
 unfold Rep at r1 r2;obtain⟨a,vs,rfl,na,ha,ra⟩:=r1;refine BS pins s σ H _ _ v u Q I rx ry ⟨a,_,vs,rfl,r2,gh P ha,q.1.1,q.1.2.1,by rw[<-ra.length];exact q.1.2.2,fun p hp=>?_⟩;exact k.new P q.2 S (ba.mpr (mh (ba.mp ra) _)) hp
@[irreducible] def t9:dX:=HQ
theorem Eg:cJ X (binaryOp .Mult) (LR t9):=by unfold t9;exact Lr
end
theorem Cq{st:ai}{K:DK}{xs:List D}{i:Int}(h: -(2^63)<=i/\i<2^63/\xs.length*i.toNat<=sizeLine)(k:K (.ref st.length) (st++[.lst (List.replicate i.toNat xs).flatten])):t9 (.lst xs) (.int i) st K:=by unfold t9;exact⟨h,k⟩
theorem F1{n:Nat}{d:D}(h:d∈eO 0 n):∃i:Nat,i<n/\d= .int (i:Int):=by
 unfold eO at h;obtain⟨i,hi,rfl⟩:=List.mem_map.mp h;rw[List.mem_range]at hi;exact⟨i,hi,by rw[Int.zero_add]⟩
theorem Ex{f:Nat->D}(n:Nat):(eO 0 n).map (fun d=>match d with| .int i=>f i.toNat|_=> .aE)=(List.range n).map f:=by
 unfold eO;rw[List.map_map];refine List.map_congr_left fun i _=>?_;show f ((0:Int)+(i:Int)).toNat=f i;have:((0:Int)+(i:Int)).toNat=i:=by omega
 rw[this]
theorem nO{tg:fB}{te:DE}{σc:cn}{st:ai}{K:List D->ai->Prop}(f:Nat->D)(n:Nat)(hx:∀i:Nat,i<n->∀K',K' (f i) st->∃σ2,tg (.int (i:Int)) σc=some σ2/\te σ2 st K')(k:K ((List.range n).map f) st):dk tg cw te (fun _=>True) σc (eO 0 n) [] st K:=by
 refine comp_map (g:=fun d=>match d with| .int i=>f i.toNat|_=> .aE) trivial _ (fun d hd K' q=>?_) (by rw[Ex];exact k);obtain⟨i,hi,rfl⟩:=F1 hd;exact hx i hi K' q
theorem ke{tg:fB}{body:DS}{E:mj}(n:Nat)(I:Nat->cn->ai->Prop)(hend:∀σ st,I n σ st->E.nx σ st)
 (hstep:∀(j:Nat) σ st (rest:List D),j<n->I j σ st->(∀σ' st',I (j+1) σ' st'->ja tg body (fun _=>True) E rest σ' st')->∃σ1,tg (.int (j:Int)) σ=some σ1/\body {E with nx:=ja tg body (fun _=>True) E rest,ct:=ja tg body (fun _=>True) E rest,bk:=E.nx} σ1 st)
 {σ:cn} {st:ai} (h0:I 0 σ st):ja tg body (fun _=>True) E (eO 0 n) σ st:=by
 refine gK (fun rest σ st=>∃j:Nat,j<=n/\rest=(List.range (n-j)).map (fun i=>D.int (((j+i:Nat):Int)))/\I j σ st) ?_ ?_ _ _ _ ⟨0,Nat.zero_le _,by unfold eO;simp,h0⟩
 . rintro σ st ⟨j,hj,hr,hI⟩
   have:n-j=0:=by
    cases q:n-j with
    |zero=>rfl
    |succ m=>rw[q,List.range_succ_eq_map]at hr;cases hr
   have hjn:j=n:=by omega
   subst hjn;exact⟨trivial,hend σ st hI⟩
 . rintro d rest σ st ⟨j,hj,hr,hI⟩ next
   cases q:n-j with
   |zero=>rw[q]at hr;cases hr
   |succ m=>
    rw[q,List.range_succ_eq_map,List.map_cons,List.map_map]at hr;simp only[List.cons.injEq]at hr;obtain⟨rfl,hrest⟩:=hr;refine⟨trivial,hstep j σ st rest (by omega) hI fun σ' st' h'=>next σ' st' ⟨j+1,by omega,?_,h'⟩⟩;have:n-(j+1)=m:=by omega
    rw[this,hrest];refine List.map_congr_left fun i _=>?_;show D.int (((j+(i+1):Nat):Int))=D.int (((j+1+i:Nat):Int));congr 2;omega
abbrev DM:=Nat->List D->ai->DK->Prop
def LiftM(r:DM)(rM:V->List V->Hp->VK->Prop):Prop:=∀(α:List (Option Addr)) (G F H:Hp) (st:ai) (K:DK) (Q:VK) (n:Nat) (a:Addr) (ds:List D) (ws:List V),cE G F H->aW α st G->α[n]?=some (some a)->aM α G ds ws->r n ds st K->LK α G F K Q->rM (.ref a) ws H Q
@[irreducible] def lg(r:DM)(to:DE)(ta:DA):DE:=fun σ st K=>to σ st fun x st1=>match x with
 | .ref n=>(match st1[n]? with|some (.lst _)=>ta σ st1 fun ds st2=>(∃xs,st2[n]?=some (.lst xs))/\r n ds st2 K|_=>False)
 |_=>False
section
variable {X:Cx}
theorem LE.QK{r:DM}{rM:V->List V->Hp->VK->Prop}(L:LiftM r rM){to:DE}{ta:DA}{σ:L2.St}{H:Hp}{Q:VK}(h:LE (lg r to ta) σ H Q):Lz X.K "list" rM (LE to) (LA ta) σ H Q:=by
 obtain⟨α,σd,st,K,G,F,P,R,S,t,k⟩:=h;unfold lg at t;refine⟨α,σd,st,_,G,F,P,R,S,t,fun x st1 q α1 G1 H1 v s1 P1 S1 r1=>?_⟩;cases x<;>try exact q.elim
 rename_i n;simp only at q;split at q
 . rename_i ys e;obtain⟨p,ep,vs,h1,h2⟩:=S1.fZ e;have r1':=d7 ep r1;subst r1';refine⟨.inl ⟨rfl,vs,.inl (.of (P1.get h1))⟩,α1,σd,st1,_,G1,F,P1,R.step s1,S1,q,?_⟩;rintro ds st2 ⟨⟨xs,e2⟩,q2⟩ α2 G2 H2 ws s2 P2 S2 r2;obtain⟨p2,ep2,_⟩:=S2.fZ e2
   have:p2=p:=by
    rcases s2.pre _ _ ep with z|z<;>(rw[z]at ep2;cases ep2)
    rfl
   subst this;exact L α2 G2 F H2 st2 K Q n p2 ds ws P2 S2 ep2 r2 q2 ((k.at s1).at s2)
 . exact q.elim
theorem E8{r:DM}{rM:V->List V->Hp->VK->Prop}{name:Str}{id:String}(L:LiftM r rM)(slot:Slot "list" name id)(hty:typeOf (.builtin id)=pure (.type "method_descriptor"))(hm:L_ X id rM){o e:Expr}{es:List Expr}{to:DE}{ta:DA}{apos cpos:Pos}(ho:PE X o (LE to))(ha:PA X (e::es) (LA ta))
 (hbase:attributeBase o name X.env (eval o X.env)=eval o X.env) (hfew:((backTo cpos (starEach (e::es) X.env)).all (fun x=> !x.1)&&(backToKw cpos (keywordEach [] X.env)).all (fun x=>x.1.isSome)
   &&decide ((e::es).length+([]:List Keyword).length+(if([]:List Keyword).isEmpty then 0 else 1)<30))=true)
 (hline:(apos.endLine==cpos.line)=true) (hs:starEach (e::es) X.env=(false,eval e X.env)::starEach es X.env) (hplain:(backTo cpos (starEach es X.env)).any (·.1)=false):PE X (.Call (.Attribute o name apos) (e::es) [] cpos) (LE (lg r to ta)):=
 PE.imp (HL PySem.F.plainAttrs_list slot hty hm ho ha hbase hfew hline hs hplain) fun _ _ _ h=>LE.QK L h
def o9:DM:=fun n ds st K=>match ds with
 | [.int i]=>(match st[n]? with|some (.lst xs)=>(-(2^63)<=i/\i<2^63)/\(match ko xs.length i with|some j=>(match xs[j]? with|some d=>K d (st.set n (.lst (xs.eraseIdx j)))|none=>False)|none=>False)|_=>False)
 |_=>False
theorem sH{A B:Type}{F:A->B->Prop}:∀ {xs:List A} {ys:List B} (i:Nat),Paired F xs ys->Paired F (xs.eraseIdx i) (ys.eraseIdx i)
 |_,_,_,.nil=> .nil
 |_,_,0,.cons _ t=>t
 |_,_,i+1,.cons r t=> .cons r (sH i t)
theorem Fm:LiftM o9 D5:=by
 intro α G F H st K Q n a ds ws P S ea rs q k;unfold o9 at q;split at q
 . rename_i i;split at q
   . rename_i xs e;obtain⟨h63,q⟩:=q;split at q
     . rename_i j ej;split at q
       . rename_i d ed;obtain⟨v,rfl,r1⟩:=gH rs rfl;unfold Rep at r1;subst r1;obtain⟨a',ea',vs,h1,h2⟩:=S.fZ e;rw[ea]at ea';cases ea';obtain⟨y,ey,ry⟩:=h2.get ed;have hm:some a∈α:=List.mem_of_getElem? ea;refine⟨a,vs,i,j,y,rfl,rfl,P.get h1,h63.1,h63.2,by rw[<-h2.length];exact(xJ ej).1,ey,?_⟩;refine k d _ q α (upd G a (.lst (vs.eraseIdx j))) _ y (Step.write hm) (P.write h1) ?_ (ry.step (Step.write hm));exact S.write ea ⟨vs.eraseIdx j,a5,(ba.mpr (sH j (ba.mp h2))).step (Step.write hm)⟩
       . exact q.elim
     . exact q.elim
   . exact q.elim
 . exact q.elim
theorem MC{o e:Expr}{to te:DE}{apos cpos:Pos}(ho:JE X o to)(he:JE X e te)(hbase:attributeBase o "pop" X.env (eval o X.env)=eval o X.env:=by rfl)(hline:(apos.endLine==cpos.line)=true:=by rfl)(hs:notStar e=true:=by rfl):JE X (.Call (.Attribute o "pop" apos) [e] [] cpos) (lg o9 to (ae te ao)):=by
 unfold JE at*;refine E8 Fm PySem.F.slot_list_pop PySem.F.type_list_pop G_ ho (nS he tK (bS hs)) hbase ?_ hline (bS hs) rfl;rw[bS hs];rfl
end
section
variable {X:Cx}{pos:Pos}
end
section
variable {X:Cx}
theorem xn{M:Model}{A:Around}{E:Value->Shared->Prop}{s:Shared}{Q:Value->Shared->Prop}{x:V}{v:Value}{b:Bool}(r:RelV x v)(h:Q (.bool (!(v== .bool b))) s):wpAny M A (compareOp .IsNot v (.bool b)) Q E s:=by
 cases x
 case bl c=>
  cases r;cases c<;>cases b<;>exact wpAny_pure h
 all_goals first
  |(cases r;exact wpAny_pure h)
  |(obtain⟨t,rfl⟩:=r;exact wpAny_pure h)
def Ap:dX:=fun x y st K=>match y with| .aE=>live st x=true/\K (.bl (!PY x)) st| .bl b=>live st x=true/\K (.bl (!HP x b)) st|_=>False
theorem HB:cJ X (compareOp .IsNot) (LR Ap):=fun pins s σ H x y v u Q I rx ry ⟨α,d,e,st,K,G,F',P,r1,r2,S,q,k⟩=>by
 cases e<;>try exact q.elim
 . refine Kh pins s σ H x y v u Q I rx ry ⟨α,d,.aE,st,K,G,F',P,r1,r2,S,⟨q.1,?_⟩,k⟩;have q2:=q.2;cases d<;>exact q2
 . rename_i b;unfold Rep at r2;subst r2;cases ry;refine xn rx ?_;rw[Jc S q.1 r1 rx];exact⟨.bl (!HP d b),H,I,rfl,k.here P q.2 S (by unfold Rep;rfl)⟩
@[irreducible] def pG:dX:=Ap
theorem FJ:cJ X (compareOp .IsNot) (LR pG):=by unfold pG;exact HB
end
section
variable {st:ai}{K:DK}{d:D}{b:Bool}
theorem Ef(h:live st d=true)(k:K (.bl (!PY d)) st):pG d .aE st K:=by unfold pG;exact⟨h,k⟩
theorem Ow(h:live st d=true)(k:K (.bl (!HP d b)) st):pG d (.bl b) st K:=by unfold pG;exact⟨h,k⟩
end
section
variable {X:Cx}
end
end L3
namespace L3
open PySem L2
open PySem.Spec hiding items?
open PyProof.Rows hiding St
open AutoSeq1 (wpAny_loadPart')
theorem Je{P:Program}{w:World}{A:Around}(hh:A.handled=none)(k:SK)(t a:Addr)(hne:a≠t)(us:Array Value):Draws P w A t [t,a] us.size (fun i v=>us[i]?=some v) (fun n g=>rX k t a n g/\mR k g a us) where
 live:=fun i h z=>((nA (P:=P) (w:=w) k t a hne us).lv i h z).1
 frame:=fun i h h' z kp=>(nA (P:=P) (w:=w) k t a hne us).fr i h h' z fun b hb o e=>kp b (by rcases hb with rfl|rfl<;>simp) o e
 item:=fun i s Q E hi z q=>(nA (P:=P) (w:=w) k t a hne us).nx i A s Q E us[i] z (by simp[hi]) fun g j sb=>q _ g s.toks (by simp[hi]) j sb
 done:=fun s Q E z q=>(nA (P:=P) (w:=w) k t a hne us).en us.size A s Q E hh z (by simp) q
theorem rK(l:Addr)(items:Array Value)(n:Nat)(dct:Option Addr)(sl:Array (Option Value)):
 Meets (Builtin.«enumerate.__new__» ⟨[.type "enumerate",.ref l],[]⟩) (fun _ R s=>s.heap.get? l=some {cls:= .type "tuple",dict:=dct,data:= .seq items n,slots:=sl}/\
  R (.ok (.ret (.ref (s.heap.push {cls:= .type "tuple_iterator",data:= .fields #[.ref l,.int 0 0]}).objs.size)))
   {s with heap:=(s.heap.push {cls:= .type "tuple_iterator",data:= .fields #[.ref l,.int 0 0]}).push {cls:= .type "enumerate",data:= .fields #[.none,.bool false,.ref s.heap.objs.size,rawInt 0,.none,.none]}}):=
 .of_wp fun prog w A R s h=>by
  obtain⟨hp,g,d,tk,os⟩:=s;obtain⟨hl,h⟩:=h;have hsub:=sub_enumerate;have hL:Heap.IsTuple (Shared.heap ⟨hp,g,d,tk,os⟩) l items:=⟨_,hl,rfl,n,rfl⟩
  wp_walk using wpAny_loadPart' hl
  refine wpAny_stack_any fun st=>wpAny_pure ?_;split
  . rename_i c _ _ _ _ _;cases (c==Value.type "enumerate")
    . wp_walk using wpAny_loadPart' hl,wpAny_pyIter_tuple hL
      exact⟨_,rfl,h⟩
    . wp_walk using wpAny_loadPart' hl,wpAny_pyIter_tuple hL
      exact⟨_,rfl,h⟩
  . wp_walk using wpAny_loadPart' hl,wpAny_pyIter_tuple hL
    exact⟨_,rfl,h⟩
theorem E7{P:Program}{w:World}{A:Around}{s:Shared}{E:Value->Shared->Prop}{k:SK}{a:Addr}{us:Array Value}{Q:Value->Shared->Prop}(c:mR k s.heap a us)
 (q:∀g,IsEnum g (s.heap.objs.size+1) s.heap.objs.size 0 .none->rX k s.heap.objs.size a 0 g->(∀b o,s.heap.get? b=some o->g.get? b=some o)->Q (.ref (s.heap.objs.size+1)) {s with heap:=g}):
 wpAny (model P w) A (call (.type "enumerate") [.ref a]) Q E s:=by
 cases k
 . exact call_enumerate_list c fun g h1 h2 _ h4=>q g h1 h2 h4
 . obtain⟨⟨c,dct,dt,sl⟩,hl,hc,n,hd⟩:=c;replace hc:c= .type "tuple":=hc;replace hd:dt= .seq us n:=hd;subst hc hd
   refine callType_new F.called_enumerate (by decide) (F.typeCall_enumerate_1 _) (F.newCall_enumerate_1 _) (fun obj=>F.args_object_init_2 obj _) F.entry_enumerate_new
    (rK a us n dct sl) ⟨hl,?_⟩
   have hz:(s.heap.push {cls:= .type "tuple_iterator",data:= .fields #[.ref a,.int 0 0]}).objs.size=s.heap.objs.size+1:=Heap.size_push ..;show _/\_;rw[hz]
   have he:IsEnum ((s.heap.push {cls:= .type "tuple_iterator",data:= .fields #[.ref a,.int 0 0]}).push
    {cls:= .type "enumerate",data:= .fields #[.none,.bool false,.ref s.heap.objs.size,rawInt 0,.none,.none]}) (s.heap.objs.size+1) s.heap.objs.size 0 .none:=by
    have:=Heap.get?_push_size (s.heap.push {cls:= .type "tuple_iterator",data:= .fields #[.ref a,.int 0 0]})
     (o:={cls:= .type "enumerate",data:= .fields #[.none,.bool false,.ref s.heap.objs.size,rawInt 0,.none,.none]}) rfl
    rw[hz]at this;exact this
   exact⟨⟨_,he,rfl⟩,q _ he ⟨_,Heap.get?_push_of_some _ (Heap.get?_push_size _ rfl),rfl,rfl⟩ fun b o x=>Heap.get?_push_of_some _ (Heap.get?_push_of_some _ x)⟩
def PH(K:PySem.W.Frag)(k:SK)(a:Addr):It:=
 ⟨fun i H=>∃xs x,qb k K H a xs/\xs[i]?=some x,
  fun i H v H'=>∃T x,H T=none/\v= .ref T/\H'=upd H T (.tup [.int (i:Int),x])/\∀xs,qb k K H a xs->xs[i]?=some x,
  fun i H=>∃xs,qb k K H a xs/\xs.length<=i⟩
def Qg(e t a:Addr)(k:SK)(i:Nat)(h:Heap):Prop:=(∃old,IsEnum h e t i old)/\rX k t a i h
theorem Ep{P:Program}{w:World}{K:PySem.W.Frag}{elts:List Expr}{kx:Nat}{pos:Pos}{e t a:Addr}(k:SK)(n1:e≠t)(n2:a≠e)(n3:a≠t):
 Turn P w K (.Tuple elts kx pos) (PH K k a) [e,t] e (Qg e t a k) where
 mem:=by simp
 obj:=fun i h st b hb=>by
  obtain⟨⟨old,he⟩,i1⟩:=st;simp only[List.mem_cons,List.not_mem_nil,or_false]at hb;rcases hb with rfl|rfl
  . exact⟨_,he,fun v z=>by cases z⟩
  . exact oa i1
 keep:=fun i h h' st kp=>by
  obtain⟨⟨old,he⟩,i1⟩:=st;exact⟨⟨old,kp e (by simp) _ he⟩,qr i1 (kp t (by simp))⟩
 item:=by
  intro X hP hw hK hc i pins s σ H E I hf st hg;subst hP hw hK;obtain⟨⟨old,he⟩,i1⟩:=st;obtain⟨xs,x,q1,ex⟩:=hg;obtain⟨us,r1,l1⟩:=kD I q1;obtain⟨u,eu,ru⟩:=r1.get ex
  have hlt:i<us.toArray.size:=by
   have:=(List.getElem?_eq_some_iff.mp eu).1;simpa using this
  refine wpAny_pyNext_enum_itemD (Je (A:=X.A.in1) (show X.A.in1.handled=none from I.ok.hd hc) k t a n3 us.toArray) he ⟨i1,l1⟩ hlt n1 (by simp only[List.mem_cons,List.not_mem_nil,or_false,not_or];exact⟨n1,Ne.symm n2⟩) fun y h' tk py ho hs hT hsz kp=>⟨_,rfl,?_⟩
  have hy:y=u:=by
   have:us[i]?=some y:=by simpa using py
   rw[eu]at this;cases this;rfl
  subst hy;refine wpAny_letOwnedTupleGo_enum (s:={s with heap:=h',toks:=tk+1}) ho fun k' he' sb=>?_;have hTe:s.heap.objs.size≠e:=Nat.ne_of_gt (Heap.lt_size he)
  have kp3:∀b o,b∉[e,t]->s.heap.get? b=some o->k'.get? b=some o:=fun b o hb eb=>by
   simp only[List.mem_cons,not_or,List.not_mem_nil,not_false_eq_true,and_true]at hb;exact sb.extBut _ _ hb.1 (kp b o hb.1 hb.2 eb)
  refine⟨.ref s.heap.objs.size,upd H s.heap.objs.size (.tup [.int (i:Int),x]),IS (s:=s) (tk:=tk+1) I hf kp3 (Nat.le_refl _) ?_,rfl,⟨s.heap.objs.size,x,I.aK.fresh (Nat.le_refl _),rfl,rfl,?_⟩,?_,?_⟩
  . refine⟨Nat.le_of_ble_eq_true rfl,[.int (i:Int) tk,y],.cons ⟨tk,rfl⟩ (.cons ru .nil),?_⟩;exact⟨_,sb.extBut _ _ hTe hT,rfl,_,rfl⟩
  . intro xs' q';rw[xg I q' q1];exact ex
  . refine⟨⟨_,by simpa using he'⟩,qr hs.1 fun o eo=>sb.extBut _ _ (Ne.symm n1) eo⟩
  . intro b hb
    have:b≠s.heap.objs.size:=by
     obtain⟨o,eb⟩:∃o,s.heap.get? b=some o:=by
      simp only[List.mem_cons,List.not_mem_nil,or_false]at hb;rcases hb with rfl|rfl
      . exact⟨_,he⟩
      . obtain⟨o,eo,_⟩:=oa i1;exact⟨o,eo⟩
     exact Nat.ne_of_lt (Heap.lt_size eb)
    rw[aG this];exact(hf b hb).1
 done:=by
  intro X hP hw hK hc i pins s σ H E I hf st hg;subst hP hw hK;obtain⟨⟨old,he⟩,i1⟩:=st;obtain⟨xs,q1,hle⟩:=hg;obtain⟨us,r1,l1⟩:=kD I q1;have e1:=r1.length;have tz:s.TypeIs (.ref e) "enumerate":=⟨_,he,rfl⟩
  unfold pyNext;refine wpAny_bind (wpAny_attempt (wpAny_callSpecial?_slot (name:=Str.ofString "__next__") tz F.slot_enumerate_next (wpAny_call_entry F.slot_enumerate_next tz F.entry_enumerate_next ?_ (F.args_enumerate_next_1 _))));show wpAny _ _ (field (.ref e) 2 >>= _) _ _ _;refine wpAny_bind (wpAny_field he rfl (x:= .ref t) rfl ?_);refine wpAny_bind ((nA k t a n3 us.toArray).en i _ s _ _ (I.ok.hd hc) ⟨i1,l1⟩ (by simp;omega) fun g x sb hx=>?_);obtain⟨o,ho,hc2⟩:=hx;refine wpAny_bind (wpAny_isInstance (T:="StopIteration") (b:=true) ⟨o,ho,hc2⟩ isSubtype_stop ?_);refine wpAny_pure ⟨rfl,IP (s:=s) (tk:=s.toks) I hf fun b o hb eb=>?_⟩;simp only[List.mem_cons,not_or,List.not_mem_nil,not_false_eq_true,and_true]at hb;exact sb b o hb.2 eb
 self:=fun _ _ _ _ _ st h=>wpAny_pyIter_enum st.1.choose_spec h
def j5:Nat->List D->List D
 |_,[]=>[]
 |i,x::xs=> .tup [.int (i:Int),x]::j5 (i+1) xs
theorem yc:∀ {xs:List D} {i:Nat},(j5 i xs).length=xs.length
 | [],_=>rfl
 |_::xs,i=>by unfold j5;rw[List.length_cons,List.length_cons,yc]
theorem sD:∀ {xs:List D} {i n:Nat} {d:D},(j5 i xs)[n]?=some d->∃x,xs[n]?=some x/\d= .tup [.int ((i+n:Nat):Int),x]
 | [],_,_,_,e=>by unfold j5 at e;cases e
 |x::xs,i,0,d,e=>by
  unfold j5 at e;rw[List.getElem?_cons_zero]at e;cases e;exact⟨x,rfl,rfl⟩
 |x::xs,i,n+1,d,e=>by
  unfold j5 at e;rw[List.getElem?_cons_succ]at e;obtain⟨y,h1,h2⟩:=sD e;refine⟨y,by rw[List.getElem?_cons_succ];exact h1,?_⟩;rw[h2,show i+1+n=i+(n+1) by omega]
theorem JL{K:PySem.W.Frag}{k:SK}{a:Addr}{α:List (Option Addr)}{G:Hp}{ok:ai->Prop}{xs:List D}
 (h:∀α' G' st',Step α G α' G'->aW α' st' G'->ok st'->∃vs,FV k G' a vs/\aM α' G' xs vs):vi (PH K k a) α G ok (j5 0 xs) where
 stop:=fun n α' G' F' H' st' s P S o hn=>by
  obtain⟨vs,h1,r1⟩:=h α' G' st' s S o;rw[yc]at hn;refine⟨vs,j4 P h1,?_⟩;have:=r1.length;omega
 go:=fun n d α' G' F' H' st' s P S o hn=>by
  obtain⟨vs,h1,r1⟩:=h α' G' st' s S o;obtain⟨x,ex,rfl⟩:=sD hn;obtain⟨v,ev,_⟩:=r1.get ex;exact⟨vs,v,j4 P h1,ev⟩
 o4:=fun n d α' G' F' H' st' x H'' s P S o hn y=>by
  obtain⟨vs,h1,r1⟩:=h α' G' st' s S o;obtain⟨c,ec,rfl⟩:=sD hn;obtain⟨T,v,hT,rfl,rfl,y1⟩:=y;obtain⟨v',ev,rv⟩:=r1.get ec;rw[y1 vs (j4 P h1)]at ev;cases ev;have hg:=(P.none hT).1;refine⟨upd G' T (.tup [.int (n:Int),v]),Step.laid hg,P.laid hT,S.laid hg,?_⟩;unfold Rep;refine⟨T,[.int (n:Int),v],rfl,S.kU hg,a5,?_⟩;unfold aM;refine⟨.int (n:Int),[v],rfl,?_,?_⟩
  . unfold Rep;rw[Nat.zero_add]
  unfold aM;exact⟨v,[],rfl,rv.step (Step.laid hg),by unfold aM;rfl⟩
def CJ(ds:List D)(st1:ai)(K:List D->(ai->Prop)->ai->Prop):Prop:=match ds with
 | [x]=>(match items? st1 x with
   |some xs=>K (j5 0 xs) (fun st'=>items? st' x=some xs) st1
   |_=>False)
 |_=>False
@[irreducible] def sf:List D->ai->(List D->(ai->Prop)->ai->Prop)->Prop:=CJ
def C3(t:DA):DI:=fun σ st K=>t σ st fun ds st1=>sf ds st1 K
theorem FX:bootBuiltins "enumerate"=some (.type "enumerate"):=by decide+kernel
theorem Js{X:Cx}{a:Expr}{elts:List Expr}{kx:Nat}{tpos p pos:Pos}{t:DA}(hg:Gl X "enumerate")(hm:X.mg "enumerate"=none)(ha:PA X [a] (LA t))(hs:starEach [a] X.env=[(false,eval a X.env)]):
 PI X (.Tuple elts kx tpos) (.Call (.Name "enumerate" p) [a] [] pos) (LI (C3 t)):=by
 intro pins s σ H R I h;obtain⟨α,σd,st,K,G,F,P,RS,S,t,k⟩:=h;refine Call_ (kK I hg hm FX (PyProof.Rows.callWith_type1 (cz (ha pos pins s σ H (fun vs H1=>∃ds α1 G1 st1,Step α G α1 G1/\cE G1 F H1/\aW α1 st1 G1/\aM α1 G1 ds vs/\sf ds st1 K) I ⟨α,σd,st,_,G,F,P,RS,S,t,fun ds st1 q α1 G1 H1 vs s1 P1 S1 r1=>⟨ds,α1,G1,st1,s1,P1,S1,r1,q⟩⟩) fun us s1 ⟨vs,H1,I1,rv,ds,α1,G1,st1,w1,P1,S1,r1,q⟩=>?_) (by rw[hs];rfl) (by rfl)));unfold sf CJ at q;split at q
 . rename_i x;split at q
   . rename_i xs ex;obtain⟨v1,rfl,q1⟩:=gH r1 rfl;obtain⟨p1,vs1,rfl,g1,c1⟩:=nX S1 q1 ex;obtain⟨u1,rfl,ru1⟩:=vals1 rv;cases ru1;obtain⟨its1,_,l1⟩:=kD I1 (j4 P1 c1);refine E7 l1 fun g he i1 kp=>?_;obtain⟨o1,eo1⟩:=l1.some;have hp1:p1<s1.heap.objs.size:=Heap.lt_size eo1;refine wpAny_pyIter_enum (s:={s1 with heap:=g}) he ?_;refine⟨s1.heap.objs.size+1,[s1.heap.objs.size+1,s1.heap.objs.size],_,_,H1,rfl,I1.kept (t':=s1.toks) kp,Ep (Iw x) (Nat.ne_of_gt (Nat.lt_succ_self _)) (Nat.ne_of_lt (Nat.lt_succ_of_lt hp1)) (Nat.ne_of_lt hp1),⟨⟨_,he⟩,i1⟩,fun b hb=>?_,?_⟩
     . have hb':s1.heap.objs.size<=b:=by
        simp only[List.mem_cons,List.not_mem_nil,or_false]at hb;rcases hb with rfl|rfl
        . exact Nat.le_succ _
        . exact Nat.le_refl _
       exact I1.uT hb' (I1.aK.fresh hb')
     . refine k _ _ st1 q _ α1 G1 H1 w1 P1 S1 (JL fun α' G' st' s' S' o=>?_);obtain⟨p1',ws1,e1,f1,d1⟩:=nX S' (q1.step s') o;cases e1;exact⟨ws1,d1,f1⟩
   . exact q.elim
 . exact q.elim
theorem KY{st:ai}{x:D}{xs:List D}{K:List D->(ai->Prop)->ai->Prop}(ex:items? st x=some xs)(k:∀ok:ai->Prop,(∀st',items? st' x=some xs->ok st')->K (j5 0 xs) ok st):sf [x] st K:=by
 unfold sf CJ;simp only[ex];exact k _ fun st' h1=>h1
theorem LP{X:Cx}{a:Expr}{elts:List Expr}{kx:Nat}{tpos p pos:Pos}{ar:DA}(hg:Gl X "enumerate")(hm:X.mg "enumerate"=none)(ha:JA X [a] ar)(hs:notStar a=true:=by rfl):JI X (.Tuple elts kx tpos) (.Call (.Name "enumerate" p) [a] [] pos) (C3 ar):=by
 unfold JI;unfold JA at ha;exact Js hg hm ha (bS hs)
end L3
namespace L3
open PySem L2
open PySem.Spec hiding items?
open PyProof.Rows hiding St
section
variable {prog:Program}{w:World}{A:Around}{E:Value->Shared->Prop}{s:Shared}
end
section
variable {X:Cx}{tg:Expr}
end
theorem rj{A B:Type}{F:A->B->Prop}{x:A}{y:B}(h:F x y):∀ {xs:List A} {ys:List B} (i:Nat),Paired F xs ys->Paired F (xs.take i++x::xs.drop i) (ys.take i++y::ys.drop i)
 |_,_,0,t=> .cons h t
 |_,_,i+1,.nil=>by simpa using(Paired.cons h .nil)
 |_,_,i+1,.cons r t=> .cons r (rj h i t)
section
variable {X:Cx}
def M1:V->List V->Hp->VK->Prop:=fun x vs H Q=>∃(l:Addr) (xs:List V) (i:Int) (y:V),x= .ref l/\vs=[.int i,y]/\H l=some (.lst xs)/\0<=i/\i<2^62/\i.toNat<=xs.length/\xs.length<sizeLine/\Q .aE (upd H l (.lst (xs.take i.toNat++y::xs.drop i.toNat)))
theorem Jy{aq:List Value}{i:Int}{u:Value}(h0:0<=i)(h:i.toNat<=aq.length):(aq.toArray.extract 0 (if i<0 then(i+(aq.toArray.size:Int)).toNat else min i.toNat aq.toArray.size)).push u++aq.toArray.extract (if i<0 then(i+(aq.toArray.size:Int)).toNat else min i.toNat aq.toArray.size)=(aq.take i.toNat++u::aq.drop i.toNat).toArray:=by
 have hk:(if i<0 then(i+(aq.toArray.size:Int)).toNat else min i.toNat aq.toArray.size)=i.toNat:=by
  rw[if_neg (by omega),List.size_toArray];omega
 rw[hk];exact PySem.W.kl_ins_eq aq i.toNat u
theorem LW:Nl X "list.insert" M1:=by
 intro pins s σ H x vs v us Q I rx rv h;obtain⟨l,xs,i,y,rfl,rfl,hH,h0,h1,h2,hz,q⟩:=h;cases rx;obtain⟨u1,u2,rfl,ru1,ru2⟩:=vals2 rv;obtain⟨t,rfl⟩:=ru1;obtain⟨z,aq,n,r,hl,e⟩:=I.Gq hH;have fit:Builtin.List.listFitsIndex i=true:=fitsIndex_both (by omega) (by omega);have hsz:aq.toArray.size<=sizeLine:=by rw[List.size_toArray,<-hl];exact z
 have hft:¬(!Builtin.List.listFitsIndex i)=true:=by rw[fit];exact Bool.false_ne_true
 have M:=AutoSeq1.list_insert_list_int_val_1 l aq.toArray n i t u2 hft hsz;refine call_meets F.slot_list_insert ⟨_,e,rfl⟩ F.entry_list_insert (F.args_list_insert_3 _ _ _) M ⟨e,?_⟩;refine⟨.aE,_,I.HA (its':=aq.take i.toNat++u2::aq.drop i.toNat) hH e (Jy h0 (by omega)) (rj ru2 i.toNat r) ?_,rfl,q⟩;rw[List.length_append,List.length_cons,List.length_take,List.length_drop];omega
def nK:DM:=fun n ds st K=>match ds with
 | [.int i,d]=>(match st[n]? with|some (.lst xs)=>(0<=i/\i<=xs.length/\i<2^62/\xs.length<sizeLine)/\K .aE (st.set n (.lst (xs.take i.toNat++d::xs.drop i.toNat)))|_=>False)
 |_=>False
theorem D4:LiftM nK M1:=by
 intro α G F H st K Q n a ds ws P S ea rs q k;unfold nK at q;split at q
 . rename_i i d;split at q
   . rename_i xs e;obtain⟨⟨h0,h1,h2,h3⟩,q⟩:=q;obtain⟨v,u,rfl,r1,r2⟩:=nz rs rfl;unfold Rep at r1;subst r1;obtain⟨a',ea',vs,g1,g2⟩:=S.fZ e;rw[ea]at ea';cases ea';have hl:=g2.length;have hm:some a∈α:=List.mem_of_getElem? ea;refine⟨a,vs,i,u,rfl,rfl,P.get g1,h0,h2,by omega,by omega,?_⟩;refine k .aE _ q α (upd G a (.lst (vs.take i.toNat++u::vs.drop i.toNat))) _ .aE (Step.write hm) (P.write g1) ?_ (by unfold Rep;rfl);exact S.write ea ⟨vs.take i.toNat++u::vs.drop i.toNat,a5,(ba.mpr (rj r2 i.toNat (ba.mp g2))).step (Step.write hm)⟩
   . exact q.elim
 . exact q.elim
theorem O6{o e f:Expr}{to te tf:DE}{apos cpos:Pos}(ho:JE X o to)(he:JE X e te)(hf:JE X f tf)(hbase:attributeBase o "insert" X.env (eval o X.env)=eval o X.env:=by rfl)(hline:(apos.endLine==cpos.line)=true:=by rfl)(hs:notStar e=true:=by rfl)(hs2:notStar f=true:=by rfl):JE X (.Call (.Attribute o "insert" apos) [e,f] [] cpos) (lg nK to (ae te (ae tf ao))):=by
 unfold JE at*;refine E8 D4 PySem.F.slot_list_insert PySem.F.type_list_insert LW ho (nS he (nS hf tK (bS hs2)) (bS hs)) hbase ?_ hline (bS hs) ?_
 . rw[bS hs,bS hs2];rfl
 . rw[bS hs2];rfl
end
end L3
namespace L3
open PySem L2
open PySem.Spec hiding items?
open PyProof.Rows hiding St
open PySem PySem.Spec L2 PySem.SeqAt
section
variable {X:Cx}
end
end L3
namespace L3
open PySem L2
open PySem.Spec hiding items?
open PyProof.Rows hiding St
section
variable {X:Cx}
def yN:fk:=fun ds st K=>match ds with| [.lst xs]=>(match mi xs with|some ns=>ns≠ []/\∀m∈ns,(∀x∈ns,x<=m)->K (.int m) st|none=>False)|_=>False
theorem Km{ns:List Int}{i:Nat}(hi:i<ns.length):ns.getD i 0∈ns:=by rw[List.getD_eq_getElem?_getD,List.getElem?_eq_getElem hi];exact List.getElem_mem _
theorem mem_getD{ns:List Int}{x:Int}(h:x∈ns):∃i,i<ns.length/\ns.getD i 0=x:=by
 obtain⟨i,hi,rfl⟩:=List.mem_iff_getElem.mp h;exact⟨i,hi,by rw[List.getD_eq_getElem?_getD,List.getElem?_eq_getElem hi];rfl⟩
theorem NM(hc:X.calm=true):cj X (.builtin "max") (gm yN):=fun pins s σ H xs us Q I rs ⟨α,ds,st,K,G,F',P,r,S,q,k⟩=>by
 unfold yN at q;split at q
 . rename_i ys;split at q
   . rename_i ns e;obtain⟨hne0,q⟩:=q;obtain⟨v,rfl,r1⟩:=gH r rfl;unfold Rep at r1;obtain⟨a,vs,rfl,na,h1,h2⟩:=r1;obtain⟨u,rfl,ru⟩:=vals1 rs;cases ru;have hv:=sE h2 e;subst hv;obtain⟨z,aq,n,rv,hl,eo⟩:=Inv.uV I (gh P h1);have isL:s.heap.IsList a aq.toArray:=⟨_,eo,rfl,n,rfl⟩
     have hlen:aq.length=ns.length:=by rw[<-hl,List.length_map]
     have hpos:0<ns.length:=List.length_pos_iff.mpr hne0;refine call_max_walkS (wpAny_pyIter_list isL ?_);have hne:a≠s.heap.objs.size:=Nat.ne_of_lt (Heap.lt_size eo);have hval:∀(i:Nat) (w:Value),aq.toArray[i]?=some w->∃t,w=Value.int (ns.getD i 0) t:=fun i w hw=>mX rv i w (by simpa using hw);refine⟨s.heap.objs.size,_,_,_,_,_,_,_,rfl,(Walks.list (A:=X.A.in1) (I.ok.hd hc) _ a hne aq.toArray).toS,⟨⟨_,Heap.get?_push_size _ rfl,rfl,rfl⟩,⟨_,Heap.get?_push_of_some _ eo,rfl,n,rfl⟩⟩,?_,by rw[List.size_toArray];omega,CmpOf.ints_gt (fun i=>ns.getD i 0) hval,?_⟩
     . intro b hb;rw[Heap.size_push];simp only[List.mem_cons,List.not_mem_nil,or_false]at hb;rcases hb with rfl|rfl
       . exact Nat.lt_succ_self _
       . exact Nat.lt_succ_of_lt (Heap.lt_size eo)
     . intro v' s' hv hm
       have kp:∀b o,s.heap.get? b=some o->s'.heap.get? b=some o:=fun b o q=>hm.heap b o (by
        intro hb;have:b=s.heap.objs.size:=by simpa using hb
        exact absurd (Heap.lt_size q) (by rw[this];exact Nat.lt_irrefl _)) (Heap.get?_push_of_some _ q)
       have es:s'= {s with heap:=s'.heap,toks:=s'.toks}:=by
        have g:=hm.gens;have d:=hm.drawn;have o:=hm.os;cases s';cases s
        simp_all
       have hsz:aq.toArray.size-1=ns.length-1:=by rw[List.size_toArray,hlen]
       obtain⟨t,rfl⟩:=hval _ _ hv;obtain⟨b1,b2⟩:=argBest_gt (fun i=>ns.getD i 0) (aq.toArray.size-1);generalize argBest (fun i j=>decide (ns.getD i 0>ns.getD j 0)) (aq.toArray.size-1)=j at b1 b2⊢;have hj:j<ns.length:=by omega
       rw[es];refine⟨.int (ns.getD j 0),H,I.kept (t':=s'.toks) kp,⟨t,rfl⟩,k.here P (q _ (Km hj) fun x hx=>?_) S (by unfold Rep;rfl)⟩;obtain⟨i,hi,rfl⟩:=mem_getD hx;exact b2 i (by omega)
   . exact q.elim
 . exact q.elim
@[irreducible] def vU:fk:=yN
theorem MM(hc:X.calm=true):cj X (.builtin "max") (gm vU):=by unfold vU;exact NM hc
end
theorem Jd{st:ai}{K:DK}{xs:List D}{ns:List Int}(h:mi xs=some ns)(h0:ns≠ [])(k:∀m∈ns,(∀x∈ns,x<=m)->K (.int m) st):vU [.lst xs] st K:=by unfold vU yN;simp only[h];exact⟨h0,k⟩
section
variable {X:Cx}
end
section
variable {P:Program}{w:World}
section
variable {z ti to t1 t2 t3 a1 a2 a3:Addr}
end
end
section
variable {X:Cx}
end
end L3
namespace L3
open PySem L2
open PySem.Spec hiding items?
open PyProof.Rows hiding St
open Sem (wp)
section
variable {prog:Program}{w:World}{A:Around}{s:Shared}{E:Value->Shared->Prop}
end
section
variable {prog:Program}{w:World}{A:Around}{R:Result->Shared->Prop}{I:Addr}{fp wr:List Addr}{G:Array GenState->Array GenState->Prop}{n:Nat}{P:Nat->Value->Prop}{Sx:Nat->Shared->Prop}
end
section
variable {prog:Program}{w:World}{A:Around}{E:Value->Shared->Prop}{s:Shared}
end
section
variable {X:Cx}{pins:List (Addr×Obj)}{σ:L2.St}{H:Hp}{s:Shared}{α:List (Option Addr)}
end
end L3
namespace L3
open PySem L2
open PySem.Spec hiding items?
open PyProof.Rows hiding St
section
variable {X:Cx}
end
def putD(f:Str)(v:D):List (Str×D)->List (Str×D)
 | []=>[(f,v)]
 |(g,x)::r=>if g=f then(g,v)::r else(g,x)::putD f v r
theorem j_.look{α:List (Option Addr)}{H:Hp}{f:Str}{v:D}:∀ {fs:List (Str×D)} {vs:List (Str×V)},j_ α H fs vs->fs.lookup f=some v->∃u,vs.lookup f=some u/\Rep α H v u
 | [],_,_,e=>by cases e
 |(g,x)::fs,_,.cons (b:=q) h t,e=>by
  obtain⟨g',y⟩:=q;obtain⟨h1,h2⟩:=h;simp only at h1 h2;subst h1;rw[List.lookup_cons]at e⊢;cases hb:f==g with
  |true=>rw[hb]at e;cases e;exact⟨y,rfl,h2⟩
  |false=>rw[hb]at e;exact j_.look t e
theorem j_.none{α:List (Option Addr)}{H:Hp}{f:Str}:∀ {fs:List (Str×D)} {vs:List (Str×V)},j_ α H fs vs->fs.lookup f=Option.none->vs.lookup f=Option.none
 | [],_,.nil,_=>rfl
 |(g,x)::fs,_,.cons (b:=q) h t,e=>by
  obtain⟨g',y⟩:=q;obtain⟨h1,h2⟩:=h;simp only at h1 h2;subst h1;rw[List.lookup_cons]at e⊢;cases hb:f==g with
  |true=>rw[hb]at e;cases e
  |false=>rw[hb]at e;exact j_.none t e
theorem j_.put{α:List (Option Addr)}{H:Hp}{f:Str}{d:D}{v:V}(r:Rep α H d v):∀ {fs:List (Str×D)} {vs:List (Str×V)},j_ α H fs vs->j_ α H (putD f d fs) (gW f v vs)
 | [],_,.nil=> .cons ⟨rfl,r⟩ .nil
 |(g,x)::fs,_,.cons (b:=q) h t=>by
  obtain⟨g',y⟩:=q;obtain⟨h1,h2⟩:=h;simp only at h1 h2;subst h1;unfold putD gW;by_cases hb:g=f
  . rw[if_pos hb,if_pos hb];exact .cons ⟨rfl,r⟩ t
  . rw[if_neg hb,if_neg hb];exact .cons ⟨rfl,h2⟩ (j_.put r t)
def GO(C:Addr)(f:Str)(d:D)(st:ai)(K:DK):Prop:=match d with
 | .ref n=>(match st[n]? with|some (.ins C' fs)=>C'=C/\∃v,fs.lookup f=some v/\K v st|_=>False)
 |_=>False
@[irreducible] def DX(C:Addr)(f:Str):D->ai->DK->Prop:=GO C f
def ef(C:Addr)(f:Str)(te:DE):DE:=fun σ st K=>te σ st fun d st1=>DX C f d st1 K
theorem cV{C:Addr}{f:Str}{n:Nat}{st:ai}{K:DK}{fs:List (Str×D)}{v:D}(e:st[n]?=some (.ins C fs))(h:fs.lookup f=some v)(k:K v st):DX C f (.ref n) st K:=by
 unfold DX GO;simp only[e];exact⟨trivial,v,h,k⟩
def Dn(C:Addr)(f:Str)(x d:D)(st:ai)(K:ai->Prop):Prop:=match x with
 | .ref n=>(match st[n]? with|some (.ins C' fs)=>C'=C/\fs.length<1000/\K (st.set n (.ins C (putD f d fs)))|_=>False)
 |_=>False
@[irreducible] def yQ(C:Addr)(f:Str):D->D->ai->(ai->Prop)->Prop:=Dn C f
def pk(C:Addr)(f:Str)(to te:DE):DS:=fun D σ st=>te σ st fun d st1=>to σ st1 fun x st2=>yQ C f x d st2 fun st3=>D.nx σ st3
theorem nU{C:Addr}{f:Str}{n:Nat}{d:D}{st:ai}{K:ai->Prop}{fs:List (Str×D)}(e:st[n]?=some (.ins C fs))(h:fs.length<1000)(k:K (st.set n (.ins C (putD f d fs)))):yQ C f (.ref n) d st K:=by
 unfold yQ Dn;simp only[e];exact⟨trivial,h,k⟩
def DG(C:Addr)(m:Str)(x:D)(st:ai)(k:Prop):Prop:=match x with
 | .ref n=>(match st[n]? with|some (.ins C' fs)=>C'=C/\fs.lookup m=none/\k|_=>False)
 |_=>False
@[irreducible] def yM(C:Addr)(m:Str):D->ai->Prop->Prop:=DG C m
theorem kC{C:Addr}{m:Str}{n:Nat}{st:ai}{k:Prop}{fs:List (Str×D)}(e:st[n]?=some (.ins C fs))(h:fs.lookup m=none)(q:k):yM C m (.ref n) st k:=by
 unfold yM DG;simp only[e];exact⟨trivial,h,q⟩
def jK(C:Addr)(m:Str)(S:cA)(to:DE)(t:DA):DE:=fun σ st K=>to σ st fun x st1=>yM C m x st1 (t σ st1 fun ds st2=>S (x::ds) st2 K)
def C9(C:Addr)(S:cA)(t:DA):DE:=fun σ st K=>t σ st fun ds st1=>S (.ref st1.length::ds) (st1++[.ins C []]) fun r st2=>r= .aE/\K (.ref st1.length) st2
section
variable {X:Cx}{C f g:Addr}{fd:FuncData}{k:Nat}{x m fl:Str}{e o value:Expr}{es:List Expr}{p pos pos' apos:Pos}{te to:DE}{t:DA}{S:cA}{ps:List Str}
theorem NX(c:oP X.K C)(na:gq X.K C fl)(he:PE X e (LE te))(hb:attributeBase e fl X.env (eval e X.env)=eval e X.env):PE X (.Attribute e fl pos) (LE (ef C fl te)):=PE.imp (ME he hb) fun σ H Q ⟨α,σd,st,K,G,F,P,R,S,t,k⟩=>by
 refine⟨α,σd,st,_,G,F,P,R,S,t,fun d st1 q α1 G1 H1 v s1 P1 S1 r1=>?_⟩;unfold DX GO at q;cases d<;>try exact q.elim
 simp only at q;split at q
 . rename_i C' fs e';obtain⟨rfl,w,hw,q⟩:=q;obtain⟨a,ea,dx,vs,h1,h2⟩:=S1.yK e';have r1':=d7 ea r1;subst r1';obtain⟨u,hu,ru⟩:=h2.look hw;exact⟨a,_,dx,vs,u,rfl,P1.get h1,c,na,hu,(k.at s1).here P1 q S1 ru⟩
 . exact q.elim
theorem Ni(c:oP X.K C)(na:gq X.K C fl)(ho:PE X o (LE to))(hv:PE X value (LE te))(hs:swapsWith value (some (.Attribute o fl pos')) pos.line X.env=pure false):PS X (.Assign [.Attribute o fl pos'] value pos) (LS (pk C fl to te)):=PS.imp (NB ho hv hs) fun D σ H ⟨α,σd,st,DD,G,F,P,R,S,t,k⟩=>by
 refine⟨α,σd,st,_,G,F,P,R,S,t,fun d st1 q α1 G1 H1 v s1 P1 S1 r1=>?_⟩;refine⟨α1,σd,st1,_,G1,F,P1,R.step s1,S1,q,fun x st2 q2 α2 G2 H2 v2 s2 P2 S2 r2=>?_⟩;unfold yQ Dn at q2;cases x<;>try exact q2.elim
 simp only at q2;split at q2
 . rename_i C' fs e';obtain⟨rfl,hl,q2⟩:=q2;obtain⟨a,ea,dx,vs,h1,h2⟩:=S2.yK e';have r2':=d7 ea r2;subst r2';have hm:some a∈α2:=List.mem_of_getElem? ea;have lv:vs.length<1000:=by rw[<-h2.length];exact hl
   refine⟨a,_,dx,vs,rfl,P2.get h1,c,na,lv,?_⟩;refine((k.nx.at s1).at s2) σd _ q2 α2 (upd G2 a (.ins _ dx (gW fl v vs))) _ σ (Step.write hm) (P2.write h1) (((R.step s1).step s2).step (Step.write hm)) ?_;exact S2.write ea ⟨dx,gW fl v vs,a5,(h2.put (r1.step s2)).step (Step.write hm)⟩
 . exact q2.elim
theorem LE.OP{σ:L2.St}{H:Hp}{Q:VK}(h:LE (jK C m S to t) σ H Q):Ic C m (cG S) [] E0 (LE to) (LA t) σ H Q:=by
 obtain⟨α,σd,st,K,G,F,P,R,Sr,tt,k⟩:=h;refine⟨α,σd,st,_,G,F,P,R,Sr,tt,fun d st1 q α1 G1 H1 v s1 P1 S1 r1=>?_⟩;unfold yM DG at q;cases d<;>try exact q.elim
 simp only at q;split at q
 . rename_i n C' fs e';obtain⟨rfl,hl,q⟩:=q;obtain⟨a,ea,dx,vs,h1,h2⟩:=S1.yK e';have r1':=d7 ea r1;subst r1';refine⟨a,dx,vs,rfl,P1.get h1,h2.none hl,?_⟩;refine⟨α1,σd,st1,_,G1,F,P1,R.step s1,S1,q,fun ds st2 q2 α2 G2 H2 us s2 P2 S2 r2=>?_⟩;try dsimp only
   rw[List.append_nil];exact⟨α2,_,st2,K,G2,F,P2,by unfold aM;exact⟨_,_,rfl,r1.step s2,r2⟩,S2,q2,(k.at s1).at s2⟩
 . exact q.elim
theorem LE.make{σ:L2.St}{H:Hp}{Q:VK}(h:LE (C9 C S t) σ H Q):HY C (cG S) [] E0 (LA t) σ H Q:=by
 obtain⟨α,σd,st,K,G,F,P,R,Sr,tt,k⟩:=h;refine⟨α,σd,st,_,G,F,P,R,Sr,tt,fun ds st1 q α1 G1 H1 us s1 P1 S1 r1=>?_⟩;intro x dx hx hdx hne;have hgd:=(P1.none hdx).1;have P2:=P1.laid (o:= .own x) hdx;have S2:=S1.laid (o:= .own x) hgd;have hx2:upd H1 dx (.own x) x=none:=by rw[aG (Ne.symm hne)];exact hx
 have hg2:=(P2.none hx2).1;have P3:=P2.laid (o:= .ins C dx []) hx2;have S3:=S2.cell (o:= .ins C dx []) (c:= .ins C []) hg2 ⟨dx,[],a5,.nil⟩;have s2:Step α1 G1 α1 (upd G1 dx (.own x)):=Step.laid hgd;have s3:Step α1 (upd G1 dx (.own x)) (α1++[some x]) (upd (upd G1 dx (.own x)) x (.ins C dx [])):=Step.cell hg2
 have rx:Rep (α1++[some x]) (upd (upd G1 dx (.own x)) x (.ins C dx [])) (.ref st1.length) (.ref x):=by
  unfold Rep;refine .inr ⟨x,?_,rfl⟩;rw[List.getElem?_append_right (by rw[S1.len];exact Nat.le_refl _),S1.len,Nat.sub_self];rfl
 rw[List.append_nil];refine⟨α1++[some x],.ref st1.length::ds,st1++[.ins C []],_,_,F,P3,by unfold aM;exact⟨_,_,rfl,rx,(r1.step s2).step s3⟩,S3,q,fun d st2 q2 α' G' H' v s' P' S' r'=>?_⟩;obtain⟨rfl,q2⟩:=q2;unfold Rep at r';exact⟨r',(((k.at s1).at s2).at s3) _ st2 q2 α' G' H' _ s' P' S' (rx.step s')⟩
end
def K3(a:Int)(n:Nat):It:=⟨fun i _=>i<n,fun i H x H'=>H'=H/\x= .int (a+(i:Nat)*(-1)),fun i _=>n<=i⟩
theorem Fg{P:Program}{w:World}{K:PySem.W.Frag}{tg:Expr}(it:Addr)(a:Int)(n:Nat):Turn P w K tg (K3 a n) [it] it (fun i h=>IsRangeIter h it (a+(i:Nat)*(-1)) ((n:Int)-(i:Nat)) (-1)) where
 mem:=by simp
 obj:=fun i h st b hb=>by
  have e:b=it:=by simpa using hb
  subst e
  exact⟨_,st,fun v z=>by
   have z':Data.fields _=Data.cell v:=z;cases z'⟩
 keep:=fun i h h' st k=>k it (by simp) _ st
 item:=by
  intro X hP hw hK hc i pins s σ H E I hf st hg;subst hP hw hK;obtain⟨f0,f1,f2,f3,f4,f5⟩:=hf it (by simp);have W:=Walks.range (prog:=X.prog) (w:=X.w) (I.ok.hd hc) it a (-1) n;refine W.item i s _ _ hg st fun v h' tk hv st' kk=>?_;obtain⟨t,rfl⟩:=hv;have I1:Inv X pins σ H {s with heap:=h',toks:=tk}:=I.turned (fun b o hb e=>kk b o (by simpa using hb) e) f0 f1 f3 f4 f5;exact⟨_,rfl,yY (s:={s with heap:=h',toks:=tk}) (n:="range_iterator") st' rfl rfl (by decide) ⟨.int (a+(i:Nat)*(-1)),H,I1,⟨t,rfl⟩,⟨rfl,rfl⟩,st',fun b hb=>(hf b hb).1⟩⟩
 done:=by
  intro X hP hw hK hc i pins s σ H E I hf st hg;subst hP hw hK;obtain⟨f0,f1,f2,f3,f4,f5⟩:=hf it (by simp);exact wpAny_pyNext_range_end (I.ok.hd hc) st (by have:n<=i:=hg;omega) fun h' eb=>⟨rfl,I.turned (t':=s.toks) (fun b o hb e=>eb b o hb e) f0 f1 f3 f4 f5⟩
 self:=fun _ _ _ _ _ st h=>wpAny_pyIter_rangeiter st h
theorem x4(a b:Int):Builtin.Range.rangeSize a b (-1)=((a-b).toNat:Int):=by
 unfold Builtin.Range.rangeSize;rw[if_neg (by decide)];have e:(a-b-1)/(- -1:Int)=a-b-1:=by simp
 rw[e];split<;>omega
theorem small_down{a b:Int}(ha: -(2^62)<=a)(ha':a<2^62)(hb: -(2^62)<=b)(hb':b<2^62):Builtin.Range.small a b (-1)=true:=by
 unfold Builtin.Range.small;rw[x4];simp only[Builtin.Range.rangeFitsLong,Bool.and_eq_true,Bool.or_eq_true,decide_eq_true_eq,beq_iff_eq,show¬((-1:Int)>0) by decide,if_false];omega
def Iy(ta:TA):TI:=fun σ H R=>ta σ H fun vs H1=>∃i j:Int,vs=[.int i,.int j,.int (-1)]/\(-(2^62)<=i/\i<2^62/\ -(2^62)<=j/\j<2^62)/\R (K3 i (i-j).toNat) H1
section
variable {X:Cx}{tg:Expr}
theorem Fb{a b c:Expr}{ta:TA}{p pos:Pos}(hg:Gl X "range")(hm:X.mg "range"=none)(ha:PA X [a,b,c] ta)(hs:notStar a=true:=by rfl)(hs2:notStar b=true:=by rfl)(hs3:notStar c=true:=by rfl):
 PI X tg (.Call (.Name "range" p) [a,b,c] [] pos) (Iy ta):=by
 intro pins s σ H R I h;refine Call_ (kK I hg hm boot_range (PyProof.Rows.callWith_type1 (cz (ha pos pins s σ H _ I h) fun us s1 ⟨vs,H1,I1,r1,q1⟩=>?_) (bS hs) (kb (by simp[f_,hs2,hs3]))));obtain⟨i,j,e,⟨q1,q2,q3,q4⟩,q⟩:=q1;subst e;cases r1 with
 |cons r rr=>
  cases rr with
  |cons r' rr=>
   cases rr with
   |cons r'' rr=>
    cases rr;obtain⟨t,rfl⟩:=r;obtain⟨t',rfl⟩:=r';obtain⟨t'',rfl⟩:=r'';refine call_range_3 (by decide) ?_ (Or.inl (PyProof.noPylong_of_log2 (by decide+kernel)));refine wpAny_pyIter_range (IsRange.new ..) (small_down q1 q2 q3 q4) ?_;have I2:Inv X pins σ H1 {s1 with heap:=s1.heap.push {cls:= .type "range",data:= .fields #[.int i t,.int j t',.int (-1) t'']},toks:=s1.toks}:=I1.kept fun b o e=>Heap.get?_push_of_some _ e;generalize({s1 with heap:=s1.heap.push {cls:= .type "range",data:= .fields #[.int i t,.int j t',.int (-1) t'']},toks:=s1.toks}:Shared)=s2 at I2⊢;refine⟨s2.heap.objs.size,[s2.heap.objs.size],_,_,H1,rfl,I2.kept (t':=s2.toks) fun b o e=>Heap.get?_push_of_some _ e,Fg _ i (i-j).toNat,?_,fun b hb=>?_,q⟩
    . show IsRangeIter _ _ (i+((0:Nat):Int)*(-1)) ((((i-j).toNat:Nat):Int)-((0:Nat):Int)) (-1);have e1:i+((0:Nat):Int)*(-1)=i:=by omega
      have e2:(((i-j).toNat:Nat):Int)-((0:Nat):Int)=Builtin.Range.rangeSize i j (-1):=by rw[x4];omega
      rw[e1,e2];exact Heap.get?_push_size _ rfl
    . have e:b=s2.heap.objs.size:=by simpa using hb
      subst e;exact I2.uT (Nat.le_refl _) (I2.aK.fresh (Nat.le_refl _))
end
def hZ(a:Int)(n:Nat):List D:=(List.range n).map fun(k:Nat)=>D.int (a+(k:Nat)*(-1))
theorem yi{a:Int}{n k:Nat}:(hZ a n)[k]?=if k<n then some (.int (a+(k:Nat)*(-1)))else none:=by
 unfold hZ;rw[List.getElem?_map];by_cases h:k<n
 . rw[List.getElem?_range h,if_pos h];rfl
 . rw[List.getElem?_eq_none (by simpa using h),if_neg h];rfl
theorem mQ{a:Int}{n:Nat}:(hZ a n).length=n:=by unfold hZ;simp
theorem I_{α:List (Option Addr)}{G:Hp}{a:Int}{n:Nat}:vi (K3 a n) α G (fun _=>True) (hZ a n) where
 stop:=fun m α' G' F' H' st' s P S o hn=>by rw[mQ]at hn;exact hn
 go:=fun m d α' G' F' H' st' s P S o hn=>by
  rw[yi]at hn;split at hn
  . assumption
  . cases hn
 o4:=fun m d α' G' F' H' st' x H'' s P S o hn y=>by
  obtain⟨rfl,rfl⟩:=y;rw[yi]at hn;split at hn
  . cases hn;exact⟨G',Step.refl,P,S,by unfold Rep;rfl⟩
  . cases hn
def NS(ds:List D)(st1:ai)(K:List D->(ai->Prop)->ai->Prop):Prop:=match ds with
 | [.int i,.int j,.int c]=>(c= -1/\ -(2^62)<=i/\i<2^62/\ -(2^62)<=j/\j<2^62)/\K (hZ i (i-j).toNat) (fun _=>True) st1
 |_=>False
@[irreducible] def yO:List D->ai->(List D->(ai->Prop)->ai->Prop)->Prop:=NS
def xB(t:DA):DI:=fun σ st K=>t σ st fun ds st1=>yO ds st1 K
theorem EW{X:Cx}{tg iter:Expr}{t:DA}(h:PI X tg iter (Iy (LA t))):PI X tg iter (LI (xB t)):=PI.imp h fun σ H R ⟨α,σd,st,K,G,F,P,RS,S,t,k⟩=>by
 refine⟨α,σd,st,_,G,F,P,RS,S,t,fun ds st1 q α1 G1 H1 vs s1 P1 S1 r1=>?_⟩;unfold yO at q;match ds,q,r1 with
 | [.int i,.int j,.int c],q,r1=>
   obtain⟨v,u,w,rfl,r2,r3,r4⟩:=NZ r1 rfl;unfold Rep at r2 r3 r4;subst r2 r3 r4;obtain⟨⟨rfl,q1⟩,q2⟩:=q;exact⟨i,j,rfl,q1,k _ _ st1 q2 _ α1 G1 H1 s1 P1 S1 I_⟩
theorem KW{st:ai}{i j:Int}{K:List D->(ai->Prop)->ai->Prop}(h: -(2^62)<=i/\i<2^62/\ -(2^62)<=j/\j<2^62)(k:K (hZ i (i-j).toNat) (fun _=>True) st):yO [.int i,.int j,.int (-1)] st K:=by unfold yO;exact⟨⟨rfl,h⟩,k⟩
theorem Gf{X:Cx}{tg a b c:Expr}{p pos:Pos}{ar:DA}(hg:Gl X "range")(hm:X.mg "range"=none)(ha:JA X [a,b,c] ar)(hs:notStar a=true:=by rfl)(hs2:notStar b=true:=by rfl)(hs3:notStar c=true:=by rfl):JI X tg (.Call (.Name "range" p) [a,b,c] [] pos) (xB ar):=by
 unfold JI;unfold JA at ha;exact EW (Fb hg hm ha hs hs2 hs3)
section
variable {X:Cx}
end
section
variable {X:Cx}{e o i value:Expr}{es:List Expr}{te to ti:DE}{t:DA}{pos pos' tpos apos p:Pos}{C f:Addr}{fl m x:Str}{S:cA}{k:Nat}{fd:FuncData}{ps:List Str}
theorem DY{value o:Expr}{fl:Str}{pos':Pos}{n:Nat}{env:Env}:swapsWith value (some (.Attribute o fl pos')) n env=pure false:=by cases value<;>rfl
theorem dD(c:oP X.K C)(na:gq X.K C fl)(he:JE X e te)(hb:attributeBase e fl X.env (eval e X.env)=eval e X.env:=by rfl):JE X (.Attribute e fl pos) (ef C fl te):=by unfold JE at*;exact NX c na he hb
theorem nR(c:oP X.K C)(na:gq X.K C fl)(ho:JE X o to)(hv:JE X value te):JS X (.Assign [.Attribute o fl pos'] value pos) (pk C fl to te):=by unfold JS;unfold JE at*;exact Ni c na ho hv DY
theorem mT{pl:Sem Bool}(he:JE X o to)(c:oP X.K C)(hm:Meth X.K C m f)(F:bf X.prog X.w X.K X.mg X.base cD k f fd ps (cG S))(hr:c8 k X.A)(hb:Binds X.K fd ps [])(ha:JA X (e::es) t)
 (hs:notStar e=true:=by rfl) (hs2:f_ es=true:=by rfl)
 (ht:eval (.Call (.Attribute o m apos) (e::es) [] pos) X.env=(do
   let ov <-eval o X.env
   standAt apos.atName
   let(f,first) <-holding [ov] (getMethod ov m pl)
   callWith pos f first (backTo pos (starEach (e::es) X.env)) (backToKw pos (keywordEach [] X.env))):=by rfl):
 JE X (.Call (.Attribute o m apos) (e::es) [] pos) (jK C m S to t):=by
 unfold JE at*;unfold JA at ha;exact PE.imp (Kp he c hm F hr hb .nil C2 ha (bS hs) (kb hs2) ht) fun _ _ _ h=>LE.OP h
theorem LD(M:Mk X.K C f)(F:bf X.prog X.w X.K X.mg X.base cD k f fd ps (cG S))(hr:c8 (k+1) X.A)(hg:Gl X x)(hmg:X.mg x=some (.ref C))(hb:Binds X.K fd ps [])(ha:JA X (e::es) t)(hdb:(x==("__debug__":Str))=false)
 (hs:notStar e=true:=by rfl) (hs2:f_ es=true:=by rfl):JE X (.Call (.Name x p) (e::es) [] pos) (C9 C S t):=by
 unfold JE;unfold JA at ha;exact PE.imp (KO M F hr hg hmg hb .nil C2 ha hdb (bS hs) (kb hs2)) fun _ _ _ h=>LE.make h
end
end L3
namespace L2
open PySem PySem.Spec PyProof.Rows
structure Entry(K:PySem.W.Frag)(ts:List (Addr×Addr))(a:Addr)(ns:List Int)(H:Hp):Prop where
 lst:mO K H a (ns.map V.int)
 tab:∀q∈ts,H q.2=some (.km #[])/\q.2≠a
theorem yq:∀ {vs:List Value} {ns:List Int},IntsAre vs ns->Vals (ns.map V.int) vs
 |_,_,.nil=> .nil
 |_,_,.cons n t h=> .cons ⟨t,rfl⟩ (yq h)
structure Nn(K:PySem.W.Frag)(ts:List (Addr×Addr))(h:Heap):Prop where
 hd:∀q∈ts,PySem.W.codeHdIn K q.1 q.2=true
 no:∀q∈ts,K.lookup q.2=none
 at':∀q∈ts,h.get? q.2=some (PySem.W.tabObj #[])
theorem D0{P:Program}{w:World}{K:PySem.W.Frag}{mg mb:Str->Option Value}{k:Nat}{fa a:Addr}{fd:FuncData}{x:Str}{sp:Sp}{s₁:Shared}{vs:List Value}{ns:List Int}{ts:List (Addr×Addr)}
 (KX:K.In s₁.heap) (hns:s₁.heap.Ns mainGlobals mg) (hb:s₁.heap.Ns builtinsNs mb) (hbb:∀x:Str,x≠"__name__"->mb x=bootBuiltins x) (hlim:s₁.heap.NoLimit) (hse:s₁.heap.NoSeer) (hgt:P.given.tree=none)
 (hbm:∃bm ob,mg "__builtins__"=some (.ref bm)/\bm≠builtinsNs/\s₁.heap.get? bm=some ob/\ob.cls= .type "module"/\ob.dict=some builtinsNs/\ob.data= .plain) (hT:Nn K ts s₁.heap) (hg:s₁.gens= #[])
 (ha:s₁.heap.get? a=some {cls:= .type "list",data:= .seq vs.toArray}) (hi:IntsAre vs ns) (hl:ns.length<=sizeLine) (hr:c8 k callerA)
 (F:∀base:Heap,K.In base->base.Ns mainGlobals mg->bf P w K mg base (fun _ _ _ _ _ _=>False) k fa fd [x] sp) (hbind:∀(s:Shared) (u:Value),BindsTo s fd ⟨[u],[]⟩ [(x,u)])
 (hsp:∀H:Hp,Entry K ts a ns H->sp [.ref a] H (fun v _=>v= .bl true) fun _ _ _=>False):
 codeAny (model P w) callerA (.call (.ref fa) ⟨[.ref a],[]⟩) (fun r s'=>r= .ok (.ret (.bool true))/\OldK s₁.heap s'.heap/\s'.os=s₁.os/\AllBare s'.gens) s₁:=by
 have rv:=yq hi;have lenV:=hi.length
 have nta:∀q∈ts,q.2≠a:=fun q hq z=>by
  have:=hT.at' q hq;rw[z,ha]at this;cases this
 let sc:Option HO:=match K.lookup a with
  |some _=>none
  |none=>some (.fi {cls:= .type "list",data:= .seq vs.toArray} (.lst (ns.map V.int)))
 let H:Hp:=fun b=>if b=a then sc else if b∈ts.map (·.2)then some (.km #[])else none
 have Ha:H a=sc:=if_pos rfl
 have Ht:∀q∈ts,H q.2=some (.km #[]):=fun q hq=>by
  show(if q.2=a then sc else if q.2∈ts.map (·.2)then some (HO.km #[])else none)=_;rw[if_neg (nta q hq),if_pos (List.mem_map_of_mem hq)]
 have Hs:∀b u,H b=some u->(b=a/\K.lookup a=none/\u= .fi {cls:= .type "list",data:= .seq vs.toArray} (.lst (ns.map V.int)))\/(∃q∈ts,q.2=b/\u= .km #[]):=fun b u e=>by
  have e':(if b=a then sc else if b∈ts.map (·.2)then some (HO.km #[])else none)=some u:=e;by_cases hba:b=a
  . rw[if_pos hba]at e'
    have e2:(match K.lookup a with
     |some _=>none
     |none=>some (HO.fi {cls:= .type "list",data:= .seq vs.toArray} (.lst (ns.map V.int))))=some u:=e'
    cases q:K.lookup a with
    |some o=>rw[q]at e2;cases e2
    |none=>rw[q]at e2;cases e2;exact .inl ⟨hba,rfl,rfl⟩
  . rw[if_neg hba]at e';by_cases hbt:b∈ts.map (·.2)
    . rw[if_pos hbt]at e';cases e';obtain⟨q,hq,e⟩:=List.mem_map.mp hbt;exact .inr ⟨q,hq,e,rfl⟩
    . rw[if_neg hbt]at e';cases e'
 have aK:ir P w H s₁.heap:=fun b u e=>by
  rcases Hs b u e with⟨rfl,_,rfl⟩|⟨q,hq,rfl,rfl⟩
  . exact⟨ha,by rw[List.length_map];exact hl,vs,_,rv,ha⟩
  . exact hT.at' q hq
 have hE:Entry K ts a ns H:=by
  refine⟨?_,fun q hq=>⟨Ht q hq,nta q hq⟩⟩;cases q:K.lookup a with
  |some o=>
   have e:=KX a o q;rw[ha]at e;cases e;exact .inr ⟨_,vs.toArray,_,q,rfl,rfl,rfl,by rw[List.size_toArray,lenV];exact hl,by simpa using rv⟩
  |none=>
   refine .inl (.inr ⟨{cls:= .type "list",data:= .seq vs.toArray},?_⟩);rw[Ha]
   show(match K.lookup a with
    |some _=>none
    |none=>some (HO.fi {cls:= .type "list",data:= .seq vs.toArray} (.lst (ns.map V.int))))=_
   rw[q]
 have dictNo:∀ {b:Addr} {o:Obj},s₁.heap.get? b=some o->(∀es ep,o.data≠ .seq es ep)->o.cls≠ .none->H b=none:=fun{b o} e d1 d2=>by
  cases q:H b with
  |none=>rfl
  |some u=>
   rcases Hs b u q with⟨rfl,_,_⟩|⟨t,ht,rfl,_⟩
   . rw[ha]at e;cases e;exact absurd rfl (d1 _ _)
   . rw[hT.at' t ht]at e;cases e;exact absurd rfl d2
 have nsK:∀ {b:Addr} {m:Str->Option Value},s₁.heap.Ns b m->(pW s₁.heap H).Ns b m:=fun{b m} ⟨o,es,ep,e,d,r⟩=>by
  refine⟨o,es,ep,qV e ?_,d,r⟩;cases q:H b with
  |none=>rfl
  |some u=>
   rcases Hs b u q with⟨rfl,_,_⟩|⟨t,ht,rfl,_⟩
   . rw[ha]at e;cases e;cases d
   . rw[hT.at' t ht]at e;cases e;cases d
 have hKb:K.In (pW s₁.heap H):=fun b o e=>qV (KX b o e) (by
  cases q:H b with
  |none=>rfl
  |some u=>
   rcases Hs b u q with⟨rfl,z,_⟩|⟨t,ht,rfl,_⟩
   . rw[z]at e;cases e
   . rw[hT.no t ht]at e;cases e)
 obtain⟨bm,ob,b1,b2,b3,b4,b5,b6⟩:=hbm;have hbmK:(pW s₁.heap H).get? bm=some ob:=qV b3 (dictNo b3 (fun es ep z=>by rw[b6]at z;cases z) (fun z=>by rw[b4]at z;cases z))
 have seK:(pW s₁.heap H).NoSeer:=by
  obtain⟨⟨m1,a1,a2⟩,⟨m2,c1,c2⟩,⟨m3,d1,d2⟩,⟨mg',bm',ob',e1,e2,e3,e4,e5⟩⟩:=hse;refine⟨⟨m1,nsK a1,a2⟩,⟨m2,nsK c1,c2⟩,⟨m3,nsK d1,d2⟩,⟨mg',bm',ob',nsK e1,e2,qV e3 ?_,e4,e5⟩⟩;cases q:H bm' with
  |none=>rfl
  |some u=>
   rcases Hs bm' u q with⟨rfl,_,_⟩|⟨t,ht,rfl,_⟩
   . rw[ha]at e3;cases e3;exact absurd (show Value.type "list"=Value.type "module" from e4) (by intro z;injection z with z;exact absurd z (by decide))
   . rw[hT.at' t ht]at e3;cases e3;cases e4
 have hM:Mod K mg (pW s₁.heap H):=⟨hKb,nsK hns,⟨mb,nsK hb,hbb⟩,let⟨mc,h1,h2⟩:=hlim;⟨mc,nsK h1,h2⟩,seK,⟨bm,ob,b1,b2,hbmK,b4,b5,b6⟩⟩
 have e0:u7 P w K mg (pW s₁.heap H) callerA [] s₁ H:=⟨rfl,hM,fun b o e=>Jo e,Nat.le_of_eq (F3 _ _),trivial,fun b hb=>absurd (show b∈([]:List Addr)from hb) (by simp),aK,.of_eq hg,hgt⟩
 refine codeAny_mono ((F _ hKb (nsK hns)).run callerA [] s₁ H ⟨[.ref a],[]⟩ [.ref a] [.ref a] _ _ hr e0 (hbind s₁ (.ref a)) (.cons rfl .nil) (hsp H hE)) fun r s' h=>?_;cases r with
 |error e=>exact False.elim h
 |ok fl=>
  cases fl with
  |next=>exact False.elim h
  |brk=>exact False.elim h
  |cont=>exact False.elim h
  |ret u=>
   obtain⟨v,H',os,bare,un,hok',r',q⟩:=h;have q':v= .bl true:=q;subst q';obtain rfl:u=Value.bool true:=r';have noF:∀b:Addr,b∉qi ([]:List Env):=fun b z=>absurd (show b∈([]:List Addr)from z) (by simp);refine⟨rfl,⟨fun b o e=>?_,fun b o e=>un.there b o e (by simp)⟩,os,bare⟩;cases q:H b with
   |none=>exact .inl (un.keep b o e q (noF b) (by simp))
   |some u=>
    rcases Hs b u q with⟨rfl,_,rfl⟩|⟨t,ht,rfl,rfl⟩
    . obtain⟨e2,_⟩:=hok' b _ (un.oC b _ _ q);rw[ha]at e;cases e;exact .inl e2
    . obtain⟨more,e1⟩:=un.oo _ _ q;have e2:s'.heap.get? t.2=some {cls:= .none,data:= .fields (#[]++more)}:=hok' _ _ e1;have e3:=hT.at' t ht;rw[e3]at e;cases e;have C:PySem.W.CodeHd s₁.heap t.1 t.2:=PySem.W.codeHd_of_K KX (hT.hd t ht);exact .inr (.inl ⟨(C.tab e3).isCodeTable,rfl,#[],more,rfl,e2⟩)
theorem OE{l:PySem.W.OpenLaw}{n k:Nat}{q:Program}{loose:List Str}{XP:(Str->Option Value)->Heap->Prop}{YP:World->Heap->Prop}{d:DefRec}{K:Params->PySem.W.Frag}{sp:World->Sp}{x:Str}{ts:List (Addr×Addr)}
 (hn:l.most=some n) (hn2:n<=sizeLine) (hdf:d.params.defaults=[]) (hr:c8 k callerA) (hq:importsNone q=true) (hgt:l.prog.given.tree=none)
 (hY:∀(w:World) (h:Heap),YP w h->(K w.params).In h/\Nn (K w.params) ts h)
 (F:∀(w:World) (mg:Str->Option Value) (fa:Addr) (h:Heap),(K w.params).In h->h.Ns mainGlobals mg->mg d.name=some (.ref fa)->
   ∃fd:FuncData,(∀(s:Shared) (u:Value),BindsTo s fd ⟨[u],[]⟩ [(x,u)])/\
    ∀base:Heap,(K w.params).In base->base.Ns mainGlobals mg->bf l.prog w (K w.params) mg base (fun _ _ _ _ _ _=>False) k fa fd [x] (sp w))
 (hsp:∀(w:World) (H:Hp) (a:Addr) (ns:List Int),ns.length<=n->Entry (K w.params) ts a ns H->sp w [.ref a] H (fun v _=>v= .bl true) fun _ _ _=>False):
 PySem.W.WalkO q loose XP YP l.row.toRowW d [] (fun f vs=>PySem.call f vs):=by
 refine Att.Bs hn hdf fun w s₀ s₁ mg mb fa o pm cd doc a vs ns G Y ho hd hcd hmg hobj hints hlen hg=>?_;obtain⟨KX,hT⟩:=hY w _ Y;obtain⟨fd,hb,hF⟩:=F w mg fa _ KX G.T.g hmg;exact D0 KX G.T.g G.T.b G.T.builtins G.T.nolimit (G.T.seer hq) hgt G.T.bmain hT hg hobj hints (Nat.le_trans hlen hn2) hr hF hb fun H hE=>hsp w H a ns hlen hE
end L2
namespace L3
open PySem PySem.Spec L2
open PyProof.Rows hiding St
section
variable {X:Cx}{pins:List (Addr×Obj)}{σ:L2.St}{H:Hp}{s:Shared}{p:Addr}{o o':Obj}{h':Heap}
theorem lK{t':Nat}(I:Inv X pins σ H s)(hd:∀v,o.data≠ .cell v)(hfr:o.isFreed=false:=by rfl):Inv X (pins++[(s.heap.objs.size,o)]) σ H {s with heap:=s.heap.push o,toks:=t'}:=by
 have I':=I.kept (h':=s.heap.push o) (t':=t') (fun b u e=>Heap.get?_push_of_some _ e);refine I'.t_ fun q hq=>?_;rcases List.mem_append.mp hq with hq|hq
 . exact I'.pin q (List.mem_append_right _ hq)
 . have e:q=(s.heap.objs.size,o):=by simpa using hq
   subst e;exact⟨Heap.get?_push_size _ hfr,I.aK.fresh (Nat.le_refl _),Nat.ne_of_gt I.lt,I.NC (Nat.le_refl _),hd⟩
theorem fS(I:Inv X (pins++[(p,o)]) σ H s):s.heap.get? p=some o/\H p=none/\p≠X.env.locals/\p∉X.fs/\∀v,o.data≠ .cell v:=
 I.pin (p,o) (List.mem_append_right _ (List.mem_append_right _ (List.mem_singleton.mpr rfl)))
theorem z_(I:Inv X (pins++[(p,o)]) σ H s):∀x c,X.env.cells.lookup x=some c->c≠p:=fun x c e z=>by
 obtain⟨v,u,hu,hd⟩:=I.cell x c e;obtain⟨h1,_,_,_,h5⟩:=fS I;rw[z,h1]at hu;cases hu;exact h5 v hd
theorem oF{t':Nat}(I:Inv X (pins++[(p,o)]) σ H s)(hs:Heap.SameBut p s.heap h')(hn:h'.get? p=some o')(hd:∀v,o'.data≠ .cell v)(h0:X.s₀.heap.objs.size<=p)(hp:∀q∈X.pn++pins,q.1≠p):
 Inv X (pins++[(p,o')]) σ H {s with heap:=h',toks:=t'}:=by
 obtain⟨_,n,neL,nfs,_⟩:=fS I;have I0:Inv X pins σ H s:=I.hV;have I1:=I0.turned (t':=t') (h':=h') (it:=p) (fun b u hb e=>(hs.2 b hb).trans e) n neL (.inr h0) (z_ I) hp;refine I1.t_ fun q hq=>?_;rcases List.mem_append.mp hq with hq|hq
 . exact I1.pin q (List.mem_append_right _ hq)
 . have e:q=(p,o'):=by simpa using hq
   subst e;exact⟨hn,n,neL,nfs,hd⟩
theorem FG{u:HO}(I:Inv X (pins++[(p,o)]) σ H s)(h0:X.s₀.heap.objs.size<=p)(hp:∀q∈X.pn++pins,q.1≠p)(new:dS X.prog X.w (upd H p u) s.heap p u):Inv X pins σ (upd H p u) s:=by
 obtain⟨e0,n,neL,nfs,_⟩:=fS I;have ne:∀ {b:Addr} {w:HO},H b=some w->b≠p:=fun e=>dQ e n;have ne0:∀ {b:Addr} {w:Obj},X.s₀.heap.get? b=some w->b≠p:=fun e=>Nat.ne_of_lt (Nat.lt_of_lt_of_le (Heap.lt_size e) h0);refine⟨I.ok,I.os,I.bare,⟨I.base.keep,I.base.slot,fun b w e q hx=>?_,I.base.there,fun b xs e=>?_,fun b w y e=>?_,fun b ps e=>?_⟩,I.loc,I.cell,?_,fun x c e=>?_,fun q hq=>?_,fun b w e=>?_,I.len⟩
 . rw[aG (ne0 e)];exact I.base.free b w e q hx
 . have:=I.base.pJ b xs e;rw[aG (ne this)];exact this
 . have:=I.base.oC b w y e;rw[aG (ne this)];exact this
 . obtain⟨m,q⟩:=I.base.oo b ps e;exact⟨m,by rw[aG (ne q)];exact q⟩
 . rw[aG (Ne.symm neL)];exact I.free
 . rw[aG (z_ I x c e)];exact I.iV x c e
 . have hq':q∈X.pn++(pins++[(p,o)]):=by
    rcases List.mem_append.mp hq with z|z
    . exact List.mem_append_left _ z
    . exact List.mem_append_right _ (List.mem_append_left _ z)
   obtain⟨a1,a2,a3⟩:=I.pin q hq';exact⟨a1,by rw[aG (hp q hq)];exact a2,a3⟩
 . by_cases hb:b=p
   . subst hb;rw[a5]at e;cases e;exact new
   . rw[aG hb]at e;exact(I.aK b w e).pS (fun _ _ _ q=>q) (fun c q=>by rw[aG (ne q)];exact q) fun c xs q=>by rw[aG (ne q)];exact q
end
def nt(X:Cx)(pins:List (Addr×Obj))(σ:L2.St)(R:Hp->Prop)(own:List (Addr×Obj))(s:Shared):Prop:=∃H,Inv X (pins++own) σ H s/\R H
section
variable {X:Cx}{pins:List (Addr×Obj)}{σ:L2.St}{R:Hp->Prop}{s:Shared}{A:Around}{E:Value->Shared->Prop}{a kS:Addr}{e1 e:Nat}{keys:Array Value}{P:PySem.Fin->Shared->Prop}
structure Own(X:Cx)(pins:List (Addr×Obj))(p:Addr):Prop where
 ge:X.s₀.heap.objs.size<=p
 ne:∀q∈X.pn++pins,q.1≠p
theorem tU{H:Hp}(I:Inv X pins σ H s):Own X pins s.heap.objs.size:=⟨I.sz,fun q hq=>Nat.ne_of_lt (Heap.lt_size (I.pin q hq).1)⟩
theorem zP{p:Addr}{q:Addr×Obj}(h:Own X pins p)(hq:q.1≠p):Own X (pins++[q]) p:=⟨h.ge,fun r hr=>by
 rcases List.mem_append.mp hr with z|z
 . exact h.ne r (List.mem_append_left _ z)
 . rcases List.mem_append.mp z with z|z
   . exact h.ne r (List.mem_append_right _ z)
   . have e:r=q:=by simpa using z
     rw[e];exact hq⟩
theorem AH{x y:Addr×Obj}(J:nt X pins σ R [x,y] s):∃H,Inv X ((pins++[x])++[y]) σ H s/\R H:=by
 obtain⟨H,I,r⟩:=J;exact⟨H,by rw[List.append_assoc];exact I,r⟩
theorem Eo{x y:Addr×Obj}{H:Hp}(I:Inv X ((pins++[x])++[y]) σ H s)(r:R H):nt X pins σ R [x,y] s:=⟨H,by rw[List.append_assoc]at I;exact I,r⟩
theorem AA{st:SortSt}(J:nt X pins σ R [(a,seqObj "list" #[] e1),(kS,seqObj "list" keys e)] s)(ha:Own X pins a)(hk:Own X pins kS)(hka:kS≠a)(hz1:keys.size<=sizeLine)(hz2:(arrOf st).size<=sizeLine)(hf:failedOf st=none)
 (h:∀s' c,nt X pins σ R [(a,seqObj "list" ((arrOf st).map (·.2)) c)] s'->P (.done (.ret .none)) s'):
 wpAny (model X.prog X.w) A (PyProof.Rows.ksk_tail a false e1 (.ref kS) st) P E s:=by
 obtain⟨H,I,r⟩:=AH J;have k1:=(fS I).1;have s1:=Heap.SameBut.update s.heap kS (Obj.mapSeq fun _=>(#[]:Array Value));have I1:=oF (t':=s.toks) I s1 (get?_update_seq k1 fun _=> #[]) (fun v z=>by cases z) hk.ge (zP hk hka.symm).ne;have I2:Inv X (pins++[(a,seqObj "list" #[] e1)]) σ H {s with heap:=s.heap.update kS (Obj.mapSeq fun _=>(#[]:Array Value)),toks:=s.toks}:=I1.hV;have a1:=(fS I2).1;have s2:=Heap.SameBut.update (s.heap.update kS (Obj.mapSeq fun _=>(#[]:Array Value))) a (Obj.mapSeq fun _=>(arrOf st).map (·.2));have I3:=oF (t':=s.toks) I2 s2 (get?_update_seq a1 fun _=>(arrOf st).map (·.2)) (fun v z=>by cases z) ha.ge ha.ne;unfold ksk_tail;simp only[Bool.false_eq_true,if_false];refine wpAny_bind (listUpdate_at k1 rfl ?_ hz1 (Nat.zero_le _));refine wpAny_bind (wpAny_letGo ?_);refine wpAny_bind (seqEpoch_at a1 rfl ?_);refine wpAny_bind (listUpdate_at a1 rfl ?_ (Nat.zero_le _) (Nat.le_succ_of_le (by rw[Array.size_map];exact hz2)));rw[hf];simp only[bne_self_eq_false,Bool.false_eq_true,if_false];exact wpAny_pure (h _ _ ⟨H,I3,r⟩)
def Dh(kz:List Int)(vs out:List Value):Prop:=
 ∃ps:List (Int×Value),ps.Perm (kz.zip vs)/\out=ps.map Prod.snd/\ps.Pairwise fun p q=>p.1<=q.1
theorem BN{kz:List Int}{vs:List Value}(hk:IntsAre keys.toList kz){xs:Array Keyed}(hp:xs.Perm (keys.zip vs.toArray))(hs:SortedTo xs xs.size):Dh kz vs (xs.map (·.2)).toList:=by
 obtain⟨ps,h1,h2,h3⟩:=ksk_out hk (b:=false) hp hs;exact⟨ps,h1,h2,h3⟩
theorem IX{kz:List Int}{vs:List Value}(J:nt X pins σ R [(a,seqObj "list" #[] e1),(kS,seqObj "list" keys e)] s)(ha:Own X pins a)(hk:Own X pins kS)(hka:kS≠a)(hi:IntsAre keys.toList kz)(hl:kz.length=vs.length)(h64:vs.length<64)
 (h:∀s' out c,nt X pins σ R [(a,seqObj "list" out c)] s'->Dh kz vs out.toList->P (.done (.ret .none)) s'):
 wpAny (model X.prog X.w) A (ksk_end a false vs.toArray e1 (.ref kS) keys) P E s:=by
 have hsz:keys.size=vs.length:=by have:=hi.length;rw[Array.length_toList]at this;omega
 have hzs:(keys.zip vs.toArray).size=vs.length:=by rw[Array.size_zip,hsz,List.size_toArray,Nat.min_self]
 have hbig:vs.length<=sizeLine:=Nat.le_trans (Nat.le_of_lt h64) (by decide);unfold ksk_end;simp only[Bool.false_eq_true,if_false];by_cases h2:vs.toArray.size<2
 . rw[if_pos h2,if_pos h2];refine wpAny_bind (wpAny_pure ?_);rw[StateT.run_pure];refine wpAny_bind (wpAny_pure ?_);refine AA (st:=SortSt.mk' general' (keys.zip vs.toArray) #[] 7 none) J ha hk hka (by omega) (by show(keys.zip vs.toArray).size<=_;omega) rfl fun s' c J'=>h s' _ c J' ?_;refine BN hi (Array.Perm.refl _) fun i j hij hj=>?_;have hj':j<(keys.zip vs.toArray).size:=hj;rw[List.size_toArray]at h2;have:i=j:=by omega
   rw[this];exact Int.le_refl _
 . rw[if_neg h2,if_neg h2];rw[List.size_toArray]at h2;rw[ksk_kind hi (by omega)];refine wpAny_bind (wpAny_pure ?_)
   refine wpAny_bind (wpAny_mono (wpS_sortRuns (a₀:=keys.zip vs.toArray) (st:=SortSt.mk' oneType' (keys.zip vs.toArray) #[] 7 none)
    (Q:=fun _ st'=>(arrOf st').Perm (keys.zip vs.toArray)/\failedOf st'=none/\SortedTo (arrOf st') (keys.zip vs.toArray).size)
    (ksk_intKeys hi) ⟨Array.Perm.refl _,rfl,rfl,rfl⟩ (by omega) (by omega) fun st' b1 b2 b3=>⟨b1,b2,b3⟩) ?_ fun _ _ z=>z)
   rintro⟨⟨⟩,st'⟩ s' ⟨rfl,hp,hf,hs⟩;have hz2:=hp.size_eq;refine AA (st:=st') J ha hk hka (by omega) (by rw[hz2];omega) hf fun s' c J'=>h s' _ c J' (BN hi hp (by rw[hz2];exact hs))
theorem Gb{f:Value}{kz:List Int}{vs:List Value}(J:nt X pins σ R [(a,seqObj "list" #[] e1),(kS,seqObj "list" #[] 0)] s)(ha:Own X pins a)(hk:Own X pins kS)(hka:kS≠a)(hl:kz.length=vs.length)(h64:vs.length<64)
 (turn:∀(i:Nat) (v:Value) (k:Int),vs[i]?=some v->kz[i]?=some k->∀(own:List (Addr×Obj)) (s:Shared),nt X pins σ R own s->wpAny (model X.prog X.w) A (call f [v]) (fun u s'=>(∃t,u= .int k t)/\nt X pins σ R own s') (fun _ _=>False) s)
 (h:∀s' out c,nt X pins σ R [(a,seqObj "list" out c)] s'->Dh kz vs out.toList->P (.done (.ret .none)) s'):
 wpAny (model X.prog X.w) A (ksk_rest a f false vs.toArray e1 (.ref kS)) P E s:=by
 have hbig:vs.length<=sizeLine:=Nat.le_trans (Nat.le_of_lt h64) (by decide);unfold ksk_rest;refine wpAny_bind (wpAny_rule ?_)
 first
  |rw[List.forIn_toArray]
  |(rw[<-Array.forIn_toList];simp only[List.toList_toArray])
  |rw[<-Array.forIn_toList]
 refine wpAny_bind (ksk_fold (fun i s'=>∃kA e,nt X pins σ R [(a,seqObj "list" #[] e1),(kS,seqObj "list" kA e)] s'/\IntsAre kA.toList (kz.take i)) vs 0 s ⟨#[],0,J,by simpa using IntsAre.nil⟩ ?st ?en)
 case st=>
  rintro j x s' hx ⟨kA,e,J',hk'⟩;simp only[Nat.zero_add]at hk'⊢;have hj:j<vs.length:=(List.getElem?_eq_some_iff.mp hx).1;have hkj:kz[j]?=some (kz[j]'(by omega)):=List.getElem?_eq_getElem _
  have hz:kA.size<=vs.length:=by
   have:=hk'.length;rw[Array.length_toList,List.length_take]at this;omega
  refine wpAny_bind (wpAny_attempt (wpAny_mono (turn j x _ hx hkj _ s' J') (fun v s2 he=>?_) fun _ _ z=>z.elim));obtain⟨⟨t,rfl⟩,J2⟩:=he;obtain⟨H,I,r⟩:=AH J2;have k1:=(fS I).1;have s1:=Heap.SameBut.update s2.heap kS (Obj.mapSeq (·.push (.int (kz[j]'(by omega)) t)));have I1:=oF (t':=s2.toks) I s1 (get?_update_seq k1 (·.push (.int (kz[j]'(by omega)) t))) (fun v z=>by cases z) hk.ge (zP hk hka.symm).ne;refine wpAny_bind (listUpdate_at k1 rfl ?_ (by omega) (Nat.le_trans (Nat.le_of_eq (Array.size_push ..)) (by omega)));refine wpAny_pure ⟨rfl,_,_,Eo I1 r,?_⟩;have ek:kz.take (j+1)=kz.take j++[kz[j]'(by omega)]:=by rw[List.take_add_one,hkj];simp
  rw[ek,Array.toList_push];exact ksk_snoc hk'
 case en=>
  rintro s' ⟨kA,e,J',hk'⟩;rw[show kz.take (0+vs.length)=kz from List.take_of_length_le (by omega)]at hk';obtain⟨H,I,r⟩:=AH J';refine wpAny_bind (listItems_at (fS I).1 rfl ?_);exact IX J' ha hk hka hk' hl h64 h
theorem DL{f:Addr}{l:Addr}{kz:List Int}{vs:List Value}{H:Hp}{Q:Value->Shared->Prop}(I:Inv X pins σ H s)(r:R H)(hli:s.heap.IsList l vs.toArray)(hl:kz.length=vs.length)(h64:vs.length<64)
 (turn:∀(i:Nat) (v:Value) (k:Int),vs[i]?=some v->kz[i]?=some k->∀(own:List (Addr×Obj)) (s:Shared),nt X pins σ R own s->wpAny (model X.prog X.w) A.in1.in1 (call (.ref f) [v]) (fun u s'=>(∃t,u= .int k t)/\nt X pins σ R own s') (fun _ _=>False) s)
 (h:∀D s' out c,Own X pins D->nt X pins σ R [(D,seqObj "list" out c)] s'->Dh kz vs out.toList->Q (.ref D) s'):
 wpAny (model X.prog X.w) A (call (.builtin "sorted") [.ref l] [(Str.ofString "key",.ref f)]) Q E s:=by
 have hbig:vs.length<=sizeLine:=Nat.le_trans (Nat.le_of_lt h64) (by decide);refine call_function_entry_kw kind_sorted plain_sorted entry_sorted (ksk_s1 _ _) ?_;unfold Builtin.«sorted»;refine wpAny_bind (m:=checkCount "sorted" 1 1 _) (wpAny_pure ?_);refine wpAny_bind (collect_list hli ?_ hbig);have I1:=lK (o:=seqObj "list" #[] 0) (t':=s.toks) I (fun v z=>by cases z);have s1:=Heap.SameBut.update (s.heap.push (seqObj "list" #[] 0)) s.heap.objs.size (Obj.mapSeq (· ++vs.toArray));have I2:=oF (t':=s.toks) I1 s1 (get?_update_seq (fS I1).1 (· ++vs.toArray)) (fun v z=>by cases z) (tU I).ge (tU I).ne;have I3:Inv X pins σ H {s with heap:=(s.heap.push (seqObj "list" #[] 0)).update s.heap.objs.size (Obj.mapSeq (· ++vs.toArray)),toks:=s.toks}:=I2.hV;refine wpAny_bind (wpAny_newList ?_ hbig);generalize hs3:({s with heap:=(s.heap.push (seqObj "list" #[] 0)).update s.heap.objs.size (Obj.mapSeq (· ++vs.toArray))}:Shared)=s3;have I3':Inv X pins σ H s3:=by rw[<-hs3];exact I3
 have oD:=tU I3';have I4:=lK (o:=seqObj "list" vs.toArray 0) (t':=s3.toks) I3' (fun v z=>by cases z);have hD:=(fS I4).1;refine wpAny_bind (wpAny_holding (wpAny_call_entry_kw slot_list_sort ⟨_,hD,rfl⟩ entry_list_sort ?body (ksk_l1 _ _)))
 case body=>
  show wpAny (model X.prog X.w) A.in1.in1 (Builtin.«list.sort» ⟨[.ref s3.heap.objs.size],[(Str.ofString "key",.ref f)]⟩) _ _ _;rw[ksk_t1];unfold ksk_tree;refine wpAny_bind (listItems_at hD rfl ?_);have s5:=Heap.SameBut.update (s3.heap.push (seqObj "list" vs.toArray 0)) s3.heap.objs.size (Obj.mapSeq fun _=>(#[]:Array Value));have I5:=oF (t':=s3.toks) I4 s5 (get?_update_seq hD fun _=> #[]) (fun v z=>by cases z) oD.ge oD.ne;have hD5:=(fS I5).1;refine wpAny_bind (listUpdate_at hD rfl ?_ (by rw[List.size_toArray];exact hbig) (Nat.zero_le _));refine wpAny_bind (seqEpoch_at hD5 rfl ?_);refine wpAny_bind (wpAny_newTuple ?_ (by show vs.length<=_;exact hbig));have I6:=(lK (o:=seqObj "tuple" vs.toArray 0) (t':=s3.toks) I5 (fun v z=>by cases z)).hV;refine wpAny_bind (wpAny_newList ?_ (Nat.zero_le _));have ok:=tU I6;have I7:=lK (o:=seqObj "list" #[] 0) (t':=s3.toks) I6 (fun v z=>by cases z);refine wpAny_holding ?_
  have okp:Own X pins _:=⟨ok.ge,fun q hq=>ok.ne q (by
   rcases List.mem_append.mp hq with z|z
   . exact List.mem_append_left _ z
   . exact List.mem_append_right _ (List.mem_append_left _ z))⟩
  refine Gb (Eo I7 r) oD okp (fun z=>ok.ne (s3.heap.objs.size,_) (List.mem_append_right _ (List.mem_append_right _ (List.mem_singleton.mpr rfl))) z.symm) hl h64 turn fun s' out c J' so=>⟨_,rfl,?_⟩
  exact wpAny_pure ⟨_,rfl,h _ s' out c oD J' so⟩
end
structure nM(X:Cx)(scope:Scope)(Nc:List Str)(fr:List (Option Nat))(p:Str):Prop where
 sc:bh X scope Nc fr
 FN:∀x∈scope.names,x.2≠ .cell
 co:scope.isCoroutine=false
 gen:scope.isGenerator=false
 p0:Nc[0]?=some p
 f0:fr[0]?=some none
 loc:scope.names.lookup p=some .local
abbrev CH(X:Cx)(scope:Scope)(qual:Str)(f c:Addr)(s:Shared):Env:=PySem.W.envX qual scope s.heap.objs.size f (.ref c) (dG X.env.cells scope.names [])
def D1(X:Cx)(scope:Scope)(Nc:List Str)(qual:Str)(f c:Addr)(s:Shared)(H:Hp):Cx:=
 {X with A:=X.A.in1.in1.deeper (CH X scope qual f c s),N:=Nc,s₀:=s,H₀:=H,env:=CH X scope qual f c s,outer:=X.stack,stack:=CH X scope qual f c s::X.stack,ex:=[],fn:=fun _=>false,calm:=true,pn:=[],xe:=fun _ _=>False}
section
variable {X:Cx}{scope:Scope}{Nc:List Str}{fr:List (Option Nat)}{p qual:Str}{f c:Addr}{pins:List (Addr×Obj)}{σ:L2.St}{H:Hp}{s:Shared}
theorem Na(S:nM X scope Nc fr p)(I:Inv X pins σ H s)(hc:X.calm=true):(D1 X scope Nc qual f c s H).Ok where
 mod:=I.ok.mod
 kind:=S.sc.kind
 glob:=rfl
 blt:=rfl
 above:=Nat.le_refl _
 inj:=fun x y a h1 h2=>I.ok.inj x y a (de _ [] (fun _ _ e=>by cases e) x a h1) (de _ [] (fun _ _ e=>by cases e) y a h2)
 has:=fun x hx=>by
  have hx':scope.names.lookup x=some .cell\/scope.names.lookup x=some .free:=hx;rcases hx' with hx|hx
  . exact absurd rfl (S.FN _ (PySem.mem_of_lookup hx))
  . exact i6 scope.names [] (I.ok.has x (S.sc.free _ (PySem.mem_of_lookup hx) rfl)) (.inl (PySem.mem_of_lookup hx))
 A3:=fun x a hf _=>by cases hf
 hd:=fun _=>I.ok.hd hc
 frames:=Around.frames_deeper (by show X.A.frames=_;exact I.ok.frames)
 Cu:= .inr ⟨rfl,rfl⟩
 Ek:=fun b hb=>by cases hb
 bs:=I.bs
 sN:=Nat.le_trans I.ok.sN I.sz
 vd:=fun b o e hb=>by cases hb
 u5:=fun b hb=>by cases hb
 kT:=I.stack
 vE:=I.xM
 gt:=I.ok.gt
theorem Kr{h':Heap}{t':Nat}{v:V}{u:Value}(S:nM X scope Nc fr p)(I:Inv X pins σ H s)(hc:X.calm=true)(r:RelV v u)(hn:h'.Ns s.heap.objs.size (fun x=>[(p,u)].reverse.lookup x))
 (k:∀b o,s.heap.get? b=some o->h'.get? b=some o):Inv (D1 X scope Nc qual f c s H) [] ((σC fr σ).set 0 (some v)) H {s with heap:=h',toks:=t'} where
 ok:=Na S I hc
 os:=rfl
 bare:=I.bare
 base:=Un.kept k
 loc:=⟨_,hn,fun i x w h1 h2 h3=>by
  by_cases hi:i=0
  . subst hi;have hp:=S.p0;have e:p=x:=Option.some.inj (hp.symm.trans h1);subst e
    have hl:0<(σC fr σ).length:=by
     have:=(List.getElem?_eq_some_iff.mp h2).1;rw[List.length_set]at this;exact this
    rw[List.getElem?_set_self hl]at h2;cases h2;exact⟨u,r,.inl ⟨S.loc,by simp⟩⟩
  . rw[List.getElem?_set_ne (Ne.symm hi)]at h2;obtain⟨j,q1,q2⟩:=Cn h2;obtain⟨n1,n2,n3⟩:=S.sc.map i j x h1 q1;obtain⟨m,hm,hl⟩:=I.loc;obtain⟨u',r',lk⟩:=hl j x w n1 q2 (n3.elim (fun z=> .inr (.inl z)) fun z=> .inr (.inr z));refine⟨u',r',?_⟩;rcases lk with⟨z,_⟩|⟨_,a,e,ic⟩
    . rcases n3 with y|y<;>(rw[y]at z;cases z)
    . obtain⟨a',e'⟩:=i6 scope.names [] ⟨a,e⟩ (.inl (PySem.mem_of_lookup n2));have e2:=de _ [] (fun _ _ e=>by cases e) x a' e';rw[e]at e2;cases e2;exact .inr ⟨.inr n2,a,e',ic.keeps k⟩⟩
 cell:=fun x a h=>by
  obtain⟨v,q⟩:=I.cell x a (de _ [] (fun _ _ e=>by cases e) x a h);exact⟨v,q.keeps k⟩
 free:=I.aK.fresh (Nat.le_refl _)
 iV:=fun x a h=>I.iV x a (de _ [] (fun _ _ e=>by cases e) x a h)
 pin:=fun q hq=>by cases hq
 aK:=I.aK.kept k
 len:=by rw[List.length_set];unfold σC;rw[List.length_map];exact S.sc.len
theorem GG{R:Hp->Prop}{params:Arguments}{body:Expr}{tb:TE}{own:List (Addr×Obj)}{k:Int}{v:V}{u pm ctv:Value}(S:nM X scope Nc fr p)(hc:X.calm=true)(hr:X.A.depth<recursionLimit)
 (hb:∀(s:Shared) (H:Hp),PE (D1 X scope Nc qual f c s H) body tb)
 (hbind:∀(cl:List (Str×Addr)) (pm cd ct v:Value),bindArgs (PySem.W.kla_fn "<lambda>" qual params body scope cl pm cd ct) ⟨[v],[]⟩=pure [(p,v)])
 (r:RelV v u) (hf:(f,PySem.W.kla_obj "<lambda>" qual params body scope (dG X.env.cells scope.names []) pm c ctv)∈pins)
 (hcr:∀(H:Hp) (s:Shared),Inv X (pins++own) σ H s->R H->s.heap.CodeRec (.ref c) qual)
 (hq:∀H,R H->tb ((σC fr σ).set 0 (some v)) H fun x H'=>x= .int k/\R H') (J:nt X pins σ R own s):
 wpAny (model X.prog X.w) X.A.in1.in1 (call (.ref f) [u]) (fun u' s'=>(∃t,u'= .int k t)/\nt X pins σ R own s') (fun _ _=>False) s:=by
 obtain⟨H,I,rH⟩:=J;have ho:=(I.pin _ (List.mem_append_right _ (List.mem_append_left _ hf))).1;refine wpAny_call (PySem.W.kla_callFunE (fd:=PySem.W.kla_fn "<lambda>" qual params body scope (dG X.env.cells scope.names []) pm (.ref c) ctv) (by show X.A.depth<_;exact hr) ho rfl S.co S.gen rfl (hcr H s I rH) ?_);rw[hbind]
 refine wpAny_pure (wpAny_newFunctionEnv S.FN (fun y hy=>by
  have e:y=(p,u):=by simpa using hy
  rw[e];exact S.loc) (fun h₁ hns hsb=>?_) S.sc.kind)
 have hk:∀b o,s.heap.get? b=some o->h₁.get? b=some o:=fun b o e=>hsb.extBut b o (Nat.ne_of_lt (Heap.lt_size e)) (Heap.get?_push_of_some _ e);refine⟨I.nolimit.keeps hk,?_⟩;show codeAny _ X.A.in1.in1 (.expr body (CH X scope qual f c s)) _ _;refine PySem.W.kla_codeExpr (wpAny_mono (hb s H [] _ _ H _ (Kr S I hc r hns hk) (hq H rH)) (fun w s' he=>?_) fun e s' z=>False.elim z);obtain⟨x,H',I',rx,rfl,rH'⟩:=he;exact⟨rx,H',I.Dx (s':=s') (ch:=[]) I'.os I'.base I'.aK I'.bare (fun b z=>absurd z (by simp)),rH'⟩
theorem set_same{α:Type}:∀ {l:List α} {n:Nat} {x:α},l[n]?=some x->l.set n x=l
 | [],n,x,h=>by simp at h
 |a::l,0,x,h=>by simp at h;subst h;rfl
 |a::l,n+1,x,h=>by
  rw[List.set_cons_succ,set_same (n:=n) (by simpa using h)]
theorem GZ{params:Arguments}{body:Expr}{lpos:Pos}{c0 T:Addr}{α:List (Option Addr)}{G F:Hp}{st:ai}{n0:Nat}{b:Bool}{E:Value->Shared->Prop}{Q:Value->Shared->Prop}(S:nM X scope Nc fr p)(hcode:X.env.code= .ref c0)(hC:PySem.W.codeHdIn X.K c0 T=true)
 (hdef:defaultsOf params X.env=([],[])) (hql:X.env.qual++"<lambda>"=qual) (I:Inv X pins σ H s) (Sp:cE G F H) (SR:aW α st G) (hn0:st[n0]?=some (.tab T lpos qual b))
 (h:∀(f c:Addr) (ctv pm:Value) (G2 H2:Hp) (s2:Shared),Inv X (pins++[(f,PySem.W.kla_obj "<lambda>" qual params body scope (dG X.env.cells scope.names []) pm c ctv)]) σ H2 s2->Step α G α G2->cE G2 F H2->aW α (st.set n0 (.tab T lpos qual true)) G2->
   (some c∉α/\∃o vs t,G2 c=some (.fi o (.own c))/\o.data= .fields vs/\vs[1]?=some (.str qual t))->Q (.ref f) s2):
 wpAny (model X.prog X.w) X.A (eval (.Lambda params body scope lpos) X.env) Q E s:=by
 refine PySem.W.kla_eval hdef ?_;rw[hql];rcases SR.at' n0 _ hn0 with⟨z,_⟩|⟨a,ha,rfl,ps,gP,tr,cs⟩
 . cases z
 have hP:=I.aK a _ (Sp.get gP);have hP:s.heap.get? a=some (PySem.W.tabObj ps):=hP;have hg:s.heap.Ns mainGlobals X.mg:=I.mod.glob.keeps I.bk;obtain⟨bm,ob,b1,b2,b3,b4,b5,b6⟩:=I.mod.bmain;have b3':=I.bk _ _ b3
 have hgP:mainGlobals≠a:=fun q=>by
  obtain⟨o,es,ep,e,hd,_⟩:=hg;rw[q,hP]at e;cases e;cases hd
 have n1:bm≠mainGlobals:=fun q=>by
  obtain⟨o,es,ep,e,hd,_⟩:=hg;rw[q,e]at b3';cases b3';rw[hd]at b6;cases b6
 have n2:bm≠a:=fun q=>by rw[q,hP]at b3';cases b3';cases b4
 have hB:s.heap.BuiltinsAt X.mg a:=⟨bm,ob,b1,b2,n1,n2,b3',b4,b5,b6⟩
 have hcl:closureFor scope X.env=pure (dG X.env.cells scope.names []):=ng fun x hx hk=>I.ok.has x.1 (S.sc.free x hx hk);have C:PySem.W.CodeHd s.heap c0 a:=PySem.W.codeHd_of_K I.g_ hC;rcases cs with⟨rfl,hnf⟩|⟨rfl,c,o,vs,t,q1,q2,q3,q4,q5⟩
 . refine PySem.W.kla_makeFunction hcl I.ok.glob hg hcode C hP tr hnf hgP hB fun c' ctv h' tk hx hge hlt hrec htb=>?_;obtain⟨c2,oc,vs,t,e2,hoc,hd,hv⟩:=hrec;cases e2;have hHc:H c'=none:=I.aK.fresh hge;have hGc:G c'=none:=(Sp.none hHc).1;have hHa:H a=some (.km ps):=Sp.get gP;have hac:a≠c':=dQ hHa hHc
   let ps':=ps++ #[rawInt lpos.line,rawInt lpos.col,.ref c']
   have nb:∀ {b:Addr},H b=none->b≠a:=fun e z=>by rw[z,hHa]at e;cases e
   have I1:Inv X pins σ (upd (upd H c' (.fi oc (.own c'))) a (.km ps')) {s with heap:=h',gens:=s.gens,drawn:=s.drawn,toks:=tk}:=by
    have old:∀ {b:Addr} {u:HO},H b=some u->b≠a->upd (upd H c' (.fi oc (.own c'))) a (.km ps') b=some u:=fun e n=>by rw[aG n,aG (dQ e hHc)];exact e
    refine I.step (ch:=[]) (fun _ z=>nomatch z) (fun b o _ _ _ e n=>hx b o (nb n) e) (fun b o _ _ _ e n=>⟨o.slots,hx b o (nb n) e⟩) (fun b o _ e n=>?_) (fun b o _ e=>?_) (fun b xs e=>?_) (fun b o u e=>?_) (fun b qs e=>?_) (fun m hm=>?_) (fun b u e=>?_) I.bare
    . rw[aG (nb n),aG (Nat.ne_of_lt (Nat.lt_of_lt_of_le (Heap.lt_size e) hge))];exact n
    . by_cases hb:b=a
      . exact⟨_,by rw[hb];exact htb⟩
      . exact⟨o,hx b o hb e⟩
    . exact old e fun z=>by rw[z,hHa]at e;cases e
    . exact old e fun z=>by rw[z,hHa]at e;cases e
    . by_cases hb:b=a
      . subst hb;rw[hHa]at e;cases e;exact⟨_,a5⟩
      . exact⟨#[],by rw[old e hb];simp⟩
    . obtain⟨o,es,ep,ho,r⟩:=hm;exact⟨o,es,ep,hx _ o (nb I.free) ho,r⟩
    . by_cases hb:b=a
      . subst hb;rw[a5]at e;cases e;exact htb
      . rw[aG hb]at e;by_cases hbc:b=c'
        . subst hbc;rw[a5]at e;cases e;exact⟨hoc,_,hoc⟩
        . rw[aG hbc]at e;refine(I.aK b u e).pS (fun d w hd q=>hx d w ?_ q) (fun d q=>old q fun z=>by rw[z,hHa]at q;cases q) fun d xs q=>old q fun z=>by rw[z,hHa]at q;cases q
          rcases hd with rfl|hd
          . exact hb
          . intro z;rw[z,hHa]at hd;cases hd
   have I2:=lK (o:=PySem.W.kla_obj "<lambda>" qual params body scope (dG X.env.cells scope.names []) ((X.mg "__name__").getD .none) c' ctv) (t':=tk) I1 (fun v z=>by cases z);have gP':upd G c' (.fi oc (.own c')) a=some (.km ps):=by rw[aG hac];exact gP
   refine h _ c' ctv _ (upd (upd G c' (.fi oc (.own c'))) a (.km ps')) _ _ I2 ((Step.laid hGc).trans (Step.write (List.mem_of_getElem? ha))) ((Sp.laid hHc).write gP') ((SR.laid hGc).write ha ⟨rfl,ps',a5,?_,.inr ⟨rfl,c',oc,vs,t,?_,SR.kU hGc,?_,hd,hv⟩⟩) ⟨SR.kU hGc,oc,vs,t,?_,hd,hv⟩
   . show TriplesOk (ps++ #[rawInt lpos.line,rawInt lpos.col,.ref c']).toList;rw[Array.toList_append];exact TriplesOk_snoc _ _ _ _ tr
   . show codeAmong lpos (ps++ #[rawInt lpos.line,rawInt lpos.col,.ref c']).toList=_;rw[Array.toList_append];exact codeAmong_snoc _ tr hnf
   . rw[aG hac.symm,a5]
   . rw[aG hac.symm,a5]
 . refine PySem.W.kla_makeFunctionHit hcl I.ok.glob hg hcode C hP tr q1 hB fun ctv h' tk hk hsz=>?_;have I1:=I.kept (t':=tk) hk;have I2:=lK (o:=PySem.W.kla_obj "<lambda>" qual params body scope (dG X.env.cells scope.names []) ((X.mg "__name__").getD .none) c ctv) (t':=tk) I1 (fun v z=>by cases z);refine h _ c ctv _ G H _ I2 Step.refl Sp (by rw[set_same hn0];exact SR) ⟨q2,o,vs,t,q3,q4,q5⟩
end
def slt(p q:Int×Int):Prop:=p.1<=q.1
def z8(n0:Nat)(T:Addr)(lpos:Pos)(qual:Str)(fr:List (Option Nat))(tb te:DE):DE:=fun σ st K=>te σ st fun d st1=>∃(ns ks:List Int) (b:Bool),d= .lst (ns.map .int)/\ns.length<64/\ns.Pairwise (· < ·)/\ks.length=ns.length/\
 st1[n0]?=some (.tab T lpos qual b)/\(∀(i:Nat) (n k:Int),ns[i]?=some n->ks[i]?=some k->tb ((g5 fr σ).set 0 (some (.int n))) (st1.set n0 (.tab T lpos qual true)) fun v st2=>v= .int k/\st2=st1.set n0 (.tab T lpos qual true))/\
 ∀os:List (Int×Int),os.Perm (ks.zip ns)->os.Pairwise slt->K (.lst (os.map fun p=> .int p.2)) (st1.set n0 (.tab T lpos qual true))
theorem zk{α:List (Option Addr)}{H:Hp}:∀ {ns:List Int} {vs:List V},aM α H (ns.map D.int) vs->vs=ns.map V.int
 | [],vs,h=>by unfold aM at h;exact h
 |n::ns,vs,h=>by
  unfold aM at h;obtain⟨v,r,rfl,h1,h2⟩:=h;unfold Rep at h1;rw[h1,zk h2];rfl
theorem AY{α:List (Option Addr)}{H:Hp}:∀(ns:List Int),aM α H (ns.map D.int) (ns.map V.int)
 | []=>by unfold aM;rfl
 |n::ns=>by unfold aM;exact⟨_,_,rfl,by unfold Rep;rfl,AY ns⟩
theorem Ad:∀ {ns:List Int} {us:List Value},Vals (ns.map V.int) us->IntsAre us ns
 | [],_,.nil=> .nil
 |n::ns,_,.cons ⟨t,rfl⟩ h=> .cons n t (Ad h)
section
variable {X:Cx}{scope:Scope}{Nc:List Str}{fr:List (Option Nat)}{p x qual:Str}{params:Arguments}{e body:Expr}{te tb:DE}{lpos kpos pos ppos:Pos}{c0 T:Addr}{n0:Nat}
theorem JU(S:nM X scope Nc fr p)(hc:X.calm=true)(hr:c8 2 X.A)(hcode:X.env.code= .ref c0)(hC:PySem.W.codeHdIn X.K c0 T=true)(hdef:defaultsOf params X.env=([],[]))(hql:X.env.qual++"<lambda>"=qual)
 (hbind:∀(cl:List (Str×Addr)) (pm cd ct v:Value),bindArgs (PySem.W.kla_fn "<lambda>" qual params body scope cl pm cd ct) ⟨[v],[]⟩=pure [(p,v)])
 (hb:∀(f c:Addr) (s:Shared) (H:Hp),PE (D1 X scope Nc qual f c s H) body (LE tb)) (ha:PA X [e] (LA (ae te ao)))
 (hg:Gl X "sorted") (hm:X.mg "sorted"=none) (hv:bootBuiltins "sorted"=some (.builtin "sorted"))
 (he:backTo pos (starEach [e] X.env)=(false,eval e X.env)::backTo pos (starEach [] X.env):=by rfl) (hpl:(backTo pos (starEach [e] X.env)).any (·.1)=false:=by rfl):
 PE X (.Call (.Name "sorted" ppos) [e] [⟨some "key",.Lambda params body scope lpos,kpos⟩] pos) (LE (z8 n0 T lpos qual fr tb te)):=by
 intro pins s σ H Q I h;obtain⟨α,σd,st,K,G,F,Sp,RS,SR,t,k⟩:=h;refine wpAny_Call_Name_kw (kK I hg hm hv ?_);refine callWith_kw ?_ he hpl
 let K1:DK:=fun d st1=>∃(ns ks:List Int) (b:Bool),d= .lst (ns.map .int)/\ns.length<64/\ns.Pairwise (· < ·)/\ks.length=ns.length/\
  st1[n0]?=some (.tab T lpos qual b)/\(∀(i:Nat) (n k:Int),ns[i]?=some n->ks[i]?=some k->tb ((g5 fr σd).set 0 (some (.int n))) (st1.set n0 (.tab T lpos qual true)) fun v st2=>v= .int k/\st2=st1.set n0 (.tab T lpos qual true))/\
  ∀os:List (Int×Int),os.Perm (ks.zip ns)->os.Pairwise slt->K (.lst (os.map fun p=> .int p.2)) (st1.set n0 (.tab T lpos qual true))
 refine cz (ha pos pins s σ H (fun vs H1=>∃d v st1 α1 G1,vs=[v]/\K1 d st1/\Step α G α1 G1/\cE G1 F H1/\aW α1 st1 G1/\Rep α1 G1 d v) I
  ⟨α,σd,st,fun ds st1=>match ds with| [d]=>K1 d st1|_=>False,G,F,Sp,RS,SR,t,fun ds st1 q α1 G1 H1 vs s1 P1 S1 r1=>?_⟩) fun us s1 ⟨vs,H1,I1,rv,d,v,st1,α1,G1,hvs,kd,s1',P1,S1,r1⟩=>?_
 . match ds,q,r1 with
   | [d],q,r1=>
     unfold aM at r1;obtain⟨v,r,rfl,h1,h2⟩:=r1;unfold aM at h2;subst h2;exact⟨d,v,st1,α1,G1,rfl,q,s1,P1,S1,h1⟩
 subst hvs;obtain⟨ns,ks,b,rfl,h64,hup,hlen,hn0,hkey,hK⟩:=kd;show wpAny _ _ (evalAll ((do let v <-eval (.Lambda params body scope lpos) X.env;standAt pos;pure v)::[])) _ _ s1;refine wpAny_evalAll_cons (wpAny_bind (GZ S hcode hC hdef hql I1 P1 S1 hn0 fun f c ctv pm G2 H2 s2 I2 st2 P2 S2 ⟨hc1,o,vs,tq,hc2,hc3,hc4⟩=>wpAny_bind (wpAny_standAt (wpAny_pure (wpAny_evalAll_nil ?_)))));have r2:=r1.step st2;unfold Rep at r2;obtain⟨l,xs,rfl,hl1,hl2,hl3⟩:=r2;have exs:=zk hl3;subst exs;cases rv with
 |cons ru rn=>
  cases rn;cases ru
  have hrd:Rd H2 l (.lst (ns.map V.int)):=by
   rcases hl2 with z|⟨w,z⟩
   . exact .inl (P2.get z)
   . exact .inr ⟨w,P2.get z⟩
  obtain⟨_,aq,nn,vv,hobj⟩:=hrd.ok I2.aK;have hints:=Ad vv;have hlen2:=hints.length;have key:∀(H':Hp),(∃α' G',Step α1 G2 α' G'/\cE G' F H'/\aW α' (st1.set n0 (.tab T lpos qual true)) G')->H' c=some (.fi o (.own c)):=fun H' ⟨α',G',q1,q2,q3⟩=>q2.get (q1.ext c _ hc1 hc2);show wpAny _ _ (call (.builtin "sorted") [.ref l] [(Str.ofString "key",.ref f)]) _ _ _
  refine DL (X:=X) (pins:=pins++[(f,PySem.W.kla_obj "<lambda>" qual params body scope (dG X.env.cells scope.names []) pm c ctv)]) (R:=fun H'=>∃α' G',Step α1 G2 α' G'/\cE G' F H'/\aW α' (st1.set n0 (.tab T lpos qual true)) G') (kz:=ks) (vs:=aq)
   I2 ⟨α1,G2,Step.refl,P2,S2⟩ ⟨_,hobj,rfl,nn,rfl⟩ (by omega) (by omega) (fun i u kk hu hk own s' J=>?_) fun D s' out cc oD J so=>?_
  . have hi:i<ns.length:=by
     have:=(List.getElem?_eq_some_iff.mp hu).1;omega
    obtain⟨tt,ht⟩:=hints.get i ns[i] (List.getElem?_eq_getElem hi);have ht:some u=some (Value.int ns[i] tt):=by rw[<-hu];exact ht
    cases ht;refine GG (v:= .int ns[i]) (u:= .int ns[i] tt) S hc (by have:=hr.dp;omega) (hb f c) hbind ⟨tt,rfl⟩ (List.mem_append_right _ (List.mem_singleton.mpr rfl)) (fun H' s'' J' r'=>?_) (fun H' r'=>?_) J
    . have q:=J'.aK c _ (key H' r');exact⟨c,o,vs,tq,rfl,q.1,hc3,hc4⟩
    . obtain⟨α',G',q1,q2,q3⟩:=r';refine⟨α',(g5 fr σd).set 0 (some (.int ns[i])),_,_,G',F,q2,?_,q3,hkey i ns[i] kk (List.getElem?_eq_getElem hi) hk,fun d' st' hd α'' G'' H'' v' s'' P'' S'' r''=>?_⟩
      . exact((RS.step ((s1'.trans st2).trans q1)).comp).set 0 (by unfold Rep;rfl)
      . obtain⟨rfl,rfl⟩:=hd;unfold Rep at r'';exact⟨r'',α'',G'',q1.trans s'',P'',S''⟩
  . obtain⟨H',I',α',G',q1,q2,q3⟩:=J;obtain⟨ps,hp,ho,hs⟩:=so
    have hps:∀q∈ps,∃t,q.2= .int (numOf q.2) t:=fun q hq=>by
     have h1:=hp.mem_iff.mp hq;have h2:q.2∈aq:=(List.of_mem_zip (show(q.1,q.2)∈ks.zip aq from h1)).2;obtain⟨n,t,e⟩:=hints.all _ h2;exact⟨t,by rw[e];rfl⟩
    have hos:(ps.map fun q=>(q.1,numOf q.2)).Perm (ks.zip ns):=by
     have h1:=hp.map fun q:Int×Value=>(q.1,numOf q.2)
     have e:(ks.zip aq).map (fun q:Int×Value=>(q.1,numOf q.2))=ks.zip ns:=by
      rw[<-hints.nums,List.zip_map_right];exact List.map_congr_left fun⟨a,b⟩ _=>rfl
     rw[e]at h1;exact h1
    have hpw:(ps.map fun q=>(q.1,numOf q.2)).Pairwise slt:=by rw[List.pairwise_map];exact hs
    have kk:=hK _ hos hpw;rw[List.map_map]at kk;have hD0:=fS I'
    have vout:Vals ((ps.map fun q=>numOf q.2).map V.int) out.toList:=by
     rw[ho];clear hos hpw kk hs hp ho;induction ps with
     |nil=>exact .nil
     |cons q r ih=>
      obtain⟨t,e⟩:=hps q (List.mem_cons_self ..);exact .cons ⟨t,e⟩ (ih fun z hz=>hps z (List.mem_cons_of_mem _ hz))
    have hlo:(ps.map fun q=>numOf q.2).length<=sizeLine:=by
     rw[List.length_map,hp.length_eq,List.length_zip];exact Nat.le_trans (Nat.min_le_left _ _) (Nat.le_trans (show ks.length<=64 by omega) (by decide))
    have I3:=FG (u:= .lst ((ps.map fun q=>numOf q.2).map V.int)) I' oD.ge oD.ne ⟨by rw[List.length_map];exact hlo,out.toList,cc,vout,hD0.1⟩;have hG:=(q2.none hD0.2.1).1;refine⟨.ref D,_,I3.hV,rfl,k _ _ kk α' _ _ _ ((s1'.trans st2).trans (q1.trans (Step.laid hG))) (q2.laid hD0.2.1) (q3.laid hG) ?_⟩;unfold Rep;refine⟨D,_,rfl,q3.kU hG,.inl a5,?_⟩;have e:List.map ((fun p:Int×Int=>L3.D.int p.snd)∘fun q:Int×Value=>(q.fst,numOf q.snd)) ps=(ps.map fun q=>numOf q.2).map L3.D.int:=by rw[List.map_map];rfl
    rw[e];exact AY _
end
end L3
namespace L3
open PySem L2
open PySem.Spec hiding items?
open PyProof.Rows hiding St
def Ho(sc:Scope)(N gl:List Str):Bool:=
 N.all (fun x=>(sc.names.lookup x==some .local||sc.names.lookup x==some .cell)&&x != "__debug__"&&x != "__classdict__")&&gl.all (fun x=>sc.names.lookup x==some .globalImplicit&&x != "__debug__")
structure VS(sc:Scope)(N gl:List Str):Prop where
 ok:Ho sc N gl=true
theorem VS.at_{sc:Scope}{N gl:List Str}(V:VS sc N gl){i:Nat}{x:Str}(h:N[i]?=some x):Loc sc x/\(x==("__debug__":Str))=false/\(x==("__classdict__":Str))=false:=by
 have o:=V.ok;unfold Ho at o;have:=List.all_eq_true.mp (Bool.and_eq_true_iff.mp o).1 x (List.mem_of_getElem? h);simp only[Bool.and_eq_true,Bool.or_eq_true,beq_iff_eq,bne_iff_ne,ne_eq]at this;exact⟨this.1.1,beq_false_of_ne this.1.2,beq_false_of_ne this.2⟩
theorem VS.Pw{sc:Scope}{N gl:List Str}(V:VS sc N gl){i:Nat}{x:Str}(h:gl[i]?=some x):sc.names.lookup x=some .globalImplicit/\(x==("__debug__":Str))=false:=by
 have o:=V.ok;unfold Ho at o;have:=List.all_eq_true.mp (Bool.and_eq_true_iff.mp o).2 x (List.mem_of_getElem? h);simp only[Bool.and_eq_true,beq_iff_eq,bne_iff_ne,ne_eq]at this;exact⟨this.1,beq_false_of_ne this.2⟩
section
variable {X:Cx}{sc:Scope}{N gl:List Str}{x:Str}{pos:Pos}
theorem VS.nm(V:VS X.env.scope X.N gl)(i:Nat)(h:X.N[i]?=some x:=by rfl):JE X (.Name x pos) (af i):=
 let q:=V.at_ h
 EK q.2.1 q.2.2 (q.1.elim .inl fun z=> .inr (.inl z)) h
theorem VS.l(V:VS sc N gl)(i:Nat)(h:N[i]?=some x:=by rfl):Loc sc x:=(V.at_ h).1
theorem VS.g(V:VS sc N gl)(i:Nat)(h:gl[i]?=some x:=by rfl):sc.names.lookup x=some .globalImplicit:=(V.Pw h).1
theorem VS.d(V:VS sc N gl)(i:Nat)(h:gl[i]?=some x:=by rfl):(x==("__debug__":Str))=false:=(V.Pw h).2
theorem cW{n:Nat}(hN:X.N[n]?=some x:=by rfl)(hd:((x==("__debug__":Str))||(x==("__classdict__":Str)))=false:=by decide+kernel)
 (hv:AJ X.env.scope x:=by first|exact Or.inl rfl|exact Or.inr (Or.inl rfl)|exact Or.inr (Or.inr rfl)):JE X (.Name x pos) (af n):=
 EK (Bool.or_eq_false_iff.mp hd).1 (Bool.or_eq_false_iff.mp hd).2 hv hN
@[irreducible] def jN:dX:=yb (fun _ j=>j≠0) fun i j=> .int (i.fdiv j)
theorem nY{k:Nat}(hr:c8 k X.A)(hs:X.stack=X.env::X.outer)(hgen:X.env.scope.isGenerator=false)(hco:X.env.scope.isCoroutine=false):cJ X (binaryOp .FloorDiv) (LR jN):=by
 unfold jN;refine ot (g':=fun i j=> .int (i.fdiv j)) (fun _ _ _ _=>by unfold Rep;rfl) ?_;intro pins s σ H x y v u Q I rx ry h;obtain⟨i,j,rfl,rfl,hc,q⟩:=h;obtain⟨t,rfl⟩:=rx;obtain⟨t',rfl⟩:=ry;refine floordiv_int hc ⟨.int (i.fdiv j),H,I.tok _,⟨_,rfl⟩,q⟩ (.inr (PySem.PylongRoom.of I.nolimit ?_ ?_))
 . have:=hr.dp;show X.A.depth+100<_;omega
 . exact PySem.SeerAt.of (env:=X.env) (l:=X.outer) (I.mod.seer.keeps I.bk) I.ok.gt (by rw[I.ok.frames,hs]) hgen hco I.ok.blt I.ok.glob
theorem iW{st:ai}{K:DK}{i j:Int}(h0:j≠0)(k:K (.int (i.fdiv j)) st):jN (.int i) (.int j) st K:=by unfold jN;exact⟨h0,k⟩
theorem nM.look{scope:Scope}{Nc:List Str}{fr:List (Option Nat)}{p:Str}(S:bh X scope Nc fr)(h:(scope.names.all (fun x=>x.2 != .cell)&&(!scope.isCoroutine&& !scope.isGenerator)&&(scope.names.lookup p==some .local))=true:=by decide+kernel)
 (p0:Nc[0]?=some p:=by rfl) (f0:fr[0]?=some none:=by rfl):nM X scope Nc fr p:=by
 simp only[Bool.and_eq_true,Bool.not_eq_true',beq_iff_eq]at h;exact⟨S,fun x hx=>by simpa using List.all_eq_true.mp h.1.1 x hx,h.1.2.1,h.1.2.2,p0,f0,h.2⟩
theorem J_{scope:Scope}{Nc:List Str}{fr:List (Option Nat)}{p qual:Str}{params:Arguments}{e body:Expr}{te tb:DE}{lpos kpos pos ppos:Pos}{c0 T:Addr}{n0 k:Nat}(S:nM X scope Nc fr p)(hc:X.calm=true)(hr:c8 k X.A)(hcode:X.env.code= .ref c0)(hC:PySem.W.codeHdIn X.K c0 T=true)
 (hb:∀(f c:Addr) (s:Shared) (H:Hp),JE (D1 X scope Nc qual f c s H) body tb) (he:JE X e te) (hg:X.env.kindOf "sorted"=some .globalImplicit) (hm:X.mg "sorted"=none)
 (hdef:defaultsOf params X.env=([],[]):=by rfl) (hql:X.env.qual++"<lambda>"=qual:=by rfl)
 (hbind:∀(cl:List (Str×Addr)) (pm cd ct v:Value),bindArgs (PySem.W.kla_fn "<lambda>" qual params body scope cl pm cd ct) ⟨[v],[]⟩=pure [(p,v)]:=by(intros;rfl)) (hk:2<=k:=by decide)
 (he1:starEach [e] X.env=(false,eval e X.env)::starEach [] X.env:=by rfl):
 JE X (.Call (.Name "sorted" ppos) [e] [⟨some "key",.Lambda params body scope lpos,kpos⟩] pos) (z8 n0 T lpos qual fr tb te):=by
 unfold JE at he hb⊢;refine JU S hc (hr.mono hk) hcode hC hdef hql hbind hb (nS he tK he1) hg hm rfl ?_ ?_
 . rw[he1];rfl
 . rw[he1];rfl
end
structure MG(K:PySem.W.Frag)(x qual:Str)(st:Stmt)(f:Addr)(fd:FuncData)(c:Addr):Prop where
 ex:∃(oc:Value) (od:Option Addr) (kV doc pm:Value) (an:Option Addr) (ct:Value) (osl:Array (Option Value)),
  fd=PySem.W.fnOf x qual (kl st) (gZ st) (aj st) .none kV doc pm an (.ref c) ct/\K.lookup f=some ⟨oc,od,.func fd,osl⟩/\PySem.W.codeIn K (.ref c) qual=true
theorem LN{P:Program}{w:World}{K:PySem.W.Frag}{mg:Str->Option Value}{base:Heap}{x qual:Str}{st:Stmt}{f c:Addr}{fd:FuncData}{N ps:List Str}{k:Nat}{sp:cA}{t:DS}(F:MG K x qual st f fd c)(S:aN N ps (aj st))
 (hbody:∀(A:Around) (outer:List Env) (s:Shared) (H:Hp) (E:XK),c8 k (A.deeper (envOfC qual (aj st) s.heap.objs.size f (.ref c)))->JB (qT cD P w K mg base N qual (aj st) f (.ref c) A outer s H E).wI (gZ st) t)
 (hsp:∀ds st K,sp ds st K->ds.length=ps.length/\t {nx:=fun _ st'=>K .aE st',rt:=K} (aU N ds) st):bf P w K mg base cD (k+1) f fd ps (cG sp):=by
 obtain⟨oc,od,kV,doc,pm,an,ct,osl,rfl,lk,hcd⟩:=F.ex;unfold JB at hbody;refine HS lk hcd S (fun vs H Q E h=>?_) fun A outer s H vs Q E hr h=>?_
 . obtain⟨α,ds,st,K,G,F,P,R,S,q,k⟩:=h;rw[<-R.length];exact(hsp ds st K q).1
 . obtain⟨α,ds,st,K,G,F',P,R,SR,q,k⟩:=h;refine⟨_,(hbody A outer s H E hr).wI,α,aU N ds,st,_,G,F',P,eg.start R,SR,(hsp ds st K q).2,?_,k,?_,?_⟩
   . intro σd' st' kk α' G' H' σ' s' P' R' S';exact k .aE st' kk α' G' H' .aE s' P' S' (by unfold Rep;rfl)
   . intro σd' st' kk;exact kk.elim
   . intro σd' st' kk;exact kk.elim
def EV(tl:List (Addr×Pos×Str)):cA:=fun ds st K=>∃ns:List Int,ds=[.lst (ns.map .int)]/\ns.length<=63/\st=tl.map (fun q=> .tab q.1 q.2.1 q.2.2 false)/\∀st',K (.bl true) st'
def Fl(K:PySem.W.Frag)(ts:List (Addr×Addr)):Sp:=fun vs H Q _=>∃(a:Addr) (ns:List Int),vs=[.ref a]/\Entry K ts a ns H/\ns.length<=63/\∀H',Q (.bl true) H'
theorem EF{K:PySem.W.Frag}{ts:List (Addr×Addr)}{tl:List (Addr×Pos×Str)}(nl:FH K=true)(hts:ts.map (·.2)=tl.map (·.1))(nd:(tl.map (·.1)).Nodup){vs:List V}{H:Hp}{Q:VK}{E:XK}(h:Fl K ts vs H Q E):cG (EV tl) vs H Q E:=by
 obtain⟨a,ns,rfl,hE,hl,q⟩:=h
 have tabs:∀q∈tl,H q.1=some (.km #[])/\q.1≠a:=fun q hq=>by
  have h1:q.1∈ts.map (·.2):=by rw[hts];exact List.mem_map_of_mem hq
  obtain⟨t,ht,e⟩:=List.mem_map.mp h1;rw[<-e];exact hE.tab t ht
 have at_:∀(i:Nat) (x:Addr),(tl.map fun q=>some q.1)[i]?=some (some x)->∃q,tl[i]?=some q/\q.1=x:=fun i x e=>by
  rw[List.getElem?_map]at e;cases z:tl[i]? with
  |none=>rw[z]at e;cases e
  |some w=>rw[z]at e;simp at e;exact⟨w,rfl,e⟩
 have nota:some a∉tl.map fun q=>some q.1:=fun z=>by
  obtain⟨w,hw,e⟩:=List.mem_map.mp z;exact(tabs w hw).2 (Option.some.inj e)
 rcases hE.lst with hS|⟨o,aq,n,e,hc,_⟩
 . refine⟨tl.map fun q=>some q.1,[.lst (ns.map .int)],tl.map (fun q=> .tab q.1 q.2.1 q.2.2 false),fun d _=>d= .bl true,H,fun _=>none,⟨fun b=>by cases H b<;>rfl,fun _ _ _=>rfl⟩,?_,⟨by simp,fun i j x e1 e2=>?_,fun n c e=>?_⟩,⟨ns,rfl,hl,rfl,fun _=>rfl⟩,?_⟩
   . unfold aM;refine⟨.ref a,[],rfl,?_,by unfold aM;rfl⟩;unfold Rep;exact⟨a,ns.map V.int,rfl,nota,hS,ya ns⟩
   . obtain⟨p,hp,e3⟩:=at_ i x e1;obtain⟨r,hr,e4⟩:=at_ j x e2;have k1:(tl.map (·.1))[i]?=some x:=by rw[List.getElem?_map,hp,<-e3];rfl
     have k2:(tl.map (·.1))[j]?=some x:=by rw[List.getElem?_map,hr,<-e4];rfl
     have hi:=(List.getElem?_eq_some_iff.mp k1).1;exact(List.getElem?_inj hi nd).mp (k1.trans k2.symm)
   . rw[List.getElem?_map]at e;cases z:tl[n]? with
     |none=>rw[z]at e;cases e
     |some w=>
      rw[z]at e;have e':Cell.tab w.1 w.2.1 w.2.2 false=c:=Option.some.inj e;subst e';refine .inr ⟨w.1,by rw[List.getElem?_map,z];rfl,rfl,#[],(tabs w (List.mem_of_getElem? z)).1,trivial,.inl ⟨rfl,rfl⟩⟩
   . rintro d st' rfl α' G' H' v _ _ _ r;unfold Rep at r;subst r;exact q H'
 . exact absurd hc (yv nl e)
section
variable {K:PySem.W.Frag}{x qual p1 p2 p3 p4 p5:Str}{st:Stmt}{f:Addr}{fd:FuncData}
abbrev sr(x qual:Str)(st:Stmt)(kV doc pm:Value)(an:Option Addr)(cdv ct:Value):FuncData:=PySem.W.fnOf x qual (kl st) (gZ st) (aj st) .none kV doc pm an cdv ct
theorem gE{α:Type}{n:Nat}{us:List α}(h:us.length=n+1):∃a r,us=a::r/\r.length=n:=by
 cases us with
 |nil=>cases h
 |cons a r=>exact⟨a,r,rfl,Nat.succ.inj h⟩
theorem uh{α:Type}{us:List α}(h:us.length=0):us=[]:=List.length_eq_zero_iff.mp h
theorem Q3(F:ou K x qual st f fd)(h:∀kV doc pm an cdv ct a,bindArgs (sr x qual st kV doc pm an cdv ct) ⟨[a],[]⟩=pure [(p1,a)]):Binds K fd [p1] []:=
 F.binds fun kV doc pm an cdv ct us hl=>by
  obtain⟨a,r1,rfl,h1⟩:=gE hl;cases uh h1;exact h kV doc pm an cdv ct a
theorem PN(F:ou K x qual st f fd)(h:∀kV doc pm an cdv ct a b,bindArgs (sr x qual st kV doc pm an cdv ct) ⟨[a,b],[]⟩=pure [(p1,a),(p2,b)]):Binds K fd [p1,p2] []:=
 F.binds fun kV doc pm an cdv ct us hl=>by
  obtain⟨a,r1,rfl,h1⟩:=gE hl;obtain⟨b,r2,rfl,h2⟩:=gE h1;cases uh h2;exact h kV doc pm an cdv ct a b
theorem Pz(F:ou K x qual st f fd)(h:∀kV doc pm an cdv ct a b c,bindArgs (sr x qual st kV doc pm an cdv ct) ⟨[a,b,c],[]⟩=pure [(p1,a),(p2,b),(p3,c)]):Binds K fd [p1,p2,p3] []:=
 F.binds fun kV doc pm an cdv ct us hl=>by
  obtain⟨a,r1,rfl,h1⟩:=gE hl;obtain⟨b,r2,rfl,h2⟩:=gE h1;obtain⟨c,r3,rfl,h3⟩:=gE h2;cases uh h3;exact h kV doc pm an cdv ct a b c
theorem PZ(F:ou K x qual st f fd)(h:∀kV doc pm an cdv ct a b c d,bindArgs (sr x qual st kV doc pm an cdv ct) ⟨[a,b,c,d],[]⟩=pure [(p1,a),(p2,b),(p3,c),(p4,d)]):Binds K fd [p1,p2,p3,p4] []:=
 F.binds fun kV doc pm an cdv ct us hl=>by
  obtain⟨a,r1,rfl,h1⟩:=gE hl;obtain⟨b,r2,rfl,h2⟩:=gE h1;obtain⟨c,r3,rfl,h3⟩:=gE h2;obtain⟨d,r4,rfl,h4⟩:=gE h3;cases uh h4;exact h kV doc pm an cdv ct a b c d
end
section
variable {X:Cx}
end
mutual
theorem Cz{α:List (Option Addr)}{G:Hp}:∀(n:Nat) {d:D} {v:V},pl n d=true->Rep α G d v->Rep [] G d v
 |_,.aE,_,_,h=>by unfold Rep at h⊢;exact h
 |_,.bl _,_,_,h=>by unfold Rep at h⊢;exact h
 |_,.int _,_,_,h=>by unfold Rep at h⊢;exact h
 |_,.str _,_,_,h=>by unfold Rep at h⊢;exact h
 |_,.ty _,_,p,_=>by unfold pl at p;cases p
 |_,.ref _,_,p,_=>by unfold pl at p;cases p
 |0,.lst _,_,p,_=>by unfold pl at p;cases p
 |0,.tup _,_,p,_=>by unfold pl at p;cases p
 |n+1,.lst xs,_,p,h=>by
  unfold pl at p;unfold Rep at h⊢;obtain⟨a,vs,e,_,r,q⟩:=h;exact⟨a,vs,e,by simp,r,qG n p q⟩
 |n+1,.tup xs,_,p,h=>by
  unfold pl at p;unfold Rep at h⊢;obtain⟨a,vs,e,_,r,q⟩:=h;exact⟨a,vs,e,by simp,r,qG n p q⟩
theorem qG{α:List (Option Addr)}{G:Hp}:∀(n:Nat) {ds:List D} {vs:List V},ds.all (pl n)=true->aM α G ds vs->aM [] G ds vs
 |_,[],_,_,h=>by unfold aM at h⊢;exact h
 |n,d::ds,_,p,h=>by
  rw[List.all_cons,Bool.and_eq_true]at p;unfold aM at h⊢;obtain⟨v,r,e,h1,h2⟩:=h;exact⟨v,r,e,Cz n p.1 h1,qG n p.2 h2⟩
end
section
variable {X:Cx}
def wI(X:Cx):Cx:={X with xe:=fun _ _=>False}
end
variable {st:ai}{K:D->ai->Prop}{i j:Int}
section
variable {X:Cx}{pos:Pos}
end
end L3
namespace L3
open PySem L2
structure ClsAt(K:PySem.W.Frag)(mg:Str->Option Value)(x:Str)(C:Addr):Prop where
 cl:oP K C
 mg:mg x=some (.ref C)
 QU:PySem.W.makesIn K C=true
 kp:PySem.W.keepIn K (.ref C)=true
structure MethAt(K:PySem.W.Frag)(C:Addr)(m qual:Str)(st:Stmt)(ps:List Str)(f:Addr)(fd:FuncData):Prop where
 fn:ou K m qual st f fd
 me:Meth K C m f
 bd:Binds K fd ps []
end L3
namespace Hd
open PySem PySem.W L2 L3
open PySem.Spec hiding items?
open PyProof.Rows hiding St
section
variable {K:Frag}{mg:Str->Option Value}{h:Heap}{x q:Str}{st:Stmt}{f c C:Addr}{pm:Value}{p1 p2 p3 p4 p5 p6:Str}
abbrev Ed(K:Frag)(x:Str)(st:Stmt)(f:Addr)(pm:Value)(c:Addr):Prop:=(nsIn K mainGlobals x,K.lookup f,codeIn K (.ref c) x,keepIn K (.ref f))=(some (some (.ref f)),some (fq st x x pm c),true,true)
abbrev Em(K:Frag)(C:Addr)(x q:Str)(st:Stmt)(f:Addr)(pm:Value)(c:Addr):Prop:=(findIn K (.ref C) x,isFn K (.ref f),K.lookup f,codeIn K (.ref c) q,keepIn K (.ref f))=(some (some (.ref f)),true,some (fq st x q pm c),true,true)
theorem Ed.fn(e:Ed K x st f pm c):ou K x x st f (fd st x x pm c)/\nsIn K mainGlobals x=some (some (.ref f)):=by
 obtain⟨e1,e2,e3,e4⟩:_/\_/\_/\_:=by simpa only[Prod.mk.injEq]using e
 exact⟨E3 (st:=st) e2 e3 e4,e1⟩
theorem Em.fn(e:Em K C x q st f pm c):ou K x q st f (fd st x q pm c)/\Meth K C x f:=by
 obtain⟨e1,e2,e3,e4,e5⟩:_/\_/\_/\_/\_:=by simpa only[Prod.mk.injEq]using e
 exact⟨E3 (st:=st) e3 e4 e5,e1,e2,e5⟩
theorem oR(X:K.In h)(G:h.Ns mainGlobals mg)(e:Ed K x st f pm c)(b:∀kV doc pm an cdv ct a,bindArgs (sr x x st kV doc pm an cdv ct) ⟨[a],[]⟩=pure [(p1,a)]):bE K mg x x st [p1] f (fd st x x pm c):=⟨e.fn.1,mg_of X G e.fn.2,Q3 e.fn.1 b⟩
theorem il(X:K.In h)(G:h.Ns mainGlobals mg)(e:Ed K x st f pm c)(b:∀kV doc pm an cdv ct a1 a2,bindArgs (sr x x st kV doc pm an cdv ct) ⟨[a1,a2],[]⟩=pure [(p1,a1),(p2,a2)]):bE K mg x x st [p1,p2] f (fd st x x pm c):=⟨e.fn.1,mg_of X G e.fn.2,PN e.fn.1 b⟩
theorem x8(X:K.In h)(G:h.Ns mainGlobals mg)(e:Ed K x st f pm c)(b:∀kV doc pm an cdv ct a1 a2 a3,bindArgs (sr x x st kV doc pm an cdv ct) ⟨[a1,a2,a3],[]⟩=pure [(p1,a1),(p2,a2),(p3,a3)]):bE K mg x x st [p1,p2,p3] f (fd st x x pm c):=⟨e.fn.1,mg_of X G e.fn.2,Pz e.fn.1 b⟩
theorem Q1(X:K.In h)(G:h.Ns mainGlobals mg)(e:Ed K x st f pm c)(b:∀kV doc pm an cdv ct a1 a2 a3 a4,bindArgs (sr x x st kV doc pm an cdv ct) ⟨[a1,a2,a3,a4],[]⟩=pure [(p1,a1),(p2,a2),(p3,a3),(p4,a4)]):bE K mg x x st [p1,p2,p3,p4] f (fd st x x pm c):=⟨e.fn.1,mg_of X G e.fn.2,PZ e.fn.1 b⟩
theorem PD(e:Em K C x q st f pm c)(b:∀kV doc pm an cdv ct a1 a2,bindArgs (sr x q st kV doc pm an cdv ct) ⟨[a1,a2],[]⟩=pure [(p1,a1),(p2,a2)]):MethAt K C x q st [p1,p2] f (fd st x q pm c):=⟨e.fn.1,e.fn.2,PN e.fn.1 b⟩
theorem HK(e:Em K C x q st f pm c)(b:∀kV doc pm an cdv ct a1 a2 a3,bindArgs (sr x q st kV doc pm an cdv ct) ⟨[a1,a2,a3],[]⟩=pure [(p1,a1),(p2,a2),(p3,a3)]):MethAt K C x q st [p1,p2,p3] f (fd st x q pm c):=⟨e.fn.1,e.fn.2,Pz e.fn.1 b⟩
theorem Q5(e:Em K C x q st f pm c)(b:∀kV doc pm an cdv ct a1 a2 a3 a4,bindArgs (sr x q st kV doc pm an cdv ct) ⟨[a1,a2,a3,a4],[]⟩=pure [(p1,a1),(p2,a2),(p3,a3),(p4,a4)]):MethAt K C x q st [p1,p2,p3,p4] f (fd st x q pm c):=⟨e.fn.1,e.fn.2,PZ e.fn.1 b⟩
theorem fc(e:(K.lookup f,codeIn K (.ref c) q)=(some (fq st x q pm c),true)):MG K x q st f (fd st x q pm c) c:=by
 obtain⟨e1,e2⟩:_/\_:=by simpa only[Prod.mk.injEq]using e
 exact⟨_,_,_,_,_,_,_,_,rfl,e1,e2⟩
theorem na{a:Str}(e:findIn K (.ref C) a=some none):gq K C a:=e
end
end Hd
namespace L3
open PySem L2
open PySem.Spec hiding items?
open PyProof.Rows hiding St
section
variable {X:Cx}{pos:Pos}
end
end L3
namespace L3
open PySem L2
open PySem.Spec hiding items?
@[irreducible] def vj:dX:=fun x y st K=>∃(n:Nat) (xs:List D),x= .ref n/\st[n]?=some (.lst xs)/\xs.all (pl 39)=true/\pl 40 y=true/\K (.bl (!bU (.lst xs) y)) st
theorem HM{X:Cx}{k:Nat}(hr:c8 k X.A):cJ X (compareOp .NotEq) (LR vj):=fun pins s σ H x y v u Q I rx ry ⟨α,d,e,st,K,G,F',P,r1,r2,S,q,k⟩=>by
 have hu:=hr.units;unfold vj at q;obtain⟨n,xs,rfl,hn,h2,h3,q⟩:=q
 have r1':Rep [] G (.lst xs) x:=by
  obtain⟨a,ea,vs,g1,g2⟩:=S.fZ hn;have:=d7 ea r1;subst this;unfold Rep;exact⟨a,vs,rfl,by simp,.inl g1,qG 39 h2 g2⟩
 exact Iu I 40 X.A _ e x y v u (by unfold pl;exact h2) h3 (r1'.mono P.same) ((Cz 40 h3 r2).mono P.same) rx ry (by omega) _ _ _ _ ⟨.bl _,H,I,rfl,k.here P q S (by unfold Rep;rfl)⟩
theorem MX{st:ai}{K:DK}{n:Nat}{xs:List D}{y:D}(h0:st[n]?=some (.lst xs))(h2:xs.all (pl 39)=true)(h3:pl 40 y=true)(k:K (.bl (!bU (.lst xs) y)) st):vj (.ref n) y st K:=by
 unfold vj;exact⟨n,xs,rfl,h0,h2,h3,k⟩
end L3
namespace Mx
def S:Nat->(Nat->Int)->Int
 |0,_=>0
 |n+1,f=>S n f+f n
theorem aY{n:Nat}{f g:Nat->Int}(h:∀i,i<n->f i=g i):S n f=S n g:=by
 induction n with
 |zero=>rfl
 |succ n ih=>unfold S;rw[ih fun i hi=>h i (by omega),h n (by omega)]
theorem qc{n:Nat}{f:Nat->Int}(h:∀i,i<n->f i=0):S n f=0:=by
 induction n with
 |zero=>rfl
 |succ n ih=>unfold S;rw[ih fun i hi=>h i (by omega),h n (by omega)];rfl
theorem jY(n:Nat)(f g:Nat->Int):S n (fun i=>f i+g i)=S n f+S n g:=by
 induction n with
 |zero=>rfl
 |succ n ih=>unfold S;rw[ih];dsimp only;omega
theorem gg(n:Nat)(c:Int)(f:Nat->Int):S n (fun i=>c*f i)=c*S n f:=by
 induction n with
 |zero=>unfold S;rw[Int.mul_zero]
 |succ n ih=>unfold S;rw[ih,Int.mul_add]
theorem Ec(n:Nat)(c:Int)(f:Nat->Int):S n (fun i=>f i*c)=S n f*c:=by
 induction n with
 |zero=>unfold S;rw[Int.zero_mul]
 |succ n ih=>unfold S;rw[ih,Int.add_mul]
theorem DV(n:Nat)(f:Nat->Int):S n (fun i=> -f i)= -S n f:=by
 induction n with
 |zero=>rfl
 |succ n ih=>unfold S;rw[ih];dsimp only;omega
theorem zB(m n:Nat)(f:Nat->Nat->Int):S m (fun i=>S n fun j=>f i j)=S n fun j=>S m fun i=>f i j:=by
 induction m with
 |zero=>exact(qc (n:=n) (fun i _=>rfl)).symm
 |succ m ih=>
  have:S n (fun j=>S (m+1) fun i=>f i j)=S n fun j=>(S m fun i=>f i j)+f m j:=aY fun j _=>rfl;rw[this,jY,<-ih];rfl
theorem qS{n:Nat}{k:Nat}(hk:k<n){f:Nat->Int}(h:∀i,i<n->i≠k->f i=0):S n f=f k:=by
 induction n with
 |zero=>omega
 |succ n ih=>
  unfold S;by_cases e:k=n
  . subst e;rw[qc fun i hi=>h i (by omega) (by omega),Int.zero_add]
  . rw[ih (by omega) fun i hi hn=>h i (by omega) hn,h n (by omega) (by omega),Int.add_zero]
theorem zA(n:Nat)(f:Nat->Int):S (n+1) f=f 0+S n fun i=>f (i+1):=by
 induction n with
 |zero=>unfold S S;omega
 |succ n ih=>
  have:S (n+1+1) f=S (n+1) f+f (n+1):=rfl;rw[this,ih];have:S (n+1) (fun i=>f (i+1))=S n (fun i=>f (i+1))+f (n+1):=rfl;rw[this];omega
def dl(i j:Nat):Int:=if i=j then 1 else 0
theorem eZ(i:Nat):dl i i=1:=if_pos rfl
theorem fu{i j:Nat}(h:i≠j):dl i j=0:=if_neg h
theorem qp{n k:Nat}(hk:k<n)(f:Nat->Int):S n (fun i=>dl k i*f i)=f k:=by
 rw[qS hk (fun i _ h=>by rw[fu (Ne.symm h),Int.zero_mul]),eZ,Int.one_mul]
theorem sT{n k:Nat}(hk:k<n)(f:Nat->Int):S n (fun i=>f i*dl i k)=f k:=by
 rw[qS hk (fun i _ h=>by rw[fu h,Int.mul_zero]),eZ,Int.mul_one]
abbrev Row:=List Int
abbrev Rows:=List (List Int)
def g(A:Rows)(i j:Nat):Int:=(A.getD i []).getD j 0
structure dY(m n:Nat)(A:Rows):Prop where
 len:A.length=m
 lB:∀r∈A,r.length=n
theorem bQ{α:Type}{l:List α}{i:Nat}{d:α}(h:i<l.length):l.getD i d=l[i]:=by
 rw[List.getD_eq_getElem?_getD,List.getElem?_eq_getElem h];rfl
theorem n_{α:Type}{l:List α}{i:Nat}{d:α}(h:l.length<=i):l.getD i d=d:=by
 rw[List.getD_eq_getElem?_getD,List.getElem?_eq_none h];rfl
theorem JK{a b:Row}{n:Nat}(ha:a.length=n)(hb:b.length=n)(h:∀j,j<n->a.getD j 0=b.getD j 0):a=b:=by
 refine List.ext_getElem (by omega) fun i h1 h2=>?_;have:=h i (by omega);rwa [bQ h1,bQ h2]at this
theorem dY.row{m n:Nat}{A:Rows}(h:dY m n A){i:Nat}(hi:i<m):(A.getD i []).length=n:=by
 have hl:=h.len;rw[bQ (by omega)];exact h.lB _ (List.getElem_mem _)
def fz(r:Row)(t:Int)(s:Row):Row:=List.zipWith (fun a b=>a+t*b) r s
theorem l6{r s:Row}{t:Int}(h:r.length=s.length):(fz r t s).length=r.length:=by unfold fz;simp[h]
theorem tM{r s:Row}{t:Int}(h:r.length=s.length)(j:Nat):(fz r t s).getD j 0=r.getD j 0+t*s.getD j 0:=by
 unfold fz;by_cases hj:j<r.length
 . rw[bQ (by simp;omega),bQ hj,bQ (by omega)];simp
 . rw[n_ (by simp;omega),n_ (by omega),n_ (by omega)];simp
def dP:Row->Rows->Row->Row
 |w::ws,r::rs,acc=>dP ws rs (fz acc w r)
 |_,_,acc=>acc
theorem pC{n:Nat}:∀ {ws:Row} {rs:Rows} {acc:Row},acc.length=n->(∀r∈rs,r.length=n)->(dP ws rs acc).length=n
 | [],_,acc,h,_=>by unfold dP;exact h
 |_::_,[],acc,h,_=>by unfold dP;exact h
 |w::ws,r::rs,acc,h,hr=>by
  unfold dP;refine pC ?_ fun r hr'=>hr r (List.mem_cons_of_mem _ hr');rw[l6 (by rw[h,hr r List.mem_cons_self]),h]
theorem rl{n:Nat}:∀ {ws:Row} {rs:Rows} {acc:Row} (j:Nat),acc.length=n->(∀r∈rs,r.length=n)->ws.length=rs.length->(dP ws rs acc).getD j 0=acc.getD j 0+S rs.length fun k=>ws.getD k 0*g rs k j
 | [],[],acc,j,h,_,_=>by unfold dP;show _=_+(0:Int);rw[Int.add_zero]
 | [],_::_,acc,j,h,_,hl=>by cases hl
 |_::_,[],acc,j,h,_,hl=>by cases hl
 |w::ws,r::rs,acc,j,h,hr,hl=>by
  have e1:acc.length=r.length:=by rw[h,hr r List.mem_cons_self]
  unfold dP;rw[rl j (by rw[l6 e1,h]) (fun r hr'=>hr r (List.mem_cons_of_mem _ hr')) (by simpa using hl),tM e1,List.length_cons,zA]
  have:(fun k=>(w::ws).getD (k+1) 0*g (r::rs) (k+1) j)=fun k=>ws.getD k 0*g rs k j:=by
   funext k;unfold g;simp
  rw[this];unfold g;simp;omega
theorem d7(n j:Nat):(List.replicate n (0:Int)).getD j 0=0:=by
 by_cases h:j<n
 . rw[bQ (by simpa using h)];simp
 . rw[n_ (by simp;omega)]
def kc(n i:Nat):Row:=(List.range n).map fun k=>dl k i
def units(n:Nat):Rows:=(List.range n).map fun i=>kc n i
theorem range_getD{α:Type}{f:Nat->α}{n i:Nat}{d:α}(h:i<n):((List.range n).map f).getD i d=f i:=by
 rw[bQ (by simpa using h)];simp
theorem vp(n:Nat):dY n n (units n):=⟨by simp[units],fun r hr=>by unfold units at hr;obtain⟨i,_,rfl⟩:=List.mem_map.mp hr;simp[kc]⟩
theorem l9{n i j:Nat}(hi:i<n)(hj:j<n):g (units n) i j=dl i j:=by
 unfold g units kc;rw[range_getD hi,range_getD hj];unfold dl;by_cases h:i=j
 . subst h;rfl
 . rw[if_neg (Ne.symm h),if_neg h]
def xh(A:Rows)(j:Nat):Row:=A.map fun r=>r.getD j 0
def Il(A:Rows)(n:Nat):Rows:=(List.range n).map fun j=>xh A j
def NI:Row->Row->Int
 |a::as,b::bs=>a*b+NI as bs
 |_,_=>0
theorem xy(i j:Nat):dl i j=dl j i:=by
 unfold dl;by_cases h:i=j
 . rw[if_pos h,if_pos h.symm]
 . rw[if_neg h,if_neg (Ne.symm h)]
def sw(i j k:Nat):Nat:=if k=i then j else if k=j then i else k
theorem QF{n i j:Nat}(hi:i<n)(hj:j<n)(hij:i≠j)(f:Nat->Int):S n (fun k=>f (sw i j k))=S n f:=by
 have:S n (fun k=>f (sw i j k))=S n fun k=>f k+(f j-f i)*dl k i+(f i-f j)*dl k j:=aY fun k _=>by
  unfold sw;by_cases h1:k=i
  . subst h1;rw[if_pos rfl,eZ,fu hij];omega
  . rw[if_neg h1,fu h1];by_cases h2:k=j
    . subst h2;rw[if_pos rfl,eZ];omega
    . rw[if_neg h2,fu h2];omega
 rw[this,jY,jY,sT (f:=fun _=>f j-f i) hi,sT (f:=fun _=>f i-f j) hj];omega
abbrev Fn:=Nat->Nat->Int
def sk(j c:Nat):Nat:=if c<j then c else c+1
def sg(j:Nat):Int:=if j%2=0 then 1 else-1
theorem xj(j:Nat):sg (j+1)= -sg j:=by unfold sg;split<;>split<;>omega
theorem xw:sg 0=1:=rfl
theorem kE{j c n:Nat}(h:c<n):sk j c<n+1:=by unfold sk;split<;>omega
theorem OH{j k c:Nat}(h:k<j):sk j (sk k c)=sk k (sk (j-1) c):=by unfold sk;grind
def D:Nat->Fn->Int
 |0,_=>1
 |n+1,M=>S (n+1) fun j=>sg j*M 0 j*D n fun r c=>M (r+1) (sk j c)
theorem Fc(M:Fn):D 0 M=1:=rfl
theorem dW(n:Nat)(M:Fn):D (n+1) M=S (n+1) fun j=>sg j*M 0 j*D n fun r c=>M (r+1) (sk j c):=rfl
theorem dF:∀ {n:Nat} {M M':Fn},(∀r c,r<n->c<n->M r c=M' r c)->D n M=D n M'
 |0,_,_,_=>rfl
 |n+1,M,M',h=>by
  rw[dW,dW];refine aY fun j hj=>?_;have e:D n (fun r c=>M (r+1) (sk j c))=D n (fun r c=>M' (r+1) (sk j c)):=dF fun r c hr hc=>h (r+1) (sk j c) (by omega) (kE hc);rw[h 0 j (by omega) hj,e]
theorem Ip:∀ {n:Nat} {M P Q:Fn} {a b:Int} {i:Nat},i<n->(∀c,c<n->M i c=a*P i c+b*Q i c)->(∀r c,r<n->c<n->r≠i->M r c=P r c/\M r c=Q r c)->D n M=a*D n P+b*D n Q
 |0,_,_,_,_,_,_,h,_,_=>by omega
 |n+1,M,P,Q,a,b,0,_,h0,h=>by
  rw[dW,dW,dW,<-gg,<-gg,<-jY];refine aY fun j hj=>?_;have e1:D n (fun r c=>M (r+1) (sk j c))=D n (fun r c=>P (r+1) (sk j c)):=dF fun r c hr hc=>(h (r+1) (sk j c) (by omega) (kE hc) (by omega)).1;have e2:D n (fun r c=>M (r+1) (sk j c))=D n (fun r c=>Q (r+1) (sk j c)):=dF fun r c hr hc=>(h (r+1) (sk j c) (by omega) (kE hc) (by omega)).2;rw[h0 j hj,<-e1,<-e2];grind
 |n+1,M,P,Q,a,b,i+1,hi,h0,h=>by
  rw[dW,dW,dW,<-gg,<-gg,<-jY];refine aY fun j hj=>?_;have e:=Ip (n:=n) (M:=fun r c=>M (r+1) (sk j c)) (P:=fun r c=>P (r+1) (sk j c)) (Q:=fun r c=>Q (r+1) (sk j c)) (a:=a) (b:=b) (i:=i) (by omega) (fun c hc=>h0 (sk j c) (kE hc)) fun r c hr hc hne=>h (r+1) (sk j c) (by omega) (kE hc) (by omega);have p:=h 0 j (by omega) hj (by omega);rw[e,<-p.1,<-p.2];grind
theorem QG{n:Nat}{M:Fn}(h:∀c,c<n+2->M 0 c=M 1 c):D (n+2) M=0:=by
 let T:Nat->Nat->Int:=fun j k=>sg j*M 0 j*(sg k*M 1 (sk j k)*D n fun r c=>M (r+2) (sk j (sk k c)))
 have e1:∀j,j<n+2->sg j*M 0 j*D (n+1) (fun r c=>M (r+1) (sk j c))=S (n+1) fun k=>T j k:=fun j hj=>by
  rw[dW,<-gg]
 rw[dW,aY e1]
 have e2:∀j,j<n+2->S (n+1) (fun k=>T j k)=S (n+1) (fun k=>if k<j then T j k else 0)+S (n+1) (fun k=>if k<j then 0 else T j k):=fun j _=>by
  rw[<-jY];refine aY fun k _=>?_;split<;>omega
 rw[aY e2,jY]
 have e3:∀j k,j<n+2->k<n+1->¬k<j->T j k= -T (k+1) j:=fun j k hj hk hjk=>by
  have s1:sk (k+1) j=j:=by unfold sk;rw[if_pos (by omega)]
  have s2:sk j k=k+1:=by unfold sk;rw[if_neg hjk]
  have s3:(fun r c=>M (r+2) (sk (k+1) (sk j c)))=fun r c=>M (r+2) (sk j (sk k c)):=by
   funext r c;rw[OH (show j<k+1 by omega)];rfl
  show sg j*M 0 j*(sg k*M 1 (sk j k)*D n fun r c=>M (r+2) (sk j (sk k c)))= -(sg (k+1)*M 0 (k+1)*(sg j*M 1 (sk (k+1) j)*D n fun r c=>M (r+2) (sk (k+1) (sk j c))));rw[s1,s2,s3,xj,<-h j hj,<-h (k+1) (by omega)];grind
 have e4:S (n+2) (fun j=>S (n+1) fun k=>if k<j then 0 else T j k)= -S (n+2) (fun j=>S (n+1) fun k=>if k<j then T j k else 0):=by
  rw[zB,zA (n+1) (fun j=>S (n+1) fun k=>if k<j then T j k else 0)];have z:S (n+1) (fun k=>if k<0 then T 0 k else 0)=0:=qc fun k _=>if_neg (by omega);rw[z,Int.zero_add,<-DV];refine aY fun k hk=>?_;have:S (n+2) (fun j=>if k<j then 0 else T j k)=S (n+1) (fun j=>if k<j then 0 else T j k)+(if k<n+1 then 0 else T (n+1) k):=rfl;rw[this,if_pos hk,Int.add_zero,<-DV];refine aY fun j hj=>?_;by_cases hkj:k<j
  . rw[if_pos hkj,if_neg (by omega)];rfl
  . rw[if_neg hkj,if_pos (by omega)];exact e3 j k (by omega) hk hkj
 rw[e4];omega
theorem Ir:∀ {n:Nat} {M:Fn} {i:Nat},i+1<n->(∀c,c<n->M i c=M (i+1) c)->D n M=0
 |0,_,_,h,_=>by omega
 |1,_,_,h,_=>by omega
 |n+2,M,0,_,h=>QG h
 |n+2,M,i+1,hi,h=>by
  rw[dW];refine qc fun j hj=>?_;rw[Ir (n:=n+1) (M:=fun r c=>M (r+1) (sk j c)) (i:=i) (by omega) fun c hc=>h (sk j c) (kE hc),Int.mul_zero]
structure Alt(n:Nat)(φ:Fn->Int):Prop where
 cg:∀M M':Fn,(∀r c,r<n->c<n->M r c=M' r c)->φ M=φ M'
 qm:∀(i:Nat) (M P Q:Fn) (a b:Int),i<n->(∀c,c<n->M i c=a*P i c+b*Q i c)->(∀r c,r<n->c<n->r≠i->M r c=P r c/\M r c=Q r c)->φ M=a*φ P+b*φ Q
 alt:∀(i j:Nat) (M:Fn),i<n->j<n->i≠j->(∀c,c<n->M i c=M j c)->φ M=0
def upd(M:Fn)(i:Nat)(x:Nat->Int):Fn:=fun r c=>if r=i then x c else M r c
theorem cL(M:Fn)(i:Nat)(x:Nat->Int)(c:Nat):upd M i x i c=x c:=if_pos rfl
theorem aG{M:Fn}{i r:Nat}{x:Nat->Int}(h:r≠i)(c:Nat):upd M i x r c=M r c:=if_neg h
theorem PU{n i j:Nat}{φ:Fn->Int}(cg:∀M M':Fn,(∀r c,r<n->c<n->M r c=M' r c)->φ M=φ M')
 (qm:∀(i:Nat) (M P Q:Fn) (a b:Int),i<n->(∀c,c<n->M i c=a*P i c+b*Q i c)->(∀r c,r<n->c<n->r≠i->M r c=P r c/\M r c=Q r c)->φ M=a*φ P+b*φ Q)
 (hi:i<n) (hj:j<n) (hij:i≠j) (alt:∀N:Fn,(∀c,c<n->N i c=N j c)->φ N=0) (M:Fn):φ (fun r=>M (sw i j r))= -φ M:=by
 have l1:φ (upd (upd M i fun c=>M i c+M j c) j fun c=>M i c+M j c)=1*φ (upd (upd M i (M i)) j fun c=>M i c+M j c)+1*φ (upd (upd M i (M j)) j fun c=>M i c+M j c):=
  qm i _ _ _ 1 1 hi (fun c _=>by rw[aG hij,aG hij,aG hij,cL,cL,cL];omega) fun r c _ _ hr=>by
   unfold upd;grind
 have l2:∀x:Nat->Int,φ (upd (upd M i x) j fun c=>M i c+M j c)=1*φ (upd (upd M i x) j (M i))+1*φ (upd (upd M i x) j (M j)):=fun x=>
  qm j _ _ _ 1 1 hj (fun c _=>by rw[cL,cL,cL];omega) fun r c _ _ hr=>by
   rw[aG hr,aG hr,aG hr];exact⟨rfl,rfl⟩
 have z0:φ (upd (upd M i fun c=>M i c+M j c) j fun c=>M i c+M j c)=0:=alt _ fun c _=>by rw[aG hij,cL,cL]
 have z1:φ (upd (upd M i (M i)) j (M i))=0:=alt _ fun c _=>by rw[aG hij,cL,cL]
 have z2:φ (upd (upd M i (M j)) j (M j))=0:=alt _ fun c _=>by rw[aG hij,cL,cL]
 have s1:φ (upd (upd M i (M i)) j (M j))=φ M:=cg _ _ fun r c _ _=>by
  unfold upd;split
  . rename_i e;rw[e]
  . split
    . rename_i e;rw[e]
    . rfl
 have s2:φ (upd (upd M i (M j)) j (M i))=φ (fun r=>M (sw i j r)):=cg _ _ fun r c _ _=>by
  unfold upd sw;by_cases h1:r=j
  . rw[if_pos h1];by_cases h2:r=i
    . omega
    . rw[if_neg h2,if_pos h1]
  . rw[if_neg h1];by_cases h2:r=i
    . rw[if_pos h2,if_pos h2]
    . rw[if_neg h2,if_neg h2,if_neg h1]
 have a1:=l2 (M i);have a2:=l2 (M j);rw[z1,s1]at a1;rw[z2,s2]at a2;rw[z0,a1,a2]at l1;omega
theorem Alt.swap{n i j:Nat}{φ:Fn->Int}(A:Alt n φ)(hi:i<n)(hj:j<n)(hij:i≠j)(M:Fn):φ (fun r=>M (sw i j r))= -φ M:=
 PU A.cg A.qm hi hj hij (fun N h=>A.alt i j N hi hj hij h) M
theorem wD{n:Nat}{φ:Fn->Int}(cg:∀M M':Fn,(∀r c,r<n->c<n->M r c=M' r c)->φ M=φ M')
 (qm:∀(i:Nat) (M P Q:Fn) (a b:Int),i<n->(∀c,c<n->M i c=a*P i c+b*Q i c)->(∀r c,r<n->c<n->r≠i->M r c=P r c/\M r c=Q r c)->φ M=a*φ P+b*φ Q)
 (adj:∀(i:Nat) (M:Fn),i+1<n->(∀c,c<n->M i c=M (i+1) c)->φ M=0):Alt n φ:=by
 have far:∀(d i:Nat) (M:Fn),i+d+1<n->(∀c,c<n->M i c=M (i+d+1) c)->φ M=0:=by
  intro d;induction d with
  |zero=>exact fun i M h1 h2=>adj i M h1 h2
  |succ d ih=>
   intro i M h1 h2;have hs:=PU cg qm (i:=i+d+1) (j:=i+d+1+1) (by omega) (by omega) (by omega) (fun N h=>adj (i+d+1) N (by omega) h) M
   have:φ (fun r=>M (sw (i+d+1) (i+d+1+1) r))=0:=ih i _ (by omega) fun c hc=>by
    have e1:sw (i+d+1) (i+d+1+1) i=i:=by unfold sw;rw[if_neg (by omega),if_neg (by omega)]
    have e2:sw (i+d+1) (i+d+1+1) (i+d+1)=i+d+1+1:=by unfold sw;rw[if_pos rfl]
    rw[e1,e2];exact h2 c hc
   omega
 refine⟨cg,qm,fun i j M hi hj hij h=>?_⟩;by_cases hlt:i<j
 . obtain⟨d,rfl⟩:∃d,j=i+d+1:=⟨j-i-1,by omega⟩
   exact far d i M hj h
 . obtain⟨d,rfl⟩:∃d,i=j+d+1:=⟨i-j-1,by omega⟩
   exact far d j M hi fun c hc=>(h c hc).symm
theorem uf(n:Nat):Alt n (D n):=wD (fun _ _ h=>dF h) (fun _ _ _ _ _ _ hi h0 h=>Ip hi h0 h) fun _ _ h1 h2=>Ir h1 h2
theorem Alt.MQ{n i:Nat}{φ:Fn->Int}(A:Alt n φ)(hi:i<n){M:Fn}(h:∀c,c<n->M i c=0):φ M=0:=by
 have:=A.qm i M M M 0 0 hi (fun c hc=>by rw[h c hc];rfl) fun _ _ _ _ _=>⟨rfl,rfl⟩
 omega
theorem Alt.EA{n i:Nat}{φ:Fn->Int}(A:Alt n φ)(hi:i<n)(M:Fn)(t:Int)(x:Nat->Int):φ (upd M i fun c=>t*x c)=t*φ (upd M i x):=by
 have:=A.qm i (upd M i fun c=>t*x c) (upd M i x) (upd M i x) t 0 hi (fun c hc=>by rw[cL,cL];omega) fun r c _ _ hr=>by rw[aG hr,aG hr];exact⟨rfl,rfl⟩
 omega
theorem Alt.FW{n i:Nat}{φ:Fn->Int}(A:Alt n φ)(hi:i<n)(M:Fn)(x y:Nat->Int):φ (upd M i fun c=>x c+y c)=φ (upd M i x)+φ (upd M i y):=by
 have:=A.qm i (upd M i fun c=>x c+y c) (upd M i x) (upd M i y) 1 1 hi (fun c hc=>by rw[cL,cL,cL];omega) fun r c _ _ hr=>by rw[aG hr,aG hr,aG hr];exact⟨rfl,rfl⟩
 omega
theorem Alt.wG{n i:Nat}{φ:Fn->Int}(A:Alt n φ)(hi:i<n)(M:Fn)(a:Nat->Int)(x:Nat->Nat->Int):∀m,φ (upd M i fun c=>S m fun j=>a j*x j c)=S m fun j=>a j*φ (upd M i (x j))
 |0=>A.MQ hi fun c _=>by rw[cL];rfl
 |m+1=>by
  have:(fun c=>S (m+1) fun j=>a j*x j c)=fun c=>(S m fun j=>a j*x j c)+a m*x m c:=rfl;rw[this,A.FW hi,A.wG hi M a x m,A.EA hi];rfl
def un(j c:Nat):Nat:=if c<j then c else c-1
def grow(j:Nat)(B:Fn):Fn:=fun r c=>if r=0 then dl j c else if c=j then 0 else B (r-1) (un j c)
theorem vB{n j c:Nat}(hj:j<n+1)(hc:c<n+1)(h:c≠j):un j c<n:=by unfold un;split<;>omega
theorem Ds{j c:Nat}(h:c≠j):sk j (un j c)=c:=by unfold sk un;grind
theorem Alt.grow{n j:Nat}{φ:Fn->Int}(A:Alt (n+1) φ)(hj:j<n+1):Alt n fun B=>φ (Mx.grow j B) where
 cg:=fun M M' h=>A.cg _ _ fun r c hr hc=>by
  have:=h (r-1) (un j c);have:=vB (c:=c) hj hc;unfold Mx.grow;grind
 qm:=fun i M P Q a b hi h0 h=>A.qm (i+1) _ _ _ a b (by omega) (fun c hc=>by
  have:=h0 (un j c);have:=vB (c:=c) hj hc;have e:i+1-1=i:=by omega
  unfold Mx.grow;rw[e];grind) fun r c hr hc hne=>by
  have:=h (r-1) (un j c);have:=vB (c:=c) hj hc;unfold Mx.grow;grind
 alt:=fun i k M hi hk hik h=>A.alt (i+1) (k+1) _ (by omega) (by omega) (by omega) fun c hc=>by
  have:=h (un j c);have:=vB (c:=c) hj hc;have e:i+1-1=i:=by omega
  have e2:k+1-1=k:=by omega
  unfold Mx.grow;rw[e,e2];grind
theorem Alt.units{n:Nat}{φ:Fn->Int}(A:Alt (n+1) φ):∀j,j<n+1->φ (Mx.grow j dl)=sg j*φ dl
 |0,_=>by
  rw[xw,Int.one_mul];refine A.cg _ _ fun r c hr hc=>?_;unfold Mx.grow un dl;grind
 |j+1,hj=>by
  have ih:=A.units j (by omega);have s:=A.swap (i:=0) (j:=j+1) (by omega) hj (by omega) (Mx.grow j dl);rw[xj,Int.neg_mul,<-ih,<-s];refine A.cg _ _ fun r c hr hc=>?_;unfold Mx.grow un dl sw;grind
theorem Alt.Qz{n i k:Nat}{φ:Fn->Int}(A:Alt n φ)(hi:i<n)(hk:k<n)(hik:i≠k)(M:Fn)(x:Nat->Int)(t:Int):φ (upd M i fun c=>x c+t*M k c)=φ (upd M i x):=by
 rw[A.FW hi,A.EA hi M t (M k),A.alt i k (upd M i (M k)) hi hk hik fun c _=>by rw[cL,aG (Ne.symm hik)],Int.mul_zero,Int.add_zero]
def zr(j m:Nat)(M:Fn):Fn:=fun r c=>if r=0 then dl j c else if r<=m/\c=j then 0 else M r c
theorem Alt.zr{n j:Nat}{φ:Fn->Int}(A:Alt (n+1) φ)(M:Fn):∀m,m<=n->φ (Mx.zr j m M)=φ (upd M 0 (dl j))
 |0,_=>A.cg _ _ fun r c hr hc=>by unfold Mx.zr upd;grind
 |m+1,hm=>by
  rw[<-A.zr M m (by omega)];have e:=A.Qz (i:=m+1) (k:=0) (by omega) (by omega) (by omega) (Mx.zr j m M) (M (m+1)) (-M (m+1) j)
  have e1:φ (Mx.zr j (m+1) M)=φ (upd (Mx.zr j m M) (m+1) fun c=>M (m+1) c+ -M (m+1) j*Mx.zr j m M 0 c):=A.cg _ _ fun r c hr hc=>by
   unfold upd Mx.zr dl;by_cases h0:r=m+1
   . subst h0;by_cases h1:c=j
     . subst h1;simp;omega
     . have:¬j=c:=fun z=>h1 z.symm;simp[h1,this]
   . rw[if_neg h0];grind
  have e2:φ (upd (Mx.zr j m M) (m+1) (M (m+1)))=φ (Mx.zr j m M):=A.cg _ _ fun r c hr hc=>by
   unfold upd Mx.zr;grind
  rw[e1,e,e2]
theorem CQ:∀ {n:Nat} {φ:Fn->Int},Alt n φ->∀M,φ M=φ dl*D n M
 |0,φ,A,M=>by rw[Fc,Int.mul_one];exact A.cg _ _ fun r c hr=>by omega
 |n+1,φ,A,M=>by
  have h1:φ M=S (n+1) fun j=>M 0 j*φ (upd M 0 (dl j)):=by
   rw[<-A.wG (by omega) M (M 0) dl (n+1)];refine A.cg _ _ fun r c hr hc=>?_;by_cases h0:r=0
   . subst h0;rw[cL,sT hc]
   . rw[aG h0]
  have h2:∀j,j<n+1->φ (upd M 0 (dl j))=φ (Mx.grow j fun r c=>M (r+1) (sk j c)):=fun j hj=>by
   rw[<-A.zr M n (Nat.le_refl _)];refine A.cg _ _ fun r c hr hc=>?_;unfold Mx.grow Mx.zr;by_cases h0:r=0
   . rw[if_pos h0,if_pos h0]
   . rw[if_neg h0,if_neg h0];by_cases h3:c=j
     . rw[if_pos ⟨by omega,h3⟩,if_pos h3]
     . rw[if_neg (by omega),if_neg h3];dsimp only;rw[Ds h3,show r-1+1=r by omega]
  rw[h1,dW,<-gg];refine aY fun j hj=>?_;have h3:=CQ (A.grow hj) fun r c=>M (r+1) (sk j c);have h4:=A.units j hj;have h5:φ (Mx.grow j fun r c=>M (r+1) (sk j c))=φ (Mx.grow j dl)*D n fun r c=>M (r+1) (sk j c):=h3;rw[h2 j hj,h5,h4];grind
theorem xI:∀n,D n dl=1
 |0=>rfl
 |n+1=>by
  rw[dW,qS (k:=0) (by omega) fun j hj h0=>by rw[fu (Ne.symm h0),Int.mul_zero,Int.zero_mul]]
  have:D n (fun r c=>dl (r+1) (sk 0 c))=D n dl:=dF fun r c _ _=>by
   unfold dl sk;grind
  rw[this,xI n,eZ];rfl
theorem HN(n:Nat)(A B:Fn):D n (fun r c=>S n fun k=>A r k*B k c)=D n A*D n B:=by
 have al:Alt n fun A=>D n (fun r c=>S n fun k=>A r k*B k c):=by
  refine⟨fun M M' h=>dF fun r c hr hc=>aY fun k hk=>by rw[h r k hr hk],fun i M P Q a b hi h0 h=>(uf n).qm i _ _ _ a b hi (fun c hc=>?_) fun r c hr hc hne=>⟨aY fun k hk=>by rw[(h r k hr hk hne).1],aY fun k hk=>by rw[(h r k hr hk hne).2]⟩,fun i j M hi hj hij h=>(uf n).alt i j _ hi hj hij fun c hc=>aY fun k hk=>by rw[h k hk]⟩;show(S n fun k=>M i k*B k c)=a*(S n fun k=>P i k*B k c)+b*S n fun k=>Q i k*B k c;rw[<-gg,<-gg,<-jY];refine aY fun k hk=>?_;rw[h0 k hk];grind
 have h:=CQ al A;have e:D n (fun r c=>S n fun k=>dl r k*B k c)=D n B:=dF fun r c hr hc=>qp hr fun k=>B k c;rw[h,e,Int.mul_comm]
theorem FD:∀ {n:Nat} {M P Q:Fn} {a b:Int} {i:Nat},i<n->(∀r,r<n->M r i=a*P r i+b*Q r i)->(∀r c,r<n->c<n->c≠i->M r c=P r c/\M r c=Q r c)->D n M=a*D n P+b*D n Q
 |0,_,_,_,_,_,_,h,_,_=>by omega
 |n+1,M,P,Q,a,b,i,hi,h0,h=>by
  rw[dW,dW,dW,<-gg,<-gg,<-jY];refine aY fun j hj=>?_;by_cases hij:j=i
  . subst hij;have hs:∀c,sk j c≠j:=fun c=>by unfold sk;split<;>omega
    have e1:D n (fun r c=>M (r+1) (sk j c))=D n (fun r c=>P (r+1) (sk j c)):=dF fun r c hr hc=>(h (r+1) (sk j c) (by omega) (kE hc) (hs c)).1;have e2:D n (fun r c=>M (r+1) (sk j c))=D n (fun r c=>Q (r+1) (sk j c)):=dF fun r c hr hc=>(h (r+1) (sk j c) (by omega) (kE hc) (hs c)).2;rw[h0 0 (by omega),<-e1,<-e2];grind
  . have p:=h 0 j (by omega) hj hij;have hu:sk j (un j i)=i:=Ds (Ne.symm hij);have hs:∀c,c≠un j i->sk j c≠i:=fun c hc=>by unfold sk;unfold un at hc;grind
    have hlt:un j i<n:=vB hj hi (Ne.symm hij)
    have e:=FD (n:=n) (M:=fun r c=>M (r+1) (sk j c)) (P:=fun r c=>P (r+1) (sk j c)) (Q:=fun r c=>Q (r+1) (sk j c)) (a:=a) (b:=b) (i:=un j i) hlt (fun r hr=>by
     rw[hu];exact h0 (r+1) (by omega)) fun r c hr hc hne=>h (r+1) (sk j c) (by omega) (kE hc) (hs c hne)
    rw[e,<-p.1,<-p.2];grind
theorem F6:∀ {n:Nat} {M:Fn} {i:Nat},i+1<n->(∀r,r<n->M r i=M r (i+1))->D n M=0
 |0,_,_,h,_=>by omega
 |n+1,M,i,hi,h=>by
  rw[dW]
  have key:∀j,j<n+1->j≠i->j≠i+1->D n (fun r c=>M (r+1) (sk j c))=0:=fun j hj h1 h2=>by
   refine F6 (i:=un j i) (by unfold un;split<;>omega) fun r hr=>?_;have e1:sk j (un j i)=i:=Ds (Ne.symm h1);have e2:sk j (un j i+1)=i+1:=by unfold sk un;grind
   rw[e1,e2];exact h (r+1) (by omega)
  have e:D n (fun r c=>M (r+1) (sk i c))=D n (fun r c=>M (r+1) (sk (i+1) c)):=dF fun r c hr hc=>by
   by_cases hc2:c=i
   . subst hc2;have a1:sk c c=c+1:=by unfold sk;rw[if_neg (by omega)]
     have a2:sk (c+1) c=c:=by unfold sk;rw[if_pos (by omega)]
     rw[a1,a2];exact(h (r+1) (by omega)).symm
   . have a1:sk i c=sk (i+1) c:=by unfold sk;grind
     rw[a1]
  have two:∀(m:Nat) (f:Nat->Int),i+1<m->(∀j,j<m->j≠i->j≠i+1->f j=0)->S m f=f i+f (i+1):=fun m=>by
   induction m with
   |zero=>intro f h;omega
   |succ m ih=>
    intro f hm hf;show S m f+f m=_;by_cases hmi:m=i+1
    . subst hmi;rw[qS (k:=i) (by omega) fun j hj hne=>hf j (by omega) hne (by omega)]
    . rw[ih f (by omega) fun j hj h1 h2=>hf j (by omega) h1 h2,hf m (by omega) (by omega) hmi,Int.add_zero]
  rw[two (n+1) _ hi fun j hj h1 h2=>by rw[key j hj h1 h2,Int.mul_zero],e,xj,h 0 (by omega)];grind
def tr(M:Fn):Fn:=fun r c=>M c r
theorem zp(n:Nat)(M:Fn):D n (tr M)=D n M:=by
 have al:Alt n fun A=>D n (tr A):=wD (fun M M' h=>dF fun r c hr hc=>h c r hc hr)
  (fun i M P Q a b hi h0 h=>FD hi (fun r hr=>h0 r hr) fun r c hr hc hne=>h c r hc hr hne)
  fun i M hi h=>F6 hi fun r hr=>h r hr
 have h:=CQ al M;have e:D n (tr dl)=D n dl:=dF fun r c _ _=>xy c r;have h2:D n (tr M)=D n (tr dl)*D n M:=h;rw[h2,e,xI,Int.one_mul]
def Pr:Nat->(Nat->Int)->Int
 |0,_=>1
 |n+1,f=>Pr n f*f n
theorem Co:∀(n:Nat) (f:Nat->Int),Pr (n+1) f=f 0*Pr n fun i=>f (i+1)
 |0,f=>by show 1*f 0=f 0*1;omega
 |n+1,f=>by
  have:Pr (n+1+1) f=Pr (n+1) f*f (n+1):=rfl;rw[this,Co n f];have:Pr (n+1) (fun i=>f (i+1))=Pr n (fun i=>f (i+1))*f (n+1):=rfl;rw[this,Int.mul_assoc]
theorem IB:∀ {n:Nat} {M:Fn},(∀r c,r<n->c<n->r<c->M r c=0)->D n M=Pr n fun i=>M i i
 |0,_,_=>rfl
 |n+1,M,h=>by
  rw[dW,qS (k:=0) (by omega) fun j hj h0=>by rw[h 0 j (by omega) hj (by omega),Int.mul_zero,Int.zero_mul],Co,xw,Int.one_mul];have s:∀c,sk 0 c=c+1:=fun c=>by unfold sk;rw[if_neg (by omega)]
  have e:D n (fun r c=>M (r+1) (sk 0 c))=Pr n fun i=>M (i+1) (i+1):=by
   rw[IB fun r c hr hc hrc=>by rw[s];exact h (r+1) (c+1) (by omega) (by omega) (by omega)];simp only[s]
  rw[e]
theorem Qn{n:Nat}{M:Fn}(h:∀r c,r<n->c<n->c<r->M r c=0):D n M=Pr n fun i=>M i i:=by
 rw[<-zp n M,IB (M:=tr M) fun r c hr hc hrc=>h c r hc hr hrc];rfl
theorem zZ:∀ {n:Nat} {M:Fn},(∀c,c<n+1->M n c=dl n c)->D (n+1) M=D n M
 |0,M,h=>by
  rw[dW];show 0+sg 0*M 0 0*D 0 _=1;rw[h 0 (by omega),eZ,xw,Fc];omega
 |n+1,M,h=>by
  have e1:∀j,j<n+1->D (n+1) (fun r c=>M (r+1) (sk j c))=D n (fun r c=>M (r+1) (sk j c)):=fun j hj=>zZ fun c hc=>by
   rw[h (sk j c) (kE hc)];unfold dl sk;grind
  have e2:D (n+1) (fun r c=>M (r+1) (sk (n+1) c))=0:=(uf (n+1)).MQ (i:=n) (by omega) fun c hc=>by
   have s:sk (n+1) c=c:=by unfold sk;rw[if_pos (by omega)]
   rw[s,h c (by omega),fu (by omega)]
  have e3:D (n+1+1) M=(S (n+1) fun j=>sg j*M 0 j*D (n+1) fun r c=>M (r+1) (sk j c))+sg (n+1)*M 0 (n+1)*D (n+1) (fun r c=>M (r+1) (sk (n+1) c)):=dW (n+1) M;rw[e3,e2,Int.mul_zero,Int.add_zero,dW];exact aY fun j hj=>by rw[e1 j hj]
def gx(R:Fn)(p:Nat)(x:Nat->Int)(j:Nat):Int:=D (p+1) fun r c=>if r<p then R r (if c<p then c else j)else x (if c<p then c else j)
theorem Mf{R:Fn}{p j:Nat}{x:Nat->Int}(h:j<p):gx R p x j=0:=by
 unfold gx;rw[<-zp];refine(uf (p+1)).alt j p _ (by omega) (by omega) (by omega) fun c hc=>?_;unfold tr;dsimp only;rw[if_pos h,if_neg (Nat.lt_irrefl p)]
def bt(R:Fn)(p:Nat)(x:Nat->Int)(k:Nat):Int:=D (p+1) (upd (fun c r=>if r<p then R r c else x c) p (dl k))
theorem NT(R:Fn)(p:Nat)(x:Nat->Int)(j:Nat):gx R p x j=D p R*x j+S p fun k=>bt R p x k*R k j:=by
 have e1:gx R p x j=D (p+1) (upd (fun c r=>if r<p then R r c else x c) p fun r=>S (p+1) fun k=>(if k<p then R k j else x j)*dl k r):=by
  unfold gx;rw[<-zp];refine dF fun c r hc hr=>?_;unfold tr upd;by_cases h:c=p
  . subst h;rw[if_pos rfl];dsimp only;rw[sT hr,if_neg (Nat.lt_irrefl _)]
  . rw[if_neg h];dsimp only;rw[if_pos (show c<p by omega)]
 rw[e1,(uf (p+1)).wG (by omega)]
 have e2:D (p+1) (upd (fun c r=>if r<p then R r c else x c) p (dl p))=D p R:=by
  rw[zZ fun c _=>cL _ _ _ _];rw[<-zp];refine dF fun r c hr hc=>?_;unfold tr;rw[aG (by omega),if_pos (by omega)]
 have e3:(S (p+1) fun k=>(if k<p then R k j else x j)*D (p+1) (upd (fun c r=>if r<p then R r c else x c) p (dl k)))=(S p fun k=>(if k<p then R k j else x j)*D (p+1) (upd (fun c r=>if r<p then R r c else x c) p (dl k)))+(if p<p then R p j else x j)*D (p+1) (upd (fun c r=>if r<p then R r c else x c) p (dl p)):=rfl;rw[e3,e2,if_neg (Nat.lt_irrefl p),Int.add_comm,Int.mul_comm];congr 1;refine aY fun k hk=>?_;rw[if_pos hk,Int.mul_comm];rfl
def cl(p j1 j2 c:Nat):Nat:=if c<p then c else if c=p then j1 else j2
theorem Iq{n:Nat}{f:Nat->Int}{m:Nat}(h:∀i,i<n->(f i).natAbs<=m):(S n f).natAbs<=n*m:=by
 induction n with
 |zero=>simp[S]
 |succ n ih=>
  have h1:=ih fun i hi=>h i (by omega);have h2:=h n (by omega);show(S n f+f n).natAbs<=_;rw[Nat.succ_mul];omega
def lam(G:Fn)(i j:Nat):Int:=gx G j (G i) j
def QM(A:Rows):Fn:=fun i j=>NI (A.getD i []) (A.getD j [])
def O_(G:Fn)(i:Nat):Row:=(List.range (i+1)).map fun j=>lam G i j
def Mu(G:Fn)(n:Nat):Rows:=(List.range n).map (O_ G)
def RA(A:Rows)(N:Nat):Fn:=fun i j=>if j<N then QM A i j else(A.getD i []).getD (j-N) 0
def ev(A:Rows)(N i k c:Nat):Int:=gx (RA A N) k (RA A N i) (N+c)
theorem CL(n:Nat)(a b:Int)(f g:Nat->Int):S n (fun c=>a*f c-b*g c)=a*S n f-b*S n g:=by
 induction n with
 |zero=>show(0:Int)=a*0-b*0;omega
 |succ n ih=>
  show S n (fun c=>a*f c-b*g c)+(a*f n-b*g n)=a*(S n f+f n)-b*(S n g+g n);rw[ih,Int.mul_add,Int.mul_add];omega
section
variable {A:Rows}{N w:Nat}
end
structure Sh(G:Fn)(N:Nat):Prop where
 half:∀i j,j<i->i<N->2*(((lam G i j).natAbs:Nat):Int)<=D (j+1) G
 Rb:∀i,0<i->i<N->¬4*D (i+1) G*D (i-1) G<3*D i G*D i G-4*lam G i (i-1)*lam G i (i-1)
def QR(M:Fn)(k j:Nat)(q:Int):Fn:=fun a b=>if a=k then M a b-q*M j b else M a b
def QS(M:Fn)(k j:Nat)(q:Int):Fn:=fun a b=>if b=k then M a b-q*M a j else M a b
def tk(G:Fn)(k j:Nat)(q:Int):Fn:=QS (QR G k j q) k j q
section
variable {G:Fn}{t:Nat}(sym:∀i j,G i j=G j i)
include sym
end
section
variable {A:Rows}{N w:Nat}
theorem c9(hA:dY N w A){i:Nat}(hi:i<N):(A.getD i []).length=w:=hA.lB _ (by have:=hA.len;rw[bQ (by omega)];exact List.getElem_mem _)
end
def cf(A:Rows)(k:Nat)(q:Int)(j:Nat):Rows:=A.set k (fz (A.getD k []) (-q) (A.getD j []))
def bV(A:Rows)(k o:Nat):Rows:=(A.set k (A.getD o [])).set o (A.getD k [])
theorem lG{A:Rows}{k i:Nat}{r:Row}(hk:k<A.length):(A.set k r).getD i []=if i=k then r else A.getD i []:=by
 rw[List.getD_eq_getElem?_getD,List.getElem?_set];by_cases h:k=i
 . rw[if_pos h,if_pos (by omega),if_pos h.symm];rfl
 . rw[if_neg h,if_neg (Ne.symm h),List.getD_eq_getElem?_getD]
theorem Fx{A:Rows}{k j:Nat}{q:Int}:(cf A k q j).length=A.length:=by unfold cf;rw[List.length_set]
theorem u3{A:Rows}{N w k j:Nat}{q:Int}(hA:dY N w A)(hk:k<N)(hj:j<N):dY N w (cf A k q j):=by
 refine⟨Fx.trans hA.len,fun r hr=>?_⟩;unfold cf at hr;rcases List.mem_or_eq_of_mem_set hr with h|rfl
 . exact hA.lB r h
 . rw[l6 (by rw[c9 hA hk,c9 hA hj]),c9 hA hk]
structure Tn(A0 A U C:Rows)(N w:Nat):Prop where
 isA:dY N w A
 eR:dY N N U
 gF:dY N N C
 ua:∀i c,i<N->c<w->g A i c=S N fun k=>g U i k*g A0 k c
 ub:∀i j,i<N->j<N->S N (fun k=>g U i k*g C j k)=dl i j
 bu:∀i j,i<N->j<N->S N (fun k=>g C k i*g U k j)=dl i j
theorem fC{A:Rows}{N w k j:Nat}{q:Int}(hA:dY N w A)(hk:k<N)(hj:j<N)(i c:Nat):g (cf A k q j) i c=if i=k then g A k c-q*g A j c else g A i c:=by
 unfold g cf;have hl:=hA.len;rw[lG (by omega)];by_cases h:i=k
 . rw[if_pos h,if_pos h,tM (by rw[c9 hA hk,c9 hA hj]),Int.neg_mul];omega
 . rw[if_neg h,if_neg h]
theorem wg(n:Nat)(a b:Int)(f h:Nat->Int):S n (fun c=>a*f c+b*h c)=a*S n f+b*S n h:=by
 rw[jY,gg,gg]
theorem Tn.take{A0 A U C:Rows}{N w k j:Nat}{q:Int}(T:Tn A0 A U C N w)(hk:k<N)(hj:j<N)(hkj:j≠k):Tn A0 (cf A k q j) (cf U k q j) (cf C j (-q) k) N w where
 isA:=u3 T.isA hk hj
 eR:=u3 T.eR hk hj
 gF:=u3 T.gF hj hk
 ua:=fun i c hi hc=>by
  rw[fC T.isA hk hj];have e:S N (fun m=>g (cf U k q j) i m*g A0 m c)=S N fun m=>(if i=k then g U k m-q*g U j m else g U i m)*g A0 m c:=aY fun m _=>by rw[fC T.eR hk hj]
  rw[e];by_cases h:i=k
  . simp only[if_pos h];rw[T.ua k c hk hc,T.ua j c hj hc];have e2:S N (fun m=>(g U k m-q*g U j m)*g A0 m c)=S N fun m=>1*(g U k m*g A0 m c)-q*(g U j m*g A0 m c):=aY fun m _=>by grind
    rw[e2,CL];omega
  . simp only[if_neg h];exact T.ua i c hi hc
 ub:=fun i l hi hl=>by
  have e:S N (fun m=>g (cf U k q j) i m*g (cf C j (-q) k) l m)=S N fun m=>(if i=k then g U k m-q*g U j m else g U i m)*(if l=j then g C j m- -q*g C k m else g C l m):=aY fun m _=>by rw[fC T.eR hk hj,fC T.gF hj hk]
  rw[e];have djk:dl j k=0:=fu hkj;by_cases h:i=k
  . by_cases h2:l=j
    . simp only[if_pos h,if_pos h2];have e2:S N (fun m=>(g U k m-q*g U j m)*(g C j m- -q*g C k m))=S N fun m=>1*(1*(g U k m*g C j m)+q*(g U k m*g C k m))-q*(1*(g U j m*g C j m)+q*(g U j m*g C k m)):=aY fun m _=>by grind
      rw[e2,CL,wg,wg,T.ub k j hk hj,T.ub k k hk hk,T.ub j j hj hj,T.ub j k hj hk,h,h2,eZ,eZ,djk,xy k j,djk];omega
    . simp only[if_pos h,if_neg h2];have e2:S N (fun m=>(g U k m-q*g U j m)*g C l m)=S N fun m=>1*(g U k m*g C l m)-q*(g U j m*g C l m):=aY fun m _=>by grind
      rw[e2,CL,T.ub k l hk hl,T.ub j l hj hl,h,fu (Ne.symm h2)];omega
  . by_cases h2:l=j
    . simp only[if_neg h,if_pos h2];have e2:S N (fun m=>g U i m*(g C j m- -q*g C k m))=S N fun m=>1*(g U i m*g C j m)+q*(g U i m*g C k m):=aY fun m _=>by grind
      rw[e2,wg,T.ub i j hi hj,T.ub i k hi hk,h2,fu h];omega
    . simp only[if_neg h,if_neg h2];exact T.ub i l hi hl
 bu:=fun i l hi hl=>by
  have e:S N (fun m=>g (cf C j (-q) k) m i*g (cf U k q j) m l)=S N fun m=>g C m i*g U m l+((q*(g C k i*g U j l))*dl m j+(-(q*(g C k i*g U j l)))*dl m k):=aY fun m _=>by
   rw[fC T.eR hk hj,fC T.gF hj hk];by_cases h1:m=j
   . have h2:m≠k:=by omega
     rw[if_pos h1,if_neg h2,h1,eZ,fu hkj];grind
   . rw[if_neg h1,fu h1];by_cases h2:m=k
     . rw[if_pos h2,h2,eZ];grind
     . rw[if_neg h2,fu h2];grind
  rw[e,jY,wg,T.bu i l hi hl]
  have e1:S N (fun c=>dl c j)=1:=by
   rw[qS hj fun i _ h=>fu h,eZ]
  have e2:S N (fun c=>dl c k)=1:=by
   rw[qS hk fun i _ h=>fu h,eZ]
  rw[e1,e2];omega
theorem zy{A:Rows}{k o i:Nat}(hk:k<A.length)(ho:o<A.length):(bV A k o).getD i []=A.getD (sw k o i) []:=by
 unfold bV;rw[lG (by rw[List.length_set];exact ho),lG hk];unfold sw;by_cases h1:i=k
 . rw[if_pos h1,if_pos h1];by_cases h2:i=o
   . rw[if_pos h2,<-h1,<-h2]
   . rw[if_neg h2]
 . rw[if_neg h1,if_neg h1];by_cases h2:i=o
   . rw[if_pos h2,if_pos h2]
   . rw[if_neg h2,if_neg h2]
theorem uS{A:Rows}{N w k o:Nat}(hA:dY N w A)(hk:k<N)(ho:o<N):dY N w (bV A k o):=by
 refine⟨by unfold bV;rw[List.length_set,List.length_set];exact hA.len,fun r hr=>?_⟩;unfold bV at hr;rcases List.mem_or_eq_of_mem_set hr with h|rfl
 . rcases List.mem_or_eq_of_mem_set h with h|rfl
   . exact hA.lB r h
   . exact c9 hA ho
 . exact c9 hA hk
theorem kv{A:Rows}{N w k o:Nat}(hA:dY N w A)(hk:k<N)(ho:o<N)(i c:Nat):g (bV A k o) i c=g A (sw k o i) c:=by
 unfold g;rw[zy (by have:=hA.len;omega) (by have:=hA.len;omega)]
theorem sY{k o N i:Nat}(hk:k<N)(ho:o<N)(hi:i<N):sw k o i<N:=by unfold sw;split<;>(try split)<;>assumption
theorem EN(k o x:Nat):sw k o (sw k o x)=x:=by
 unfold sw;by_cases h1:x=k
 . subst h1;rw[if_pos rfl];by_cases h2:o=x
   . rw[if_pos h2];exact h2
   . rw[if_neg h2,if_pos rfl]
 . rw[if_neg h1];by_cases h2:x=o
   . subst h2;rw[if_pos rfl,if_pos rfl]
   . rw[if_neg h2,if_neg h1,if_neg h2]
theorem OJ{k o a b:Nat}:dl (sw k o a) (sw k o b)=dl a b:=by
 by_cases h:a=b
 . rw[h,eZ,eZ]
 . rw[fu h,fu fun z=>h (by rw[<-EN k o a,<-EN k o b,z])]
theorem Ki(k x:Nat):sw k k x=x:=by
 unfold sw;by_cases h:x=k
 . rw[if_pos h,h]
 . rw[if_neg h,if_neg h]
theorem OD{n i j:Nat}(hi:i<n)(hj:j<n)(f:Nat->Int):S n (fun k=>f (sw i j k))=S n f:=by
 by_cases h:i=j
 . subst h;exact aY fun k _=>by rw[Ki]
 . exact QF hi hj h f
theorem Tn.Iz{A0 A U C:Rows}{N w k o:Nat}(T:Tn A0 A U C N w)(hk:k<N)(ho:o<N):Tn A0 (bV A k o) (bV U k o) (bV C k o) N w where
 isA:=uS T.isA hk ho
 eR:=uS T.eR hk ho
 gF:=uS T.gF hk ho
 ua:=fun i c hi hc=>by
  rw[kv T.isA hk ho,T.ua _ c (sY hk ho hi) hc];exact aY fun m _=>by rw[kv T.eR hk ho]
 ub:=fun i j hi hj=>by
  rw[<-OJ (k:=k) (o:=o),<-T.ub _ _ (sY hk ho hi) (sY hk ho hj)];exact aY fun m _=>by rw[kv T.eR hk ho,kv T.gF hk ho]
 bu:=fun i j hi hj=>by
  rw[<-T.bu i j hi hj,<-OD hk ho fun m=>g C m i*g U m j];exact aY fun m _=>by rw[kv T.eR hk ho,kv T.gF hk ho]
def gO(A:Rows)(k:Nat):Rows:=A.set k ((A.getD k []).map fun x=> -x)
theorem AB{A:Rows}{N w k:Nat}(hA:dY N w A)(hk:k<N):dY N w (gO A k):=by
 refine⟨by unfold gO;rw[List.length_set];exact hA.len,fun r hr=>?_⟩;unfold gO at hr;rcases List.mem_or_eq_of_mem_set hr with h|rfl
 . exact hA.lB r h
 . rw[List.length_map];exact c9 hA hk
theorem Gu(r:Row)(c:Nat):(r.map fun x=> -x).getD c 0= -r.getD c 0:=by
 rw[List.getD_eq_getElem?_getD,List.getD_eq_getElem?_getD,List.getElem?_map];cases r[c]?<;>rfl
theorem lu{A:Rows}{N w k:Nat}(hA:dY N w A)(hk:k<N)(i c:Nat):g (gO A k) i c=if i=k then-g A k c else g A i c:=by
 unfold g gO;rw[lG (by have:=hA.len;omega)];by_cases h:i=k
 . rw[if_pos h,if_pos h,Gu]
 . rw[if_neg h,if_neg h]
theorem Tn.neg{A0 A U C:Rows}{N w k:Nat}(T:Tn A0 A U C N w)(hk:k<N):Tn A0 (gO A k) (gO U k) (gO C k) N w where
 isA:=AB T.isA hk
 eR:=AB T.eR hk
 gF:=AB T.gF hk
 ua:=fun i c hi hc=>by
  rw[lu T.isA hk];by_cases h:i=k
  . rw[if_pos h,T.ua k c hk hc,<-DV];exact aY fun m _=>by rw[lu T.eR hk,if_pos h,Int.neg_mul]
  . rw[if_neg h,T.ua i c hi hc];exact aY fun m _=>by rw[lu T.eR hk,if_neg h]
 ub:=fun i j hi hj=>by
  have e:S N (fun m=>g (gO U k) i m*g (gO C k) j m)=S N fun m=>(if i=k then-1 else 1)*(if j=k then-1 else 1)*(g U i m*g C j m):=aY fun m _=>by
   rw[lu T.eR hk,lu T.gF hk];by_cases h1:i=k<;>by_cases h2:j=k<;>simp only[h1,h2,if_true,if_false]<;>grind
  rw[e,gg,T.ub i j hi hj];by_cases h1:i=k
  . by_cases h2:j=k
    . simp[h1,h2]
    . rw[fu (by omega)];simp
  . by_cases h2:j=k
    . rw[fu (by omega)];simp
    . simp[h1,h2]
 bu:=fun i j hi hj=>by
  rw[<-T.bu i j hi hj]
  exact aY fun m _=>by
   rw[lu T.eR hk,lu T.gF hk];by_cases h:m=k
   . subst h;rw[if_pos rfl,if_pos rfl];grind
   . rw[if_neg h,if_neg h]
structure m_(A:Rows)(N top p:Nat)(L:List Nat):Prop where
 mem:∀k,k∈L↔top<=k/\k<N/\g A k p≠0
 ord:L.Pairwise fun i j=>(g A i p).natAbs<=(g A j p).natAbs
 nd:L.Nodup
structure B3 where
 A:Rows
 U:Rows
 C:Rows
def qn(x y:Int):Int:=(2*x+y).fdiv (2*y)
def k9(b:B3)(p k j:Nat):B3:=⟨cf b.A k (qn (g b.A k p) (g b.A j p)) j,cf b.U k (qn (g b.A k p) (g b.A j p)) j,cf b.C j (-(qn (g b.A k p) (g b.A j p))) k⟩
def IH(N top p:Nat)(b c:B3):Prop:=∃(L:List Nat) (k j:Nat),m_ b.A N top p (L++[j,k])/\c=k9 b p k j
inductive jO(N top p:Nat):B3->B3->Prop
 |refl (b:B3):jO N top p b b
 |head {b c d:B3} (h:IH N top p b c) (t:jO N top p c d):jO N top p b d
theorem jO.tail{N top p:Nat}{b c d:B3}(h:jO N top p b c)(t:IH N top p c d):jO N top p b d:=by
 induction h with
 |refl b=>exact .head t (.refl _)
 |head x _ ih=>exact .head x (ih t)
def jH(X:Rows)(N top m:Nat):Prop:=∀i c,top<=i->i<N->(g X i c).natAbs<=m
def PR(f:Nat->Nat):Nat->Nat
 |0=>1
 |n+1=>PR f n*f n
theorem Ei{f:Nat->Nat}(h:∀i,1<=f i):∀n,1<=PR f n
 |0=>Nat.le_refl _
 |n+1=>Nat.mul_le_mul (Ei h n) (h n)
theorem AG{f f':Nat->Nat}:∀ {n:Nat},(∀i,i<n->f i=f' i)->PR f n=PR f' n
 |0,_=>rfl
 |n+1,h=>by
  show PR f n*f n=PR f' n*f' n;rw[AG fun i hi=>h i (Nat.lt_succ_of_lt hi),h n (Nat.lt_succ_self n)]
theorem E4{f f':Nat->Nat}{k:Nat}:∀ {n:Nat},k<n->(∀i,i≠k->f i=f' i)->PR f n*f' k=PR f' n*f k
 |0,hk,_=>absurd hk (Nat.not_lt_zero _)
 |n+1,hk,h=>by
  show PR f n*f n*f' k=PR f' n*f' n*f k;by_cases e:k=n
  . subst e;rw[AG (n:=k) fun i hi=>h i (Nat.ne_of_lt hi),Nat.mul_assoc,Nat.mul_comm (f k),Nat.mul_assoc]
  . have:=E4 (n:=n) (by omega) h;rw[h n (Ne.symm e),Nat.mul_right_comm,this,Nat.mul_right_comm]
theorem Ia{f:Nat->Nat}{m top:Nat}(hm:1<=m):∀ {n:Nat},(∀i,i<n->i<top->f i<=1)->(∀i,i<n->f i<=m)->PR f n<=m^(n-top)
 |0,_,_=>by simp[PR]
 |n+1,h1,h2=>by
  have ih:=Ia hm (n:=n) (fun i hi=>h1 i (Nat.lt_succ_of_lt hi)) fun i hi=>h2 i (Nat.lt_succ_of_lt hi);show PR f n*f n<=_;by_cases ht:n<top
  . have z:n+1-top=n-top:=by omega
    rw[z];exact Nat.le_trans (Nat.mul_le_mul ih (h1 n (Nat.lt_succ_self n) ht)) (by rw[Nat.mul_one];exact Nat.le_refl _)
  . have z:n+1-top=(n-top)+1:=by omega
    rw[z,Nat.pow_succ];exact Nat.mul_le_mul ih (h2 n (Nat.lt_succ_self n))
def wt(A:Rows)(top p i:Nat):Nat:=if top<=i/\g A i p≠0 then 2*(g A i p).natAbs else 1
theorem Ey(A:Rows)(top p i:Nat):1<=wt A top p i:=by
 unfold wt;split<;>omega
theorem BY{x y:Int}(hy:y≠0):2*(x-qn x y*y).natAbs<=y.natAbs:=by
 unfold qn;have h1:=Int.mul_fdiv_add_fmod (2*x+y) (2*y);have h2:(2*x+y).fmod (2*y)=2*x+y-2*y*(2*x+y).fdiv (2*y):=by omega
 generalize(2*x+y).fdiv (2*y)=q at*;have e:2*(x-q*y)=(2*x+y).fmod (2*y)-y:=by rw[h2];grind
 rcases Int.lt_or_gt_of_ne hy with h|h
 . have a0:=Int.neg_fmod_neg (2*x+y) (2*y);have a1:=Int.fmod_nonneg_of_pos (-(2*x+y)) (show 0< -(2*y) by omega);have a2:=Int.fmod_lt_of_pos (-(2*x+y)) (show 0< -(2*y) by omega);omega
 . have a1:=Int.fmod_nonneg_of_pos (2*x+y) (show 0<2*y by omega);have a2:=Int.fmod_lt_of_pos (2*x+y) (show 0<2*y by omega);omega
theorem Jf{x y:Int}(hy:y≠0)(hxy:y.natAbs<=x.natAbs):(1+(qn x y).natAbs)*(if x-qn x y*y≠0 then 2*(x-qn x y*y).natAbs else 1)<=2*x.natAbs:=by
 have h2:=BY (x:=x) hy;generalize qn x y=q at*;generalize hr:x-q*y=r at*;have hx:x=q*y+r:=by omega
 have hq:(q*y).natAbs=q.natAbs*y.natAbs:=Int.natAbs_mul ..;by_cases h0:r=0
 . rw[if_neg (fun z=>z h0),Nat.mul_one];subst h0;have hxa:x.natAbs=q.natAbs*y.natAbs:=by rw[<-hq,hx];simp
   have hy1:1<=y.natAbs:=by omega
   have hq1:1<=q.natAbs:=by
    rcases Nat.eq_zero_or_pos q.natAbs with z|z
    . rw[z,Nat.zero_mul]at hxa;omega
    . exact z
   have:q.natAbs<=q.natAbs*y.natAbs:=Nat.le_mul_of_pos_right _ hy1;omega
 . rw[if_pos h0];have hr1:1<=r.natAbs:=by omega
   have key:(1+q.natAbs)*r.natAbs<=x.natAbs:=by
    rcases Nat.lt_or_ge q.natAbs 2 with hlt|hge
    . rcases Nat.lt_or_ge q.natAbs 1 with h|h
      . have zq:q=0:=Int.natAbs_eq_zero.mp (Nat.le_zero.mp (Nat.le_of_lt_succ h));subst zq;simp at hx;subst hx;simp
      . have z:q.natAbs=1:=Nat.le_antisymm (Nat.le_of_lt_succ hlt) h;rw[z];exact Nat.le_trans h2 hxy
    . have h3:(q*y).natAbs<=x.natAbs+r.natAbs:=by omega
      rw[hq]at h3;have h4:q.natAbs*(2*r.natAbs)<=q.natAbs*y.natAbs:=Nat.mul_le_mul_left _ h2;have h5:2*r.natAbs<=q.natAbs*r.natAbs:=Nat.mul_le_mul_right _ hge;have h6:q.natAbs*(2*r.natAbs)=q.natAbs*r.natAbs+q.natAbs*r.natAbs:=by rw[Nat.mul_left_comm];omega
      rw[Nat.add_mul,Nat.one_mul];omega
   have:(1+q.natAbs)*(2*r.natAbs)=2*((1+q.natAbs)*r.natAbs):=by rw[Nat.mul_left_comm]
   omega
structure uF(A0:Rows)(N w top p m:Nat)(b0 b:B3)(gr:Nat):Prop where
 tn:Tn A0 b.A b.U b.C N w
 up:∀i,i<top->b.A.getD i []=b0.A.getD i []/\b.U.getD i []=b0.U.getD i []/\b.C.getD i []=b0.C.getD i []
 lA:jH b.A N top (m*gr)
 lU:jH b.U N top (m*gr)
 lC:jH b.C N top (m*gr)
 zs:∀i c,top<=i->i<N->c<p->g b.A i c=0
 PM:gr*PR (wt b.A top p) N<=PR (wt b0.A top p) N
 pos:1<=gr
 NV:b=b0\/∃j,top<=j/\j<N/\g b.A j p≠0
theorem vg{X:Rows}{N w top k j m gr:Nat}{q:Int}(hX:dY N w X)(hk:k<N)(hj:j<N)(hkt:top<=k)(hjt:top<=j)(h:jH X N top (m*gr)):jH (cf X k q j) N top (m*(gr*(1+q.natAbs))):=fun i c hi hN=>by
 rw[fC hX hk hj];have e:m*(gr*(1+q.natAbs))=m*gr+q.natAbs*(m*gr):=by rw[<-Nat.mul_assoc,Nat.mul_add,Nat.mul_one,Nat.mul_comm (m*gr) q.natAbs]
 rw[e];by_cases hik:i=k
 . rw[if_pos hik];have h1:=h k c hkt hk;have h2:=h j c hjt hj;have h3:(q*g X j c).natAbs<=q.natAbs*(m*gr):=by rw[Int.natAbs_mul];exact Nat.mul_le_mul_left _ h2
   exact Nat.le_trans (Int.natAbs_sub_le _ _) (Nat.add_le_add h1 h3)
 . rw[if_neg hik];exact Nat.le_trans (h i c hi hN) (Nat.le_add_right _ _)
theorem kh{X:Rows}{k j i:Nat}{q:Int}(hk:k<X.length)(h:i≠k):(cf X k q j).getD i []=X.getD i []:=by
 unfold cf;rw[lG hk,if_neg h]
theorem half_lt{r y x:Nat}(h:2*r<=y)(h2:y<=x)(h3:0<x):r<x:=by omega
theorem uF.step{A0:Rows}{N w top p m gr:Nat}{b0 b:B3}{L:List Nat}{k j:Nat}(G:uF A0 N w top p m b0 b gr)(hp:p<w)(hL:m_ b.A N top p (L++[j,k])):
 uF A0 N w top p m b0 (k9 b p k j) (gr*(1+(qn (g b.A k p) (g b.A j p)).natAbs))/\(g (k9 b p k j).A k p).natAbs<(g b.A k p).natAbs/\(∀i,i≠k->g (k9 b p k j).A i p=g b.A i p)/\top<=k/\k<N/\top<=j/\j<N/\j≠k/\g b.A j p≠0:=by
 obtain⟨hk1,hk2,hk3⟩:=(hL.mem k).mp (by simp);obtain⟨hj1,hj2,hj3⟩:=(hL.mem j).mp (by simp);have hord:=hL.ord;rw[List.pairwise_append]at hord;have hle:=(List.pairwise_cons.mp hord.2.1).1 k (by simp);have hnd:=hL.nd;rw[List.nodup_append]at hnd;have hjk:j≠k:=fun z=>(List.nodup_cons.mp hnd.2.1).1 (by rw[z];exact List.mem_singleton.mpr rfl)
 have gk:g (k9 b p k j).A k p=g b.A k p-qn (g b.A k p) (g b.A j p)*g b.A j p:=by
  show g (cf b.A k _ j) k p=_;rw[fC G.tn.isA hk2 hj2,if_pos rfl]
 have gi:∀i,i≠k->g (k9 b p k j).A i p=g b.A i p:=fun i hi=>by
  show g (cf b.A k _ j) i p=_;rw[fC G.tn.isA hk2 hj2,if_neg hi]
 have hrest:=BY (x:=g b.A k p) hj3;have hgrow:=Jf (x:=g b.A k p) hj3 hle;refine⟨⟨G.tn.take hk2 hj2 hjk,fun i hi=>?_,vg G.tn.isA hk2 hj2 hk1 hj1 G.lA,vg G.tn.eR hk2 hj2 hk1 hj1 G.lU,?_,fun i c hi hN hc=>?_,?_,?_,.inr ⟨j,hj1,hj2,by rw[gi j hjk];exact hj3⟩⟩,?_,gi,hk1,hk2,hj1,hj2,hjk,hj3⟩
 . obtain⟨a1,a2,a3⟩:=G.up i hi;refine⟨(kh (by rw[G.tn.isA.len];exact hk2) (by omega)).trans a1,(kh (by rw[G.tn.eR.len];exact hk2) (by omega)).trans a2,(kh (by rw[G.tn.gF.len];exact hj2) (by omega)).trans a3⟩
 . have:=vg (q:= -(qn (g b.A k p) (g b.A j p))) G.tn.gF hj2 hk2 hj1 hk1 G.lC;rw[Int.natAbs_neg]at this;exact this
 . show g (cf b.A k _ j) i c=0;rw[fC G.tn.isA hk2 hj2];by_cases h:i=k
   . rw[if_pos h,G.zs k c hk1 hk2 hc,G.zs j c hj1 hj2 hc,Int.mul_zero];rfl
   . rw[if_neg h];exact G.zs i c hi hN hc
 . have e:=E4 (f:=wt (k9 b p k j).A top p) (f':=wt b.A top p) (k:=k) hk2 fun i hi=>by unfold wt;rw[gi i hi]
   have w1:wt b.A top p k=2*(g b.A k p).natAbs:=by unfold wt;rw[if_pos ⟨hk1,hk3⟩]
   have w2:(1+(qn (g b.A k p) (g b.A j p)).natAbs)*wt (k9 b p k j).A top p k<=wt b.A top p k:=by
    rw[w1];unfold wt;rw[gk];by_cases h0:g b.A k p-qn (g b.A k p) (g b.A j p)*g b.A j p=0
    . rw[if_neg (fun z=>z.2 h0)];rw[if_neg (fun z=>z h0)]at hgrow;exact hgrow
    . rw[if_pos ⟨hk1,h0⟩];rw[if_pos h0]at hgrow;exact hgrow
   have hw:0<wt b.A top p k:=Ey _ _ _ _;refine Nat.le_of_mul_le_mul_right (c:=wt b.A top p k) ?_ hw
   have s1:gr*(1+(qn (g b.A k p) (g b.A j p)).natAbs)*PR (wt (k9 b p k j).A top p) N*wt b.A top p k=gr*PR (wt b.A top p) N*((1+(qn (g b.A k p) (g b.A j p)).natAbs)*wt (k9 b p k j).A top p k):=by
    rw[Nat.mul_assoc _ (PR _ N),e];simp only[Nat.mul_assoc,Nat.mul_left_comm]
   rw[s1];exact Nat.mul_le_mul G.PM w2
 . exact Nat.mul_pos G.pos (by omega)
 . rw[gk];exact half_lt hrest hle (Int.natAbs_pos.mpr hk3)
theorem uF.low{A0:Rows}{N w top p e gr:Nat}{b0 b:B3}(G:uF A0 N w top p (2^e) b0 b gr)(h0:jH b0.A N top (2^e)):2^e*gr<=2^((N-top+1)*(e+1)):=by
 have h1:gr<=PR (wt b0.A top p) N:=Nat.le_trans (Nat.le_mul_of_pos_right _ (Ei (Ey _ _ _) N)) G.PM
 have h2:PR (wt b0.A top p) N<=(2^(e+1))^(N-top):=Ia Nat.one_le_two_pow (fun i _ ht=>by unfold wt;rw[if_neg (by omega)];exact Nat.le_refl _) fun i hi=>by
  unfold wt;split
  . rename_i h;have:=h0 i p h.1 hi;rw[Nat.pow_succ];omega
  . exact Nat.one_le_two_pow
 refine Nat.le_trans (Nat.mul_le_mul_left _ (Nat.le_trans h1 h2)) ?_;rw[<-Nat.pow_mul,<-Nat.pow_add];refine Nat.pow_le_pow_right (by decide) ?_;have e1:(N-top+1)*(e+1)=(e+1)*(N-top)+(e+1):=by rw[Nat.add_mul,Nat.one_mul,Nat.mul_comm]
 rw[e1];omega
structure kn(A0:Rows)(N w:Nat)(b:B3)(top p:Nat)(ld:Nat->Nat)(e u:Nat):Prop where
 tn:Tn A0 b.A b.U b.C N w
 le:top<=N
 lo:jH b.A N top (2^e)/\jH b.U N top (2^e)/\jH b.C N top (2^e)
 hi:∀i c,i<top->(g b.A i c).natAbs<=2^u/\(g b.U i c).natAbs<=2^u/\(g b.C i c).natAbs<=2^u
 zs:∀i c,top<=i->i<N->c<p->g b.A i c=0
 lead:∀i,i<top->ld i<p/\0<g b.A i (ld i)/\∀c,c<ld i->g b.A i c=0
 mono:∀i j,i<j->j<top->ld i<ld j
 red:∀i j,i<j->j<top->0<=g b.A i (ld j)/\g b.A i (ld j)<g b.A j (ld j)
theorem kn.Q8{A0:Rows}{N w top p e u:Nat}{b:B3}{ld:Nat->Nat}(S:kn A0 N w b top p ld e u):uF A0 N w top p (2^e) b b 1:=
 ⟨S.tn,fun _ _=>⟨rfl,rfl,rfl⟩,by rw[Nat.mul_one];exact S.lo.1,by rw[Nat.mul_one];exact S.lo.2.1,by rw[Nat.mul_one];exact S.lo.2.2,S.zs,by rw[Nat.one_mul];exact Nat.le_refl _,Nat.le_refl _,.inl rfl⟩
theorem kn.skip{A0:Rows}{N w top p e u:Nat}{b:B3}{ld:Nat->Nat}(S:kn A0 N w b top p ld e u)(h:m_ b.A N top p []):kn A0 N w b top (p+1) ld e u:=
 ⟨S.tn,S.le,S.lo,S.hi,fun i c h1 h2 h3=>by
  by_cases hc:c=p
  . subst hc;exact Classical.byContradiction fun z=>absurd ((h.mem i).mpr ⟨h1,h2,z⟩) (by simp)
  . exact S.zs i c h1 h2 (by omega),fun i hi=>⟨Nat.lt_succ_of_lt (S.lead i hi).1,(S.lead i hi).2⟩,S.mono,S.red⟩
def setB(b:B3)(p top r:Nat):B3:=
 if g (bV b.A top r) top p<0 then⟨gO (bV b.A top r) top,gO (bV b.U top r) top,gO (bV b.C top r) top⟩else⟨bV b.A top r,bV b.U top r,bV b.C top r⟩
theorem uZ{X:Rows}{N w top r m:Nat}(hX:dY N w X)(ht:top<N)(hr:r<N)(hrt:top<=r)(h:jH X N top m):jH (bV X top r) N top m:=fun i c hi hN=>by
 rw[kv hX ht hr];refine h _ c ?_ (sY ht hr hN);unfold sw;split
 . exact hrt
 . split
   . exact Nat.le_refl _
   . exact hi
theorem zJ{X:Rows}{N w top m:Nat}(hX:dY N w X)(ht:top<N)(h:jH X N top m):jH (gO X top) N top m:=fun i c hi hN=>by
 rw[lu hX ht];split
 . rw[Int.natAbs_neg];exact h top c (Nat.le_refl _) ht
 . exact h i c hi hN
theorem uW{X:Rows}{N w top r i:Nat}(hX:dY N w X)(ht:top<N)(hr:r<N)(hrt:top<=r)(hi:i<top):(bV X top r).getD i []=X.getD i []:=by
 rw[zy (by have:=hX.len;omega) (by have:=hX.len;omega)];unfold sw;rw[if_neg (by omega),if_neg (by omega)]
theorem A6{X:Rows}{N w top i:Nat}(hX:dY N w X)(ht:top<N)(hi:i<top):(gO X top).getD i []=X.getD i []:=by
 unfold gO;rw[lG (by have:=hX.len;omega),if_neg (by omega)]
structure xk(A0:Rows)(N w top p m:Nat)(b0 b:B3):Prop where
 tn:Tn A0 b.A b.U b.C N w
 up:∀i,i<top->b.A.getD i []=b0.A.getD i []/\b.U.getD i []=b0.U.getD i []/\b.C.getD i []=b0.C.getD i []
 lo:jH b.A N top m/\jH b.U N top m/\jH b.C N top m
 zs:∀i c,top<=i->i<N->c<p->g b.A i c=0
 tp:0<g b.A top p
 z1:∀i,top<i->i<N->g b.A i p=0
theorem uF.set{A0:Rows}{N w top p m gr r:Nat}{b0 b:B3}(G:uF A0 N w top p m b0 b gr)(hL:m_ b.A N top p [r]):xk A0 N w top p (m*gr) b0 (setB b p top r)/\top<=r/\r<N:=by
 obtain⟨hr1,hr2,hr3⟩:=(hL.mem r).mp (by simp);have ht:top<N:=by omega
 have z:∀i,top<=i->i<N->i≠r->g b.A i p=0:=fun i h1 h2 h3=>Classical.byContradiction fun y=>h3 (by simpa using(hL.mem i).mpr ⟨h1,h2,y⟩);have swg:∀i c,g (bV b.A top r) i c=g b.A (sw top r i) c:=fun i c=>kv G.tn.isA ht hr2 i c;have gt:g (bV b.A top r) top p=g b.A r p:=by rw[swg];unfold sw;rw[if_pos rfl]
 have T1:=G.tn.Iz ht hr2
 have z1:∀i,top<i->i<N->g (bV b.A top r) i p=0:=fun i h1 h2=>by
  rw[swg];unfold sw;rw[if_neg (by omega)];by_cases h:i=r
  . rw[if_pos h];exact z top (Nat.le_refl _) ht (by omega)
  . rw[if_neg h];exact z i (by omega) h2 h
 have zs:∀i c,top<=i->i<N->c<p->g (bV b.A top r) i c=0:=fun i c h1 h2 h3=>by
  rw[swg];refine G.zs _ c ?_ (sY ht hr2 h2) h3;unfold sw;split
  . exact hr1
  . split
    . exact Nat.le_refl _
    . exact h1
 have up:∀i,i<top->(bV b.A top r).getD i []=b0.A.getD i []/\(bV b.U top r).getD i []=b0.U.getD i []/\(bV b.C top r).getD i []=b0.C.getD i []:=fun i hi=>by
  obtain⟨a1,a2,a3⟩:=G.up i hi;exact⟨(uW G.tn.isA ht hr2 hr1 hi).trans a1,(uW G.tn.eR ht hr2 hr1 hi).trans a2,(uW G.tn.gF ht hr2 hr1 hi).trans a3⟩
 have lo:=And.intro (uZ G.tn.isA ht hr2 hr1 G.lA) (And.intro (uZ G.tn.eR ht hr2 hr1 G.lU) (uZ G.tn.gF ht hr2 hr1 G.lC));refine⟨?_,hr1,hr2⟩;unfold setB;by_cases hs:g (bV b.A top r) top p<0
 . rw[if_pos hs];refine⟨T1.neg ht,fun i hi=>?_,⟨zJ T1.isA ht lo.1,zJ T1.eR ht lo.2.1,zJ T1.gF ht lo.2.2⟩,fun i c h1 h2 h3=>?_,?_,fun i h1 h2=>?_⟩
   . obtain⟨a1,a2,a3⟩:=up i hi;exact⟨(A6 T1.isA ht hi).trans a1,(A6 T1.eR ht hi).trans a2,(A6 T1.gF ht hi).trans a3⟩
   . show g (gO (bV b.A top r) top) i c=0;rw[lu T1.isA ht];split
     . rw[zs top c (Nat.le_refl _) ht h3];rfl
     . exact zs i c h1 h2 h3
   . show 0<g (gO (bV b.A top r) top) top p;rw[lu T1.isA ht,if_pos rfl];omega
   . show g (gO (bV b.A top r) top) i p=0;rw[lu T1.isA ht,if_neg (by omega)];exact z1 i h1 h2
 . rw[if_neg hs];exact⟨T1,up,lo,zs,by show 0<g (bV b.A top r) top p;rw[gt]at hs⊢;omega,z1⟩
def nk(p top:Nat):Nat->B3->B3
 |0,b=>b
 |k+1,b=>
  let c:=nk p top k b
  ⟨cf c.A k ((g c.A k p).fdiv (g c.A top p)) top,cf c.U k ((g c.A k p).fdiv (g c.A top p)) top,cf c.C top (-((g c.A k p).fdiv (g c.A top p))) k⟩
structure qX(A0:Rows)(N w top p e u:Nat)(b:B3)(k:Nat)(c:B3):Prop where
 tn:Tn A0 c.A c.U c.C N w
 rA:∀i,k<=i->c.A.getD i []=b.A.getD i []/\c.U.getD i []=b.U.getD i []
 rC:∀i,i≠top->c.C.getD i []=b.C.getD i []
 ah:∀i q,i<k->q<p->g c.A i q=g b.A i q
 rd:∀i,i<k->0<=g c.A i p/\g c.A i p<g c.A top p
 sz:∀i q,i<k->(g c.A i q).natAbs<=2^(u+e+1)/\(g c.U i q).natAbs<=2^(u+e+1)
 sC:∀q,(g c.C top q).natAbs<=2^e+k*2^(u+u)
theorem i8(a:Int){b:Int}(hb:0<b):(a.fdiv b).natAbs<=a.natAbs:=by
 rw[Int.fdiv_eq_ediv_of_nonneg _ (Int.le_of_lt hb)];exact Int.natAbs_ediv_le_natAbs a b
theorem xi{x y:Int}{a b:Nat}(hx:x.natAbs<=a)(hy:y.natAbs<=b):(x-y).natAbs<=a+b:=Nat.le_trans (Int.natAbs_sub_le x y) (Nat.add_le_add hx hy)
theorem qX.step{A0:Rows}{N w top p e u k:Nat}{b c:B3}(I:qX A0 N w top p e u b k c)(hk:k<top)(ht:top<N)(hp:p<w)(htp:0<g b.A top p)(hz:∀q,q<p->g b.A top q=0)
 (hlo:∀q,(g b.A top q).natAbs<=2^e/\(g b.U top q).natAbs<=2^e) (hhi:∀i q,i<top->(g b.A i q).natAbs<=2^u/\(g b.U i q).natAbs<=2^u/\(g b.C i q).natAbs<=2^u):
 qX A0 N w top p e u b (k+1) ⟨cf c.A k ((g c.A k p).fdiv (g c.A top p)) top,cf c.U k ((g c.A k p).fdiv (g c.A top p)) top,cf c.C top (-((g c.A k p).fdiv (g c.A top p))) k⟩:=by
 have hkN:k<N:=by omega
 have gA:∀i q,k<=i->g c.A i q=g b.A i q:=fun i q hi=>by unfold g;rw[(I.rA i hi).1]
 have gU:∀i q,k<=i->g c.U i q=g b.U i q:=fun i q hi=>by unfold g;rw[(I.rA i hi).2]
 have gC:∀i q,i≠top->g c.C i q=g b.C i q:=fun i q hi=>by unfold g;rw[I.rC i hi]
 have qe:((g c.A k p).fdiv (g c.A top p)).natAbs<=2^u:=by
  rw[gA k p (Nat.le_refl _),gA top p (by omega)];exact Nat.le_trans (i8 _ htp) (hhi k p hk).1
 have hq:∀x:Int,x.natAbs<=2^e->((g c.A k p).fdiv (g c.A top p)*x).natAbs<=2^(u+e):=fun x hx=>by
  rw[Int.natAbs_mul,Nat.pow_add];exact Nat.mul_le_mul qe hx
 have le1:2^u<=2^(u+e):=Nat.pow_le_pow_right (by decide) (by omega);refine⟨I.tn.take hkN ht (by omega),fun i hi=>?_,fun i hi=>?_,fun i q hi hqp=>?_,fun i hi=>?_,fun i q hi=>?_,fun q=>?_⟩
 . exact⟨(kh (by rw[I.tn.isA.len];exact hkN) (by omega)).trans (I.rA i (by omega)).1,(kh (by rw[I.tn.eR.len];exact hkN) (by omega)).trans (I.rA i (by omega)).2⟩
 . exact(kh (by rw[I.tn.gF.len];exact ht) hi).trans (I.rC i hi)
 . show g (cf c.A k _ top) i q=_;rw[fC I.tn.isA hkN ht];split
   . rename_i h;rw[gA top q (by omega),hz q hqp,Int.mul_zero,gA k q (Nat.le_refl _),h];omega
   . exact I.ah i q (by omega) hqp
 . show 0<=g (cf c.A k _ top) i p/\g (cf c.A k _ top) i p<g (cf c.A k _ top) top p;rw[fC I.tn.isA hkN ht,fC I.tn.isA hkN ht,if_neg (show¬top=k by omega)];split
   . have h1:=Int.mul_fdiv_add_fmod (g c.A k p) (g c.A top p);have htp':0<g c.A top p:=by rw[gA top p (by omega)];exact htp
     have h2:=Int.fmod_nonneg_of_pos (g c.A k p) htp';have h3:=Int.fmod_lt_of_pos (g c.A k p) htp';rw[Int.mul_comm]at h1;omega
   . exact I.rd i (by omega)
 . show(g (cf c.A k _ top) i q).natAbs<=_/\(g (cf c.U k _ top) i q).natAbs<=_;rw[fC I.tn.isA hkN ht,fC I.tn.eR hkN ht];split
   . have a1:=hq (g c.A top q) (by rw[gA top q (by omega)];exact(hlo q).1);have a2:=hq (g c.U top q) (by rw[gU top q (by omega)];exact(hlo q).2);rw[gA k q (Nat.le_refl _),gU k q (Nat.le_refl _)];rw[Nat.pow_succ,Nat.mul_two];exact⟨xi (Nat.le_trans (hhi k q hk).1 le1) a1,xi (Nat.le_trans (hhi k q hk).2.1 le1) a2⟩
   . exact I.sz i q (by omega)
 . show(g (cf c.C top _ k) top q).natAbs<=_;rw[fC I.tn.gF ht hkN,if_pos rfl,gC k q (by omega),Int.neg_mul];have a1:=I.sC q
   have a2:((g c.A k p).fdiv (g c.A top p)*g b.C k q).natAbs<=2^(u+u):=by
    rw[Int.natAbs_mul,Nat.pow_add];exact Nat.mul_le_mul qe (hhi k q hk).2.2
   rw[Nat.add_mul,Nat.one_mul,<-Nat.add_assoc];exact xi a1 (by rw[Int.natAbs_neg];exact a2)
theorem qX.start{A0:Rows}{N w top p e u:Nat}{b:B3}(T:Tn A0 b.A b.U b.C N w)(h:∀q,(g b.C top q).natAbs<=2^e):qX A0 N w top p e u b 0 b:=
 ⟨T,fun _ _=>⟨rfl,rfl⟩,fun _ _=>rfl,fun _ _ h=>absurd h (Nat.not_lt_zero _),fun _ h=>absurd h (Nat.not_lt_zero _),fun _ _ h=>absurd h (Nat.not_lt_zero _),fun q=>by rw[Nat.zero_mul];exact h q⟩
theorem xk.next{A0:Rows}{N w top p e u e' u':Nat}{b0 b c:B3}{ld:Nat->Nat}(S:kn A0 N w b0 top p ld e u)(s:xk A0 N w top p (2^e') b0 b)(ht:top<N)(I:qX A0 N w top p e' u b top c)(hN:N<=8)
 (h1:u+e'+1<=u') (h2:u+u+4<=u'):kn A0 N w c (top+1) (p+1) (fun i=>if i=top then p else ld i) e' u':=by
 have hup:∀i q,i<top->g b.A i q=g b0.A i q:=fun i q hi=>by unfold g;rw[(s.up i hi).1]
 have hA:∀i q,top<=i->g c.A i q=g b.A i q:=fun i q hi=>by unfold g;rw[(I.rA i hi).1]
 have hU:∀i q,top<=i->g c.U i q=g b.U i q:=fun i q hi=>by unfold g;rw[(I.rA i hi).2]
 have hC:∀i q,i≠top->g c.C i q=g b.C i q:=fun i q hi=>by unfold g;rw[I.rC i hi]
 have le:∀ {a x:Nat},a<=2^x->x<=u'->a<=2^u':=fun h hx=>Nat.le_trans h (Nat.pow_le_pow_right (by decide) hx);refine⟨I.tn,ht,⟨fun i q hi hN=>?_,fun i q hi hN=>?_,fun i q hi hN=>?_⟩,fun i q hi=>?_,fun i q hi hN hq=>?_,fun i hi=>?_,fun i j hij hj=>?_,fun i j hij hj=>?_⟩
 . rw[hA i q (by omega)];exact s.lo.1 i q (by omega) hN
 . rw[hU i q (by omega)];exact s.lo.2.1 i q (by omega) hN
 . rw[hC i q (by omega)];exact s.lo.2.2 i q (by omega) hN
 . by_cases h:i=top
   . subst h;refine⟨?_,?_,?_⟩
     . rw[hA i q (Nat.le_refl _)];exact le (s.lo.1 i q (Nat.le_refl _) ht) (by omega)
     . rw[hU i q (Nat.le_refl _)];exact le (s.lo.2.1 i q (Nat.le_refl _) ht) (by omega)
     . have h3:=I.sC q;have h4:i*2^(u+u)<=2^(u+u+3):=by rw[Nat.pow_add _ _ 3,Nat.mul_comm];exact Nat.mul_le_mul_left _ (by omega)
       have h5:2^(u+u+3)*2<=2^u':=by rw[<-Nat.pow_succ];exact Nat.pow_le_pow_right (by decide) h2
       have h6:2^e'*2<=2^u':=by rw[<-Nat.pow_succ];exact Nat.pow_le_pow_right (by decide) (by omega)
       omega
   . have hi':i<top:=by omega
     refine⟨le (I.sz i q hi').1 h1,le (I.sz i q hi').2 h1,?_⟩;rw[hC i q h];have:g b.C i q=g b0.C i q:=by unfold g;rw[(s.up i hi').2.2]
     rw[this];exact le (S.hi i q hi').2.2 (by omega)
 . rw[hA i q (by omega)];by_cases h:q=p
   . rw[h];exact s.z1 i (by omega) hN
   . exact s.zs i q (by omega) hN (by omega)
 . by_cases h:i=top
   . subst h;rw[if_pos rfl];refine⟨Nat.lt_succ_self p,?_,fun q hq=>?_⟩
     . rw[hA i p (Nat.le_refl _)];exact s.tp
     . rw[hA i q (Nat.le_refl _)];exact s.zs i q (Nat.le_refl _) ht hq
   . have hi':i<top:=by omega
     rw[if_neg h];obtain⟨a1,a2,a3⟩:=S.lead i hi';refine⟨Nat.lt_succ_of_lt a1,?_,fun q hq=>?_⟩
     . rw[I.ah i _ hi' a1,hup i _ hi'];exact a2
     . rw[I.ah i _ hi' (Nat.lt_trans hq a1),hup i _ hi'];exact a3 q hq
 . by_cases h:j=top
   . rw[if_pos h,if_neg (by omega)];exact(S.lead i (by omega)).1
   . rw[if_neg h,if_neg (by omega)];exact S.mono i j hij (by omega)
 . by_cases h:j=top
   . subst h;rw[if_pos rfl];exact I.rd i hij
   . have hj':j<top:=by omega
     rw[if_neg h];have:=S.red i j hij hj';have hl:=(S.lead j hj').1;rw[I.ah i _ (by omega) hl,I.ah j _ hj' hl,hup i _ (by omega),hup j _ hj'];exact this
theorem Tn.start{A:Rows}{N w:Nat}(hA:dY N w A):Tn A A (units N) (units N) N w where
 isA:=hA
 eR:=vp N
 gF:=vp N
 ua:=fun i c hi hc=>by
  rw[<-qp hi fun k=>g A k c];exact aY fun m hm=>by rw[l9 hi hm]
 ub:=fun i j hi hj=>by
  rw[xy i j,<-qp hi fun k=>dl j k]
  . exact aY fun m hm=>by rw[l9 hi hm,l9 hj hm]
 bu:=fun i j hi hj=>by
  rw[<-sT hi fun k=>dl k j];exact aY fun m hm=>by rw[l9 hm hi,l9 hm hj,Int.mul_comm]
theorem kn.start{A:Rows}{N w e:Nat}(hA:dY N w A)(h:jH A N 0 (2^e)):kn A N w ⟨A,units N,units N⟩ 0 0 (fun _=>0) e 0:=by
 have hu:jH (units N) N 0 (2^e):=fun i c _ hi=>by
  by_cases hc:c<N
  . rw[l9 hi hc];unfold dl;split
    . exact Nat.one_le_two_pow
    . exact Nat.zero_le _
  . unfold g;rw[n_ (l:=(units N).getD i []) (by rw[c9 (vp N) hi];omega)];exact Nat.zero_le _
 exact⟨Tn.start hA,Nat.zero_le _,⟨h,hu,hu⟩,fun _ _ h=>absurd h (Nat.not_lt_zero _),fun _ _ _ _ h=>absurd h (Nat.not_lt_zero _),fun _ h=>absurd h (Nat.not_lt_zero _),fun _ _ _ h=>absurd h (Nat.not_lt_zero _),fun _ _ _ h=>absurd h (Nat.not_lt_zero _)⟩
def SU(f:Nat->Nat):Nat->Nat
 |0=>0
 |n+1=>SU f n+f n
theorem Ih{f f':Nat->Nat}:∀ {n:Nat},(∀i,i<n->f' i<=f i)->SU f' n<=SU f n
 |0,_=>Nat.le_refl _
 |n+1,h=>Nat.add_le_add (Ih fun i hi=>h i (Nat.lt_succ_of_lt hi)) (h n (Nat.lt_succ_self n))
theorem ID{f f':Nat->Nat}{k:Nat}(hlt:f' k<f k):∀ {n:Nat},k<n->(∀i,i<n->f' i<=f i)->SU f' n<SU f n
 |0,hk,_=>absurd hk (Nat.not_lt_zero _)
 |n+1,hk,h=>by
  by_cases e:k=n
  . subst e;exact Nat.add_lt_add_of_le_of_lt (Ih fun i hi=>h i (Nat.lt_succ_of_lt hi)) hlt
  . exact Nat.add_lt_add_of_lt_of_le (ID hlt (by omega) fun i hi=>h i (Nat.lt_succ_of_lt hi)) (h n (Nat.lt_succ_self n))
def mu(A:Rows)(N p:Nat):Nat:=SU (fun i=>(g A i p).natAbs) N
inductive M7(N p:Nat):Nat->B3->Nat->B3->Prop
 |none {top:Nat} {b:B3} (h:m_ b.A N top p []):M7 N p top b top b
 |one {top r:Nat} {b c:B3} (h:jO N top p b c) (l:m_ c.A N top p [r]):M7 N p top b (top+1) (nk p top top (setB c p top r))
inductive ve(A:Rows)(N:Nat):Nat->Nat->B3->Prop
 |start:ve A N 0 0 ⟨A,units N,units N⟩
 |next {p t t':Nat} {b b':B3} (h:ve A N p t b) (c:M7 N p t b t' b'):ve A N (p+1) t' b'
def Ez(N e0:Nat):Nat->Nat
 |0=>e0
 |t+1=>(N-t+1)*(Ez N e0 t+1)
def Vz(N e0:Nat):Nat->Nat
 |0=>0
 |t+1=>Vz N e0 t+Vz N e0 t+Ez N e0 (t+1)+5
theorem LL:∀N,N<9->∀t,t<N+1->Ez N 48 t<=50000000/\Vz N 48 t<=60000000:=by decide+kernel
def nv(X:Rows)(n w:Nat)(v:Nat->Int):Prop:=∃z:Nat->Int,∀c,c<w->v c=S n fun k=>z k*g X k c
theorem nv.row{X:Rows}{n w k:Nat}(hk:k<n):nv X n w (g X k):=⟨fun i=>dl k i,fun c _=>(qp hk fun i=>g X i c).symm⟩
structure fX(X:Rows)(n w:Nat)(ld:Nat->Nat):Prop where
 lead:∀i,i<n->ld i<w/\0<g X i (ld i)/\∀c,c<ld i->g X i c=0
 mono:∀i j,i<j->j<n->ld i<ld j
theorem fX.inj{X:Rows}{n w:Nat}{ld:Nat->Nat}(s:fX X n w ld){i j:Nat}(hi:i<n)(hj:j<n)(h:ld i=ld j):i=j:=by
 rcases Nat.lt_trichotomy i j with q|q|q
 . exact absurd h (Nat.ne_of_lt (s.mono i j q hj))
 . exact q
 . exact absurd h.symm (Nat.ne_of_lt (s.mono j i q hi))
theorem qu{X:Rows}{n i q:Nat}(h:i<n):g (X.take n) i q=g X i q:=by
 unfold g;rw[List.getD_eq_getElem?_getD (l:=X.take n),List.getD_eq_getElem?_getD (l:=X),List.getElem?_take_of_lt h]
theorem nv.Qf{X:Rows}{n w:Nat}{u v:Nat->Int}(x:Int)(hu:nv X n w u)(hv:nv X n w v):nv X n w fun c=>u c+x*v c:=by
 obtain⟨y,hy⟩:=hu;obtain⟨z,hz⟩:=hv;refine⟨fun k=>y k+x*z k,fun c hc=>?_⟩;show u c+x*v c=S n fun k=>(y k+x*z k)*g X k c;rw[hy c hc,hz c hc,<-gg,<-jY];exact aY fun k _=>by rw[Int.add_mul,Int.mul_assoc]
theorem nv.eq{X:Rows}{n w:Nat}{u v:Nat->Int}(hu:nv X n w u)(h:∀c,c<w->v c=u c):nv X n w v:=by
 obtain⟨y,hy⟩:=hu;exact⟨y,fun c hc=>(h c hc).trans (hy c hc)⟩
theorem nv.zero{X:Rows}{n w:Nat}{v:Nat->Int}(h:∀c,c<w->v c=0):nv X n w v:=
 ⟨fun _=>0,fun c hc=>by rw[h c hc,qc fun k _=>Int.zero_mul _]⟩
theorem qx{X:Rows}{r:Row}{k:Nat}(hk:k<=X.length)(i:Nat):(X.take k++r::X.drop k).getD i []=if i<k then X.getD i []else if i=k then r else X.getD (i-1) []:=by
 have lt:(X.take k).length=k:=by rw[List.length_take];omega
 rw[List.getD_eq_getElem?_getD,List.getD_eq_getElem?_getD,List.getD_eq_getElem?_getD];by_cases h:i<k
 . rw[if_pos h,List.getElem?_append_left (by rw[lt];exact h),List.getElem?_take_of_lt h]
 . rw[if_neg h,List.getElem?_append_right (by rw[lt];omega),lt];by_cases h2:i=k
   . rw[if_pos h2,h2,Nat.sub_self];rfl
   . rw[if_neg h2];have:i-k=(i-1-k)+1:=by omega
     rw[this,List.getElem?_cons_succ,List.getElem?_drop];congr 2;omega
structure rW(F:Rows)(w:Nat)(ld:Nat->Nat)(row:Nat->Int)(i:Nat)(o:Int)(L:Nat->Int):Prop where
 pos:0<o
 sum:nv F i w fun c=>o*row c-L c
 off:∀k,k<i->L (ld k)=0
 least:∀(m:Int) (v:Nat->Int),nv F i w v->(∀k,k<i->m*row (ld k)=v (ld k))->o∣m
structure Ak(F:Rows)(n w:Nat)(ld:Nat->Nat)(row:Nat->Int)(i:Nat)(L:Nat->Int):Prop where
 sum:nv F n w fun c=>row c-L c
 red:∀k,k<i->0<=L (ld k)/\L (ld k)<g F k (ld k)
theorem Ak.start{F:Rows}{n w:Nat}{ld:Nat->Nat}{row:Nat->Int}:Ak F n w ld row 0 row:=⟨nv.zero fun c _=>Int.sub_self _,fun _ h=>absurd h (Nat.not_lt_zero _)⟩
theorem Ak.step{F:Rows}{n w i:Nat}{ld:Nat->Nat}{row L:Nat->Int}(s:fX F n w ld)(hi:i<n)(f:Ak F n w ld row i L):Ak F n w ld row (i+1) fun c=>L c-(L (ld i)).fdiv (g F i (ld i))*g F i c:=by
 obtain⟨l1,l2,l3⟩:=s.lead i hi;refine⟨(f.sum.Qf ((L (ld i)).fdiv (g F i (ld i))) (nv.row hi)).eq fun c _=>by omega,fun k hk=>?_⟩;show 0<=L (ld k)-_*g F i (ld k)/\L (ld k)-_*g F i (ld k)<_;rcases Nat.lt_or_ge k i with h|h
 . rw[l3 _ (s.mono k i h hi),Int.mul_zero,Int.sub_zero];exact f.red k h
 . have:k=i:=Nat.le_antisymm (Nat.le_of_lt_succ hk) h;subst this;have e:=Int.fmod_add_mul_fdiv (L (ld k)) (g F k (ld k));have a:=Int.fmod_nonneg_of_pos (L (ld k)) l2;have b:=Int.fmod_lt_of_pos (L (ld k)) l2;rw[Int.mul_comm]at e;omega
theorem zw{K m:Nat}:∀ {n:Nat} {M:Fn},n<=K->(∀r c,r<n->c<n->(M r c).natAbs<=m)->(D n M).natAbs<=(K*m)^n
 |0,_,_,_=>by simp[D]
 |n+1,M,hn,h=>by
  rw[dW]
  have key:∀j,j<n+1->(sg j*M 0 j*D n fun r c=>M (r+1) (sk j c)).natAbs<=m*(K*m)^n:=fun j hj=>by
   have a:=zw (K:=K) (m:=m) (n:=n) (M:=fun r c=>M (r+1) (sk j c)) (by omega) fun r c hr hc=>h (r+1) (sk j c) (by omega) (kE hc);have b:=h 0 j (by omega) hj;have s:(sg j).natAbs=1:=by unfold sg;split<;>rfl
   rw[Int.natAbs_mul,Int.natAbs_mul,s,Nat.one_mul];exact Nat.mul_le_mul b a
  refine Nat.le_trans (Iq key) ?_;rw[Nat.pow_succ,Nat.mul_comm ((K*m)^n),Nat.mul_assoc];exact Nat.mul_le_mul_right _ hn
theorem pick{t N:Nat}{U B:Fn}(h:∀k l,k<t->l<t->S N (fun i=>U k i*B i l)=dl k l):∃I:Nat->Nat,(∀k,k<t->I k<N)/\D t (fun k l=>B (I k) l)≠0:=by
 apply Classical.byContradiction;intro no
 have go:∀s,s<=t->∀I:Nat->Nat,(∀k,k<t->s<=k->I k<N)->D t (fun k l=>if k<s then dl k l else B (I k) l)=0:=by
  intro s;induction s with
  |zero=>
   intro _ I hI;exact Classical.byContradiction fun z=>no ⟨I,fun k hk=>hI k hk (Nat.zero_le _),z⟩
  |succ s ih=>
   intro hs I hI
   have e:D t (fun k l=>if k<s+1 then dl k l else B (I k) l)=D t (upd (fun k l=>if k<s then dl k l else B (I k) l) s fun l=>S N fun j=>U s j*B j l):=dF fun k l hk hl=>by
    unfold upd;by_cases h1:k=s
    . subst h1;rw[if_pos rfl,if_pos (Nat.lt_succ_self _)];exact(h k l hk hl).symm
    . rw[if_neg h1];show _=if k<s then dl k l else B (I k) l
      by_cases h2:k<s
      . rw[if_pos (by omega),if_pos h2]
      . rw[if_neg (by omega),if_neg h2]
   rw[e,(uf t).wG (by omega)];refine qc fun j hj=>?_
   have e2:=ih (by omega) (fun k=>if k=s then j else I k) fun k hk hsk=>by
    by_cases h1:k=s
    . rw[if_pos h1];exact hj
    . rw[if_neg h1];exact hI k hk (by omega)
   have e3:D t (upd (fun k l=>if k<s then dl k l else B (I k) l) s (B j))=D t (fun k l=>if k<s then dl k l else B (if k=s then j else I k) l):=dF fun k l hk hl=>by
    unfold upd;by_cases h1:k=s
    . subst h1;rw[if_pos rfl,if_neg (Nat.lt_irrefl _),if_pos rfl]
    . rw[if_neg h1,if_neg h1]
   rw[e3,e2,Int.mul_zero]
 have z:=go t (Nat.le_refl _) (fun _=>0) fun k h1 h2=>absurd h1 (Nat.not_lt.mpr h2);rw[dF (M':=dl) fun r c hr hc=>if_pos hr,xI]at z;exact absurd z (by decide)
theorem y_:∀ {n:Nat} {f:Nat->Int},(∀i,i<n->0<f i)->0<Pr n f
 |0,_,_=>show(0:Int)<1 by decide
 |n+1,f,h=>Int.mul_pos (y_ fun i hi=>h i (Nat.lt_succ_of_lt hi)) (h n (Nat.lt_succ_self n))
theorem HV:∀ {n:Nat} {f:Nat->Int},(∀i,i<n->0<f i)->∀k,k<n->f k<=Pr n f
 |n+1,f,h,k,hk=>by
  have p:=y_ fun i hi=>h i (Nat.lt_succ_of_lt hi);have q:=h n (Nat.lt_succ_self n);show f k<=Pr n f*f n;by_cases e:k=n
  . subst e;have:=Int.mul_le_mul_of_nonneg_right (show(1:Int)<=Pr k f from p) (Int.le_of_lt q);omega
  . have a:=HV (fun i hi=>h i (Nat.lt_succ_of_lt hi)) k (by omega);have:=Int.mul_le_mul_of_nonneg_left (show(1:Int)<=f n from q) (Int.le_of_lt p);omega
theorem wm{w x:Int}{m:Nat}(hw:w≠0)(h:(w*x).natAbs<=m):x.natAbs<=m:=by
 rw[Int.natAbs_mul]at h;exact Nat.le_trans (Nat.le_mul_of_pos_left _ (by omega)) h
theorem EG{b i j:Nat}(h:1<=b)(l:i<=j):(9*b)^i<=(9*b)^j:=Nat.pow_le_pow_right (by omega) l
theorem Ge{A F U B:Fn}{N w t b:Nat}{ld:Nat->Nat}(t8:t<=8)(b1:1<=b)(hA:∀i c,i<N->c<w->(A i c).natAbs<=b)(hAF:∀i c,i<N->c<w->A i c=S t fun k=>B i k*F k c)(hUB:∀k l,k<t->l<t->S N (fun i=>U k i*B i l)=dl k l)(lead:∀i,i<t->ld i<w/\0<F i (ld i)/\∀c,c<ld i->F i c=0)(mono:∀i j,i<j->j<t->ld i<ld j)(red:∀i j,i<j->j<t->0<=F i (ld j)/\F i (ld j)<F j (ld j)):
 Pr t (fun i=>F i (ld i))<=((9*b)^8:Nat)/\∀k c,k<t->c<w->(F k c).natAbs<=8*((9*b)^9*(9*b)^8):=by
 obtain⟨I,hI,hw⟩:=pick hUB;have eE:D t (fun k l=>F k (ld l))=Pr t fun i=>F i (ld i):=Qn fun r c hr hc h=>(lead r hr).2.2 _ (mono c r h hr);have pos:0<Pr t fun i=>F i (ld i):=y_ fun i hi=>(lead i hi).2.1
 have eM:D t (fun k l=>A (I k) (ld l))=D t (fun k l=>B (I k) l)*D t fun k l=>F k (ld l):=by
  rw[<-HN];exact dF fun k l hk hl=>hAF _ _ (hI k hk) (lead l hl).1
 have bM:(D t (fun k l=>A (I k) (ld l))).natAbs<=(9*b)^t:=zw (K:=9) (by omega) fun r c hr hc=>hA _ _ (hI r hr) (lead c hc).1;rw[eM,eE]at bM;have bP:(Pr t fun i=>F i (ld i)).natAbs<=(9*b)^8:=Nat.le_trans (wm hw bM) (EG b1 t8);refine⟨by omega,fun k c hk hc=>?_⟩
 have bF:∀l,l<t->(F k (ld l)).natAbs<=(9*b)^8:=fun l hl=>by
  have p:=HV (f:=fun i=>F i (ld i)) (fun i hi=>(lead i hi).2.1) l hl;rcases Nat.lt_trichotomy k l with h|h|h
  . have:=red k l h hl;have p':F l (ld l)<=Pr t fun i=>F i (ld i):=p;omega
  . subst h;have q:=(lead k hk).2.1;have p':F k (ld k)<=Pr t fun i=>F i (ld i):=p;omega
  . rw[(lead k hk).2.2 _ (mono l k h hk)];exact Nat.zero_le _
 have e0:=NT (fun l k=>F k (ld l)) t (fun k=>F k c) k;rw[Mf hk]at e0;have eT:D t (fun l k=>F k (ld l))=Pr t fun i=>F i (ld i):=by rw[<-eE];exact zp t fun k l=>F k (ld l)
 rw[eT]at e0
 have bB:∀l,l<t->(D t (fun k l=>B (I k) l)*bt (fun l k=>F k (ld l)) t (fun k=>F k c) l).natAbs<=(9*b)^9:=fun l hl=>by
  have eW:D (t+1) (fun i k=>if i=t then dl t k else if k=t then 0 else B (I i) k)=D t fun k l=>B (I k) l:=by
   rw[zZ fun c _=>if_pos rfl];exact dF fun r c hr hc=>by rw[if_neg (by omega),if_neg (by omega)]
  have eX:D (t+1) (upd (fun i r=>if r<t then A (I i) (ld r)else A (I i) c) t (dl l))=D t (fun k l=>B (I k) l)*bt (fun l k=>F k (ld l)) t (fun k=>F k c) l:=by
   unfold bt;rw[<-eW,<-HN];refine dF fun i r hi hr=>?_;by_cases h:i=t
   . subst h;rw[cL];have:(S (i+1) fun k=>(if i=i then dl i k else if k=i then 0 else B (I i) k)*upd (fun c_1 r=>if r<i then F c_1 (ld r)else F c_1 c) i (dl l) k r)=S (i+1) fun k=>dl i k*upd (fun c_1 r=>if r<i then F c_1 (ld r)else F c_1 c) i (dl l) k r:=aY fun k _=>by rw[if_pos rfl]
     rw[this,qp (Nat.lt_succ_self i),cL]
   . have hi':i<t:=by omega
     rw[aG h];show _=(S t fun k=>(if i=t then dl t k else if k=t then 0 else B (I i) k)*upd (fun c_1 r=>if r<t then F c_1 (ld r)else F c_1 c) t (dl l) k r)+(if i=t then dl t t else if t=t then 0 else B (I i) t)*upd (fun c_1 r=>if r<t then F c_1 (ld r)else F c_1 c) t (dl l) t r;have z:(if i=t then dl t t else if t=t then 0 else B (I i) t)*upd (fun c_1 r=>if r<t then F c_1 (ld r)else F c_1 c) t (dl l) t r=0:=by rw[if_neg h,if_pos rfl,Int.zero_mul]
     rw[z,Int.add_zero]
     have e2:∀k,k<t->(if i=t then dl t k else if k=t then 0 else B (I i) k)*upd (fun c_1 r=>if r<t then F c_1 (ld r)else F c_1 c) t (dl l) k r=B (I i) k*(if r<t then F k (ld r)else F k c):=fun k hk=>by
      rw[if_neg h,if_neg (by omega),aG (by omega)]
     rw[aY e2];by_cases hrt:r<t
     . rw[if_pos hrt,hAF _ _ (hI i hi') (lead r hrt).1];exact aY fun k _=>by rw[if_pos hrt]
     . rw[if_neg hrt,hAF _ _ (hI i hi') hc];exact aY fun k _=>by rw[if_neg hrt]
  rw[<-eX];refine Nat.le_trans (zw (K:=9) (by omega) fun r q hr hq=>?_) (EG b1 (show t+1<=9 by omega));by_cases h:r=t
  . subst h;rw[cL];unfold dl;split<;>omega
  . rw[aG h];have hr':r<t:=by omega
    split
    . rename_i hq';exact hA _ _ (hI r hr') (lead q hq').1
    . exact hA _ _ (hI r hr') hc
 have e1:D t (fun k l=>B (I k) l)*(Pr t fun i=>F i (ld i))*F k c= -S t fun l=>(D t (fun k l=>B (I k) l)*bt (fun l k=>F k (ld l)) t (fun k=>F k c) l)*F k (ld l):=by
  have:(S t fun l=>(D t (fun k l=>B (I k) l)*bt (fun l k=>F k (ld l)) t (fun k=>F k c) l)*F k (ld l))=D t (fun k l=>B (I k) l)*S t fun l=>bt (fun l k=>F k (ld l)) t (fun k=>F k c) l*F k (ld l):=by
   rw[<-gg];exact aY fun l _=>Int.mul_assoc _ _ _
  rw[this,Int.mul_assoc,<-Int.mul_neg];congr 1;omega
 refine wm (w:=D t (fun k l=>B (I k) l)*(Pr t fun i=>F i (ld i))) (Int.mul_ne_zero hw (Int.ne_of_gt pos)) ?_;rw[e1,Int.natAbs_neg];refine Nat.le_trans (Iq fun l hl=>?_) (Nat.mul_le_mul_right _ t8);rw[Int.natAbs_mul];exact Nat.mul_le_mul (bB l hl) (bF l hl)
theorem kn.back{A0:Rows}{N w top e u:Nat}{c:B3}{ld:Nat->Nat}(H:kn A0 N w c top w ld e u){i q:Nat}(hi:i<N)(hq:q<w):g A0 i q=S top fun k=>g c.C k i*g c.A k q:=by
 have T:=H.tn
 have e1:S N (fun k=>g c.C k i*g c.A k q)=g A0 i q:=by
  have:S N (fun k=>g c.C k i*g c.A k q)=S N fun k=>S N fun m=>g c.C k i*g c.U k m*g A0 m q:=aY fun k hk=>by
   rw[T.ua k q hk hq,<-gg];exact aY fun m _=>(Int.mul_assoc _ _ _).symm
  rw[this,zB];have:(S N fun m=>S N fun k=>g c.C k i*g c.U k m*g A0 m q)=S N fun m=>dl i m*g A0 m q:=aY fun m hm=>by rw[Ec,T.bu i m hi hm]
  rw[this,qp hi]
 have cut:∀n,top<=n->n<=N->S n (fun k=>g c.C k i*g c.A k q)=S top fun k=>g c.C k i*g c.A k q:=fun n=>by
  induction n with
  |zero=>intro h _;rw[Nat.le_zero.mp h]
  |succ n ih=>
   intro h h2;by_cases e:top=n+1
   . rw[e]
   . show S n _+g c.C n i*g c.A n q=_;rw[ih (by omega) (by omega),H.zs n q (by omega) (by omega) hq,Int.mul_zero,Int.add_zero]
 rw[<-e1,cut N H.le (Nat.le_refl _)]
theorem kn.small{A0:Rows}{N w top e u b:Nat}{c:B3}{ld:Nat->Nat}(H:kn A0 N w c top w ld e u)(hN:N<=8)(b1:1<=b)(hA:∀i c,i<N->c<w->(g A0 i c).natAbs<=b):
 Pr top (fun i=>g c.A i (ld i))<=((9*b)^8:Nat)/\∀k q,k<top->q<w->(g c.A k q).natAbs<=8*((9*b)^9*(9*b)^8):=
 Ge (A:=g A0) (F:=g c.A) (U:=g c.U) (B:=fun i k=>g c.C k i) (Nat.le_trans H.le hN) b1 hA (fun i q hi hq=>H.back hi hq) (fun k l hk hl=>H.tn.ub k l (Nat.lt_of_lt_of_le hk H.le) (Nat.lt_of_lt_of_le hl H.le)) H.lead H.mono H.red
def dv(F:Rows)(i:Nat):Nat:=(F.getD i []).findIdx (fun x=>x != 0)
theorem vL:∀ {r:Row} {l:Nat},(∀c,c<l->r.getD c 0=0)->r.getD l 0≠0->r.findIdx (fun x=>x != 0)=l
 | [],l,_,h=>(h rfl).elim
 |x::r,0,_,h=>by
  have h':(x != 0)=true:=bne_iff_ne.mpr h;rw[List.findIdx_cons,h'];rfl
 |x::r,l+1,hz,h=>by
  have x0:(x != 0)=false:=bne_eq_false_iff_eq.mpr (hz 0 (Nat.zero_lt_succ _));rw[List.findIdx_cons,x0,vL (r:=r) (l:=l) (fun c hc=>hz (c+1) (Nat.succ_lt_succ hc)) h];rfl
theorem fX.dv{F:Rows}{n w:Nat}{ld:Nat->Nat}(s:fX F n w ld){i:Nat}(hi:i<n):Mx.dv F i=ld i:=by
 obtain⟨_,h2,h3⟩:=s.lead i hi;exact vL h3 (Int.ne_of_gt h2)
theorem fX.Q7{F:Rows}{n w:Nat}{ld:Nat->Nat}(s:fX F n w ld):fX F n w (Mx.dv F):=
 ⟨fun i hi=>by rw[s.dv hi];exact s.lead i hi,fun i j h hj=>by rw[s.dv hj,s.dv (Nat.lt_trans h hj)];exact s.mono i j h hj⟩
def sG(F:Rows)(L:Row)(i:Nat):Int:=(L.getD (dv F i) 0).fdiv (g F i (dv F i))
def eP(F:Rows)(r:Row):Nat->Row
 |0=>r
 |i+1=>fz (eP F r i) (-(sG F (eP F r i) i)) (F.getD i [])
def rV(F:Rows)(r:Row)(n:Nat):Row:=(List.range n).map fun i=>sG F (eP F r i) i
section
variable {F:Rows}{r:Row}{m w:Nat}(isF:dY m w F)(lr:r.length=w)
include isF lr
theorem qk:∀ {i:Nat},i<=m->(eP F r i).length=w
 |0,_=>lr
 |i+1,h=>by
  unfold eP;rw[l6 (by rw[qk (by omega),isF.row (by omega)])];exact qk (by omega)
theorem zL{i:Nat}(hi:i<m)(c:Nat):(eP F r (i+1)).getD c 0=(eP F r i).getD c 0-sG F (eP F r i) i*g F i c:=by
 conv=>lhs;unfold eP
 rw[tM (by rw[qk isF lr (by omega),isF.row hi]),Int.neg_mul];rfl
theorem BR:∀ {i:Nat},i<=m->∀c,r.getD c 0=(eP F r i).getD c 0+S i fun j=>sG F (eP F r j) j*g F j c
 |0,_,c=>(Int.add_zero _).symm
 |i+1,h,c=>by
  have e:=BR (i:=i) (by omega) c;rw[zL isF lr (by omega)];show _=_+(S i _+sG F (eP F r i) i*g F i c);omega
theorem BL(s:fX F m w (dv F)):∀ {i:Nat},i<=m->Ak F m w (dv F) (fun c=>r.getD c 0) i (fun c=>(eP F r i).getD c 0)
 |0,_=>Ak.start
 |i+1,h=>by
  have:=(BL s (i:=i) (by omega)).step s h
  have e:(fun c=>(eP F r (i+1)).getD c 0)=fun c=>(eP F r i).getD c 0-((eP F r i).getD (dv F i) 0).fdiv (g F i (dv F i))*g F i c:=by
   funext c;rw[zL isF lr h];rfl
  rw[e];exact this
theorem tZ{f e:Nat}(s:fX F m w (dv F))(hF:∀k c,k<m->c<w->(g F k c).natAbs<=2^f)(hr:∀c,c<w->(r.getD c 0).natAbs<=2^e):∀ {i:Nat},i<=m->∀c,c<w->((eP F r i).getD c 0).natAbs<=2^(e+i*(f+1))
 |0,_,c,hc=>by rw[Nat.zero_mul];exact hr c hc
 |i+1,h,c,hc=>by
  have ih:=tZ s hF hr (i:=i) (by omega);obtain⟨l1,l2,_⟩:=s.lead i h;have q:=Nat.le_trans (i8 ((eP F r i).getD (dv F i) 0) l2) (ih _ l1);rw[zL isF lr h]
  have p:(sG F (eP F r i) i*g F i c).natAbs<=2^(e+i*(f+1))*2^f:=by
   rw[Int.natAbs_mul];exact Nat.mul_le_mul q (hF i c h hc)
  have b:=ih c hc
  have e1:2^(e+(i+1)*(f+1))=2^(e+i*(f+1))*2^f*2:=by
   rw[show e+(i+1)*(f+1)=e+i*(f+1)+f+1 by rw[Nat.succ_mul];omega,Nat.pow_succ,Nat.pow_add]
  have e2:2^(e+i*(f+1))<=2^(e+i*(f+1))*2^f:=Nat.le_mul_of_pos_right _ (Nat.pow_pos (by decide));rw[e1];omega
end
theorem Gr{A0:Rows}{N w top e u:Nat}{c:B3}{ld:Nat->Nat}(H:kn A0 N w c top w ld e u){r ws:Row}(lw:ws.length=top)(hs:∀q,q<w->r.getD q 0=S top fun j=>ws.getD j 0*g c.A j q){q:Nat}(hq:q<w):(S N fun n=>(dP ws (c.U.take top) (List.replicate N 0)).getD n 0*g A0 n q)=r.getD q 0:=by
 have T:=H.tn;have hl:(c.U.take top).length=top:=by rw[List.length_take,T.eR.len];exact Nat.min_eq_left H.le
 have e1:∀n,(dP ws (c.U.take top) (List.replicate N 0)).getD n 0=S top fun j=>ws.getD j 0*g c.U j n:=fun n=>by
  rw[rl (n:=N) n (by simp) (fun r hr=>T.eR.lB r (List.mem_of_mem_take hr)) (by rw[hl,lw]),d7,Int.zero_add,hl];refine aY fun j hj=>?_;unfold g;rw[bQ (l:=c.U.take top) (by omega),List.getElem_take,bQ (l:=c.U) (by have:=T.eR.len;have:=H.le;omega)]
 have e2:(S N fun n=>(dP ws (c.U.take top) (List.replicate N 0)).getD n 0*g A0 n q)=S N fun n=>S top fun j=>ws.getD j 0*(g c.U j n*g A0 n q):=aY fun n _=>by
  rw[e1,<-Ec];exact aY fun j _=>Int.mul_assoc _ _ _
 rw[e2,zB,hs q hq];refine aY fun j hj=>?_;rw[gg,<-T.ua j q (Nat.lt_of_lt_of_le hj H.le) hq]
def SQ:Nat->(Nat->Rat)->Rat
 |0,_=>0
 |n+1,f=>SQ n f+f n
theorem qP{n:Nat}{f h:Nat->Rat}(e:∀i,i<n->f i=h i):SQ n f=SQ n h:=by
 induction n with
 |zero=>rfl
 |succ n ih=>unfold SQ;rw[ih fun i hi=>e i (by omega),e n (by omega)]
theorem xN{n:Nat}{f:Nat->Rat}(e:∀i,i<n->f i=0):SQ n f=0:=by
 induction n with
 |zero=>rfl
 |succ n ih=>unfold SQ;rw[ih fun i hi=>e i (by omega),e n (by omega)];grind
theorem D6(n:Nat)(f h:Nat->Rat):SQ n (fun i=>f i+h i)=SQ n f+SQ n h:=by
 induction n with
 |zero=>unfold SQ;grind
 |succ n ih=>unfold SQ;rw[ih];grind
theorem NK(n:Nat)(x:Rat)(f:Nat->Rat):SQ n (fun i=>x*f i)=x*SQ n f:=by
 induction n with
 |zero=>unfold SQ;grind
 |succ n ih=>unfold SQ;rw[ih];grind
theorem E9{n k:Nat}(hk:k<n){f:Nat->Rat}(h:∀i,i<n->i≠k->f i=0):SQ n f=f k:=by
 induction n with
 |zero=>omega
 |succ n ih=>
  unfold SQ;by_cases e:k=n
  . subst e;rw[xN fun i hi=>h i (by omega) (by omega)];grind
  . rw[ih (by omega) fun i hi hn=>h i (by omega) hn,h n (by omega) (by omega)];grind
theorem M9{n k:Nat}(hk:k<n){f h:Nat->Rat}(e:∀i,i<n->i≠k->h i=f i):SQ n h=SQ n f+(h k-f k):=by
 induction n with
 |zero=>omega
 |succ n ih=>
  unfold SQ;by_cases q:k=n
  . subst q;rw[qP (f:=h) (h:=f) fun i hi=>e i (by omega) (by omega)];grind
  . rw[ih (by omega) fun i hi hn=>e i (by omega) hn,e n (by omega) (by omega)];grind
def Wh(x:Rat):Prop:=∃z:Int,x=(z:Rat)
theorem Wh.zero:Wh 0:=⟨0,rfl⟩
theorem Wh.add{x y:Rat}(h:Wh x)(k:Wh y):Wh (x+y):=by
 obtain⟨a,rfl⟩:=h;obtain⟨b,rfl⟩:=k;exact⟨a+b,(Rat.intCast_add a b).symm⟩
theorem Wh.mul{x:Rat}(h:Wh x)(c:Int):Wh ((c:Rat)*x):=by
 obtain⟨a,rfl⟩:=h;exact⟨c*a,(Rat.intCast_mul c a).symm⟩
theorem Wh.neg{x:Rat}(h:Wh x):Wh (-x):=by
 obtain⟨a,rfl⟩:=h;exact⟨-a,(Rat.intCast_neg a).symm⟩
theorem Wh.den{x:Rat}:Wh x↔x.den=1:=by
 constructor
 . rintro⟨a,rfl⟩;rfl
 . intro h;exact⟨x.num,Rat.ext rfl h⟩
def dq(ps:List Rat)(w:Nat)(v:Nat->Int):Rat:=SQ w fun c=>ps.getD c 0*(v c:Rat)
theorem Eb(ps:List Rat)(w n:Nat)(x:Nat->Int)(f:Nat->Nat->Int):dq ps w (fun c=>S n fun k=>x k*f k c)=SQ n fun k=>(x k:Rat)*dq ps w (f k):=by
 induction n with
 |zero=>exact xN fun c _=>by show _*((0:Int):Rat)=0;grind
 |succ n ih=>
  have:dq ps w (fun c=>S (n+1) fun k=>x k*f k c)=dq ps w (fun c=>S n fun k=>x k*f k c)+(x n:Rat)*dq ps w (f n):=by
   unfold dq;rw[<-NK,<-D6];refine qP fun c _=>?_;show _*(((S n fun k=>x k*f k c)+x n*f n c:Int):Rat)=_;rw[Rat.intCast_add,Rat.intCast_mul];grind
  rw[this,ih];rfl
theorem Nw(ps:List Rat)(w:Nat)(u v:Nat->Int):dq ps w (fun c=>u c+v c)=dq ps w u+dq ps w v:=by
 unfold dq;rw[<-D6];exact qP fun c _=>by rw[Rat.intCast_add];grind
theorem AD{ps:List Rat}{w:Nat}{u v:Nat->Int}(h:∀c,c<w->u c=v c):dq ps w u=dq ps w v:=qP fun c hc=>by rw[h c hc]
theorem Ij{n:Nat}{f:Nat->Rat}(h:∀i,i<n->Wh (f i)):Wh (SQ n f):=by
 induction n with
 |zero=>exact Wh.zero
 |succ n ih=>exact(ih fun i hi=>h i (by omega)).add (h n (by omega))
theorem jc{ps:List Rat}{k:Nat}{x:Rat}(hk:k<ps.length)(c:Nat):(ps.set k x).getD c 0=if c=k then x else ps.getD c 0:=by
 rw[List.getD_eq_getElem?_getD,List.getD_eq_getElem?_getD];by_cases h:c=k
 . subst h;rw[List.getElem?_set_self hk,if_pos rfl];rfl
 . rw[List.getElem?_set_ne (Ne.symm h),if_neg h]
theorem LZ{ps:List Rat}{w k:Nat}{x:Rat}(lp:ps.length=w)(hk:k<w)(v:Nat->Int):dq (ps.set k x) w v=dq ps w v+(x-ps.getD k 0)*(v k:Rat):=by
 unfold dq;rw[M9 hk (f:=fun c=>ps.getD c 0*(v c:Rat)) fun c _ hn=>by rw[jc (by omega),if_neg hn]];rw[jc (by omega),if_pos rfl];grind
def Fz(F:Rows)(w l:Nat)(ps:List Rat)(k:Nat):List Rat:=if dv F k<l then ps.set (dv F k) ((0-dq ps w (g F k))/(g F k (dv F k):Rat))else ps
def mY(F:Rows)(m w l:Nat)(ps:List Rat):Nat->List Rat
 |0=>ps
 |i+1=>Fz F w l (mY F m w l ps i) (m-1-i)
def jC(w l:Nat)(b:Int):List Rat:=(List.replicate w 0).set l (Rat.divInt 1 b)
theorem Mp(w c:Nat):(List.replicate w (0:Rat)).getD c 0=0:=by
 rw[List.getD_eq_getElem?_getD,List.getElem?_replicate];split<;>rfl
structure ow(F:Rows)(m w l:Nat)(p:Rat)(i:Nat)(ps:List Rat):Prop where
 len:ps.length=w
 nil:∀c,c≠l->(∀k,m-i<=k->k<m->dv F k≠c)->ps.getD c 0=0
 hi:∀c,l<c->ps.getD c 0=0
 at_:ps.getD l 0=p
 off:∀k,m-i<=k->k<m->dv F k<l->dq ps w (g F k)=0
theorem ow.start{F:Rows}{m w l:Nat}(b:Int)(hl:l<w):ow F m w l (Rat.divInt 1 b) 0 (jC w l b):=by
 have hw:l<(List.replicate w (0:Rat)).length:=by simpa using hl
 refine⟨by unfold jC;simp,fun c hc _=>?_,fun c hc=>?_,?_,fun k h1 h2=>by omega⟩
 . unfold jC;rw[jc hw,if_neg hc,Mp]
 . unfold jC;rw[jc hw,if_neg (by omega),Mp]
 . unfold jC;rw[jc hw,if_pos rfl]
theorem ow.step{F:Rows}{m w l i:Nat}{p:Rat}{ps:List Rat}(s:fX F m w (dv F))(hi:i<m)(P:ow F m w l p i ps):ow F m w l p (i+1) (Fz F w l ps (m-1-i)):=by
 generalize hk:m-1-i=k0;have hk0:k0<m:=by omega
 obtain⟨l1,l2,l3⟩:=s.lead k0 hk0;unfold Fz;by_cases h:dv F k0<l
 . rw[if_pos h]
   have pz:ps.getD (dv F k0) 0=0:=P.nil _ (by omega) fun k h1 h2 e=>by
    have:=s.mono k0 k (by omega) h2;omega
   have hne:(g F k0 (dv F k0):Rat)≠0:=fun z=>by
    have:g F k0 (dv F k0)=0:=Rat.intCast_inj.mp z;omega
   have hlen:dv F k0<ps.length:=by rw[P.len];exact l1
   refine⟨by rw[List.length_set];exact P.len,fun c hc hn=>?_,fun c hc=>?_,?_,fun k h1 h2 h3=>?_⟩
   . rw[jc hlen,if_neg (Ne.symm (hn k0 (by omega) hk0))];exact P.nil c hc fun k h1 h2=>hn k (by omega) h2
   . rw[jc hlen,if_neg (by omega)];exact P.hi c hc
   . rw[jc hlen,if_neg (by omega)];exact P.at_
   . rw[LZ P.len l1,pz];by_cases e:k=k0
     . subst e;have:(0-dq ps w (g F k))/(g F k (dv F k):Rat)*(g F k (dv F k):Rat)=0-dq ps w (g F k):=Rat.div_mul_cancel hne;grind
     . have hk':m-i<=k:=by omega
       rw[P.off k hk' h2 h3,(s.lead k h2).2.2 _ (s.mono k0 k (by omega) h2)];show _+_*((0:Int):Rat)=0;grind
 . rw[if_neg h];refine⟨P.len,fun c hc hn=>P.nil c hc fun k h1 h2=>hn k (by omega) h2,P.hi,P.at_,fun k h1 h2 h3=>?_⟩;by_cases e:k=k0
   . subst e;omega
   . exact P.off k (by omega) h2 h3
theorem ow.all{F:Rows}{m w l:Nat}(b:Int)(s:fX F m w (dv F))(hl:l<w):∀ {i:Nat},i<=m->ow F m w l (Rat.divInt 1 b) i (mY F m w l (jC w l b) i)
 |0,_=>ow.start b hl
 |i+1,h=>(ow.all b s hl (i:=i) (by omega)).step s h
def zh(F:Rows)(m l:Nat)(x b:Int):Prop:=(∃k,k<m/\dv F k=l/\b=g F k l)\/((∀k,k<m->dv F k≠l)/\b=2*(x.natAbs:Int))
theorem zh.pos{F:Rows}{m w l:Nat}{x b:Int}(s:fX F m w (dv F))(h:zh F m l x b)(hx:x≠0):0<b:=by
 rcases h with⟨k,hk,e,rfl⟩|⟨n,rfl⟩
 . have:=(s.lead k hk).2.1;rw[e]at this;exact this
 . omega
theorem A9{b:Int}(hb:b≠0)(x:Int):Rat.divInt 1 b*(x:Rat)=(x:Rat)/(b:Rat):=by
 rw[Rat.divInt_eq_div];grind
theorem MU{x b:Int}(h0:0<x.natAbs)(h1:(x.natAbs:Int)<b):¬Wh ((x:Rat)/(b:Rat)):=by
 rintro⟨z,e⟩
 have hb:(b:Rat)≠0:=fun q=>by
  have:b=0:=Rat.intCast_inj.mp q;omega
 have e2:(x:Rat)=(z:Rat)*(b:Rat):=by rw[<-e];exact(Rat.div_mul_cancel hb).symm
 rw[<-Rat.intCast_mul]at e2;have e3:x=z*b:=Rat.intCast_inj.mp e2;have hz:z≠0:=fun q=>by rw[q,Int.zero_mul]at e3;omega
 have:(z*b).natAbs=z.natAbs*b.natAbs:=Int.natAbs_mul _ _;have h2:1*b.natAbs<=z.natAbs*b.natAbs:=Nat.mul_le_mul_right _ (by omega);rw[e3]at h1;omega
theorem ow.whole{F:Rows}{m w l:Nat}{R:Row}{b:Int}{ps:List Rat}(s:fX F m w (dv F))(hl:l<w)(hb:zh F m l (R.getD l 0) b)(h0:R.getD l 0≠0)(P:ow F m w l (Rat.divInt 1 b) m ps){k:Nat}(hk:k<m):Wh (dq ps w (g F k)):=by
 obtain⟨l1,l2,l3⟩:=s.lead k hk;rcases Nat.lt_trichotomy (dv F k) l with h|h|h
 . rw[P.off k (by omega) hk h];exact Wh.zero
 . have e:dq ps w (g F k)=ps.getD l 0*(g F k l:Rat):=E9 hl fun c hc hn=>by
    rcases Nat.lt_or_gt_of_ne hn with q|q
    . rw[l3 c (by omega)];show _*((0:Int):Rat)=0;grind
    . rw[P.hi c q];grind
   have hb':b=g F k l:=by
    rcases hb with⟨k',hk',e',rfl⟩|⟨n,_⟩
    . rw[s.inj hk hk' (h.trans e'.symm)]
    . exact absurd h (n k hk)
   rw[e,P.at_,hb'];have hp:0<g F k l:=by rw[<-h];exact l2
   rw[A9 (by omega)]
   have:(g F k l:Rat)≠0:=fun q=>by
    have:g F k l=0:=Rat.intCast_inj.mp q;omega
   have e1:(g F k l:Rat)/(g F k l:Rat)=1:=by rw[Rat.div_def];exact Rat.mul_inv_cancel _ this
   rw[e1];exact⟨1,rfl⟩
 . have e:dq ps w (g F k)=0:=xN fun c hc=>by
    rcases Nat.lt_or_ge l c with q|q
    . rw[P.hi c q];grind
    . rw[l3 c (by omega)];show _*((0:Int):Rat)=0;grind
   rw[e];exact Wh.zero
theorem ow.not{F:Rows}{m w l:Nat}{R:Row}{b:Int}{ps:List Rat}(s:fX F m w (dv F))(hl:l<w)(hb:zh F m l (R.getD l 0) b)(h0:R.getD l 0≠0)(hz:∀c,c<l->R.getD c 0=0)(red:∀k,k<m->0<=R.getD (dv F k) 0/\R.getD (dv F k) 0<g F k (dv F k))(P:ow F m w l (Rat.divInt 1 b) m ps):¬Wh (dq ps w fun c=>R.getD c 0):=by
 have bp:=hb.pos s h0
 have e:dq ps w (fun c=>R.getD c 0)=ps.getD l 0*((R.getD l 0:Int):Rat):=E9 hl fun c hc hn=>by
  rcases Nat.lt_or_gt_of_ne hn with q|q
  . show _*((R.getD c 0:Int):Rat)=0;rw[hz c q];show _*((0:Int):Rat)=0;grind
  . rw[P.hi c q];grind
 rw[e,P.at_,A9 (by omega)];refine MU (by omega) ?_;rcases hb with⟨k,hk,e,rfl⟩|⟨n,rfl⟩
 . have:=red k hk;rw[e]at this;omega
 . omega
theorem JR(n:Nat)(f:Nat->Rat):SQ (n+1) f=f 0+SQ n fun i=>f (i+1):=by
 induction n with
 |zero=>unfold SQ SQ;grind
 |succ n ih=>
  have:SQ (n+1+1) f=SQ (n+1) f+f (n+1):=rfl;rw[this,ih];have:SQ (n+1) (fun i=>f (i+1))=SQ n (fun i=>f (i+1))+f (n+1):=rfl;rw[this];grind
def fE:Rat->List Rat->Row->Rat
 |t,p::ps,n::r=>fE (t+p*(n:Rat)) ps r
 |t,_,_=>t
theorem Fh:∀(ps:List Rat) (r:Row) (t:Rat) {w:Nat},ps.length=w->r.length=w->fE t ps r=t+dq ps w fun c=>r.getD c 0
 | [],[],t,w,h,_=>by
   subst h;unfold fE;show t=t+0;grind
 | [],_::_,t,w,h1,h2=>by subst h1;cases h2
 |_::_,[],t,w,h1,h2=>by subst h2;cases h1
 |p::ps,n::r,t,w,h1,h2=>by
  subst h1;unfold fE;rw[Fh ps r _ rfl (Nat.succ.inj h2)];unfold dq;rw[List.length_cons,JR]
  have e:(fun i=>(p::ps).getD (i+1) 0*(((n::r).getD (i+1) 0:Int):Rat))=fun i=>ps.getD i 0*((r.getD i 0:Int):Rat):=by
   funext i;simp
  rw[e];show _=t+(p*(n:Rat)+_);grind
def wo:Int->Int->List Rat->Row->Int×Int
 |T,B,p::ps,n::r=>wo (T*p.den+p.num*n*B) (B*p.den) ps r
 |T,B,_,_=>(T,B)
theorem HU:∀(ps:List Rat) (r:Row) (T B:Int),0<B->0<(wo T B ps r).2/\((wo T B ps r).1:Rat)/((wo T B ps r).2:Rat)=fE ((T:Rat)/(B:Rat)) ps r
 | [],_,T,B,h=>⟨h,by unfold wo fE;rfl⟩
 |_::_,[],T,B,h=>⟨h,by unfold wo fE;rfl⟩
 |p::ps,n::r,T,B,h=>by
  have hd:0<(p.den:Int):=by have:=p.den_pos;omega
  unfold wo fE;have ih:=HU ps r (T*p.den+p.num*n*B) (B*p.den) (Int.mul_pos h hd);refine⟨ih.1,ih.2.trans ?_⟩;congr 1;have hB:(B:Rat)≠0:=fun z=>by have:B=0:=Rat.intCast_inj.mp z;omega
  have hD:((p.den:Int):Rat)≠0:=fun z=>by have:(p.den:Int)=0:=Rat.intCast_inj.mp z;omega
  have hp:p=(p.num:Rat)/((p.den:Int):Rat):=by
   conv=>lhs;rw[<-Rat.num_divInt_den p]
   exact Rat.divInt_eq_div _ _
  conv=>rhs;rw[hp]
  rw[Rat.intCast_add,Rat.intCast_mul,Rat.intCast_mul,Rat.intCast_mul,Rat.intCast_mul];grind
theorem NF{T B:Int}(h:0<B):T.fmod B=0↔Wh ((T:Rat)/(B:Rat)):=by
 have hB:(B:Rat)≠0:=fun z=>by have:B=0:=Rat.intCast_inj.mp z;omega
 constructor
 . intro e;obtain⟨z,rfl⟩:=Int.dvd_of_fmod_eq_zero e;refine⟨z,?_⟩;rw[Rat.intCast_mul];grind
 . rintro⟨z,e⟩;have e2:(T:Rat)=(z:Rat)*(B:Rat):=by rw[<-e];exact(Rat.div_mul_cancel hB).symm
   rw[<-Rat.intCast_mul]at e2;rw[Rat.intCast_inj.mp e2];exact Int.mul_fmod_left z B
structure Sz(q:Rat)(m:Nat):Prop where
 num:q.num.natAbs<=2^m
 den:q.den<=2^m
theorem Sz.mono{q:Rat}{m n:Nat}(h:Sz q m)(l:m<=n):Sz q n:=⟨Nat.le_trans h.num (Nat.pow_le_pow_right (by decide) l),Nat.le_trans h.den (Nat.pow_le_pow_right (by decide) l)⟩
theorem Sz.int{n:Int}{m:Nat}(h:n.natAbs<=2^m):Sz (n:Rat) m:=⟨h,Nat.pow_pos (by decide)⟩
theorem Sz.of{t b:Int}{m:Nat}(hb:b≠0)(h1:t.natAbs<=2^m)(h2:b.natAbs<=2^m):Sz (Rat.divInt t b) m:=by
 have hg:1<=b.gcd t:=by
  have:b.gcd t≠0:=fun z=>hb (Int.gcd_eq_zero_iff.mp z).1;omega
 constructor
 . rw[Rat.num_divInt];have:((b.sign*t)/((b.gcd t:Nat):Int)).natAbs<=(b.sign*t).natAbs:=Int.natAbs_ediv_le_natAbs _ _
   have e:(b.sign*t).natAbs<=t.natAbs:=by
    rw[Int.natAbs_mul];have:b.sign.natAbs<=1:=by rw[Int.natAbs_sign];split<;>omega
    calc b.sign.natAbs*t.natAbs<=1*t.natAbs:=Nat.mul_le_mul_right _ this
     _=t.natAbs:=Nat.one_mul _
   omega
 . rw[Rat.den_divInt,if_neg hb];exact Nat.le_trans (Nat.div_le_self _ _) h2
theorem eL{x y:Int}{a b:Nat}(hx:x.natAbs<=2^a)(hy:y.natAbs<=2^b):(x*y).natAbs<=2^(a+b):=by
 rw[Int.natAbs_mul,Nat.pow_add];exact Nat.mul_le_mul hx hy
theorem den_nz(q:Rat):((q.den:Nat):Int)≠0:=by have:=q.den_nz;omega
theorem oG(q:Rat):q=Rat.divInt q.num ((q.den:Nat):Int):=(Rat.num_divInt_den q).symm
theorem add_eq(p q:Rat):p+q=Rat.divInt (p.num*((q.den:Nat):Int)+q.num*((p.den:Nat):Int)) (((p.den:Nat):Int)*((q.den:Nat):Int)):=by
 conv=>lhs;rw[oG p,oG q]
 rw[Rat.divInt_add_divInt _ _ (den_nz p) (den_nz q)]
theorem sub_eq(p q:Rat):p-q=Rat.divInt (p.num*((q.den:Nat):Int)-q.num*((p.den:Nat):Int)) (((p.den:Nat):Int)*((q.den:Nat):Int)):=by
 conv=>lhs;rw[oG p,oG q]
 rw[Rat.divInt_sub_divInt _ _ (den_nz p) (den_nz q)]
theorem mul_eq(p q:Rat):p*q=Rat.divInt (p.num*q.num) (((p.den:Nat):Int)*((q.den:Nat):Int)):=by
 conv=>lhs;rw[oG p,oG q]
 rw[Rat.divInt_mul_divInt]
theorem div_eq(p q:Rat):p/q=Rat.divInt (p.num*((q.den:Nat):Int)) (((p.den:Nat):Int)*q.num):=by
 rw[Rat.div_def,Rat.inv_def];conv=>lhs;rw[oG p]
 rw[Rat.divInt_mul_divInt]
theorem Sz.nq{q:Rat}{m:Nat}(h:Sz q m):(((q.den:Nat):Int)).natAbs<=2^m:=h.den
theorem Sz.add{p q:Rat}{a b:Nat}(hp:Sz p a)(hq:Sz q b):Sz (p+q) (a+b+1):=by
 rw[add_eq];have h1:=eL hp.num hq.nq;have h2:=eL hq.num hp.nq;have h3:=eL hp.nq hq.nq;rw[Nat.add_comm b a]at h2;exact Sz.of (Int.mul_ne_zero (den_nz p) (den_nz q)) (by rw[Nat.pow_succ];omega) (Nat.le_trans h3 (Nat.pow_le_pow_right (by decide) (by omega)))
theorem Sz.neg{q:Rat}{b:Nat}(hq:Sz q b):Sz (0-q) b:=by
 have e:(0:Rat)-q= -q:=by grind
 rw[e];exact⟨by rw[show(-q).num= -q.num from rfl,Int.natAbs_neg];exact hq.num,hq.den⟩
theorem Sz.mul{p q:Rat}{a b:Nat}(hp:Sz p a)(hq:Sz q b):Sz (p*q) (a+b):=by
 rw[mul_eq];exact Sz.of (Int.mul_ne_zero (den_nz p) (den_nz q)) (eL hp.num hq.num) (eL hp.nq hq.nq)
theorem Sz.div{p q:Rat}{a b:Nat}(hp:Sz p a)(hq:Sz q b)(h0:q.num≠0):Sz (p/q) (a+b):=by
 rw[div_eq];exact Sz.of (Int.mul_ne_zero (den_nz p) h0) (eL hp.num hq.nq) (eL hp.nq hq.num)
def Pb:List Rat->Nat->Prop
 | [],_=>True
 |q::qs,t=>∃a b,Sz q a/\Pb qs b/\a+b<=t
theorem Pb.mono:∀ {ps:List Rat} {s t:Nat},Pb ps s->s<=t->Pb ps t
 | [],_,_,_,_=>trivial
 |_::_,_,_,⟨a,b,h1,h2,h3⟩,l=>⟨a,b,h1,h2,Nat.le_trans h3 l⟩
theorem Pb.set{x:Rat}{a:Nat}(hx:Sz x a):∀ {ps:List Rat} {t k:Nat},Pb ps t->Pb (ps.set k x) (t+a)
 | [],_,_,_=>trivial
 |q::qs,t,0,⟨a',b,h1,h2,h3⟩=>⟨a,b,hx,h2,by omega⟩
 |q::qs,t,k+1,⟨a',b,h1,h2,h3⟩=>⟨a',b+a,h1,h2.set hx,by omega⟩
theorem Pb.rep:∀n:Nat,Pb (List.replicate n 0) 0
 |0=>trivial
 |n+1=>⟨0,0,⟨by decide,by decide⟩,Pb.rep n,Nat.le_refl _⟩
theorem Pb.fE:∀ {ps:List Rat} {r:Row} {s e t:Nat} {x:Rat},Sz x s->Pb ps t->(∀n∈r,n.natAbs<=2^e)->Sz (fE x ps r) (s+t+ps.length*(e+1))
 | [],r,s,e,t,x,hx,_,_=>by unfold Mx.fE;exact hx.mono (by omega)
 |_::_,[],s,e,t,x,hx,_,_=>by unfold Mx.fE;exact hx.mono (by omega)
 |p::ps,n::r,s,e,t,x,hx,⟨a,b,h1,h2,h3⟩,hr=>by
  unfold Mx.fE;have h4:=hx.add (h1.mul (Sz.int (hr n List.mem_cons_self)));refine(Pb.fE h4 h2 fun k hk=>hr k (List.mem_cons_of_mem _ hk)).mono ?_;rw[List.length_cons,Nat.succ_mul];omega
end Mx
namespace Prog
open PySem L2 L3
open PySem.Spec hiding items?
open PyProof.Rows hiding St
theorem gR{i j:Int}(h1: -(2^64)<i)(h2:i<2^64):IntMulOk i j:= .of_left (intBits_le_64 h1 h2)
theorem l7{i j:Int}(h1: -(2^64)<j)(h2:j<2^64):IntMulOk i j:= .of_right (intBits_le_64 h1 h2)
def Any(st:ai)(d:D):Prop:=∃t,fF st d=some t
structure Thing(st:ai)(d:D):Prop where
 any:Any st d
 aq:∀xs,items? st d=some xs->(∀x∈xs,Any st x)/\xs.length<=sizeLine
def isInt:D->Bool
 | .int _=>true
 |_=>false
theorem Gw{st:ai}{d:D}{t:String}(h:fF st d=some t):(t=="int")=isInt d:=by
 cases d<;>unfold fF at h<;>first|(cases h;done)|(cases h;rfl)|(simp only at h;split at h<;>first|(cases h;rfl)|cases h)
theorem Fp{st:ai}{d:D}{t:String}(h:fF st d=some t):(t=="list"||t=="tuple")=(items? st d).isSome:=by
 cases d<;>unfold fF at h<;>first|(cases h;done)|(cases h;rfl)|(simp only at h;split at h<;>first|(cases h;rename_i q;rw[aD q];rfl)|cases h)
def tQ(st:ai)(d:D)(m:Int):Bool:=match items? st d with
 |some xs=>decide ((xs.length:Int)=m)&&xs.all isInt
 |none=>false
theorem jG{tg:fB}{te:DE}{ok:ai->Prop}{σc:cn}{st:ai}{K:List D->ai->Prop}{g:D->D}(aK:ok st):∀(xs acc:List D),(∀x∈xs,∀K',K' (g x) st->∃σ2,tg x σc=some σ2/\te σ2 st K')->K (acc++xs.map g) st->dk tg cw te ok σc xs acc st K
 | [],acc,_,h=>by unfold dk;exact⟨aK,by simpa using h⟩
 |x::xs,acc,hx,h=>by
  unfold dk;obtain⟨σ2,e,q⟩:=hx x List.mem_cons_self (fun y st2=>dk tg cw te ok σc xs (acc++[y]) st2 K) (jG aK xs (acc++[g x]) (fun y hy=>hx y (List.mem_cons_of_mem _ hy)) (by simpa using h));exact⟨aK,σ2,e,q⟩
theorem mN{f:D->Bool}:∀xs:List D,jL (xs.map fun x=>D.bl (f x))=some (xs.map f)
 | []=>rfl
 |x::xs=>by simp[jL,mN xs]
abbrev aB(r:List Int):List D:=r.map D.int
abbrev bW(r:List Int):D:= .tup (aB r)
abbrev bD(r:List Int):D:= .lst (aB r)
abbrev eC(A:List (List Int)):D:= .tup (A.map bW)
def cU(st:ai):List D->List (List Int)->Prop
 | [],[]=>True
 |d::ds,r::rs=>items? st d=some (aB r)/\cU st ds rs
 |_,_=>False
structure hO(st:ai)(d:D)(A:List (List Int)):Prop where
 ex:∃ds,items? st d=some ds/\cU st ds A
theorem cU.len{st:ai}:∀ {ds:List D} {A:List (List Int)},cU st ds A->ds.length=A.length
 | [],[],_=>rfl
 |_::_,_::_,h=>by simp[cU.len h.2]
theorem cU.tup{st:ai}:∀ {A:List (List Int)},cU st (A.map bW) A
 | []=>trivial
 |_::_=>⟨rfl,cU.tup⟩
theorem cU.lst{st:ai}:∀ {A:List (List Int)},cU st (A.map bD) A
 | []=>trivial
 |_::_=>⟨rfl,cU.lst⟩
theorem cU.get{st:ai}:∀ {ds:List D} {A:List (List Int)} {i:Nat} {d:D},cU st ds A->ds[i]?=some d->∃r,A[i]?=some r/\items? st d=some (aB r)
 |_::_,r::_,0,_,h,e=>by simp at e;subst e;exact⟨r,rfl,h.1⟩
 |_::_,_::_,i+1,d,h,e=>by
  obtain⟨r,e1,e2⟩:=cU.get (i:=i) (d:=d) h.2 (by simpa using e);exact⟨r,by simpa using e1,e2⟩
theorem xO{st:ai}{A:List (List Int)}:hO st (eC A) A:=⟨_,rfl,cU.tup⟩
structure Ext(st st':ai):Prop where
 len:st.length<=st'.length
 same:∀m,m<st.length->st'[m]?=st[m]?
theorem Ext.push{st:ai}{c:List Cell}:Ext st (st++c):=⟨by simp,fun m h=>List.getElem?_append_left h⟩
theorem Ext.set{st:ai}{n:Nat}{c:Cell}{st0:ai}(a:Ext st0 st)(h:st0.length<=n):Ext st0 (st.set n c):=⟨by rw[List.length_set];exact a.len,fun m hm=>by rw[List.getElem?_set_ne (by omega)];exact a.same m hm⟩
theorem Ext.items{st st':ai}{d:D}{xs:List D}(x:Ext st st')(e:items? st d=some xs):items? st' d=some xs:=by
 cases d with
 |ref n=>
  unfold items? at e⊢;simp only at e⊢;cases q:st[n]? with
  |none=>rw[q]at e;cases e
  |some c=>
   have hn:=(List.getElem?_eq_some_iff.mp q).1;rw[x.same n hn];exact e
 |_=>exact e
theorem jn{r:List Int}{k:Nat}(h:k<r.length):dU (aB r) (k:Int)=some (.int (r.getD k 0)):=by
 refine jm ?_;rw[List.getElem?_map,List.getElem?_eq_getElem h,Mx.bQ h];rfl
theorem getD_mem{r:List Int}{k:Nat}(h:k<r.length):r.getD k 0∈r:=by rw[Mx.bQ h];exact List.getElem_mem _
theorem ints_app{r:List Int}{x:Int}:aB r++[D.int x]=aB (r++[x]):=by simp[aB]
theorem GH{A:List (List Int)}{r:List Int}:A.map bW++[bW r]=(A++[r]).map bW:=by simp
theorem vf{r s:List Int}{d:D}(h:d∈eQ (aB r) (aB s)):∃a b,a∈r/\b∈s/\d= .tup [.int a,.int b]:=by
 obtain⟨n,hn,e⟩:=List.mem_iff_getElem.mp h;have e':(eQ (aB r) (aB s))[n]?=some d:=by rw[List.getElem?_eq_getElem hn,e]
 obtain⟨x,y,ex,ey,rfl⟩:=vn e';rw[List.getElem?_map]at ex ey;cases q1:r[n]? with
 |none=>rw[q1]at ex;cases ex
 |some a=>
  cases q2:s[n]? with
  |none=>rw[q2]at ey;cases ey
  |some b=>
   rw[q1]at ex;rw[q2]at ey;cases ex;cases ey;exact⟨a,b,List.mem_of_getElem? q1,List.mem_of_getElem? q2,rfl⟩
theorem uR(n:Nat):(List.replicate n [D.int 0]).flatten=aB (List.replicate n 0):=by
 induction n with
 |zero=>rfl
 |succ n ih=>rw[List.replicate_succ,List.flatten_cons,ih];rfl
theorem Es{x y:D}{xs ys:List D}:eQ (x::xs) (y::ys)= .tup [x,y]::eQ xs ys:=rfl
theorem Cr{n:Nat}{r:List Int}:(aB r).all (pl n)=true:=by
 refine List.all_eq_true.mpr fun d hd=>?_;obtain⟨i,_,rfl⟩:=List.mem_map.mp hd;cases n<;>rfl
def aI:Addr:=214
abbrev g4(b:Bool):Cell:=Cell.tab 194 ⟨93,32,93,66⟩ "Bench.live_rows.<locals>.<lambda>" b
abbrev Mu:List (Addr×Pos×Str):=[(194,⟨93,32,93,66⟩,"Bench.live_rows.<locals>.<lambda>")]
def pU:cA:=fun ds st K=>∃d,ds=[d]/\Any st d/\K (.bl (isInt d)) st
def mG:List Str:=["thing"]
def Bx:DS:=(bc (ie (bw fJ (ae (af 0) (ae (dC (.ty "int")) ao))) (rh (aR (bw fJ (ae (af 0) (ae (dC (.ty "bool")) ao)))))))
theorem As:∀ds st K,pU ds st K->ds.length=1/\Bx {nx:=fun _ st'=>K .aE st',rt:=K} (aU mG ds) st:=by
 rintro ds st K ⟨d,rfl,⟨t,ht⟩,k⟩;refine⟨rfl,?_⟩;rw[<-Gw ht]at k;have hm:=rm ht;refine iX ht (by decide) ?_;simp only[nQ,List.mem_cons,List.not_mem_nil,or_false]at hm;rcases hm with rfl|rfl|rfl|rfl|rfl|rfl
 . exact k
 . refine cm (iX ht (by decide) ?_);exact k
 . refine cm (iX ht (by decide) ?_);exact k
 . exact k
 . exact k
 . exact k
def p9:cA:=fun ds st K=>∃d,ds=[d]/\Any st d/\K (.bl (items? st d).isSome) st
def mE:List Str:=["thing"]
def Be:DS:=(bc (bw fJ (ae (af 0) (ae (c5 (ae (dC (.ty "list")) (ae (dC (.ty "tuple")) ao))) ao))))
theorem A4:∀ds st K,p9 ds st K->ds.length=1/\Be {nx:=fun _ st'=>K .aE st',rt:=K} (aU mE ds) st:=by
 rintro ds st K ⟨d,rfl,⟨t,ht⟩,k⟩;refine⟨rfl,?_⟩;rw[<-Fp ht]at k;have hm:=rm ht;refine⟨Nat.le_of_ble_eq_true rfl,BJ ht rfl (by decide) ?_⟩;simp only[nQ,List.mem_cons,List.not_mem_nil,or_false]at hm;rcases hm with rfl|rfl|rfl|rfl|rfl|rfl<;>exact k
def gM:cA:=fun ds st K=>∃d m,ds=[d,.int m]/\Any st d/\K (.bl (match items? st d with|some xs=>decide ((xs.length:Int)=m)|none=>false)) st
def jf:List Str:=["thing","many"]
def xR:DS:=(bc (ie (aC p9 (ae (af 0) ao)) (au dE (bw dR (ae (af 0) ao)) (af 1))))
theorem we:∀ds st K,gM ds st K->ds.length=2/\xR {nx:=fun _ st'=>K .aE st',rt:=K} (aU jf ds) st:=by
 rintro ds st K ⟨d,m,rfl,ha,k⟩;refine⟨rfl,?_⟩;cases e:items? st d with
 |none=>
  rw[e]at k;exact⟨d,rfl,ha,by rw[e];exact k⟩
 |some xs=>
  rw[e]at k;refine⟨d,rfl,ha,?_⟩;rw[e];refine cm (cT e (Ae ?_));exact k
def jV:cA:=fun ds st K=>∃d m,ds=[d,.int m]/\Thing st d/\K (.bl (tQ st d m)) st
def jT:List Str:=["thing","many"]
def yC:DS:=(bc (ie (aC gM (ae (af 0) (ae (af 1) ao))) (bw oU (ae (dH (dJ (af 0)) [none] (bN 0) cw (aC pU (ae (af 0) ao))) ao))))
theorem xD:∀ds st K,jV ds st K->ds.length=2/\yC {nx:=fun _ st'=>K .aE st',rt:=K} (aU jT ds) st:=by
 rintro ds st K ⟨d,m,rfl,ha,k⟩;refine⟨rfl,?_⟩;refine⟨d,m,rfl,ha.any,?_⟩;unfold tQ at k;cases e:items? st d with
 |none=>rw[e]at k;exact k
 |some xs=>
  rw[e]at k;obtain⟨h1,h2⟩:=ha.aq xs e;by_cases hl:(xs.length:Int)=m
  . simp only[hl,decide_true,Bool.true_and]at k⊢;rw[if_pos trivial];refine jQ e fun ok aK=>?_;refine⟨h2,jG (g:=fun x=> .bl (isInt x)) aK xs [] (fun x hx K' q=>⟨_,rfl,⟨x,rfl,h1 x hx,q⟩⟩) ?_⟩;refine sZ (mN xs) ?_;simpa using k
  . simp only[hl,decide_false,Bool.false_and]at k⊢;exact k
def qK:cA:=fun ds st K=>∃a b,ds=[.int a,.int b]/\K (.int ((Nat.gcd a.natAbs b.natAbs:Nat):Int)) st
def rJ:List Str:=["one","other","great","small","rest"]
def HH:DS:=(aF (a7 2 (bw oK (ae (af 0) ao)))
 (aF (a7 3 (bw oK (ae (af 1) ao)))
 (aF (sX (aR (au kO (af 3) (dC (.int 0)))) (aF (a7 4 (au f7 (af 2) (af 3)))
 (aF (a7 2 (af 3))
 (a7 3 (af 4)))))
 (bc (af 2)))))
theorem Hq{a:Int}{m:Nat}(h:a.natAbs<2^m):Builtin.Int.intBits a<=m:=by
 unfold Builtin.Int.intBits;by_cases h0:a.natAbs=0
 . have:a=0:=by omega
   subst this;simp
 . have:=(Nat.log2_lt h0).mpr h;split<;>omega
theorem du{a b:Int}{m n:Nat}(ha:a.natAbs<=2^m)(hb:b.natAbs<=2^n)(h:m+n<=130000000):IntMulOk a b:=by
 have q:∀ {x:Int} {k:Nat},x.natAbs<=2^k->Builtin.Int.intBits x<=k+1:=fun{x k} h=>Hq (Nat.lt_of_le_of_lt h (Nat.pow_lt_pow_right (by decide) (Nat.lt_succ_self k)));have h1:=q ha;have h2:=q hb;have e:(2:Nat)^27=134217728:=by decide
 have z:Builtin.Int.intTooBig (Builtin.Int.intBits a+Builtin.Int.intBits b)=false:=by
  unfold Builtin.Int.intTooBig bitsLine;exact decide_eq_false (by omega)
 unfold IntMulOk;rw[z];simp
theorem zm(a b:Nat):(a:Int).fmod (b:Int)=((a%b:Nat):Int):=by
 rw[Int.fmod_eq_emod_of_nonneg _ (Int.natCast_nonneg b)];exact(Int.natCast_emod a b).symm
theorem EC:∀ds st K,qK ds st K->ds.length=2/\HH {nx:=fun _ st'=>K .aE st',rt:=K} (aU rJ ds) st:=by
 rintro ds st K ⟨a,b,rfl,k⟩;refine⟨rfl,?_⟩;refine oE (oE ?_);refine⟨fun m σ st'=>∃(g s:Nat) (r:Option D),σ=[some (.int a),some (.int b),some (.int g),some (.int s),r]/\st'=st/\Nat.gcd g s=Nat.gcd a.natAbs b.natAbs/\s=m,⟨b.natAbs,a.natAbs,b.natAbs,none,?_,rfl,rfl,rfl⟩,?_⟩
 . rfl
 . rintro m σ st' ⟨g,s,r,rfl,rfl,hg,rfl⟩;refine ne2 (fun h=>cm ?_) fun h=>?_
   . refine g6 h ⟨g%s,Nat.mod_lt _ (by omega),s,g%s,some (.int ((g%s:Nat):Int)),?_,rfl,?_,rfl⟩
     . rw[zm];rfl
     . rw[Nat.gcd_comm,<-Nat.gcd_rec,Nat.gcd_comm];exact hg
   . have:s=0:=by omega
     subst this;rw[Nat.gcd_zero_right]at hg;subst hg;exact k
abbrev fj(q:Rat):D:= .tup [.int q.num,.int ((q.den:Nat):Int)]
def oJ:cA:=fun ds st K=>∃(t b:Int),ds=[.int t,.int b]/\b≠0/\K (fj (Rat.divInt t b)) st
def vO:List Str:=["top","bottom","shrink"]
def LB:DS:=(aF (a7 2 (aC qK (ae (af 0) (ae (af 1) ao))))
 (aF (cO (aR (au qw (af 1) (dC (.int 0)))) (a7 2 (nu iM (af 2))) bY)
 (bc (c5 (ae (au jN (af 0) (af 2)) (ae (au jN (af 1) (af 2)) ao))))))
theorem td{g t:Int}(hg:g≠0)(h:g∣t):t.fdiv (-g)=(-1*t).fdiv g:=by
 obtain⟨c,rfl⟩:=h
 have e1:(g*c).fdiv (-g)= -c:=by
  have:g*c=(-g)*(-c):=by rw[Int.neg_mul_neg]
  rw[this,Int.mul_fdiv_cancel_left _ (by omega)]
 have e2:(-1*(g*c)).fdiv g= -c:=by
  have: -1*(g*c)=g*(-c):=by rw[Int.neg_mul,Int.one_mul,Int.mul_neg]
  rw[this,Int.mul_fdiv_cancel_left _ hg]
 rw[e1,e2]
theorem F5(t b:Int):((Nat.gcd t.natAbs b.natAbs:Nat):Int)∣t:=Int.ofNat_dvd_left.mpr (Nat.gcd_dvd_left _ _)
theorem yr(t b:Int):((Nat.gcd t.natAbs b.natAbs:Nat):Int)∣b:=Int.ofNat_dvd_left.mpr (Nat.gcd_dvd_right _ _)
theorem B7{t b:Int}(hb:b≠0):D.tup [.int (((if b<0 then(-1:Int)else 1)*t).fdiv ((Nat.gcd t.natAbs b.natAbs:Nat):Int)),.int (((if b<0 then(-1:Int)else 1)*b).fdiv ((Nat.gcd t.natAbs b.natAbs:Nat):Int))]=fj (Rat.divInt t b):=by
 unfold fj;have hg:(b.gcd t:Nat)=Nat.gcd t.natAbs b.natAbs:=by unfold Int.gcd;rw[Nat.gcd_comm]
 have hs:(if b<0 then(-1:Int)else 1)=b.sign:=by
  rcases Int.lt_trichotomy b 0 with h|h|h
  . rw[if_pos h,Int.sign_eq_neg_one_of_neg h]
  . exact absurd h hb
  . rw[if_neg (by omega),Int.sign_eq_one_of_pos h]
 have e1:(Rat.divInt t b).num=((if b<0 then(-1:Int)else 1)*t).fdiv ((Nat.gcd t.natAbs b.natAbs:Nat):Int):=by
  rw[Rat.num_divInt,hs,hg,Int.fdiv_eq_ediv_of_nonneg _ (Int.natCast_nonneg _)]
 have e2:(((Rat.divInt t b).den:Nat):Int)=((if b<0 then(-1:Int)else 1)*b).fdiv ((Nat.gcd t.natAbs b.natAbs:Nat):Int):=by
  rw[Rat.den_divInt,if_neg hb,hs,hg,Int.fdiv_eq_ediv_of_nonneg _ (Int.natCast_nonneg _),Int.natCast_ediv];congr 1;rw[Int.sign_mul_self]
 rw[e1,e2]
theorem Jm:∀ds st K,oJ ds st K->ds.length=2/\LB {nx:=fun _ st'=>K .aE st',rt:=K} (aU vO ds) st:=by
 rintro ds st K ⟨t,b,rfl,hb,k⟩;refine⟨rfl,?_⟩;refine⟨t,b,rfl,?_⟩
 have hg0:Nat.gcd t.natAbs b.natAbs≠0:=fun z=>by
  have:=Nat.eq_zero_of_gcd_eq_zero_right z;omega
 have hne:((Nat.gcd t.natAbs b.natAbs:Nat):Int)≠0:=by omega
 rw[<-B7 hb]at k;refine IQ (fun h=>cm ?_) fun h=>?_
 . rw[if_pos h,<-td hne (F5 t b),<-td hne (yr t b)]at k;exact gL (iW (by omega) (iW (by omega) ⟨Nat.le_of_ble_eq_true rfl,k⟩))
 . rw[if_neg (by omega),Int.one_mul,Int.one_mul]at k;exact iW hne (iW hne ⟨Nat.le_of_ble_eq_true rfl,k⟩)
structure Fq(st:ai)(d:D)(q:Rat)(m:Nat):Prop where
 aq:items? st d=some [.int q.num,.int ((q.den:Nat):Int)]
 sz:Mx.Sz q m
theorem Fq.b{st:ai}{d:D}{q:Rat}{m:Nat}(h:Fq st d q m):(((q.den:Nat):Int)).natAbs<=2^m:=h.sz.den
theorem Fq.of{st:ai}{q:Rat}{m:Nat}(h:Mx.Sz q m):Fq st (fj q) q m:=⟨rfl,h⟩
def ze:cA:=fun ds st K=>∃x y p q a b,ds=[x,y]/\Fq st x p a/\Fq st y q b/\a+b<=130000000/\K (fj (p+q)) st
def v_:List Str:=["one","other"]
def Ma:DS:=(bc (aC oJ (ae (au d6 (au cX (au aS (af 0) (dC (.int 0))) (au aS (af 1) (dC (.int 1)))) (au cX (au aS (af 1) (dC (.int 0))) (au aS (af 0) (dC (.int 1))))) (ae (au cX (au aS (af 0) (dC (.int 1))) (au aS (af 1) (dC (.int 1)))) ao))))
theorem J4:∀ds st K,ze ds st K->ds.length=2/\Ma {nx:=fun _ st'=>K .aE st',rt:=K} (aU v_ ds) st:=by
 rintro ds st K ⟨x,y,p,q,a,b,rfl,X,Y,h,k⟩;refine⟨rfl,?_⟩;have h':b+a<=130000000:=by omega
 rw[Mx.add_eq]at k;exact aA X.aq rfl (aA Y.aq rfl (cM (du X.sz.num Y.b h) (aA Y.aq rfl (aA X.aq rfl (cM (du Y.sz.num X.b h') (eh (aA X.aq rfl (aA Y.aq rfl (cM (du X.b Y.b h) ⟨_,_,rfl,Int.mul_ne_zero (Mx.den_nz p) (Mx.den_nz q),k⟩)))))))))
def wV:cA:=fun ds st K=>∃x y p q a b,ds=[x,y]/\Fq st x p a/\Fq st y q b/\a+b<=130000000/\K (fj (p-q)) st
def uc:List Str:=["one","other"]
def KU:DS:=(bc (aC oJ (ae (au lb (au cX (au aS (af 0) (dC (.int 0))) (au aS (af 1) (dC (.int 1)))) (au cX (au aS (af 1) (dC (.int 0))) (au aS (af 0) (dC (.int 1))))) (ae (au cX (au aS (af 0) (dC (.int 1))) (au aS (af 1) (dC (.int 1)))) ao))))
theorem Gv:∀ds st K,wV ds st K->ds.length=2/\KU {nx:=fun _ st'=>K .aE st',rt:=K} (aU uc ds) st:=by
 rintro ds st K ⟨x,y,p,q,a,b,rfl,X,Y,h,k⟩;refine⟨rfl,?_⟩;have h':b+a<=130000000:=by omega
 rw[Mx.sub_eq]at k;exact aA X.aq rfl (aA Y.aq rfl (cM (du X.sz.num Y.b h) (aA Y.aq rfl (aA X.aq rfl (cM (du Y.sz.num X.b h') (jF (aA X.aq rfl (aA Y.aq rfl (cM (du X.b Y.b h) ⟨_,_,rfl,Int.mul_ne_zero (Mx.den_nz p) (Mx.den_nz q),k⟩)))))))))
def xm:cA:=fun ds st K=>∃x y p q a b,ds=[x,y]/\Fq st x p a/\Fq st y q b/\a+b<=130000000/\K (fj (p*q)) st
def t5:List Str:=["one","other"]
def KN:DS:=(bc (aC oJ (ae (au cX (au aS (af 0) (dC (.int 0))) (au aS (af 1) (dC (.int 0)))) (ae (au cX (au aS (af 0) (dC (.int 1))) (au aS (af 1) (dC (.int 1)))) ao))))
theorem Gp:∀ds st K,xm ds st K->ds.length=2/\KN {nx:=fun _ st'=>K .aE st',rt:=K} (aU t5 ds) st:=by
 rintro ds st K ⟨x,y,p,q,a,b,rfl,X,Y,h,k⟩;refine⟨rfl,?_⟩;rw[Mx.mul_eq]at k;exact aA X.aq rfl (aA Y.aq rfl (cM (du X.sz.num Y.sz.num h) (aA X.aq rfl (aA Y.aq rfl (cM (du X.b Y.b h) ⟨_,_,rfl,Int.mul_ne_zero (Mx.den_nz p) (Mx.den_nz q),k⟩)))))
def zl:cA:=fun ds st K=>∃x y p q a b,ds=[x,y]/\Fq st x p a/\Fq st y q b/\a+b<=130000000/\q.num≠0/\K (fj (p/q)) st
def vS:List Str:=["one","other"]
def Mt:DS:=(bc (aC oJ (ae (au cX (au aS (af 0) (dC (.int 0))) (au aS (af 1) (dC (.int 1)))) (ae (au cX (au aS (af 0) (dC (.int 1))) (au aS (af 1) (dC (.int 0)))) ao))))
theorem Jb:∀ds st K,zl ds st K->ds.length=2/\Mt {nx:=fun _ st'=>K .aE st',rt:=K} (aU vS ds) st:=by
 rintro ds st K ⟨x,y,p,q,a,b,rfl,X,Y,h,hq,k⟩;refine⟨rfl,?_⟩;rw[Mx.div_eq]at k;exact aA X.aq rfl (aA Y.aq rfl (cM (du X.sz.num Y.b h) (aA X.aq rfl (aA Y.aq rfl (cM (du X.b Y.sz.num h) ⟨_,_,rfl,Int.mul_ne_zero (Mx.den_nz p) hq,k⟩)))))
def lM:cA:=fun ds st K=>∃n:Int,ds=[.int n]/\K (fj (n:Rat)) st
def tP:List Str:=["n"]
def JF:DS:=(bc (c5 (ae (af 0) (ae (dC (.int 1)) ao))))
theorem GN:∀ds st K,lM ds st K->ds.length=1/\JF {nx:=fun _ st'=>K .aE st',rt:=K} (aU tP ds) st:=by
 rintro ds st K ⟨n,rfl,k⟩;exact⟨rfl,Nat.le_of_ble_eq_true rfl,k⟩
def vM(st:ai)(d:D):Bool:=match items? st d with
 |some [.int a,.int b]=>decide (0<b)&&decide (Nat.gcd a.natAbs b.natAbs=1)
 |_=>false
def tH:cA:=fun ds st K=>∃d,ds=[d]/\Thing st d/\K (.bl (vM st d)) st
def oY:List Str:=["thing"]
def Ee:DS:=(bc (ie (aC jV (ae (af 0) (ae (dC (.int 2)) ao))) (ie (au oS (au aS (af 0) (dC (.int 1))) (dC (.int 0))) (au dE (aC qK (ae (au aS (af 0) (dC (.int 0))) (ae (au aS (af 0) (dC (.int 1))) ao))) (dC (.int 1))))))
theorem Hx{xs:List D}(h:(decide ((xs.length:Int)=2)&&xs.all isInt)=true):∃a b,xs=[.int a,.int b]:=by
 rw[Bool.and_eq_true,decide_eq_true_eq]at h;obtain⟨h1,h2⟩:=h;match xs,h1,h2 with
 | [.int a,.int b],_,_=>exact⟨a,b,rfl⟩
 | [],h1,_=>simp at h1
 | [_],h1,_=>simp at h1
 |_::_::_::_,h1,_=>simp at h1;omega
 | [.aE,_],_,h2=>simp[isInt]at h2
 | [.bl _,_],_,h2=>simp[isInt]at h2
 | [.str _,_],_,h2=>simp[isInt]at h2
 | [.ty _,_],_,h2=>simp[isInt]at h2
 | [.ref _,_],_,h2=>simp[isInt]at h2
 | [.lst _,_],_,h2=>simp[isInt]at h2
 | [.tup _,_],_,h2=>simp[isInt]at h2
 | [.int _,.aE],_,h2=>simp[isInt]at h2
 | [.int _,.bl _],_,h2=>simp[isInt]at h2
 | [.int _,.str _],_,h2=>simp[isInt]at h2
 | [.int _,.ty _],_,h2=>simp[isInt]at h2
 | [.int _,.ref _],_,h2=>simp[isInt]at h2
 | [.int _,.lst _],_,h2=>simp[isInt]at h2
 | [.int _,.tup _],_,h2=>simp[isInt]at h2
theorem Dz:∀ds st K,tH ds st K->ds.length=1/\Ee {nx:=fun _ st'=>K .aE st',rt:=K} (aU oY ds) st:=by
 rintro ds st K ⟨d,rfl,hd,k⟩;refine⟨rfl,?_⟩;refine⟨d,2,rfl,hd,?_⟩;unfold vM at k;unfold tQ;cases e:items? st d with
 |none=>rw[e]at k;exact k
 |some xs=>
  rw[e]at k;simp only at k⊢;by_cases hn:(decide ((xs.length:Int)=2)&&xs.all isInt)=true
  . obtain⟨a,b,rfl⟩:=Hx hn;simp only at k;rw[hn];refine cm (aA e (by rfl:dU [D.int a,D.int b] 1=some (.int b)) (rG ?_));by_cases hb:0<b
    . simp only[hb,decide_true,Bool.true_and]at k⊢;rw[if_pos trivial];refine aA e (by rfl:dU [D.int a,D.int b] 0=some (.int a)) ?_;refine aA e (by rfl:dU [D.int a,D.int b] 1=some (.int b)) ?_;refine⟨a,b,rfl,mK rfl rfl ?_⟩
      have:bU (.int ((Nat.gcd a.natAbs b.natAbs:Nat):Int)) (.int 1)=decide (Nat.gcd a.natAbs b.natAbs=1):=by
       unfold bU;rw[B9];exact decide_eq_decide.mpr (by omega)
      rw[this];exact k
    . simp only[hb,decide_false,Bool.false_and]at k⊢;exact k
  . have hn':(decide ((xs.length:Int)=2)&&xs.all isInt)=false:=by simpa using hn
    rw[hn']
    have k':K (.bl false) st:=by
     have:(match some xs with|some [.int a,.int b]=>decide (0<b)&&decide (Nat.gcd a.natAbs b.natAbs=1)|_=>false)=false:=by
      split
      . rename_i z;cases z;simp[isInt]at hn'
      . rfl
     exact this▸k
    exact k'
def ph:cA:=fun ds st K=>∃(d:D) (A:List (List Int)),ds=[d]/\hO st d A/\A.length<=1000/\K (eC A) st
def o5:List Str:=["rows"]
def EJ:DS:=(bc (bw d9 (ae (dH (dJ (af 0)) [none] (bN 0) cw (bw d9 (ae (af 0) ao))) ao)))
theorem jg{tg:fB}{te:DE}{ok:ai->Prop}{σc:cn}{st:ai}{K:List D->ai->Prop}{ds:List D}{A:List (List Int)}(f:List Int->D)(aK:ok st)(hr:cU st ds A)(hx:∀d r,r∈A->items? st d=some (aB r)->∀K',K' (f r) st->∃σ2,tg d σc=some σ2/\te σ2 st K')(k:K (A.map f) st):dk tg cw te ok σc ds [] st K:=by
 refine i0 (fun rest acc st'=>∃(A1 A2:List (List Int)),st=st'/\A1++A2=A/\cU st rest A2/\acc=A1.map f) ?_ ?_ _ _ _ ⟨[],A,rfl,rfl,hr,rfl⟩
 . rintro acc st' ⟨A1,A2,rfl,he,h,rfl⟩;match A2,h with
   | [],_=>
     rw[List.append_nil]at he;subst he;exact⟨aK,k⟩
 . rintro d rest acc st' ⟨A1,A2,rfl,he,h,rfl⟩ next
   match A2,h with
   |r::A2,h=>
    obtain⟨σ2,e2,q⟩:=hx d r (by rw[<-he];simp) h.1 (fun y st2=>dk tg cw te ok σc rest (A1.map f++[y]) st2 K) (next _ _ ⟨A1++[r],A2,rfl,by rw[<-he];simp,h.2,by simp⟩);exact⟨aK,σ2,e2,q⟩
theorem C1:∀ds st K,ph ds st K->ds.length=1/\EJ {nx:=fun _ st'=>K .aE st',rt:=K} (aU o5 ds) st:=by
 rintro ds st K ⟨d,A,rfl,⟨da,hd,ra⟩,hl,k⟩;refine⟨rfl,?_⟩;refine jQ hd fun ok aK=>⟨cF (by rw[ra.len];exact hl),?_⟩
 refine jg bW aK ra (fun e r hr he K' q=>⟨_,rfl,dB he q⟩) ?_;exact dB rfl k
def lZ:cA:=fun ds st K=>∃x y t r s,ds=[x,.int t,y]/\items? st x=some (aB r)/\items? st y=some (aB s)/\r.length<=1000/\(∀b∈s,IntMulOk t b)/\K (bD (Mx.fz r t s)) st
def ui:List Str:=["row","times","other"]
def KL:DS:=(bc (dH (qZ (ae (af 0) (ae (af 2) ao))) [none,none,some 1] (gc 0 1) cw (au d6 (af 0) (au cX (af 2) (af 1)))))
theorem sx{t:Int}:∀(r s:List Int),(eQ (aB r) (aB s)).map (fun d=>match d with| .tup [.int a,.int b]=> .int (a+t*b)|_=> .aE)=aB (Mx.fz r t s)
 | [],_=>rfl
 |_::_,[]=>rfl
 |a::r,b::s=>by
  have:=sx (t:=t) r s;unfold eQ Mx.fz at this⊢;simp only[aB,List.map_cons,List.zip_cons_cons,List.zipWith_cons_cons]at this⊢;rw[this]
theorem Gi:∀ds st K,lZ ds st K->ds.length=3/\KL {nx:=fun _ st'=>K .aE st',rt:=K} (aU ui ds) st:=by
 rintro ds st K ⟨x,y,t,r,s,rfl,hx,hy,hl,hm,k⟩;refine⟨rfl,?_⟩;refine om hx hy fun ok aK=>⟨cF (by rw[oW];simp;omega),?_⟩
 refine comp_map (g:=fun d=>match d with| .tup [.int a,.int b]=> .int (a+t*b)|_=> .aE) (aK st hx hy) _ (fun d hd K' q=>?_) ?_
 . obtain⟨a,b,ha,hb,rfl⟩:=vf hd;exact⟨_,rfl,cM (hm b hb) (eh q)⟩
 . rw[sx];exact k
def qO:cA:=fun ds st K=>∃(x y:D) (n:Nat) (ws:List Int) (A:List (List Int)),ds=[x,y,.int n]/\items? st x=some (aB ws)/\hO st y A/\(∀r∈A,r.length=n)/\n<=1000/\(∀w∈ws,∀r∈A,∀b∈r,IntMulOk w b)/\K (bW (Mx.dP ws A (List.replicate n 0))) st
def rk:List Str:=["weights","rows","wide","total","weight","row"]
def HC:DS:=(aF (a7 3 (au cX (fV (ae (dC (.int 0)) ao)) (af 2)))
 (aF (iN (qZ (ae (af 0) (ae (af 1) ao))) (gc 4 5) (a7 3 (aC lZ (ae (af 3) (ae (af 4) (ae (af 5) ao))))))
 (bc (bw d9 (ae (af 3) ao)))))
theorem EB:∀ds st K,qO ds st K->ds.length=3/\HC {nx:=fun _ st'=>K .aE st',rt:=K} (aU rk ds) st:=by
 rintro ds st K ⟨x,y,n,ws,A,rfl,hx,⟨dr,hy,hr⟩,hw,hn,hm,k⟩;refine⟨rfl,?_⟩;refine Pm (Nat.le_of_ble_eq_true rfl) (Ck ⟨by omega,by omega,cF (by simp;omega)⟩ ?_);rw[Int.toNat_natCast,uR];refine om hx hy fun ok aK=>?_
 refine gK (fun rest σ st'=>∃(v4 v5:Option D) (ws':List Int) (ds':List D) (A':List (List Int)) (acc:List Int),st=st'/\rest=eQ (aB ws') ds'/\cU st ds' A'/\σ=[some x,some y,some (.int n),some (bD acc),v4,v5]/\acc.length=n/\(∀r∈A',r∈A)/\(∀w∈ws',w∈ws)/\Mx.dP ws' A' acc=Mx.dP ws A (List.replicate n 0)) ?_ ?_ _ _ _
  ⟨none,none,ws,dr,A,List.replicate n 0,rfl,rfl,hr,rfl,by simp,fun _ h=>h,fun _ h=>h,rfl⟩
 . rintro σ st1 ⟨v4,v5,ws',ds',A',acc,rfl,he,hr',rfl,hl,_,_,hs⟩;refine⟨aK _ hx hy,dB rfl ?_⟩
   have:Mx.dP ws' A' acc=acc:=by
    match ws',ds',A',hr',he with
    | [],_,_,_,_=>unfold Mx.dP;rfl
    |_::_,[],[],_,_=>unfold Mx.dP;rfl
    |_::_,_::_,_::_,_,he=>cases he
   rw[this]at hs;rw[hs];exact k
 . rintro d rest σ st1 ⟨v4,v5,ws',ds',A',acc,rfl,he,hr',rfl,hl,ha,hw',hs⟩ next
   match ws',ds',A',hr',he with
   |w::ws',e::ds',r::A',hr',he=>
    simp only[aB,List.map_cons,Es,List.cons.injEq]at he;obtain⟨rfl,rfl⟩:=he;refine⟨aK _ hx hy,_,rfl,?_⟩;have hrl:=hw r (ha r List.mem_cons_self);refine⟨_,_,_,acc,r,rfl,rfl,hr'.1,by omega,fun b hb=>hm w (hw' w List.mem_cons_self) r (ha r List.mem_cons_self) b hb,?_⟩;refine next _ _ ⟨_,_,ws',ds',A',Mx.fz acc w r,rfl,rfl,hr'.2,rfl,by rw[Mx.l6 (by omega)];exact hl,fun q hq=>ha q (List.mem_cons_of_mem _ hq),fun q hq=>hw' q (List.mem_cons_of_mem _ hq),?_⟩
    rw[<-hs];rfl
   | [],_,_,_,he=>cases he
   |_::_,[],[],_,he=>cases he
def u9:cA:=fun ds st K=>∃(d:D) (A:List (List Int)) (j:Nat),ds=[d,.int j]/\hO st d A/\(∀r∈A,j<r.length)/\A.length<=1000/\K (bW (Mx.xh A j)) st
def rL:List Str:=["rows","place"]
def F9:DS:=(bc (bw d9 (ae (dH (dJ (af 0)) [none,some 1] (bN 0) cw (au aS (af 0) (af 1))) ao)))
theorem D9{tg:fB}{te:DE}{ok:ai->Prop}{σc:cn}{st:ai}{K:List D->ai->Prop}{ds:List D}{A:List (List Int)}(f:List Int->D)(aK:ok st)(hr:cU st ds A)(hx:∀d r,r∈A->items? st d=some (aB r)->∀K',K' (f r) st->∃σ2,tg d σc=some σ2/\te σ2 st K')(k:K (A.map f) st):dk tg cw te ok σc ds [] st K:=by
 refine i0 (fun rest acc st'=>∃(A1 A2:List (List Int)),st=st'/\A1++A2=A/\cU st rest A2/\acc=A1.map f) ?_ ?_ _ _ _ ⟨[],A,rfl,rfl,hr,rfl⟩
 . rintro acc st' ⟨A1,A2,rfl,he,h,rfl⟩;match A2,h with
   | [],_=>
     rw[List.append_nil]at he;subst he;exact⟨aK,k⟩
 . rintro d rest acc st' ⟨A1,A2,rfl,he,h,rfl⟩ next
   match A2,h with
   |r::A2,h=>
    obtain⟨σ2,e2,q⟩:=hx d r (by rw[<-he];simp) h.1 (fun y st2=>dk tg cw te ok σc rest (A1.map f++[y]) st2 K) (next _ _ ⟨A1++[r],A2,rfl,by rw[<-he];simp,h.2,by simp⟩);exact⟨aK,σ2,e2,q⟩
theorem Fy(A:List (List Int))(j:Nat):A.map (fun r=>D.int (r.getD j 0))=aB (Mx.xh A j):=by unfold Mx.xh aB;rw[List.map_map];rfl
theorem D7:∀ds st K,u9 ds st K->ds.length=2/\F9 {nx:=fun _ st'=>K .aE st',rt:=K} (aU rL ds) st:=by
 rintro ds st K ⟨d,A,j,rfl,⟨da,hd,ra⟩,hj,hl,k⟩;refine⟨rfl,?_⟩;refine jQ hd fun ok aK=>⟨cF (by rw[ra.len];exact hl),?_⟩
 refine D9 (fun r=> .int (r.getD j 0)) aK ra (fun e r hr he K' q=>⟨_,rfl,aA he (jn (hj r hr)) q⟩) ?_;rw[Fy];exact dB rfl k
def nc:cA:=fun ds st K=>∃(d:D) (A:List (List Int)) (n:Nat),ds=[d,.int n]/\hO st d A/\(∀r∈A,r.length=n)/\A.length<=1000/\n<=1000/\K (eC (Mx.Il A n)) st
def j0:List Str:=["rows","wide"]
def yE:DS:=(bc (bw d9 (ae (dH (fO (ae (af 1) ao)) [none,some 0] (bN 0) cw (aC u9 (ae (af 1) (ae (af 0) ao)))) ao)))
theorem GU(A:List (List Int))(n:Nat):(List.range n).map (fun j=>bW (Mx.xh A j))=(Mx.Il A n).map bW:=by unfold Mx.Il;rw[List.map_map];rfl
theorem wX:∀ds st K,nc ds st K->ds.length=2/\yE {nx:=fun _ st'=>K .aE st',rt:=K} (aU j0 ds) st:=by
 rintro ds st K ⟨d,A,n,rfl,hd,hw,hl,hn,k⟩;refine⟨rfl,?_⟩;refine iB ⟨by omega,by omega⟩ ⟨cF (by rw[ik];omega),?_⟩;rw[Int.toNat_natCast];refine nO (fun j=>bW (Mx.xh A j)) n (fun i hi K' q=>⟨_,rfl,d,A,i,rfl,hd,fun r hr=>by rw[hw r hr];exact hi,hl,q⟩) ?_;rw[GU];exact dB rfl k
def qW:cA:=fun ds st K=>∃(n i:Nat),ds=[.int n,.int i]/\n<=1000/\K (bW (Mx.kc n i)) st
def nG:List Str:=["n","place"]
def CD:DS:=(bc (bw d9 (ae (dH (fO (ae (af 0) ao)) [none,some 1] (bN 0) cw (IJ (aR (au dE (af 0) (af 1))) (dC (.int 1)) (dC (.int 0)))) ao)))
theorem By:∀ds st K,qW ds st K->ds.length=2/\CD {nx:=fun _ st'=>K .aE st',rt:=K} (aU nG ds) st:=by
 rintro ds st K ⟨n,i,rfl,hn,k⟩;refine⟨rfl,?_⟩;refine iB ⟨by omega,by omega⟩ ⟨cF (by rw[ik];omega),?_⟩;rw[Int.toNat_natCast];refine nO (fun j=> .int (Mx.dl j i)) n (fun j hj K' q=>⟨_,rfl,?_⟩) ?_
 . refine eq2 (fun h=>cm ?_) fun h=>?_
   . have:j=i:=by omega
     subst this;rw[Mx.eZ]at q;exact q
   . rw[Mx.fu (by omega)]at q;exact q
 . have:(List.range n).map (fun j=>D.int (Mx.dl j i))=aB (Mx.kc n i):=by unfold Mx.kc aB;rw[List.map_map];rfl
   rw[this];exact dB rfl k
def mv:cA:=fun ds st K=>∃(n:Nat),ds=[.int n]/\n<=1000/\K (eC (Mx.units n)) st
def mq:List Str:=["n"]
def BA:DS:=(bc (bw d9 (ae (dH (fO (ae (af 0) ao)) [none,some 0] (bN 0) cw (aC qW (ae (af 1) (ae (af 0) ao)))) ao)))
theorem zD:∀ds st K,mv ds st K->ds.length=1/\BA {nx:=fun _ st'=>K .aE st',rt:=K} (aU mq ds) st:=by
 rintro ds st K ⟨n,rfl,hn,k⟩;refine⟨rfl,?_⟩;refine iB ⟨by omega,by omega⟩ ⟨cF (by rw[ik];omega),?_⟩;rw[Int.toNat_natCast];refine nO (fun i=>bW (Mx.kc n i)) n (fun i hi K' q=>⟨_,rfl,n,i,rfl,hn,q⟩) ?_;have:(List.range n).map (fun i=>bW (Mx.kc n i))=(Mx.units n).map bW:=by unfold Mx.units;rw[List.map_map];rfl
 rw[this];exact dB rfl k
def ju:List Int->Nat->Option Nat
 | [],_=>none
 |x::xs,i=>if x=0 then ju xs (i+1)else some i
def kQ(r:List Int):Option Nat:=ju r 0
def jx(r:List Int):D:=match kQ r with
 |some k=> .int (k:Int)
 |none=> .aE
def i4:cA:=fun ds st K=>∃(d:D) (r:List Int),ds=[d]/\items? st d=some (aB r)/\K (jx r) st
def pf:List Str:=["row","place","number"]
def DZ:DS:=(aF (iN (C3 (ae (af 0) ao)) (gc 1 2) (cO (aR (au kO (af 2) (dC (.int 0)))) (bc (af 1)) bY))
 (bc (dC .aE)))
theorem Dy:∀ds st K,i4 ds st K->ds.length=1/\DZ {nx:=fun _ st'=>K .aE st',rt:=K} (aU pf ds) st:=by
 rintro ds st K ⟨d,r,rfl,hd,k⟩;refine⟨rfl,?_⟩;refine KY hd fun ok aK=>?_;refine gK (fun rest σ st'=>st'=st/\∃(v1 v2:Option D) (s:List Int) (i:Nat),σ=[some d,v1,v2]/\rest=j5 i (aB s)/\ju r 0=ju s i) ?_ ?_ _ _ _ ⟨rfl,none,none,r,0,rfl,rfl,rfl⟩
 . rintro σ st' ⟨rfl,v1,v2,s,i,rfl,hr,hl⟩;match s,hr with
   | [],_=>
     refine⟨aK _ hd,?_⟩;have:jx r= .aE:=by unfold jx kQ;rw[hl];rfl
     rw[this]at k;exact k
 . rintro x rest σ st' ⟨rfl,v1,v2,s,i,rfl,hr,hl⟩ next
   match s,hr,hl with
   |y::s,hr,hl=>
    simp only[aB,List.map_cons,j5,List.cons.injEq]at hr;obtain⟨rfl,rfl⟩:=hr;refine⟨aK _ hd,_,rfl,?_⟩;refine ne2 (fun h=>cm ?_) fun h=>?_
    . have:jx r= .int (i:Int):=by unfold jx kQ;rw[hl];unfold ju;rw[if_neg h]
      rw[this]at k;exact k
    . refine next _ _ ⟨rfl,_,_,s,i+1,rfl,rfl,?_⟩
      rw[hl];unfold ju;rw[if_pos h];cases s<;>rfl
   | [],hr,_=>cases hr
theorem zF:∀(r:List Int) (i l:Nat),(∀c,c<l->r.getD c 0=0)->r.getD l 0≠0->ju r i=some (i+l)
 | [],_,_,_,h=>(h rfl).elim
 |x::r,i,0,_,h=>by
  unfold ju;rw[if_neg (show¬x=0 from h)];rfl
 |x::r,i,l+1,hz,h=>by
  unfold ju;rw[if_pos (show x=0 from hz 0 (Nat.zero_lt_succ _)),zF r (i+1) l (fun c hc=>hz (c+1) (Nat.succ_lt_succ hc)) h,Nat.add_right_comm];rfl
theorem vW:∀(r:List Int) (i:Nat),ju r i=none->∀c,r.getD c 0=0
 | [],_,_,_=>rfl
 |x::r,i,h,c=>by
  unfold ju at h;split at h
  . cases c with
    |zero=>assumption
    |succ c=>exact vW r (i+1) h c
  . cases h
theorem Fu{r:List Int}{l:Nat}(h:∀c,c<l->r.getD c 0=0)(h':r.getD l 0≠0):kQ r=some l:=by
 have:=zF r 0 l h h';rw[Nat.zero_add]at this;exact this
def jb:cA:=fun ds st K=>∃(t d:Int),ds=[.int t,.int d]/\d≠0/\K (.int (Mx.qn t d)) st
def gf:List Str:=["top","bottom"]
def tI:DS:=(bc (au jN (au d6 (au cX (dC (.int 2)) (af 0)) (af 1)) (au cX (dC (.int 2)) (af 1))))
theorem r8:∀ds st K,jb ds st K->ds.length=2/\tI {nx:=fun _ st'=>K .aE st',rt:=K} (aU gf ds) st:=by
 rintro ds st K ⟨t,d,rfl,hd,k⟩;exact⟨rfl,cM (gR (by decide) (by decide)) (eh (cM (gR (by decide) (by decide)) (iW (by omega) k)))⟩
def jR:cA:=fun ds st K=>∃(n k o:Nat) (A:List (List Int)),ds=[.ref n,.int k,.int o]/\st[n]?=some (.lst (A.map bD))/\k<A.length/\o<A.length/\K (.ref st.length) (st++[.lst ((Mx.bV A k o).map bD)])
def mL:List Str:=["rows","k","other","order"]
def Bq:DS:=(aF (a7 3 (bw qg (ae (af 0) ao)))
 (aF (et (af 3) (af 1) (au aS (af 0) (af 2)))
 (aF (et (af 3) (af 2) (au aS (af 0) (af 1)))
 (bc (af 3)))))
theorem d3{A:List (List Int)}{j:Nat}(h:j<A.length):dU (A.map bD) (j:Int)=some (bD (A.getD j [])):=by
 refine jm ?_;rw[List.getElem?_map,List.getElem?_eq_getElem h,Mx.bQ h];rfl
theorem mV{m k:Nat}(h:k<m):ko m (k:Int)=some k:=by
 have:=tD (i:=(k:Int)) (m:=m) (by omega) (by omega);rw[Int.toNat_natCast]at this;exact this
theorem iC{A:List (List Int)}{k:Nat}{r:List Int}:(A.map bD).set k (bD r)=(A.set k r).map bD:=by rw[List.map_set]
theorem zC:∀ds st K,jR ds st K->ds.length=3/\Bq {nx:=fun _ st'=>K .aE st',rt:=K} (aU mL ds) st:=by
 rintro ds st K ⟨n,k,o,A,rfl,e,hk,ho,kk⟩;refine⟨rfl,?_⟩;have hn:n<st.length:=(List.getElem?_eq_some_iff.mp e).1;refine AK (aD e) ?_;have e1:(st++[Cell.lst (A.map bD)])[n]?=some (.lst (A.map bD)):=by rw[List.getElem?_append_left hn];exact e
 have e2:(st++[Cell.lst (A.map bD)])[st.length]?=some (.lst (A.map bD)):=by simp
 refine aA (aD e1) (d3 ho) (i5 e2 (by rw[List.length_map];exact mV hk) ?_);rw[iC]
 have es:(st++[Cell.lst (A.map bD)]).set st.length (.lst ((A.set k (A.getD o [])).map bD))=st++[Cell.lst ((A.set k (A.getD o [])).map bD)]:=by
  rw[List.set_append_right _ _ (Nat.le_refl _),Nat.sub_self];rfl
 rw[es];have e3:(st++[Cell.lst ((A.set k (A.getD o [])).map bD)])[n]?=some (.lst (A.map bD)):=by rw[List.getElem?_append_left hn];exact e
 have e4:(st++[Cell.lst ((A.set k (A.getD o [])).map bD)])[st.length]?=some (.lst ((A.set k (A.getD o [])).map bD)):=by simp
 refine aA (aD e3) (d3 hk) (i5 e4 (by rw[List.length_map,List.length_set];exact mV ho) ?_);rw[iC]
 have es2:(st++[Cell.lst ((A.set k (A.getD o [])).map bD)]).set st.length (.lst (((A.set k (A.getD o [])).set o (A.getD k [])).map bD))=st++[Cell.lst ((Mx.bV A k o).map bD)]:=by
  rw[List.set_append_right _ _ (Nat.le_refl _),Nat.sub_self];rfl
 rw[es2];exact kk
def m6:cA:=fun ds st K=>∃(d:D) (r:List Int),ds=[d]/\items? st d=some (aB r)/\r.length<=1000/\K (bD (r.map fun x=> -x)) st
def pj:List Str:=["row"]
def Fv:DS:=(bc (dH (dJ (af 0)) [none] (bN 0) cw (nu iM (af 0))))
theorem De:∀ds st K,m6 ds st K->ds.length=1/\Fv {nx:=fun _ st'=>K .aE st',rt:=K} (aU pj ds) st:=by
 rintro ds st K ⟨d,r,rfl,hd,hl,k⟩;refine⟨rfl,?_⟩;refine jQ hd fun ok aK=>⟨cF (by unfold aB;rw[List.length_map];exact hl),?_⟩
 refine comp_map (g:=fun x=>match x with| .int a=> .int (-a)|_=> .aE) aK _ (fun x hx K' q=>?_) ?_
 . unfold aB at hx;obtain⟨a,_,rfl⟩:=List.mem_map.mp hx;exact⟨_,rfl,gL q⟩
 . have e:(aB r).map (fun x=>match x with| .int a=> .int (-a)|_=> .aE)=aB (r.map fun x=> -x):=by unfold aB;rw[List.map_map,List.map_map];rfl
   rw[e];exact k
structure Bn(st:ai)(b xb xu xc:Nat)(A U C:List (List Int)):Prop where
 eb:st[b]?=some (Cell.ins aI [("body",.ref xb),("turn",.ref xu),("back_columns",.ref xc)])
 e1:st[xb]?=some (Cell.lst (A.map bD))
 e2:st[xu]?=some (Cell.lst (U.map bD))
 e3:st[xc]?=some (Cell.lst (C.map bD))
 n1:xb≠xu
 n2:xb≠xc
 n3:xu≠xc
theorem lj{st:ai}{b x:Nat}{C:Addr}{fs:List (Str×D)}{xs:List D}(h1:st[b]?=some (Cell.ins C fs))(h2:st[x]?=some (Cell.lst xs)):b≠x:=fun z=>by rw[z,h2]at h1;cases h1
def ka:cA:=fun ds st K=>∃(b N:Nat) (d:D) (A:List (List Int)),ds=[.ref b,d]/\st[b]?=some (.ins aI [])/\hO st d A/\A.length=N/\N<=8/\∀st',Bn st' b st.length (st.length+1) (st.length+2) A (Mx.units N) (Mx.units N)->st'.length=st.length+3->(∀m,m<st.length->m≠b->st'[m]?=st[m]?)->K .aE st'
def ij:List Str:=["self","rows"]
def uU:DS:=(aF (pk aI "body" (af 0) (iY (dJ (af 1)) [none] (bN 0) cw (bw jr (ae (af 0) ao))))
 (aF (pk aI "turn" (af 0) (iY (dJ (aC mv (ae (bw dR (ae (af 1) ao)) ao))) [none] (bN 0) cw (bw jr (ae (af 0) ao))))
 (pk aI "back_columns" (af 0) (iY (dJ (aC mv (ae (bw dR (ae (af 1) ao)) ao))) [none] (bN 0) cw (bw jr (ae (af 0) ao))))))
theorem qL(f:Str)(v:D):∀fs:List (Str×D),(putD f v fs).length<=fs.length+1
 | []=>by simp[putD]
 |(g,x)::r=>by
  unfold putD;split
  . simp
  . have:=qL f v r;simp only[List.length_cons];omega
theorem Ag{st:ai}{A:List (List Int)}:cU st (A.map bW) A:=cU.tup
theorem xY(n:Nat):(Mx.units n).length=n:=by unfold Mx.units;simp
theorem ur:∀ds st K,ka ds st K->ds.length=2/\uU {nx:=fun _ st'=>K .aE st',rt:=K} (aU ij ds) st:=by
 rintro ds st K ⟨b,N,d,A,rfl,eb,hA,hl,hN,k⟩;refine⟨rfl,?_⟩;have hb:b<st.length:=(List.getElem?_eq_some_iff.mp eb).1;obtain⟨da,hd,ra⟩:=hA.ex;have hdl:=ra.len;have lst:∀(e:D) (r:List Int),True:=fun _ _=>trivial;refine jQ hd fun ok aK=>⟨cF (by omega),?_⟩
 refine jg bD aK ra (fun e r hr he K' q=>⟨_,rfl,jj he q⟩) ?_;have eb1:(st++[Cell.lst (A.map bD)])[b]?=some (.ins aI []):=by rw[List.getElem?_append_left hb];exact eb
 refine nU eb1 (by decide) ?_;generalize hs1:(st++[Cell.lst (A.map bD)]).set b (.ins aI (putD "body" (.ref st.length) []))=st1;have l1:st1.length=st.length+1:=by rw[<-hs1];simp
 have f1:∀m,m<st.length->m≠b->st1[m]?=st[m]?:=fun m hm hmb=>by rw[<-hs1,List.getElem?_set_ne (Ne.symm hmb),List.getElem?_append_left hm]
 have b1:st1[b]?=some (.ins aI (putD "body" (.ref st.length) [])):=by rw[<-hs1,List.getElem?_set_self (by simp;omega)]
 have x1:st1[st.length]?=some (.lst (A.map bD)):=by rw[<-hs1,List.getElem?_set_ne (by omega)];simp
 clear hs1
 have itd:∃da',items? st1 d=some da'/\da'.length=N:=by
  cases d with
  |ref n=>
   by_cases hnb:n=b
   . subst hnb;unfold items? at hd;simp only[eb]at hd;cases hd
   . have hn:n<st.length:=by
      unfold items? at hd;simp only at hd;cases q:st[n]? with
      |none=>rw[q]at hd;cases hd
      |some c=>exact(List.getElem?_eq_some_iff.mp q).1
     refine⟨da,?_,by omega⟩;unfold items? at hd⊢;simp only at hd⊢;rw[f1 n hn hnb];exact hd
  |_=>exact⟨da,hd,by omega⟩
 obtain⟨da1,hd1,hdl1⟩:=itd;refine cT hd1 ?_;rw[hdl1];refine⟨N,rfl,by omega,?_⟩;refine iD ⟨cF (by rw[List.length_map,xY];omega),?_⟩;refine jg bD trivial Ag (fun e r hr he K' q=>⟨_,rfl,jj he q⟩) ?_;have b2:(st1++[Cell.lst ((Mx.units N).map bD)])[b]?=some (.ins aI (putD "body" (.ref st.length) [])):=by rw[List.getElem?_append_left (by omega)];exact b1
 refine nU b2 (by have:=qL "body" (.ref st.length) [];simp only[List.length_nil]at this;omega) ?_;generalize hs2:(st1++[Cell.lst ((Mx.units N).map bD)]).set b (.ins aI (putD "turn" (.ref st1.length) (putD "body" (.ref st.length) [])))=st2;have l2:st2.length=st.length+2:=by rw[<-hs2];simp;omega
 have f2:∀m,m<st1.length->m≠b->st2[m]?=st1[m]?:=fun m hm hmb=>by rw[<-hs2,List.getElem?_set_ne (Ne.symm hmb),List.getElem?_append_left hm]
 have b2':st2[b]?=some (.ins aI (putD "turn" (.ref st1.length) (putD "body" (.ref st.length) []))):=by rw[<-hs2,List.getElem?_set_self (by simp;omega)]
 have x2:st2[st1.length]?=some (.lst ((Mx.units N).map bD)):=by rw[<-hs2,List.getElem?_set_ne (by omega)];simp
 clear hs2
 have itd2:items? st2 d=some da1:=by
  cases d with
  |ref n=>
   by_cases hnb:n=b
   . subst hnb;unfold items? at hd1;simp only[b1]at hd1;cases hd1
   . have hn:n<st1.length:=by
      unfold items? at hd1;simp only at hd1;cases q:st1[n]? with
      |none=>rw[q]at hd1;cases hd1
      |some c=>exact(List.getElem?_eq_some_iff.mp q).1
     unfold items? at hd1⊢;simp only at hd1⊢;rw[f2 n hn hnb];exact hd1
  |_=>exact hd1
 refine cT itd2 ?_;rw[hdl1];refine⟨N,rfl,by omega,?_⟩;refine iD ⟨cF (by rw[List.length_map,xY];omega),?_⟩;refine jg bD trivial Ag (fun e r hr he K' q=>⟨_,rfl,jj he q⟩) ?_;have b3:(st2++[Cell.lst ((Mx.units N).map bD)])[b]?=some (.ins aI (putD "turn" (.ref st1.length) (putD "body" (.ref st.length) []))):=by rw[List.getElem?_append_left (by omega)];exact b2'
 refine nU b3 (by have h1:=qL "body" (.ref st.length) [];have h2:=qL "turn" (.ref st1.length) (putD "body" (.ref st.length) []);simp only[List.length_nil]at h1;omega) ?_;refine k _ ⟨?_,?_,?_,?_,by omega,by omega,by omega⟩ (by simp;omega) fun m hm hmb=>?_
 . rw[List.getElem?_set_self (by simp;omega),l1,l2];rfl
 . rw[List.getElem?_set_ne (by omega),List.getElem?_append_left (by omega),f2 _ (by omega) (by omega)];exact x1
 . rw[List.getElem?_set_ne (by omega),List.getElem?_append_left (by omega)];rw[l1]at x2;exact x2
 . rw[List.getElem?_set_ne (by omega)];rw[show st.length+2=st2.length by omega];simp
 . rw[List.getElem?_set_ne (Ne.symm hmb),List.getElem?_append_left (by omega),f2 m (by omega) hmb,f1 m hm hmb]
def kJ:cA:=fun ds st K=>∃(b xb xu xc N w k j:Nat) (A U C:List (List Int)) (q:Int),ds=[.ref b,.int k,.int q,.int j]/\Bn st b xb xu xc A U C/\Mx.dY N w A/\Mx.dY N N U/\Mx.dY N N C/\k<N/\j<N/\N<=8/\w<=9/\(∀x∈A.getD j [],IntMulOk (-q) x)/\(∀x∈U.getD j [],IntMulOk (-q) x)/\(∀x∈C.getD k [],IntMulOk q x)/\
 ∀st',Bn st' b xb xu xc (Mx.cf A k q j) (Mx.cf U k q j) (Mx.cf C j (-q) k)->st'.length=st.length->(∀m,m≠xb->m≠xu->m≠xc->st'[m]?=st[m]?)->K .aE st'
def kM:List Str:=["self","k","times","other"]
def Az:DS:=(aF (et (ef aI "body" (af 0)) (af 1) (aC lZ (ae (au aS (ef aI "body" (af 0)) (af 1)) (ae (nu iM (af 2)) (ae (au aS (ef aI "body" (af 0)) (af 3)) ao)))))
 (aF (et (ef aI "turn" (af 0)) (af 1) (aC lZ (ae (au aS (ef aI "turn" (af 0)) (af 1)) (ae (nu iM (af 2)) (ae (au aS (ef aI "turn" (af 0)) (af 3)) ao)))))
 (et (ef aI "back_columns" (af 0)) (af 3) (aC lZ (ae (au aS (ef aI "back_columns" (af 0)) (af 3)) (ae (af 2) (ae (au aS (ef aI "back_columns" (af 0)) (af 1)) ao)))))))
theorem yH:∀ds st K,kJ ds st K->ds.length=4/\Az {nx:=fun _ st'=>K .aE st',rt:=K} (aU kM ds) st:=by
 rintro ds st K ⟨b,xb,xu,xc,N,w,k,j,A,U,C,q,rfl,B,hA,hU,hC,hk,hj,hN,hw,mA,mU,mC,kk⟩;refine⟨rfl,?_⟩;have lA:=hA.len;have lU:=hU.len;have lC:=hC.len;have rA:=Mx.c9 hA hk;have rU:=Mx.c9 hU hk;have rC:=Mx.c9 hC hj;have bx1:=lj B.eb B.e1;have bx2:=lj B.eb B.e2;have bx3:=lj B.eb B.e3;have n1:=B.n1;have n2:=B.n2;have n3:=B.n3;refine cV B.eb rfl (aA (aD B.e1) (d3 (by omega)) (gL (cV B.eb rfl (aA (aD B.e1) (d3 (by omega)) ?_))));refine⟨_,_,-q,A.getD k [],A.getD j [],rfl,rfl,rfl,by omega,mA,?_⟩;refine cV B.eb rfl (i5 B.e1 (by rw[List.length_map,lA];exact mV hk) ?_);rw[iC];have g1:∀m,m≠xb->(st.set xb (.lst ((A.set k (Mx.fz (A.getD k []) (-q) (A.getD j []))).map bD)))[m]?=st[m]?:=fun m hm=>List.getElem?_set_ne (Ne.symm hm);have h1:(st.set xb (.lst ((A.set k (Mx.fz (A.getD k []) (-q) (A.getD j []))).map bD)))[xb]?=some (.lst ((Mx.cf A k q j).map bD)):=List.getElem?_set_self (List.getElem?_eq_some_iff.mp B.e1).1;have z1:(st.set xb (.lst ((A.set k (Mx.fz (A.getD k []) (-q) (A.getD j []))).map bD))).length=st.length:=List.length_set;generalize st.set xb (.lst ((A.set k (Mx.fz (A.getD k []) (-q) (A.getD j []))).map bD))=st1 at g1 h1 z1⊢;have eb1:=(g1 b bx1).trans B.eb;have e21:=(g1 xu (Ne.symm n1)).trans B.e2;have e31:=(g1 xc (Ne.symm n2)).trans B.e3;refine cV eb1 rfl (aA (aD e21) (d3 (by omega)) (gL (cV eb1 rfl (aA (aD e21) (d3 (by omega)) ?_))));refine⟨_,_,-q,U.getD k [],U.getD j [],rfl,rfl,rfl,by omega,mU,?_⟩;refine cV eb1 rfl (i5 e21 (by rw[List.length_map,lU];exact mV hk) ?_);rw[iC];have g2:∀m,m≠xu->(st1.set xu (.lst ((U.set k (Mx.fz (U.getD k []) (-q) (U.getD j []))).map bD)))[m]?=st1[m]?:=fun m hm=>List.getElem?_set_ne (Ne.symm hm);have h2:(st1.set xu (.lst ((U.set k (Mx.fz (U.getD k []) (-q) (U.getD j []))).map bD)))[xu]?=some (.lst ((Mx.cf U k q j).map bD)):=List.getElem?_set_self (List.getElem?_eq_some_iff.mp e21).1;have z2:(st1.set xu (.lst ((U.set k (Mx.fz (U.getD k []) (-q) (U.getD j []))).map bD))).length=st1.length:=List.length_set;generalize st1.set xu (.lst ((U.set k (Mx.fz (U.getD k []) (-q) (U.getD j []))).map bD))=st2 at g2 h2 z2⊢;have eb2:=(g2 b bx2).trans eb1;have e32:=(g2 xc (Ne.symm n3)).trans e31;refine cV eb2 rfl (aA (aD e32) (d3 (by omega)) (cV eb2 rfl (aA (aD e32) (d3 (by omega)) ?_)));refine⟨_,_,q,C.getD j [],C.getD k [],rfl,rfl,rfl,by omega,mC,?_⟩;refine cV eb2 rfl (i5 e32 (by rw[List.length_map,lC];exact mV hj) ?_);rw[iC];have hc:C.set j (Mx.fz (C.getD j []) q (C.getD k []))=Mx.cf C j (-q) k:=by unfold Mx.cf;rw[Int.neg_neg]
 rw[hc];refine kk _ ⟨?_,?_,?_,?_,n1,n2,n3⟩ (by rw[List.length_set];omega) fun m m1 m2 m3=>?_
 . rw[List.getElem?_set_ne (Ne.symm bx3)];exact eb2
 . rw[List.getElem?_set_ne (Ne.symm n2),g2 _ n1];exact h1
 . rw[List.getElem?_set_ne (Ne.symm n3)];exact h2
 . exact List.getElem?_set_self (List.getElem?_eq_some_iff.mp e32).1
 . rw[List.getElem?_set_ne (Ne.symm m3),g2 m m2,g1 m m1]
def j9:cA:=fun ds st K=>∃(b xb xu xc N w k o:Nat) (A U C:List (List Int)),ds=[.ref b,.int k,.int o]/\Bn st b xb xu xc A U C/\Mx.dY N w A/\Mx.dY N N U/\Mx.dY N N C/\k<N/\o<N/\
 ∀st',Bn st' b st.length (st.length+1) (st.length+2) (Mx.bV A k o) (Mx.bV U k o) (Mx.bV C k o)->st'.length=st.length+3->(∀m,m<st.length->m≠b->st'[m]?=st[m]?)->K .aE st'
def h_:List Str:=["self","k","other"]
def vh:DS:=(aF (pk aI "body" (af 0) (aC jR (ae (ef aI "body" (af 0)) (ae (af 1) (ae (af 2) ao)))))
 (aF (pk aI "turn" (af 0) (aC jR (ae (ef aI "turn" (af 0)) (ae (af 1) (ae (af 2) ao)))))
 (pk aI "back_columns" (af 0) (aC jR (ae (ef aI "back_columns" (af 0)) (ae (af 1) (ae (af 2) ao)))))))
theorem uo:∀ds st K,j9 ds st K->ds.length=3/\vh {nx:=fun _ st'=>K .aE st',rt:=K} (aU h_ ds) st:=by
 rintro ds st K ⟨b,xb,xu,xc,N,w,k,o,A,U,C,rfl,B,hA,hU,hC,hk,ho,kk⟩;refine⟨rfl,?_⟩;have lA:=hA.len;have lU:=hU.len;have lC:=hC.len;have bx1:=lj B.eb B.e1;have bx2:=lj B.eb B.e2;have bx3:=lj B.eb B.e3;have hb:b<st.length:=(List.getElem?_eq_some_iff.mp B.eb).1;have hu:xu<st.length:=(List.getElem?_eq_some_iff.mp B.e2).1;have hc:xc<st.length:=(List.getElem?_eq_some_iff.mp B.e3).1;refine cV B.eb rfl ?_;refine⟨xb,k,o,A,rfl,B.e1,by omega,by omega,?_⟩;have eb1:(st++[Cell.lst ((Mx.bV A k o).map bD)])[b]?=some (.ins aI [("body",.ref xb),("turn",.ref xu),("back_columns",.ref xc)]):=by rw[List.getElem?_append_left hb];exact B.eb
 refine nU eb1 (by simp) ?_;have pb:putD "body" (.ref st.length) [("body",.ref xb),("turn",.ref xu),("back_columns",.ref xc)]=([("body",.ref st.length),("turn",.ref xu),("back_columns",.ref xc)]:List (Str×D)):=rfl;rw[pb];generalize hs1:(st++[Cell.lst ((Mx.bV A k o).map bD)]).set b (.ins aI [("body",.ref st.length),("turn",.ref xu),("back_columns",.ref xc)])=st1;have l1:st1.length=st.length+1:=by rw[<-hs1];simp
 have f1:∀m,m<st.length->m≠b->st1[m]?=st[m]?:=fun m hm hmb=>by rw[<-hs1,List.getElem?_set_ne (Ne.symm hmb),List.getElem?_append_left hm]
 have b1:st1[b]?=some (.ins aI [("body",.ref st.length),("turn",.ref xu),("back_columns",.ref xc)]):=by rw[<-hs1,List.getElem?_set_self (by simp;omega)]
 have x1:st1[st.length]?=some (.lst ((Mx.bV A k o).map bD)):=by rw[<-hs1,List.getElem?_set_ne (by omega)];simp
 clear hs1 eb1;refine cV b1 rfl ?_;refine⟨xu,k,o,U,rfl,(f1 xu hu (Ne.symm bx2)).trans B.e2,by omega,by omega,?_⟩;have eb1:(st1++[Cell.lst ((Mx.bV U k o).map bD)])[b]?=some (.ins aI [("body",.ref st.length),("turn",.ref xu),("back_columns",.ref xc)]):=by rw[List.getElem?_append_left (by omega)];exact b1
 refine nU eb1 (by simp) ?_;have pb:putD "turn" (.ref st1.length) [("body",.ref st.length),("turn",.ref xu),("back_columns",.ref xc)]=([("body",.ref st.length),("turn",.ref st1.length),("back_columns",.ref xc)]:List (Str×D)):=rfl;rw[pb];generalize hs2:(st1++[Cell.lst ((Mx.bV U k o).map bD)]).set b (.ins aI [("body",.ref st.length),("turn",.ref st1.length),("back_columns",.ref xc)])=st2;have l2:st2.length=st.length+2:=by rw[<-hs2];simp;omega
 have f2:∀m,m<st1.length->m≠b->st2[m]?=st1[m]?:=fun m hm hmb=>by rw[<-hs2,List.getElem?_set_ne (Ne.symm hmb),List.getElem?_append_left hm]
 have b2:st2[b]?=some (.ins aI [("body",.ref st.length),("turn",.ref st1.length),("back_columns",.ref xc)]):=by rw[<-hs2,List.getElem?_set_self (by simp;omega)]
 have x2:st2[st1.length]?=some (.lst ((Mx.bV U k o).map bD)):=by rw[<-hs2,List.getElem?_set_ne (by omega)];simp
 clear hs2 eb1;refine cV b2 rfl ?_;refine⟨xc,k,o,C,rfl,((f2 xc (by omega) (Ne.symm bx3)).trans (f1 xc hc (Ne.symm bx3))).trans B.e3,by omega,by omega,?_⟩;have eb1:(st2++[Cell.lst ((Mx.bV C k o).map bD)])[b]?=some (.ins aI [("body",.ref st.length),("turn",.ref st1.length),("back_columns",.ref xc)]):=by rw[List.getElem?_append_left (by omega)];exact b2
 refine nU eb1 (by simp) ?_;have pb:putD "back_columns" (.ref st2.length) [("body",.ref st.length),("turn",.ref st1.length),("back_columns",.ref xc)]=([("body",.ref st.length),("turn",.ref st1.length),("back_columns",.ref st2.length)]:List (Str×D)):=rfl;rw[pb];refine kk _ ⟨?_,?_,?_,?_,by omega,by omega,by omega⟩ (by simp;omega) fun m hm hmb=>?_
 . rw[List.getElem?_set_self (by simp;omega),l1,l2]
 . rw[List.getElem?_set_ne (by omega),List.getElem?_append_left (by omega),f2 _ (by omega) (by omega)];exact x1
 . rw[List.getElem?_set_ne (by omega),List.getElem?_append_left (by omega)];rw[l1]at x2;exact x2
 . rw[List.getElem?_set_ne (by omega)];rw[show st.length+2=st2.length by omega];simp
 . rw[List.getElem?_set_ne (Ne.symm hmb),List.getElem?_append_left (by omega),f2 m (by omega) hmb,f1 m hm hmb]
def iP:cA:=fun ds st K=>∃(b xb xu xc N w k:Nat) (A U C:List (List Int)),ds=[.ref b,.int k]/\Bn st b xb xu xc A U C/\Mx.dY N w A/\Mx.dY N N U/\Mx.dY N N C/\k<N/\N<=8/\w<=9/\
 ∀st',Bn st' b xb xu xc (Mx.gO A k) (Mx.gO U k) (Mx.gO C k)->st'.length=st.length->(∀m,m≠xb->m≠xu->m≠xc->st'[m]?=st[m]?)->K .aE st'
def fW:List Str:=["self","k"]
def r9:DS:=(aF (et (ef aI "body" (af 0)) (af 1) (aC m6 (ae (au aS (ef aI "body" (af 0)) (af 1)) ao)))
 (aF (et (ef aI "turn" (af 0)) (af 1) (aC m6 (ae (au aS (ef aI "turn" (af 0)) (af 1)) ao)))
 (et (ef aI "back_columns" (af 0)) (af 1) (aC m6 (ae (au aS (ef aI "back_columns" (af 0)) (af 1)) ao)))))
theorem rB:∀ds st K,iP ds st K->ds.length=2/\r9 {nx:=fun _ st'=>K .aE st',rt:=K} (aU fW ds) st:=by
 rintro ds st K ⟨b,xb,xu,xc,N,w,k,A,U,C,rfl,B,hA,hU,hC,hk,hN,hw,kk⟩;refine⟨rfl,?_⟩;have lA:=hA.len;have lU:=hU.len;have lC:=hC.len;have rA:=Mx.c9 hA hk;have rU:=Mx.c9 hU hk;have rC:=Mx.c9 hC hk;have bx1:=lj B.eb B.e1;have bx2:=lj B.eb B.e2;have bx3:=lj B.eb B.e3;have n1:=B.n1;have n2:=B.n2;have n3:=B.n3;refine cV B.eb rfl (aA (aD B.e1) (d3 (by omega)) ?_);refine⟨_,A.getD k [],rfl,rfl,by omega,?_⟩;refine cV B.eb rfl (i5 B.e1 (by rw[List.length_map,lA];exact mV hk) ?_);rw[iC];have g1:∀m,m≠xb->(st.set xb (.lst ((A.set k ((A.getD k []).map fun x=> -x)).map bD)))[m]?=st[m]?:=fun m hm=>List.getElem?_set_ne (Ne.symm hm);have h1:(st.set xb (.lst ((A.set k ((A.getD k []).map fun x=> -x)).map bD)))[xb]?=some (.lst ((Mx.gO A k).map bD)):=List.getElem?_set_self (List.getElem?_eq_some_iff.mp B.e1).1;have z1:(st.set xb (.lst ((A.set k ((A.getD k []).map fun x=> -x)).map bD))).length=st.length:=List.length_set;generalize st.set xb (.lst ((A.set k ((A.getD k []).map fun x=> -x)).map bD))=st1 at g1 h1 z1⊢;have eb1:=(g1 b bx1).trans B.eb;have e21:=(g1 xu (Ne.symm n1)).trans B.e2;have e31:=(g1 xc (Ne.symm n2)).trans B.e3;refine cV eb1 rfl (aA (aD e21) (d3 (by omega)) ?_);refine⟨_,U.getD k [],rfl,rfl,by omega,?_⟩;refine cV eb1 rfl (i5 e21 (by rw[List.length_map,lU];exact mV hk) ?_);rw[iC];have g2:∀m,m≠xu->(st1.set xu (.lst ((U.set k ((U.getD k []).map fun x=> -x)).map bD)))[m]?=st1[m]?:=fun m hm=>List.getElem?_set_ne (Ne.symm hm);have h2:(st1.set xu (.lst ((U.set k ((U.getD k []).map fun x=> -x)).map bD)))[xu]?=some (.lst ((Mx.gO U k).map bD)):=List.getElem?_set_self (List.getElem?_eq_some_iff.mp e21).1;have z2:(st1.set xu (.lst ((U.set k ((U.getD k []).map fun x=> -x)).map bD))).length=st1.length:=List.length_set;generalize st1.set xu (.lst ((U.set k ((U.getD k []).map fun x=> -x)).map bD))=st2 at g2 h2 z2⊢;have eb2:=(g2 b bx2).trans eb1;have e32:=(g2 xc (Ne.symm n3)).trans e31;refine cV eb2 rfl (aA (aD e32) (d3 (by omega)) ?_);refine⟨_,C.getD k [],rfl,rfl,by omega,?_⟩;refine cV eb2 rfl (i5 e32 (by rw[List.length_map,lC];exact mV hk) ?_);rw[iC];refine kk _ ⟨?_,?_,?_,?_,n1,n2,n3⟩ (by rw[List.length_set];omega) fun m m1 m2 m3=>?_
 . rw[List.getElem?_set_ne (Ne.symm bx3)];exact eb2
 . rw[List.getElem?_set_ne (Ne.symm n2),g2 _ n1];exact h1
 . rw[List.getElem?_set_ne (Ne.symm n3)];exact h2
 . exact List.getElem?_set_self (List.getElem?_eq_some_iff.mp e32).1
 . rw[List.getElem?_set_ne (Ne.symm m3),g2 m m2,g1 m m1]
def gJ:cA:=fun ds st K=>∃(b xb xu xc N w top p:Nat) (A U C:List (List Int)) (f:Bool),ds=[.ref b,.int top,.int p]/\Bn st b xb xu xc A U C/\Mx.dY N w A/\top<=N/\N<=8/\p<w/\w<=9/\st[0]?=some (g4 f)/\
 ∀L,Mx.m_ A N top p L->K (.lst (L.map fun(k:Nat)=> .int (k:Int))) (st.set 0 (g4 true))
def gG:List Str:=["self","top","place","live"]
def uk:DS:=(aF (a7 3 (dH (t4 (ae (af 1) (ae (bw dR (ae (ef aI "body" (af 0)) ao)) ao))) [none,some 0,some 2] (bN 0) (aR (au kO (au aS (au aS (ef aI "body" (af 1)) (af 0)) (af 2)) (dC (.int 0)))) (af 0)))
 (bc (z8 0 194 ⟨93,32,93,66⟩ "Bench.live_rows.<locals>.<lambda>" [none,some 0,some 2] (bw oK (ae (au aS (au aS (ef aI "body" (af 1)) (af 0)) (af 2)) ao)) (af 3))))
theorem v9{a b:Prop}(h:b):if false=true then a else b:=h
theorem Ke{st:ai}{b:Nat}{C:Addr}{fs:List (Str×D)}{f:Bool}(h1:st[b]?=some (Cell.ins C fs))(h2:st[0]?=some (g4 f)):b≠0:=fun z=>by rw[z,h2]at h1;cases h1
theorem ug{st:ai}{b:Nat}{xs:List D}{f:Bool}(h1:st[b]?=some (Cell.lst xs))(h2:st[0]?=some (g4 f)):b≠0:=fun z=>by rw[z,h2]at h1;cases h1
theorem Bn.keep{st st':ai}{b xb xu xc:Nat}{A U C:List (List Int)}(B:Bn st b xb xu xc A U C)(h:∀m,m=b\/m=xb\/m=xu\/m=xc->st'[m]?=st[m]?):Bn st' b xb xu xc A U C:=
 ⟨(h b (.inl rfl)).trans B.eb,(h xb (.inr (.inl rfl))).trans B.e1,(h xu (.inr (.inr (.inl rfl)))).trans B.e2,(h xc (.inr (.inr (.inr rfl)))).trans B.e3,B.n1,B.n2,B.n3⟩
theorem Bn.tab{st:ai}{b xb xu xc:Nat}{A U C:List (List Int)}{f:Bool}(B:Bn st b xb xu xc A U C)(h:st[0]?=some (g4 f))(c:Cell):Bn (st.set 0 c) b xb xu xc A U C:=
 B.keep fun m hm=>List.getElem?_set_ne fun z=>by
  subst z;rcases hm with rfl|rfl|rfl|rfl
  . exact Ke B.eb h rfl
  . exact ug B.e1 h rfl
  . exact ug B.e2 h rfl
  . exact ug B.e3 h rfl
theorem oz{r:List Int}{k:Nat}(h:k<r.length):dU (aB r) (k:Int)=some (.int (r.getD k 0)):=by
 refine jm ?_;unfold aB;rw[List.getElem?_map,List.getElem?_eq_getElem h,Mx.bQ h];rfl
def fH(A:List (List Int))(N top p:Nat):List Nat:=(List.range (N-top)).filterMap fun i=>if Mx.g A (top+i) p≠0 then some (top+i)else none
theorem yf{A:List (List Int)}{N top p k:Nat}:k∈fH A N top p↔top<=k/\k<N/\Mx.g A k p≠0:=by
 unfold fH;rw[List.mem_filterMap];constructor
 . rintro⟨i,hi,e⟩;rw[List.mem_range]at hi;split at e
   . rename_i h;cases e;exact⟨by omega,by omega,h⟩
   . cases e
 . rintro⟨h1,h2,h3⟩;refine⟨k-top,List.mem_range.mpr (by omega),?_⟩;rw[show top+(k-top)=k by omega,if_pos h3]
theorem pw_filterMap{f:Nat->Option Nat}(h:∀i j a b,i<j->f i=some a->f j=some b->a<b):∀ {l:List Nat},l.Pairwise (· < ·)->(l.filterMap f).Pairwise (· < ·)
 | [],_=>by simp
 |x::l,hl=>by
  obtain⟨h1,h2⟩:=List.pairwise_cons.mp hl;rw[List.filterMap_cons];split
  . exact pw_filterMap h h2
  . rename_i a e;refine List.pairwise_cons.mpr ⟨fun b hb=>?_,pw_filterMap h h2⟩;obtain⟨j,hj,ej⟩:=List.mem_filterMap.mp hb;exact h x j a b (h1 j hj) e ej
theorem pw_liveR{A:List (List Int)}{N top p:Nat}:(fH A N top p).Pairwise (· < ·):=by
 unfold fH;refine pw_filterMap (fun i j a b hij ha hb=>?_) List.pairwise_lt_range;split at ha
 . split at hb
   . cases ha;cases hb;omega
   . cases hb
 . cases ha
theorem yu{f:Nat->Option Nat}(l:List Nat):(l.filterMap f).length<=l.length:=List.length_filterMap_le ..
theorem K0{A:List (List Int)}{N top p:Nat}{os:List (Int×Int)}(hp:os.Perm (((fH A N top p).map fun(k:Nat)=>(((Mx.g A k p).natAbs:Nat):Int)).zip ((fH A N top p).map fun(k:Nat)=>(k:Int))))(hs:os.Pairwise slt):
 Mx.m_ A N top p (os.map fun q=>q.2.toNat)/\os.map (fun q=>D.int q.2)=(os.map fun q=>q.2.toNat).map fun(k:Nat)=>D.int (k:Int):=by
 have hz:((fH A N top p).map fun(k:Nat)=>(((Mx.g A k p).natAbs:Nat):Int)).zip ((fH A N top p).map fun(k:Nat)=>(k:Int))=(fH A N top p).map fun k=>((((Mx.g A k p).natAbs:Nat):Int),(k:Int)):=by
  exact List.zip_map' ..
 rw[hz]at hp
 have hm:∀q∈os,∃k,k∈fH A N top p/\q=((((Mx.g A k p).natAbs:Nat):Int),(k:Int)):=fun q hq=>by
  obtain⟨k,h1,h2⟩:=List.mem_map.mp (hp.mem_iff.mp hq);exact⟨k,h1,h2.symm⟩
 refine⟨⟨fun k=>?_,?_,?_⟩,?_⟩
 . rw[<-yf];constructor
   . intro h;obtain⟨q,hq,e⟩:=List.mem_map.mp h;obtain⟨j,h1,rfl⟩:=hm q hq;simp only[Int.toNat_natCast]at e;rw[<-e];exact h1
   . intro h;exact List.mem_map.mpr ⟨((((Mx.g A k p).natAbs:Nat):Int),(k:Int)),hp.mem_iff.mpr (List.mem_map.mpr ⟨k,h,rfl⟩),by simp⟩
 . rw[List.pairwise_map];refine hs.imp_of_mem fun{x y} hx hy h=>?_;obtain⟨j,_,rfl⟩:=hm x hx;obtain⟨k,_,rfl⟩:=hm y hy;unfold slt at h;simp only[Int.toNat_natCast];omega
 . have e:((fH A N top p).map fun k=>((((Mx.g A k p).natAbs:Nat):Int),(k:Int))).map (fun q=>q.2.toNat)=fH A N top p:=by
    rw[List.map_map];exact(List.map_congr_left fun k _=>Int.toNat_natCast k).trans (List.map_id _)
   have hq:=hp.map fun q=>q.2.toNat;rw[e]at hq;exact hq.nodup_iff.mpr (pw_liveR.imp fun h=>Nat.ne_of_lt h)
 . rw[List.map_map];refine List.map_congr_left fun q hq=>?_;obtain⟨j,_,rfl⟩:=hm q hq;simp
theorem sj:∀ds st K,gJ ds st K->ds.length=3/\uk {nx:=fun _ st'=>K .aE st',rt:=K} (aU gG ds) st:=by
 rintro ds st K ⟨b,xb,xu,xc,N,w,top,p,A,U,C,f,rfl,B,hA,ht,hN,hp,hw,h0,k⟩;refine⟨rfl,?_⟩;have lA:=hA.len;have rowA:∀i,i<N->(A.getD i []).length=w:=fun i hi=>Mx.c9 hA hi;refine cV B.eb rfl (cT (aD B.e1) ?_);rw[List.length_map,lA];refine Ko ⟨by omega,by omega,by omega,by omega⟩ ⟨cF (by unfold eO;simp;omega),?_⟩;have er:((N:Int)-(top:Int)).toNat=N-top:=by omega
 rw[er];refine i0 (fun rest acc st'=>∃i:Nat,i<=N-top/\st'=st/\rest=(List.range (N-top-i)).map (fun j=>D.int ((top+i+j:Nat):Int))/\acc=((List.range i).filterMap fun i=>if Mx.g A (top+i) p≠0 then some (top+i)else none).map fun(k:Nat)=>D.int (k:Int)) ?_ ?_ _ _ _ ⟨0,Nat.zero_le _,rfl,by unfold eO;simp,by simp⟩
 . rintro acc st' ⟨i,hi,rfl,hr,rfl⟩
   have hi':i=N-top:=by
    rcases Nat.lt_or_ge i (N-top)with z|z
    . rw[show N-top-i=(N-top-i-1)+1 by omega,List.range_succ_eq_map]at hr;cases hr
    . omega
   subst hi';refine⟨trivial,?_⟩;have e1:((fH A N top p).map fun(k:Nat)=>D.int (k:Int))=((fH A N top p).map fun(k:Nat)=>(k:Int)).map D.int:=by rw[List.map_map];rfl
   refine⟨(fH A N top p).map fun(k:Nat)=>(k:Int),(fH A N top p).map fun(k:Nat)=>(((Mx.g A k p).natAbs:Nat):Int),f,congrArg D.lst e1,?_,?_,by rw[List.length_map,List.length_map],h0,fun i n q hn hq=>?_,fun os hp' hs=>?_⟩
   . rw[List.length_map];have:=yu (f:=fun i=>if Mx.g A (top+i) p≠0 then some (top+i)else none) (List.range (N-top));rw[List.length_range]at this;show(fH A N top p).length<64;unfold fH;omega
   . rw[List.pairwise_map];exact pw_liveR.imp fun h=>by omega
   . rw[List.getElem?_map]at hn hq;cases z:(fH A N top p)[i]? with
     |none=>rw[z]at hn;cases hn
     |some j=>
      rw[z]at hn hq;cases hn;cases hq;obtain⟨j1,j2,j3⟩:=yf.mp (List.mem_of_getElem? z);have B1:=B.tab h0 (g4 true);refine cV B1.eb rfl (aA (aD B1.e1) (d3 (by omega)) (aA rfl (oz (by rw[rowA j j2];exact hp)) (oE ⟨rfl,rfl⟩)))
   . obtain⟨h1,h2⟩:=K0 hp' hs;rw[h2];exact k _ h1
 . rintro d rest acc st' ⟨i,hi,rfl,hr,rfl⟩ next
   have hlt:i<N-top:=by
    rcases Nat.lt_or_ge i (N-top)with z|z
    . exact z
    . rw[show N-top-i=0 by omega]at hr;cases hr
   rw[show N-top-i=(N-top-i-1)+1 by omega,List.range_succ_eq_map,List.map_cons,List.map_map]at hr;obtain⟨rfl,rfl⟩:=List.cons.inj hr;refine⟨trivial,_,rfl,?_⟩;refine cV B.eb rfl (aA (aD B.e1) (d3 (j:=top+i+0) (by omega)) (aA rfl (oz (by rw[rowA _ (by omega)];exact hp)) ?_));have e2:List.range (i+1)=List.range i++[i]:=List.range_succ
   have e3:((List.range (N-top-i-1)).map ((fun j=>D.int ((top+i+j:Nat):Int))∘Nat.succ))=(List.range (N-top-(i+1))).map fun j=>D.int ((top+(i+1)+j:Nat):Int):=by
    rw[show N-top-i-1=N-top-(i+1) by omega];refine List.map_congr_left fun j _=>?_;show D.int ((top+i+(j+1):Nat):Int)=_;rw[show top+i+(j+1)=top+(i+1)+j by omega]
   refine ne2 (fun h=>?_) fun h=>?_
   . refine(next _ _ ⟨i+1,by omega,rfl,e3,?_⟩);rw[e2,List.filterMap_append,List.map_append];have:Mx.g A (top+i) p≠0:=h;simp[this]
   . refine(next _ _ ⟨i+1,by omega,rfl,e3,?_⟩);rw[e2,List.filterMap_append,List.map_append];have:Mx.g A (top+i) p=0:=h;simp[this]
structure Bo(n0:Nat)(st st':ai)(b xb xu xc:Nat):Prop where
 lo:1<=n0/\n0<=b/\n0<=xb/\n0<=xu/\n0<=xc
 fr:∀m,m<n0->m≠0->st'[m]?=st[m]?
 tb:∃f,st'[0]?=some (g4 f)
def lQ:cA:=fun ds st K=>∃(n0 b xb xu xc N w top p e u:Nat) (A0 A U C:List (List Int)) (ld:Nat->Nat),ds=[.ref b,.int top,.int p]/\Bn st b xb xu xc A U C/\Bo n0 st st b xb xu xc/\Mx.kn A0 N w ⟨A,U,C⟩ top p ld e u/\N<=8/\w<=9/\p<w/\(N-top+1)*(e+1)<=60000000/\
 (∀st',Bn st' b xb xu xc A U C->Bo n0 st st' b xb xu xc->Mx.m_ A N top p []->K (.bl false) st')/\
 ∀st' xb' xu' xc' (c:Mx.B3) (r:Nat),Bn st' b xb' xu' xc' (Mx.setB c p top r).A (Mx.setB c p top r).U (Mx.setB c p top r).C->Bo n0 st st' b xb' xu' xc'->Mx.jO N top p ⟨A,U,C⟩ c->Mx.m_ c.A N top p [r]->top<N->
  Mx.xk A0 N w top p (2^((N-top+1)*(e+1))) ⟨A,U,C⟩ (Mx.setB c p top r)->K (.bl true) st'
def jB:List Str:=["self","top","place","live","great","small"]
def wQ:DS:=(aF (a7 3 (jK aI "live_rows" gJ (af 0) (ae (af 1) (ae (af 2) ao))))
 (aF (sX (aR (au oS (bw dR (ae (af 3) ao)) (dC (.int 1)))) (aF (a7 4 (au aS (af 3) (nu iM (dC (.int 1)))))
 (aF (a7 5 (au aS (af 3) (nu iM (dC (.int 2)))))
 (aF (jy (jK aI "take" kJ (af 0) (ae (af 4) (ae (aC jb (ae (au aS (au aS (ef aI "body" (af 0)) (af 4)) (af 2)) (ae (au aS (au aS (ef aI "body" (af 0)) (af 5)) (af 2)) ao))) (ae (af 5) ao)))))
 (a7 3 (jK aI "live_rows" gJ (af 0) (ae (af 1) (ae (af 2) ao))))))))
 (aF (cO (aR (au dE (bw dR (ae (af 3) ao)) (dC (.int 0)))) (bc (dC (.bl false))) bY)
 (aF (jy (jK aI "exchange" j9 (af 0) (ae (af 1) (ae (au aS (af 3) (dC (.int 0))) ao))))
 (aF (cO (aR (au qw (au aS (au aS (ef aI "body" (af 0)) (af 1)) (af 2)) (dC (.int 0)))) (jy (jK aI "change_sign" iP (af 0) (ae (af 1) ao))) bY)
 (bc (dC (.bl true))))))))
theorem Bo.MI{n0:Nat}{st st':ai}{b xb xu xc:Nat}(h:Bo n0 st st' b xb xu xc):Bo n0 st (st'.set 0 (g4 true)) b xb xu xc:=
 ⟨h.lo,fun m hm h0=>by rw[List.getElem?_set_ne (Ne.symm h0)];exact h.fr m hm h0,true,by
  obtain⟨f,e⟩:=h.tb;exact List.getElem?_set_self (List.getElem?_eq_some_iff.mp e).1⟩
theorem Bo.low{n0:Nat}{st st1 st2:ai}{b xb xu xc:Nat}(h:Bo n0 st st1 b xb xu xc)(f:∀m,m≠xb->m≠xu->m≠xc->st2[m]?=st1[m]?):Bo n0 st st2 b xb xu xc:=by
 obtain⟨l1,l2,l3,l4,l5⟩:=h.lo;refine⟨h.lo,fun m hm h0=>?_,?_⟩
 . rw[f m (by omega) (by omega) (by omega)];exact h.fr m hm h0
 . obtain⟨z,e⟩:=h.tb;exact⟨z,by rw[f 0 (by omega) (by omega) (by omega)];exact e⟩
theorem xF{X:List (List Int)}{N w top m i:Nat}(hX:Mx.dY N w X)(h:Mx.jH X N top m)(hi:top<=i)(hN:i<N):∀x∈X.getD i [],x.natAbs<=m:=fun x hx=>by
 obtain⟨c,hc,rfl⟩:=List.mem_iff_getElem.mp hx;have:=h i c hi hN;unfold Mx.g at this;rwa [Mx.bQ hc]at this
theorem Ax{n j:Nat}(h:1<=j)(h2:j<=n):ko n (-(j:Int))=some (n-j):=by
 unfold ko;rw[if_neg (by omega),if_pos (by omega)];congr 1;omega
theorem O9{L:List Nat}{j k:Nat}:dU ((L++[j,k]).map fun(k:Nat)=>D.int (k:Int)) (-1)=some (.int (k:Int)):=by
 unfold dU;have:=Ax (n:=((L++[j,k]).map fun(k:Nat)=>D.int (k:Int)).length) (j:=1) (by decide) (by simp);rw[show(-((1:Nat):Int))= -1 from rfl]at this;rw[this];simp
theorem NQ{L:List Nat}{j k:Nat}:dU ((L++[j,k]).map fun(k:Nat)=>D.int (k:Int)) (-2)=some (.int (j:Int)):=by
 unfold dU;have:=Ax (n:=((L++[j,k]).map fun(k:Nat)=>D.int (k:Int)).length) (j:=2) (by decide) (by simp);rw[show(-((2:Nat):Int))= -2 from rfl]at this;rw[this];simp
theorem GA:∀ {L:List Nat},1<L.length->∃M j k,L=M++[j,k]:=fun{L} h=>by
 refine⟨L.take (L.length-2),L[L.length-2]'(by omega),L[L.length-1]'(by omega),?_⟩;have e1:L=L.take (L.length-2)++L.drop (L.length-2):=(List.take_append_drop _ _).symm
 have e2:L.drop (L.length-2)=[L[L.length-2]'(by omega),L[L.length-1]'(by omega)]:=by
  rw[List.drop_eq_getElem_cons (by omega),List.drop_eq_getElem_cons (by omega),List.drop_eq_nil_of_le (by omega)];congr 2;congr 1;omega
 rw[<-e2];exact e1
theorem vD:∀ds st K,lQ ds st K->ds.length=3/\wQ {nx:=fun _ st'=>K .aE st',rt:=K} (aU jB ds) st:=by
 rintro ds st K ⟨n0,b,xb,xu,xc,N,w,top,p,e,u,A0,A,U,C,ld,rfl,B,O,S,hN,hw,hp,hz,kf,kt⟩;refine⟨rfl,?_⟩;have hle:=S.le;obtain⟨f,h0⟩:=O.tb;refine kC B.eb rfl ?_;refine⟨b,xb,xu,xc,N,w,top,p,A,U,C,f,rfl,B,S.tn.isA,hle,hN,hp,hw,h0,fun L hL=>?_⟩;have B1:=B.tab h0 (g4 true);have O1:=O.MI;try dsimp only[ao]
 refine c_ (fun σ st'=>∃(L:List Nat) (v4 v5:Option D) (c:Mx.B3) (gr:Nat),σ=[some (.ref b),some (.int top),some (.int p),some (.lst (L.map fun(k:Nat)=> .int (k:Int))),v4,v5]/\L.length<=1/\Bn st' b xb xu xc c.A c.U c.C/\Bo n0 st st' b xb xu xc/\Mx.jO N top p ⟨A,U,C⟩ c/\Mx.uF A0 N w top p (2^e) ⟨A,U,C⟩ c gr/\Mx.m_ c.A N top p L) (fun nx hnx=>?_) ?_
 . refine⟨fun m σ st'=>∃(L:List Nat) (v4 v5:Option D) (c:Mx.B3) (gr:Nat),σ=[some (.ref b),some (.int top),some (.int p),some (.lst (L.map fun(k:Nat)=> .int (k:Int))),v4,v5]/\Bn st' b xb xu xc c.A c.U c.C/\Bo n0 st st' b xb xu xc/\Mx.jO N top p ⟨A,U,C⟩ c/\Mx.uF A0 N w top p (2^e) ⟨A,U,C⟩ c gr/\Mx.m_ c.A N top p L/\m=Mx.mu c.A N p,⟨_,L,none,none,⟨A,U,C⟩,1,rfl,B1,O1,.refl _,S.Q8,hL,rfl⟩,?_⟩;rintro m σ st1 ⟨L,v4,v5,c,gr,rfl,B,O,hR,hG,hL,rfl⟩;refine cT rfl ?_;rw[List.length_map];refine PC (fun h=>cm ?_) fun h=>v9 (hnx _ _ ⟨L,v4,v5,c,gr,rfl,by omega,B,O,hR,hG,hL⟩);obtain⟨M,j,k,rfl⟩:=GA (L:=L) (by omega);refine gL (aA rfl O9 (gL (aA rfl NQ ?_)));obtain⟨G2,hlt,hoth,k1,k2,j1,j2,hjk,hj0⟩:=hG.step hp hL;have T:=hG.tn;have lA:=T.isA.len;have hlow:=G2.low S.lo.1;refine kC B.eb rfl (cV B.eb rfl (aA (aD B.e1) (d3 (by omega)) (aA rfl (oz (by rw[Mx.c9 T.isA k2];exact hp)) (cV B.eb rfl (aA (aD B.e1) (d3 (by omega)) (aA rfl (oz (by rw[Mx.c9 T.isA j2];exact hp)) ?_))))));refine⟨_,_,rfl,hj0,?_⟩
   have hq:(Mx.qn (Mx.g c.A k p) (Mx.g c.A j p)).natAbs<=2^((N-top+1)*(e+1)):=by
    refine Nat.le_trans ?_ hlow;have a1:=hG.pos;have a2:1<=2^e:=Nat.one_le_two_pow;have a3:1*(Mx.qn (Mx.g c.A k p) (Mx.g c.A j p)).natAbs<=gr*(1+(Mx.qn (Mx.g c.A k p) (Mx.g c.A j p)).natAbs):=Nat.mul_le_mul a1 (by omega);have a4:=Nat.mul_le_mul a2 a3;omega
   have hx:2^e*gr<=2^((N-top+1)*(e+1)):=hG.low S.lo.1
   have hm:∀ {x:Int},x.natAbs<=2^e*gr->IntMulOk (Mx.qn (Mx.g c.A k p) (Mx.g c.A j p)) x/\IntMulOk (-(Mx.qn (Mx.g c.A k p) (Mx.g c.A j p))) x:=fun{x} h=>
    ⟨du hq (Nat.le_trans h hx) (by omega),du (by rw[Int.natAbs_neg];exact hq) (Nat.le_trans h hx) (by omega)⟩
   refine⟨b,xb,xu,xc,N,w,k,j,c.A,c.U,c.C,_,rfl,B,T.isA,T.eR,T.gF,k2,j2,hN,hw,fun x hx=>(hm (xF T.isA hG.lA j1 j2 x hx)).2,fun x hx=>(hm (xF T.eR hG.lU j1 j2 x hx)).2,fun x hx=>(hm (xF T.gF hG.lC k1 k2 x hx)).1,fun st2 B2 l2 f2=>?_⟩;have O2:=O.low f2;obtain⟨f',h0'⟩:=O2.tb;refine kC B2.eb rfl ?_;refine⟨b,xb,xu,xc,N,w,top,p,_,_,_,f',rfl,B2,G2.tn.isA,hle,hN,hp,hw,h0',fun L2 hL2=>?_⟩;refine⟨_,?_,L2,_,_,Mx.k9 c p k j,_,rfl,B2.tab h0' (g4 true),O2.MI,hR.tail ⟨M,k,j,hL,rfl⟩,G2,hL2,rfl⟩;unfold Mx.mu;refine Mx.ID (k:=k) hlt k2 fun i hi=>?_;by_cases h:i=k
   . rw[h];exact Nat.le_of_lt hlt
   . rw[hoth i h];exact Nat.le_refl _
 . rintro σ st1 ⟨L,v4,v5,c,gr,rfl,hl,B,O,hR,hG,hL⟩;refine cT rfl ?_;rw[List.length_map];match L,hl,hL with
   | [],_,hL=>
     refine eq2 (fun h=>cm ?_) fun h=>absurd rfl h
     have e0:c=⟨A,U,C⟩:=by
      rcases hG.NV with z|⟨j,h1,h2,h3⟩
      . exact z
      . exact absurd ((hL.mem j).mpr ⟨h1,h2,h3⟩) (by simp)
     subst e0;exact kf st1 B O hL
   | [r],_,hL=>
     refine eq2 (fun h=>absurd h (by simp)) fun h=>v9 ?_;obtain⟨s1,hr1,hr2⟩:=hG.set hL;have ht:top<N:=by omega
     have T:=hG.tn
     have s2:Mx.xk A0 N w top p (2^((N-top+1)*(e+1))) ⟨A,U,C⟩ (Mx.setB c p top r):=by
      have hlow:=hG.low S.lo.1;exact⟨s1.tn,s1.up,⟨fun i q h1 h2=>Nat.le_trans (s1.lo.1 i q h1 h2) hlow,fun i q h1 h2=>Nat.le_trans (s1.lo.2.1 i q h1 h2) hlow,fun i q h1 h2=>Nat.le_trans (s1.lo.2.2 i q h1 h2) hlow⟩,s1.zs,s1.tp,s1.z1⟩
     refine kC B.eb rfl (aA rfl (show dU ([r].map fun(k:Nat)=>D.int (k:Int)) 0=some (.int (r:Int))from rfl) ?_);refine⟨b,xb,xu,xc,N,w,top,r,c.A,c.U,c.C,rfl,B,T.isA,T.eR,T.gF,ht,hr2,fun st2 B2 l2 f2=>?_⟩;obtain⟨l1,l2',l3,l4,l5⟩:=O.lo
     have hst:n0<=st1.length:=by
      have:=(List.getElem?_eq_some_iff.mp B.eb).1;omega
     have O2:Bo n0 st st2 b st1.length (st1.length+1) (st1.length+2):=by
      refine⟨⟨l1,l2',by omega,by omega,by omega⟩,fun m hm h0=>?_,?_⟩
      . rw[f2 m (by omega) (by omega)];exact O.fr m hm h0
      . obtain⟨z,e⟩:=O.tb;exact⟨z,by rw[f2 0 (by omega) (by omega)];exact e⟩
     have T1:=T.Iz ht hr2;refine cV B2.eb rfl (aA (aD B2.e1) (d3 (by have:=T1.isA.len;omega)) (aA rfl (oz (by rw[Mx.c9 T1.isA ht];exact hp)) ?_));refine IQ (fun h=>cm ?_) fun h=>v9 ?_
     . have es:Mx.setB c p top r=⟨Mx.gO (Mx.bV c.A top r) top,Mx.gO (Mx.bV c.U top r) top,Mx.gO (Mx.bV c.C top r) top⟩:=if_pos h;refine kC B2.eb rfl ?_;refine⟨b,_,_,_,N,w,top,_,_,_,rfl,B2,T1.isA,T1.eR,T1.gF,ht,hN,hw,fun st3 B3 l3 f3=>?_⟩;exact kt st3 _ _ _ c r (by rw[es];exact B3) (O2.low f3) hR hL ht s2
     . have es:Mx.setB c p top r=⟨Mx.bV c.A top r,Mx.bV c.U top r,Mx.bV c.C top r⟩:=if_neg (fun z=>by unfold Mx.g at z;omega);exact kt st2 _ _ _ c r (by rw[es];exact B2) O2 hR hL ht s2
def iK:cA:=fun ds st K=>∃(b xb xu xc N w top p e u:Nat) (A0 A U C:List (List Int)),ds=[.ref b,.int top,.int p]/\Bn st b xb xu xc A U C/\Mx.Tn A0 A U C N w/\N<=8/\w<=9/\p<w/\top<N/\0<Mx.g A top p/\(∀q,q<p->Mx.g A top q=0)/\
 (∀q,(Mx.g A top q).natAbs<=2^e/\(Mx.g U top q).natAbs<=2^e/\(Mx.g C top q).natAbs<=2^e)/\(∀i q,i<top->(Mx.g A i q).natAbs<=2^u/\(Mx.g U i q).natAbs<=2^u/\(Mx.g C i q).natAbs<=2^u)/\e<=60000000/\u<=60000000/\
 ∀st',Bn st' b xb xu xc (Mx.nk p top top ⟨A,U,C⟩).A (Mx.nk p top top ⟨A,U,C⟩).U (Mx.nk p top top ⟨A,U,C⟩).C->(∀m,m≠xb->m≠xu->m≠xc->st'[m]?=st[m]?)->Mx.qX A0 N w top p e u ⟨A,U,C⟩ top (Mx.nk p top top ⟨A,U,C⟩)->K .aE st'
def fY:List Str:=["self","top","place","k"]
def rY:DS:=(iN (fO (ae (af 1) ao)) (bN 3) (jy (jK aI "take" kJ (af 0) (ae (af 3) (ae (au jN (au aS (au aS (ef aI "body" (af 0)) (af 3)) (af 2)) (au aS (au aS (ef aI "body" (af 0)) (af 1)) (af 2))) (ae (af 1) ao))))))
theorem DW{X:List (List Int)}{i:Nat}{x:Int}(hx:x∈X.getD i []):∃q,x=Mx.g X i q:=by
 obtain⟨c,hc,rfl⟩:=List.mem_iff_getElem.mp hx;exact⟨c,by unfold Mx.g;rw[Mx.bQ hc]⟩
theorem rN:∀ds st K,iK ds st K->ds.length=3/\rY {nx:=fun _ st'=>K .aE st',rt:=K} (aU fY ds) st:=by
 rintro ds st K ⟨b,xb,xu,xc,N,w,top,p,e,u,A0,A,U,C,rfl,B,T,hN,hw,hp,ht,htp,hz,hlo,hhi,he,hu,kk⟩;refine⟨rfl,?_⟩;refine iB ⟨by omega,by omega⟩ ?_;rw[Int.toNat_natCast];refine ke top (fun k σ st'=>∃v3:Option D,σ=[some (.ref b),some (.int top),some (.int p),v3]/\Bn st' b xb xu xc (Mx.nk p top k ⟨A,U,C⟩).A (Mx.nk p top k ⟨A,U,C⟩).U (Mx.nk p top k ⟨A,U,C⟩).C/\(∀m,m≠xb->m≠xu->m≠xc->st'[m]?=st[m]?)/\Mx.qX A0 N w top p e u ⟨A,U,C⟩ k (Mx.nk p top k ⟨A,U,C⟩)) ?_ ?_ ⟨none,rfl,B,fun _ _ _ _=>rfl,Mx.qX.start T fun q=>(hlo q).2.2⟩
 . rintro σ st' ⟨v3,rfl,B',f,I⟩;exact kk st' B' f I
 . rintro k σ st' rest hk ⟨v3,rfl,B',f,I⟩ next
   refine⟨_,rfl,?_⟩;have hs:=I.step hk ht hp htp hz (fun q=>⟨(hlo q).1,(hlo q).2.1⟩) hhi;generalize hc:Mx.nk p top k ⟨A,U,C⟩=c at*;have lA:=I.tn.isA.len;have kN:k<N:=by omega
   have gA:∀i q,k<=i->Mx.g c.A i q=Mx.g A i q:=fun i q hi=>by unfold Mx.g;rw[(I.rA i hi).1]
   have gU:∀i q,k<=i->Mx.g c.U i q=Mx.g U i q:=fun i q hi=>by unfold Mx.g;rw[(I.rA i hi).2]
   have gC:∀i q,i≠top->Mx.g c.C i q=Mx.g C i q:=fun i q hi=>by unfold Mx.g;rw[I.rC i hi]
   have hq:((Mx.g c.A k p).fdiv (Mx.g c.A top p)).natAbs<=2^u:=by
    rw[gA k p (Nat.le_refl _),gA top p (by omega)];exact Nat.le_trans (Mx.i8 _ htp) (hhi k p hk).1
   have htp':Mx.g c.A top p≠0:=by rw[gA top p (by omega)];omega
   refine kC B'.eb rfl (cV B'.eb rfl (aA (aD B'.e1) (d3 (by omega)) (aA rfl (oz (by rw[Mx.c9 I.tn.isA kN];exact hp)) (cV B'.eb rfl (aA (aD B'.e1) (d3 (by omega)) (aA rfl (oz (by rw[Mx.c9 I.tn.isA ht];exact hp)) (iW htp' ?_)))))));refine⟨b,xb,xu,xc,N,w,k,top,c.A,c.U,c.C,_,rfl,B',I.tn.isA,I.tn.eR,I.tn.gF,kN,ht,hN,hw,fun x hx=>?_,fun x hx=>?_,fun x hx=>?_,fun st2 B2 l2 f2=>?_⟩
   . obtain⟨q,rfl⟩:=DW hx;rw[gA top q (by omega)];exact du (by rw[Int.natAbs_neg];exact hq) (hlo q).1 (by omega)
   . obtain⟨q,rfl⟩:=DW hx;rw[gU top q (by omega)];exact du (by rw[Int.natAbs_neg];exact hq) (hlo q).2.1 (by omega)
   . obtain⟨q,rfl⟩:=DW hx;rw[gC k q (by omega)];exact du hq (hhi k q hk).2.2 (by omega)
   . have el:Mx.nk p top (k+1) ⟨A,U,C⟩=⟨Mx.cf c.A k ((Mx.g c.A k p).fdiv (Mx.g c.A top p)) top,Mx.cf c.U k ((Mx.g c.A k p).fdiv (Mx.g c.A top p)) top,Mx.cf c.C top (-((Mx.g c.A k p).fdiv (Mx.g c.A top p))) k⟩:=by rw[<-hc];rfl
     refine next _ _ ⟨_,rfl,?_,fun m h1 h2 h3=>(f2 m h1 h2 h3).trans (f m h1 h2 h3),?_⟩
     . rw[el];exact B2
     . rw[el];exact hs
structure Bk(st st':ai):Prop where
 le:st.length<=st'.length
 fr:∀m,m<st.length->m≠0->st'[m]?=st[m]?
 tb:∃f,st'[0]?=some (g4 f)
def rq:cA:=fun ds st K=>∃(d:D) (N w e0:Nat) (A:List (List Int)) (f:Bool),ds=[d]/\hO st d A/\Mx.dY N w A/\1<=N/\N<=8/\w<=9/\Mx.jH A N 0 (2^e0)/\(∀t,t<=N->Mx.Ez N e0 t<=50000000/\Mx.Vz N e0 t<=60000000)/\st[0]?=some (g4 f)/\
 ∀st' (top:Nat) (c:Mx.B3) (ld:Nat->Nat),Mx.ve A N w top c->Mx.kn A N w c top w ld (Mx.Ez N e0 top) (Mx.Vz N e0 top)->Bk st st'->K (.tup [eC (c.A.take top),eC c.U,eC (Mx.Il c.C N)]) st'
def ny:List Str:=["rows","bench","top","place","back"]
def CC:DS:=(aF (a7 1 (C9 aI ka (ae (af 0) ao)))
 (aF (a7 2 (dC (.int 0)))
 (aF (iN (fO (ae (bw dR (ae (au aS (af 0) (dC (.int 0))) ao)) ao)) (bN 3) (cO (aR (jK aI "gather" lQ (af 1) (ae (af 2) (ae (af 3) ao)))) (aF (jy (jK aI "lower_above" iK (af 1) (ae (af 2) (ae (af 3) ao))))
 (Df 2 (zV (fun i j=>i+j)) (dC (.int 1)))) bY))
 (aF (a7 4 (aC nc (ae (ef aI "back_columns" (af 1)) (ae (bw dR (ae (af 0) ao)) ao))))
 (bc (c5 (ae (aC ph (ae (tx (ef aI "body" (af 1)) qD (vz (af 2))) ao)) (ae (aC ph (ae (ef aI "turn" (af 1)) ao)) (ae (af 4) ao)))))))))
theorem o_{st st':ai}{f:Bool}(h0:st[0]?=some (g4 f))(fr:∀m,m<st.length->m≠0->st'[m]?=st[m]?){d:D}{xs:List D}(h:items? st d=some xs):items? st' d=some xs:=by
 cases d with
 |ref n=>
  have e:=tw h;have n0:n≠0:=ug e h0;rw[aD ((fr n (List.getElem?_eq_some_iff.mp e).1 n0).trans e)]
 |_=>exact h
theorem yp{st st':ai}{f:Bool}(h0:st[0]?=some (g4 f))(fr:∀m,m<st.length->m≠0->st'[m]?=st[m]?):∀ {ds:List D} {A:List (List Int)},cU st ds A->cU st' ds A
 | [],[],_=>trivial
 |_::_,_::_,h=>⟨o_ h0 fr h.1,yp h0 fr h.2⟩
theorem wj{st st':ai}{f:Bool}(h0:st[0]?=some (g4 f))(fr:∀m,m<st.length->m≠0->st'[m]?=st[m]?){d:D}{A:List (List Int)}(h:hO st d A):hO st' d A:=by
 obtain⟨ds,h1,h2⟩:=h.ex;exact⟨ds,o_ h0 fr h1,yp h0 fr h2⟩
theorem D3{xs:List D}{j:Nat}:L3.cutD xs none (some (j:Int))=xs.take j:=by
 unfold L3.cutD;rw[HT.Kg,HT.HE,List.drop_zero,Nat.sub_zero];by_cases h:j<=xs.length
 . rw[Nat.min_eq_left h]
 . rw[Nat.min_eq_right (by omega),List.take_length,List.take_of_length_le (by omega)]
theorem Ba:∀ds st K,rq ds st K->ds.length=1/\CC {nx:=fun _ st'=>K .aE st',rt:=K} (aU ny ds) st:=by
 rintro ds st K ⟨d,N,w,e0,A,f,rfl,hd,hA,hN1,hN,hw,hlo,hsz,h0,kk⟩;refine⟨rfl,?_⟩;have lA:=hA.len;have h0l:0<st.length:=(List.getElem?_eq_some_iff.mp h0).1;have hd1:hO (st++[Cell.ins aI []]) d A:=wj h0 (fun m hm _=>List.getElem?_append_left hm) hd;refine⟨st.length,N,d,A,rfl,by simp,hd1,lA,hN,fun st1 B1 l1 f1=>⟨rfl,?_⟩⟩;have hl1:(st++[Cell.ins aI []]).length=st.length+1:=by simp
 have fr1:∀m,m<st.length->st1[m]?=st[m]?:=fun m hm=>by rw[f1 m (by omega) (by omega),List.getElem?_append_left hm]
 have O1:Bo st.length st st1 st.length (st.length+1) (st.length+1+1) (st.length+1+2):=⟨⟨h0l,by omega,by omega,by omega,by omega⟩,fun m hm _=>fr1 m hm,f,(fr1 0 h0l).trans h0⟩
 rw[hl1]at B1;have hdk:∀ {st':ai},(∀m,m<st.length->m≠0->st'[m]?=st[m]?)->hO st' d A:=fun h=>wj h0 h hd;obtain⟨da,hda,hra⟩:=(hdk O1.fr).ex;have hdl:=hra.len
 have hrow0:∃d0,da[0]?=some d0/\items? st1 d0=some (aB (A.getD 0 [])):=by
  have hi:0<da.length:=by omega
  obtain⟨r,e1,e2⟩:=cU.get hra (List.getElem?_eq_getElem hi);refine⟨da[0],List.getElem?_eq_getElem hi,?_⟩;have:A.getD 0 []=r:=by rw[List.getD_eq_getElem?_getD,e1];rfl
  rw[this];exact e2
 obtain⟨d0,hd0,hi0⟩:=hrow0;have er:(aB (A.getD 0 [])).length=w:=by unfold aB;rw[List.length_map];exact Mx.c9 hA (by omega)
 try dsimp only[ao]
 refine c_ (A:=a7 2 _) (fun σ st'=>σ=[some d,some (.ref st.length),some (.int 0),none,none]/\st'=st1) (fun nx h=>h _ _ ⟨rfl,rfl⟩) ?_;rintro _ _ ⟨rfl,rfl⟩;refine c_ (A:=iN _ _ _) (fun σ st'=>∃(top xb xu xc:Nat) (v3:Option D) (c:Mx.B3) (ld:Nat->Nat),σ=[some d,some (.ref st.length),some (.int top),v3,none]/\Bn st' st.length xb xu xc c.A c.U c.C/\Bo st.length st st' st.length xb xu xc/\Mx.ve A N w top c/\Mx.kn A N w c top w ld (Mx.Ez N e0 top) (Mx.Vz N e0 top)) (fun nx hnx=>?_) ?_
 . refine aA hda (show dU da 0=some d0 from jm (j:=0) hd0) (cT hi0 ?_);rw[er];refine iB ⟨by omega,by omega⟩ ?_;rw[Int.toNat_natCast];refine ke w (fun p σ st'=>∃(top xb xu xc:Nat) (v3:Option D) (c:Mx.B3) (ld:Nat->Nat),σ=[some d,some (.ref st.length),some (.int top),v3,none]/\Bn st' st.length xb xu xc c.A c.U c.C/\Bo st.length st st' st.length xb xu xc/\Mx.ve A N p top c/\Mx.kn A N w c top p ld (Mx.Ez N e0 top) (Mx.Vz N e0 top)) ?_ ?_ ⟨0,_,_,_,none,⟨A,Mx.units N,Mx.units N⟩,fun _=>0,rfl,B1,O1,.start,Mx.kn.start hA hlo⟩
   . rintro σ st' ⟨top,xb,xu,xc,v3,c,ld,rfl,B,O,hC,S⟩;exact hnx _ _ ⟨top,xb,xu,xc,v3,c,ld,rfl,B,O,hC,S⟩
   . rintro p σ st' rest hp ⟨top,xb,xu,xc,v3,c,ld,rfl,B,O,hC,S⟩ next
     refine⟨_,rfl,?_⟩;have hle:=S.le
     have hz1:(N-top+1)*(Mx.Ez N e0 top+1)<=60000000:=by
      by_cases ht:top<N
      . exact Nat.le_trans (hsz (top+1) ht).1 (by decide)
      . have e:N-top=0:=by omega
        rw[e];have:=(hsz top hle).1;omega
     refine kC B.eb rfl ?_;refine⟨st.length,st.length,xb,xu,xc,N,w,top,p,_,_,A,c.A,c.U,c.C,ld,rfl,B,⟨O.lo,fun _ _ _=>rfl,O.tb⟩,S,hN,hw,hp,hz1,fun st2 B2 O2 hL=>?_,fun st2 xb2 xu2 xc2 c2 r B2 O2 hR hL ht s1=>?_⟩
     . exact v9 (next _ _ ⟨top,xb,xu,xc,_,c,ld,rfl,B2,⟨O2.lo,fun m h1 h2=>(O2.fr m h1 h2).trans (O.fr m h1 h2),O2.tb⟩,.next hC (.none hL),S.skip hL⟩)
     . refine cm ?_;have O2':Bo st.length st st2 st.length xb2 xu2 xc2:=⟨O2.lo,fun m h1 h2=>(O2.fr m h1 h2).trans (O.fr m h1 h2),O2.tb⟩
       have hup:∀i q,i<top->Mx.g (Mx.setB c2 p top r).A i q=Mx.g c.A i q/\Mx.g (Mx.setB c2 p top r).U i q=Mx.g c.U i q/\Mx.g (Mx.setB c2 p top r).C i q=Mx.g c.C i q:=fun i q hi=>by
        obtain⟨a1,a2,a3⟩:=s1.up i hi;unfold Mx.g;rw[a1,a2,a3];exact⟨rfl,rfl,rfl⟩
       refine kC B2.eb rfl ?_;refine⟨st.length,xb2,xu2,xc2,N,w,top,p,Mx.Ez N e0 (top+1),Mx.Vz N e0 top,A,_,_,_,rfl,B2,s1.tn,hN,hw,hp,ht,s1.tp,fun q hq=>s1.zs top q (Nat.le_refl _) ht hq,fun q=>⟨s1.lo.1 top q (Nat.le_refl _) ht,s1.lo.2.1 top q (Nat.le_refl _) ht,s1.lo.2.2 top q (Nat.le_refl _) ht⟩,fun i q hi=>?_,Nat.le_trans (hsz (top+1) ht).1 (by decide),Nat.le_trans (hsz top hle).2 (by decide),fun st3 B3 f3 I=>?_⟩
       . obtain⟨a1,a2,a3⟩:=hup i q hi;rw[a1,a2,a3];exact S.hi i q hi
       . have hS:=Mx.xk.next (e':=Mx.Ez N e0 (top+1)) (u':=Mx.Vz N e0 (top+1)) S s1 ht I hN (by show _<=Mx.Vz N e0 top+Mx.Vz N e0 top+Mx.Ez N e0 (top+1)+5;omega) (by show _<=Mx.Vz N e0 top+Mx.Vz N e0 top+Mx.Ez N e0 (top+1)+5;omega);exact next _ _ ⟨top+1,xb2,xu2,xc2,_,_,_,rfl,B3,O2'.low f3,.next hC (.one hR hL),hS⟩
 . rintro σ st2 ⟨top,xb,xu,xc,v3,c,ld,rfl,B,O,hC,S⟩;have T:=S.tn;have lN:=T.isA.len;refine cV B.eb rfl ?_;obtain⟨da2,hda2,hra2⟩:=(hdk O.fr).ex;refine cT hda2 ?_;rw[hra2.len,lA];refine⟨_,c.C,N,rfl,⟨_,aD B.e3,cU.lst⟩,T.gF.lB,by rw[T.gF.len];omega,by omega,?_⟩;refine cV B.eb rfl (En B.e1 ?_);rw[D3,<-List.map_take];refine⟨_,c.A.take top,rfl,⟨_,rfl,cU.lst⟩,by rw[List.length_take];omega,?_⟩;refine cV B.eb rfl ?_;refine⟨_,c.U,rfl,⟨_,aD B.e2,cU.lst⟩,by rw[T.eR.len];omega,?_⟩;refine⟨by show 3<=sizeLine;decide,?_⟩;refine kk st2 top c ld hC S ⟨?_,O.fr,O.tb⟩;have:=(List.getElem?_eq_some_iff.mp B.eb).1;omega
structure Wf(F:List (List Int))(m w:Nat):Prop where
 is:Mx.dY m w F
 st:Mx.fX F m w (Mx.dv F)
 m8:m<=8
 w8:w<=8
 sm:∀k c,k<m->c<w->(Mx.g F k c).natAbs<=2^887
theorem Wf.lead{F:List (List Int)}{m w i:Nat}(h:Wf F m w)(hi:i<m):Mx.dv F i<w/\0<Mx.g F i (Mx.dv F i)/\(F.getD i []).length=w/\jx (F.getD i [])= .int ((Mx.dv F i:Nat):Int):=by
 obtain⟨l1,l2,l3⟩:=h.st.lead i hi;refine⟨l1,l2,h.is.row hi,?_⟩;unfold jx;rw[Fu l3 (Int.ne_of_gt l2)]
theorem Wf.row{F:List (List Int)}{m w i:Nat}(h:Wf F m w)(hi:i<m):∀x∈F.getD i [],x.natAbs<=2^887:=fun x hx=>by
 obtain⟨c,hc,rfl⟩:=List.mem_iff_getElem.mp hx;have hw:=h.is.row hi;have:=h.sm i c hi (by omega);unfold Mx.g at this;rwa [Mx.bQ hc]at this
theorem KZ{x:Int}(h:x.natAbs<=2^887)(h0:x≠0):x.natAbs.log2<9000:=
 (Nat.log2_lt (by omega)).mpr (Nat.lt_of_le_of_lt h (Nat.pow_lt_pow_right (by decide) (by decide)))
theorem drop_cons{F:List (List Int)}{i:Nat}{d:D}{rest:List D}(hr:d::rest=(F.map bW).drop i):i<F.length/\d=bW (F.getD i [])/\rest=(F.map bW).drop (i+1):=by
 have hi:i<F.length:=by
  rcases Nat.lt_or_ge i F.length with h|h
  . exact h
  . rw[List.drop_eq_nil_of_le (by rw[List.length_map];exact h)]at hr;cases hr
 rw[List.drop_eq_getElem_cons (by rw[List.length_map];exact hi),List.getElem_map]at hr;obtain⟨h1,h2⟩:=List.cons.inj hr;exact⟨hi,by rw[Mx.bQ hi];exact h1,h2⟩
theorem drop_nil{F:List (List Int)}{i:Nat}(hr: []=(F.map bW).drop i):F.length<=i:=by
 have:=congrArg List.length hr;rw[List.length_drop,List.length_map,List.length_nil]at this;omega
theorem FU{i:Nat}{σ:cn}{st:ai}{K:DK}{d:D}(h:σ[i]?=some (some d))(k:K d st):af i σ st K:=by
 unfold af;simp only[h];exact k
def sQ:cA:=fun ds st K=>∃(dr:D) (F:List (List Int)) (r:List Int) (m w e:Nat),ds=[eC F,dr]/\Wf F m w/\items? st dr=some (aB r)/\r.length=w/\(∀c,c<w->(r.getD c 0).natAbs<=2^e)/\e<=10000/\∀st',Ext st st'->K (.tup [bW (Mx.rV F r m),bW (Mx.eP F r m)]) st'
def oZ:List Str:=["form","row","weights","left","each","lead","weight"]
def Fe:DS:=(aF (a7 2 (w6 ao))
 (aF (a7 3 (bw jr (ae (af 1) ao)))
 (aF (iN (dJ (af 0)) (bN 4) (aF (a7 5 (aC i4 (ae (af 4) ao)))
 (aF (a7 6 (au nB (au aS (af 3) (af 5)) (au aS (af 4) (af 5))))
 (aF (jy (lY (af 2) (af 6)))
 (a7 3 (aC lZ (ae (af 3) (ae (nu iM (af 6)) (ae (af 4) ao)))))))))
 (bc (c5 (ae (bw d9 (ae (af 2) ao)) (ae (bw d9 (ae (af 3) ao)) ao)))))))
theorem Dp:∀ds st K,sQ ds st K->ds.length=2/\Fe {nx:=fun _ st'=>K .aE st',rt:=K} (aU oZ ds) st:=by
 rintro ds st K ⟨dr,F,r,m,w,e,rfl,hW,hr,lr,br,he,k⟩;refine⟨rfl,?_⟩;have lF:=hW.is.len;have m8:=hW.m8;have w8:=hW.w8;refine⟨Nat.le_of_ble_eq_true rfl,?_⟩;have X0:Ext st (st++[.lst []]):=Ext.push;have e0:(st++[Cell.lst []])[st.length]?=some (.lst (aB [])):=by simp
 refine jj (X0.items hr) (iD ?_);refine gK (fun rest σ st'=>∃(i:Nat) (v4 v5 v6:Option D),i<=m/\rest=(F.map bW).drop i/\σ=[some (eC F),some dr,some (.ref st.length),some (bD (Mx.eP F r i)),v4,v5,v6]/\Ext st st'/\st'[st.length]?=some (.lst (aB (Mx.rV F r i)))) ?_ ?_ _ _ _ ⟨0,none,none,none,Nat.zero_le _,rfl,rfl,X0,e0⟩
 . rintro σ st' ⟨i,v4,v5,v6,hi,hrest,rfl,X,ew⟩;have e1:i=m:=Nat.le_antisymm hi (by rw[<-lF];exact drop_nil hrest);subst e1;exact⟨trivial,dB (aD ew) (dB rfl ⟨Nat.le_of_ble_eq_true rfl,k st' X⟩)⟩
 . rintro x rest σ st' ⟨i,v4,v5,v6,hi,hrest,rfl,X,ew⟩ next
   obtain⟨hiF,rfl,rfl⟩:=drop_cons hrest;have him:i<m:=by rw[<-lF];exact hiF
   obtain⟨l1,l2,wF,eld⟩:=hW.lead him;have lL:=Mx.qk hW.is lr (i:=i) (Nat.le_of_lt him);refine⟨trivial,_,rfl,_,F.getD i [],rfl,rfl,?_⟩;rw[eld];have at1:dU (aB (F.getD i [])) ((Mx.dv F i:Nat):Int)=some (.int (Mx.g F i (Mx.dv F i))):=jn (by omega);have at2:dU (aB (Mx.eP F r i)) ((Mx.dv F i:Nat):Int)=some (.int ((Mx.eP F r i).getD (Mx.dv F i) 0)):=jn (by omega);refine aA rfl at2 (aA rfl at1 (tR (by omega) (KZ (hW.sm i _ him l1) (by omega)) ?_));have bx:=Mx.tZ hW.is lr hW.st hW.sm br (Nat.le_of_lt him) _ l1;have bq:(Mx.sG F (Mx.eP F r i) i).natAbs<=2^(e+i*(887+1)):=Nat.le_trans (Mx.i8 _ l2) bx;show aF _ _ _ [_,_,_,_,_,_,some (.int (Mx.sG F (Mx.eP F r i) i))] _;have lW:(Mx.rV F r i).length=i:=by unfold Mx.rV;simp
   refine AZ (by rfl) ew (FU rfl (xQ ew (by rw[sizeLine_eq,List.length_map,lW];omega) ?_));have hlt:=(List.getElem?_eq_some_iff.mp ew).1;refine gL ?_;refine⟨_,_,_,Mx.eP F r i,F.getD i [],rfl,rfl,rfl,by omega,fun b hb=>du (by rw[Int.natAbs_neg];exact bq) (hW.row him b hb) (by omega),?_⟩;refine next _ _ ⟨i+1,_,_,_,him,rfl,rfl,X.set (Nat.le_refl _),?_⟩
   rw[List.getElem?_set_self hlt,ints_app];congr 3;unfold Mx.rV;rw[List.range_succ,List.map_append];rfl
def uv(st:ai):List D->List Rat->Prop
 | [],[]=>True
 |d::ds,q::qs=>items? st d=some [.int q.num,.int ((q.den:Nat):Int)]/\uv st ds qs
 |_,_=>False
theorem uv.of{st:ai}:∀ {ps:List Rat},uv st (ps.map fj) ps
 | []=>trivial
 |_::_=>⟨rfl,uv.of⟩
def jJ:cA:=fun ds st K=>∃(dp dr:D) (xs:List D) (ps:List Rat) (r:List Int) (t e:Nat),ds=[dp,dr]/\items? st dp=some xs/\uv st xs ps/\items? st dr=some (aB r)/\Mx.Pb ps t/\(∀x∈r,x.natAbs<=2^e)/\t+ps.length*(e+1)<=60000000/\K (fj (Mx.fE 0 ps r)) st
def mB:List Str:=["parts","row","total","one","number"]
def Bd:DS:=(aF (a7 2 (aC lM (ae (dC (.int 0)) ao)))
 (aF (iN (qZ (ae (af 0) (ae (af 1) ao))) (gc 3 4) (a7 2 (aC ze (ae (af 2) (ae (aC xm (ae (af 3) (ae (aC lM (ae (af 4) ao)) ao))) ao)))))
 (bc (af 2))))
theorem Aa:∀ds st K,jJ ds st K->ds.length=2/\Bd {nx:=fun _ st'=>K .aE st',rt:=K} (aU mB ds) st:=by
 rintro ds st K ⟨dp,dr,xs,ps,r,t,e,rfl,hp,hx,hr,hP,hsm,hB,k⟩;refine⟨rfl,?_⟩;refine⟨_,rfl,?_⟩;refine om hp hr fun ok aK=>?_;refine gK (fun rest σ st'=>st'=st/\∃(xs':List D) (ps':List Rat) (r':List Int) (tot:Rat) (T C:Nat) (v3 v4:Option D),rest=eQ xs' (aB r')/\uv st xs' ps'/\σ=[some dp,some dr,some (fj tot),v3,v4]/\Mx.Sz tot T/\Mx.Pb ps' C/\(∀x∈r',x∈r)/\Mx.fE tot ps' r'=Mx.fE 0 ps r/\T+C+ps'.length*(e+1)<=60000000) ?_ ?_ _ _ _ ⟨rfl,xs,ps,r,0,0,t,none,none,rfl,hx,rfl,⟨by decide,by decide⟩,hP,fun _ h=>h,rfl,by omega⟩
 . rintro σ st' ⟨rfl,xs',ps',r',tot,T,C,v3,v4,he,hx',rfl,hT,hC,_,hd,hle⟩;refine⟨aK _ hp hr,?_⟩
   have:Mx.fE tot ps' r'=tot:=by
    match xs',ps',r',hx',he with
    | [],[],_,_,_=>unfold Mx.fE;rfl
    |_::_,_::_,[],_,_=>unfold Mx.fE;rfl
    |_::_,_::_,_::_,_,he=>cases he
   rw[<-hd,this]at k;exact k
 . rintro x rest σ st' ⟨rfl,xs',ps',r',tot,T,C,v3,v4,he,hx',rfl,hT,hC,hm,hd,hle⟩ next
   match xs',ps',r',he,hx',hC,hm,hd,hle with
   | [],[],_,he,_,_,_,_,_=>cases he
   |_::_,_::_,[],he,_,_,_,_,_=>cases he
   |d::xs',p::ps',n::r',he,hx',⟨a,C',ha,hC',hbC⟩,hm,hd,hle=>
    have hz:eQ (d::xs') (aB (n::r'))= .tup [d,.int n]::eQ xs' (aB r'):=rfl;rw[hz,List.cons.injEq]at he;obtain⟨rfl,rfl⟩:=he;have hn:=hsm n (hm n List.mem_cons_self);rw[List.length_cons,Nat.succ_mul]at hle;have s1:=Mx.Sz.int hn;refine⟨aK _ hp hr,_,rfl,?_⟩;refine⟨_,rfl,d,_,p,(n:Rat),a,e,rfl,⟨hx'.1,ha⟩,Fq.of s1,by omega,?_⟩;refine⟨_,_,tot,p*(n:Rat),T,a+e,rfl,Fq.of hT,Fq.of (ha.mul s1),by omega,?_⟩;exact next _ _ ⟨rfl,xs',ps',r',_,_,C',_,_,rfl,hx'.2,rfl,hT.add (ha.mul s1),hC',fun x hx=>hm x (List.mem_cons_of_mem _ hx),hd,by omega⟩
def pL:cA:=fun ds st K=>∃(F:List (List Int)) (R:List Int) (m w l:Nat),ds=[eC F,bW R,.int l]/\Wf F m w/\R.length=w/\l<w/\∀b:Int,Mx.zh F m l (R.getD l 0) b->K (.int b) st
def mn:List Str:=["form","rest","place","row"]
def Bc:DS:=(aF (iN (dJ (af 0)) (bN 3) (cO (aR (au dE (aC i4 (ae (af 3) ao)) (af 2))) (bc (au aS (af 3) (af 2))) bY))
 (bc (au cX (dC (.int 2)) (bw oK (ae (au aS (af 1) (af 2)) ao)))))
theorem Ah:∀ds st K,pL ds st K->ds.length=3/\Bc {nx:=fun _ st'=>K .aE st',rt:=K} (aU mn ds) st:=by
 rintro ds st K ⟨F,R,m,w,l,rfl,hW,lR,hl,k⟩;refine⟨rfl,?_⟩;have lF:=hW.is.len;refine iD ?_;refine gK (fun rest σ st'=>st'=st/\∃(i:Nat) (v3:Option D),i<=m/\rest=(F.map bW).drop i/\σ=[some (eC F),some (bW R),some (.int l),v3]/\∀k,k<i->Mx.dv F k≠l) ?_ ?_ _ _ _ ⟨rfl,0,none,Nat.zero_le _,rfl,rfl,fun k h=>absurd h (Nat.not_lt_zero _)⟩
 . rintro σ st' ⟨rfl,i,v3,hi,hrest,rfl,hn⟩;have:=drop_nil hrest;exact⟨trivial,aA rfl (jn (by omega)) (oE (cM (gR (by decide) (by decide)) (k _ (.inr ⟨fun k hk=>hn k (by omega),rfl⟩))))⟩
 . rintro x rest σ st' ⟨rfl,i,v3,hi,hrest,rfl,hn⟩ next
   obtain⟨hiF,rfl,rfl⟩:=drop_cons hrest;have him:i<m:=by rw[<-lF];exact hiF
   obtain⟨l1,l2,wF,eld⟩:=hW.lead him;refine⟨trivial,_,rfl,_,F.getD i [],rfl,rfl,?_⟩;rw[eld];refine eq2 (fun h=>cm ?_) fun h=>next _ _ ⟨rfl,i+1,_,him,rfl,rfl,fun k hk=>?_⟩
   . have hh:Mx.dv F i=l:=by omega
     exact aA rfl (jn (by omega)) (k _ (.inl ⟨i,him,hh,rfl⟩))
   . by_cases q:k=i
     . subst q;omega
     . exact hn k (by omega)
theorem xU:∀(r:List Int) (i l:Nat),ju r i=some l->∃k,l=i+k/\k<r.length/\r.getD k 0≠0/\∀c,c<k->r.getD c 0=0
 | [],_,_,h=>by cases h
 |x::r,i,l,h=>by
  unfold ju at h;split at h
  . rename_i hx;obtain⟨k,e,hk,hr,hz⟩:=xU r (i+1) l h;refine⟨k+1,by omega,Nat.succ_lt_succ hk,hr,fun c hc=>?_⟩;cases c with
    |zero=>exact hx
    |succ c=>exact hz c (Nat.lt_of_succ_lt_succ hc)
  . cases h;exact⟨0,rfl,Nat.succ_pos _,by assumption,fun c hc=>absurd hc (Nat.not_lt_zero _)⟩
theorem uw{r:List Int}{l:Nat}(h:kQ r=some l):l<r.length/\r.getD l 0≠0/\∀c,c<l->r.getD c 0=0:=by
 obtain⟨k,e,h1,h2,h3⟩:=xU r 0 l h;rw[Nat.zero_add]at e;subst e;exact⟨h1,h2,h3⟩
def kY:cA:=fun ds st K=>∃(F:List (List Int)) (R:List Int) (m w e l:Nat),ds=[eC F,bW R]/\Wf F m w/\R.length=w/\kQ R=some l/\(∀c,c<w->(R.getD c 0).natAbs<=2^e)/\e<=10000/\∀st' b,Ext st st'->Mx.zh F m l (R.getD l 0) b->Mx.Pb (Mx.mY F m w l (Mx.jC w l b) m) 10000000->K (.tup ((Mx.mY F m w l (Mx.jC w l b) m).map fj)) st'
def iU:List Str:=["form","rest","place","parts","k","lead","owed"]
def wc:DS:=(aF (a7 2 (aC i4 (ae (af 1) ao)))
 (aF (a7 3 (au t9 (fV (ae (aC lM (ae (dC (.int 0)) ao)) ao)) (bw dR (ae (af 1) ao))))
 (aF (et (af 3) (af 2) (aC oJ (ae (dC (.int 1)) (ae (aC pL (ae (af 0) (ae (af 1) (ae (af 2) ao)))) ao))))
 (aF (iN (xB (ae (au lb (bw dR (ae (af 0) ao)) (dC (.int 1))) (ae (nu iM (dC (.int 1))) (ae (nu iM (dC (.int 1))) ao)))) (bN 4) (aF (a7 5 (aC i4 (ae (au aS (af 0) (af 4)) ao)))
 (cO (aR (au qw (af 5) (af 2))) (aF (a7 6 (aC wV (ae (aC lM (ae (dC (.int 0)) ao)) (ae (aC jJ (ae (af 3) (ae (au aS (af 0) (af 4)) ao))) ao))))
 (et (af 3) (af 5) (aC zl (ae (af 6) (ae (aC lM (ae (au aS (au aS (af 0) (af 4)) (af 5)) ao)) ao))))) bY)))
 (bc (bw d9 (ae (af 3) ao)))))))
theorem mQ(a:Int)(n:Nat):(hZ a n).length=n:=by unfold hZ;simp
theorem E5{m i:Nat}{d:D}{rest:List D}(hr:d::rest=(hZ ((m:Int)-1) m).drop i):i<m/\d= .int ((m-1-i:Nat):Int)/\rest=(hZ ((m:Int)-1) m).drop (i+1):=by
 have hi:i<m:=by
  rcases Nat.lt_or_ge i m with h|h
  . exact h
  . rw[List.drop_eq_nil_of_le (by rw[mQ];exact h)]at hr;cases hr
 have hl:i<(hZ ((m:Int)-1) m).length:=by rw[mQ];exact hi
 rw[List.drop_eq_getElem_cons hl]at hr;obtain⟨h1,h2⟩:=List.cons.inj hr;refine⟨hi,?_,h2⟩;have h3:(hZ ((m:Int)-1) m)[i]=D.int ((m:Int)-1+(i:Nat)*(-1)):=by simp[hZ]
 rw[h1,h3];congr 1;omega
theorem xH{A:List (List Int)}{k:Nat}(h:k<A.length):dU (A.map bW) (k:Int)=some (bW (A.getD k [])):=by
 refine jm ?_;rw[List.getElem?_map,List.getElem?_eq_getElem h,Mx.bQ h];rfl
theorem AR{α:Type}(d:α):∀n:Nat,(List.replicate n [d]).flatten=List.replicate n d
 |0=>rfl
 |n+1=>by rw[List.replicate_succ,List.flatten_cons,AR d n,List.replicate_succ];rfl
theorem G0{ps:List Rat}{r:List Int}{w:Nat}(h1:ps.length=w)(h2:r.length=w):Mx.fE 0 ps r=Mx.dq ps w fun c=>r.getD c 0:=by
 rw[Mx.Fh ps r 0 h1 h2];grind
theorem uY:∀ds st K,kY ds st K->ds.length=2/\wc {nx:=fun _ st'=>K .aE st',rt:=K} (aU iU ds) st:=by
 rintro ds st K ⟨F,R,m,w,e,l,rfl,hW,lR,el,bR,he,k⟩;refine⟨rfl,?_⟩;have lF:=hW.is.len;have m8:=hW.m8;have w8:=hW.w8;obtain⟨hl,hne,_⟩:=uw el;rw[lR]at hl;have el':jx R= .int (l:Int):=by unfold jx;rw[el]
 refine⟨_,R,rfl,rfl,?_⟩;rw[el'];refine⟨_,rfl,Nat.le_of_ble_eq_true rfl,cT rfl (Cq ⟨by omega,by rw[List.length_map];omega,cF (by simp;omega)⟩ ?_)⟩;rw[List.length_map,lR,Int.toNat_natCast,AR];have er:List.replicate w (fj ((0:Int):Rat))=(List.replicate w (0:Rat)).map fj:=by rw[List.map_replicate];rfl
 rw[er];have X0:Ext st (st++[.lst ((List.replicate w (0:Rat)).map fj)]):=Ext.push;have e0:(st++[Cell.lst ((List.replicate w (0:Rat)).map fj)])[st.length]?=some (.lst ((List.replicate w (0:Rat)).map fj)):=by simp
 generalize st++[Cell.lst ((List.replicate w (0:Rat)).map fj)]=st1 at X0 e0⊢;refine⟨F,R,m,w,l,rfl,hW,lR,hl,fun b hb=>?_⟩;have b0:=hb.pos hW.st hne
 have bb:b.natAbs<=2^(e+888):=by
  rcases hb with⟨k,hk,_,rfl⟩|⟨_,rfl⟩
  . exact Nat.le_trans (hW.sm k l hk hl) (Nat.pow_le_pow_right (by decide) (by omega))
  . have:=bR l hl;rw[show e+888=e+887+1 by omega,Nat.pow_succ];have p:2^e<=2^(e+887):=Nat.pow_le_pow_right (by decide) (by omega);omega
 refine⟨_,_,rfl,by omega,?_⟩
 have hix:∀ {n i:Nat},i<n->ko n (i:Int)=some i:=fun{n i} h=>by
  unfold ko;simp only[Int.natCast_nonneg,Int.toNat_natCast];simp[h]
 refine i5 e0 (hix (by simpa using hl)) ?_;have hlt:=(List.getElem?_eq_some_iff.mp e0).1;refine cT rfl (jF (gL (gL ?_)));rw[List.length_map,lF];refine KW ⟨by omega,by omega,by decide,by decide⟩ ?_;rw[show((m:Int)-1- -1).toNat=m by omega]
 have p0:Mx.Pb (Mx.jC w l b) (e+888):=by
  have:=(Mx.Pb.rep w).set (k:=l) (Mx.Sz.of (t:=1) (by omega) (show(1:Int).natAbs<=2^(e+888)from Nat.pow_pos (by decide)) bb);rwa [Nat.zero_add]at this
 refine gK (fun rest σ st'=>∃(i t:Nat) (v4 v5 v6:Option D),i<=m/\rest=(hZ ((m:Int)-1) m).drop i/\σ=[some (eC F),some (bW R),some (.int l),some (.ref st.length),v4,v5,v6]/\Ext st st'/\st'[st.length]?=some (.lst ((Mx.mY F m w l (Mx.jC w l b) i).map fj))/\Mx.Pb (Mx.mY F m w l (Mx.jC w l b) i) t/\t+8000<=2^i*(e+8888)) ?_ ?_ _ _ _ ⟨0,e+888,none,none,none,Nat.zero_le _,rfl,rfl,X0.set (Nat.le_refl _),by rw[List.getElem?_set_self hlt,<-List.map_set];rfl,p0,by omega⟩
 . rintro σ st' ⟨i,t,v4,v5,v6,hi,hrest,rfl,X,ep,hP,ht⟩
   have e1:i=m:=by
    have:=congrArg List.length hrest;rw[List.length_drop,mQ,List.length_nil]at this;omega
   subst e1;have h2i:2^i<=256:=Nat.le_trans (Nat.pow_le_pow_right (by decide) m8) (by decide);have:=Nat.mul_le_mul h2i (show e+8888<=18888 by omega);exact⟨trivial,dB (aD ep) (k st' b X hb (hP.mono (by omega)))⟩
 . rintro x rest σ st' ⟨i,t,v4,v5,v6,hi,hrest,rfl,X,ep,hP,ht⟩ next
   obtain⟨him,rfl,rfl⟩:=E5 hrest;have P:=Mx.ow.all b hW.st hl (i:=i) hi;have hstep:Mx.mY F m w l (Mx.jC w l b) (i+1)=Mx.Fz F w l (Mx.mY F m w l (Mx.jC w l b) i) (m-1-i):=rfl;generalize Mx.mY F m w l (Mx.jC w l b) i=ps at P hP ep hstep;generalize hj:m-1-i=j at hstep;have hjm:j<m:=by omega
   obtain⟨l1,l2,wF,eld⟩:=hW.lead hjm;have lp:=P.len;have hat:dU (F.map bW) (j:Int)=some (bW (F.getD j [])):=xH (by omega);refine⟨trivial,_,rfl,aA rfl hat ⟨_,F.getD j [],rfl,rfl,?_⟩⟩;rw[eld];have h2i:2^i<=128:=Nat.le_trans (Nat.pow_le_pow_right (by decide) (show i<=7 by omega)) (by decide);have ht2:=Nat.mul_le_mul h2i (show e+8888<=18888 by omega);have e2:2^(i+1)*(e+8888)=2^i*(e+8888)+2^i*(e+8888):=by rw[Nat.pow_succ,Nat.mul_two,Nat.add_mul]
   unfold Mx.Fz at hstep;refine IQ (fun hlp=>cm ?_) fun hlp=>?_
   . rw[if_pos (by omega)]at hstep;have hpl:ps.length*(887+1)<=8*888:=Nat.mul_le_mul (by omega) (by decide);refine⟨_,rfl,aA rfl hat ⟨_,_,_,ps,F.getD j [],t,887,rfl,aD ep,uv.of,rfl,hP,hW.row hjm,by omega,?_⟩⟩;have sd:=Mx.Pb.fE (r:=F.getD j []) (x:=0) (s:=0) ⟨by decide,by decide⟩ hP (hW.row hjm);rw[G0 lp wF]at sd⊢;refine⟨_,_,0,_,0,_,rfl,Fq.of ⟨by decide,by decide⟩,Fq.of sd,by omega,?_⟩
     have hnum:(((Mx.g F j (Mx.dv F j):Int)):Rat).num≠0:=by
      show Mx.g F j (Mx.dv F j)≠0;omega
     have sg:=Mx.Sz.int (hW.sm j _ hjm l1);refine aA rfl hat (aA rfl (jn (by omega)) ⟨_,rfl,_,_,_,_,_,_,rfl,Fq.of sd.neg,Fq.of sg,by omega,hnum,?_⟩);refine i5 ep (hix (by rw[List.length_map];omega)) ?_;have hlt2:=(List.getElem?_eq_some_iff.mp ep).1;refine next _ _ ⟨i+1,t+(0+t+ps.length*(887+1)+887),_,_,_,him,rfl,rfl,X.set (Nat.le_refl _),?_,?_,?_⟩
     . rw[List.getElem?_set_self hlt2,<-List.map_set,hstep];rfl
     . rw[hstep];exact hP.set (sd.neg.div sg hnum)
     . omega
   . rw[if_neg (by omega)]at hstep;refine next _ _ ⟨i+1,t,_,_,_,him,rfl,rfl,X,?_,?_,?_⟩
     . rw[hstep];exact ep
     . rw[hstep];exact hP
     . omega
structure QT(F U:List (List Int))(m N w:Nat)(r:List Int)(x:D):Prop where
 st:Mx.fX F m w (Mx.dv F)
 or:(kQ (Mx.eP F r m)=none/\x= .tup [.str "told",bW (Mx.dP (Mx.rV F r m) (U.take m) (List.replicate N 0))])\/∃l b,kQ (Mx.eP F r m)=some l/\Mx.zh F m l ((Mx.eP F r m).getD l 0) b/\x= .tup [.str "none",.tup ((Mx.mY F m w l (Mx.jC w l b) m).map fj)]
structure QY(A:List (List Int))(N w:Nat)(r:List Int)(x:D):Prop where
 ex:∃top c,Mx.ve A N w top c/\QT (c.A.take top) c.U top N w r x
def Lx(A:List (List Int))(N w:Nat)(r:List Int)(x:D):Prop:=
 (∃W:List Int,x= .tup [.str "told",bW W]/\W.length=N/\∀c,c<w->(Mx.S N fun n=>W.getD n 0*Mx.g A n c)=r.getD c 0)\/
 (∃ps:List Rat,x= .tup [.str "none",.tup (ps.map fj)]/\ps.length=w/\Mx.Pb ps 10000000/\(∀n,n<N->Mx.Wh (Mx.dq ps w (Mx.g A n)))/\¬Mx.Wh (Mx.dq ps w fun c=>r.getD c 0))
structure AN(A:List (List Int))(N w:Nat)(r:List Int):Prop where
 is:Mx.dY N w A
 n1:1<=N
 n8:N<=8
 w8:w<=8
 bA:∀r∈A,∀x∈r,x.natAbs<=2^48
 lr:r.length=w
 br:∀x∈r,x.natAbs<=2^64
def uX:cA:=fun ds st K=>∃(d dr:D) (A:List (List Int)) (r:List Int) (N w:Nat) (f:Bool),ds=[d,dr]/\hO st d A/\items? st dr=some (aB r)/\AN A N w r/\st[0]?=some (g4 f)/\∀st' x,Bk st st'->QY A N w r x->Lx A N w r x->K x st'
def rE:List Str:=["rows","row","told","form","fallen"]
def Gm:DS:=(aF (a7 2 (aC rq (ae (af 0) ao)))
 (aF (a7 3 (au aS (af 2) (dC (.int 0))))
 (aF (a7 4 (aC sQ (ae (af 3) (ae (af 1) ao))))
 (aF (cO (aR (au pG (aC i4 (ae (au aS (af 4) (dC (.int 1))) ao)) (dC .aE))) (bc (c5 (ae (dC (.str "none")) (ae (aC kY (ae (af 3) (ae (au aS (af 4) (dC (.int 1))) ao))) ao)))) bY)
 (bc (c5 (ae (dC (.str "told")) (ae (aC qO (ae (au aS (af 4) (dC (.int 0))) (ae (tx (au aS (af 2) (dC (.int 1))) qD (vz (bw dR (ae (af 3) ao)))) (ae (bw dR (ae (af 0) ao)) ao)))) ao))))))))
theorem Bk.ext{st st1 st2:ai}(B:Bk st st1)(X:Ext st1 st2):Bk st st2:=by
 have l1:=B.le;obtain⟨f,e⟩:=B.tb;have l0:=(List.getElem?_eq_some_iff.mp e).1;exact⟨by have:=X.len;omega,fun m hm h0=>by rw[X.same m (by omega),B.fr m hm h0],f,by rw[X.same 0 l0];exact e⟩
theorem Mi:8*((9*2^48)^9*(9*2^48)^8)<=2^887:=by decide+kernel
theorem qu{A:List (List Int)}{t i c:Nat}(h:i<t):Mx.g (A.take t) i c=Mx.g A i c:=by
 have e:(A.take t).getD i []=A.getD i []:=by rw[List.getD_eq_getElem?_getD,List.getD_eq_getElem?_getD,List.getElem?_take,if_pos h]
 unfold Mx.g;rw[e]
theorem LM{A:List (List Int)}{N w top e u:Nat}{c:Mx.B3}{ld:Nat->Nat}(H:Mx.kn A N w c top w ld e u)(hA:Mx.dY N w A)(n8:N<=8)(w8:w<=8)(bA:∀r∈A,∀x∈r,x.natAbs<=2^48):Wf (c.A.take top) top w:=by
 have le:=H.le;have lA:=H.tn.isA.len
 have s:Mx.fX (c.A.take top) top w ld:=⟨fun i hi=>by
  obtain⟨h1,h2,h3⟩:=H.lead i hi;exact⟨h1,by rw[qu hi];exact h2,fun c hc=>by rw[qu hi];exact h3 c hc⟩,H.mono⟩
 have sm:=(H.small n8 (b:=2^48) (Nat.pow_pos (by decide)) fun i c hi hc=>by
  have lN:=hA.len;have hr:=hA.row hi;unfold Mx.g;refine bA _ (by rw[Mx.bQ (by omega)];exact List.getElem_mem _) _ (getD_mem (by omega))).2
 exact⟨⟨by rw[List.length_take];omega,fun r hr=>H.tn.isA.lB r (List.mem_of_mem_take hr)⟩,s.Q7,by omega,w8,fun k q hk hq=>by rw[qu hk];exact Nat.le_trans (sm k q hk hq) Mi⟩
theorem Nt{A:List (List Int)}{N w:Nat}(hA:Mx.dY N w A)(bA:∀r∈A,∀x∈r,x.natAbs<=2^48):Mx.jH A N 0 (2^48):=fun i c _ hi=>by
 have lA:=hA.len;unfold Mx.g;by_cases hc:c<(A.getD i []).length
 . exact bA _ (by rw[Mx.bQ (by omega)];exact List.getElem_mem _) _ (getD_mem hc)
 . rw[Mx.n_ (by omega)];exact Nat.zero_le _
theorem FR:∀ds st K,uX ds st K->ds.length=2/\Gm {nx:=fun _ st'=>K .aE st',rt:=K} (aU rE ds) st:=by
 rintro ds st K ⟨d,dr,A,r,N,w,f,rfl,hd,hr,⟨hA,n1,n8,w8,bA,lr,br⟩,h0,k⟩;refine⟨rfl,d,N,w,48,A,f,rfl,hd,hA,n1,n8,by omega,Nt hA bA,fun t ht=>Mx.LL N (by omega) t (by omega),h0,fun st1 top c ld hC H B=>?_⟩;have hW:=LM H hA n8 w8 bA;have lF:=hW.is.len;have hgF:∀i q,i<top->Mx.g (c.A.take top) i q=Mx.g c.A i q:=fun i q hi=>qu hi;generalize hF:c.A.take top=F at hW lF hgF;have br':∀c,c<w->(r.getD c 0).natAbs<=2^64:=fun c hc=>br _ (getD_mem (by omega));refine aA rfl rfl ?_;refine⟨dr,F,r,top,w,64,rfl,hW,o_ h0 B.fr hr,lr,br',by decide,fun st2 X=>?_⟩;have B2:=B.ext X;have lR:=Mx.qk hW.is lr (Nat.le_refl top);have fal:=Mx.BL hW.is lr hW.st (Nat.le_refl top);have sm:=Mx.BR hW.is lr (Nat.le_refl top);have ab:=Mx.tZ hW.is lr hW.st hW.sm br' (Nat.le_refl top);have t8:=hW.m8;refine aA rfl rfl ⟨_,Mx.eP F r top,rfl,rfl,?_⟩;cases el:kQ (Mx.eP F r top)with
 |some l=>
  have eD:jx (Mx.eP F r top)= .int (l:Int):=by unfold jx;rw[el]
  rw[eD];obtain⟨hl,hne,hz⟩:=uw el;rw[lR]at hl;refine Ef rfl (cm (aA rfl rfl ⟨F,Mx.eP F r top,top,w,64+top*(887+1),l,rfl,hW,lR,el,ab,by omega,fun st3 b X3 hb hP=>⟨Nat.le_of_ble_eq_true rfl,?_⟩⟩));have P:=Mx.ow.all b hW.st hl (Nat.le_refl top);have wF:∀i,i<top->Mx.Wh (Mx.dq (Mx.mY F top w l (Mx.jC w l b) top) w (Mx.g F i)):=fun i hi=>P.whole hW.st hl hb hne hi;refine k st3 _ (B2.ext X3) ⟨top,c,hC,by rw[hF];exact⟨hW.st,.inr ⟨l,b,el,hb,rfl⟩⟩⟩ (.inr ⟨_,rfl,P.len,hP,fun n hn=>?_,fun z=>?_⟩)
  . have e1:Mx.dq (Mx.mY F top w l (Mx.jC w l b) top) w (Mx.g A n)=Mx.dq (Mx.mY F top w l (Mx.jC w l b) top) w fun q=>Mx.S top fun k=>Mx.g c.C k n*Mx.g F k q:=Mx.AD fun q hq=>by
     rw[H.back hn hq];exact Mx.aY fun k hk=>by rw[hgF k q hk]
    rw[e1,Mx.Eb];exact Mx.Ij fun i hi=>(wF i hi).mul _
  . have e1:Mx.dq (Mx.mY F top w l (Mx.jC w l b) top) w (fun q=>r.getD q 0)=Mx.dq (Mx.mY F top w l (Mx.jC w l b) top) w (fun q=>(Mx.eP F r top).getD q 0)+Mx.dq (Mx.mY F top w l (Mx.jC w l b) top) w (fun q=>Mx.S top fun j=>Mx.sG F (Mx.eP F r j) j*Mx.g F j q):=by
     rw[<-Mx.Nw];exact Mx.AD fun q _=>sm q
    have w2:Mx.Wh (Mx.dq (Mx.mY F top w l (Mx.jC w l b) top) w (fun q=>Mx.S top fun j=>Mx.sG F (Mx.eP F r j) j*Mx.g F j q)):=by
     rw[Mx.Eb];exact Mx.Ij fun i hi=>(wF i hi).mul _
    refine P.not hW.st hl hb hne hz (fun i hi=>fal.red i hi) ?_;have:=z.add w2.neg;rw[e1]at this;have e2:∀a b:Rat,a+b+ -b=a:=by grind
    rwa [e2]at this
 |none=>
  have eD:jx (Mx.eP F r top)= .aE:=by unfold jx;rw[el]
  rw[eD];refine Ef rfl ?_;have lU:=H.tn.eR.len;have le:=H.le;refine aA rfl rfl (aA rfl rfl (cT rfl (EH ?_)));rw[List.length_map,lF,D3,<-List.map_take];obtain⟨da,hda,ra⟩:=hd;refine cT (X.items (o_ h0 B.fr hda)) ?_;have lda:da.length=N:=by rw[ra.len];exact hA.len
  rw[lda];have lw:(Mx.rV F r top).length=top:=by unfold Mx.rV;simp
  have wat:∀j,j<top->(Mx.rV F r top).getD j 0=Mx.sG F (Mx.eP F r j) j:=fun j hj=>by
   unfold Mx.rV;rw[Mx.bQ (by simpa using hj),List.getElem_map,List.getElem_range]
  refine⟨_,_,N,Mx.rV F r top,c.U.take top,rfl,rfl,xO,fun q hq=>H.tn.eR.lB q (List.mem_of_mem_take hq),by omega,fun x hx q hq y hy=>?_,⟨Nat.le_of_ble_eq_true rfl,k st2 _ B2 ⟨top,c,hC,by rw[hF];exact⟨hW.st,.inl ⟨el,rfl⟩⟩⟩ (.inl ⟨_,rfl,Mx.pC (by simp) fun q hq=>H.tn.eR.lB q (List.mem_of_mem_take hq),fun q hq=>?_⟩)⟩⟩
  . obtain⟨j,hj,rfl⟩:=List.mem_iff_getElem.mp hx;rw[lw]at hj
    have bj:(Mx.rV F r top)[j].natAbs<=2^(64+j*(887+1)):=by
     have e1:=wat j hj;rw[Mx.bQ (by omega)]at e1;rw[e1];obtain⟨l1,l2,_⟩:=hW.lead hj;exact Nat.le_trans (Mx.i8 _ l2) (Mx.tZ hW.is lr hW.st hW.sm br' (Nat.le_of_lt hj) _ l1)
    obtain⟨i,hi,rfl⟩:=List.mem_iff_getElem.mp hq;have hiU:i<c.U.length:=by rw[List.length_take]at hi;omega
    have him:i<top:=by rw[List.length_take]at hi;omega
    rw[List.getElem_take]at hy;obtain⟨p,hp,rfl⟩:=List.mem_iff_getElem.mp hy;have hU:=(H.hi i p him).2.1
    have eU:Mx.g c.U i p=c.U[i][p]:=by
     unfold Mx.g;rw[Mx.bQ hiU,Mx.bQ hp]
    rw[eU]at hU;have sz:=Mx.LL N (by omega) top (by omega);exact du bj hU (by omega)
  . refine Mx.Gr H lw (fun q hq=>?_) hq;rw[sm q,vW _ 0 el q,Int.zero_add];exact Mx.aY fun j hj=>by rw[wat j hj,hgF j q hj]
def aq:D->Option (List D)
 | .tup xs=>some xs
 | .lst xs=>some xs
 |_=>none
theorem gN{n:Nat}{st:ai}{d:D}(h:pl n d=true):items? st d=aq d:=by
 cases d with
 |ref m=>cases n<;>cases h
 |_=>rfl
theorem vX{n:Nat}{st:ai}{d:D}(h:pl n d=true):Any st d:=by
 cases d with
 |ref m=>cases n<;>cases h
 |ty t=>cases n<;>cases h
 |_=>exact⟨_,rfl⟩
theorem jI{n:Nat}{d:D}{xs:List D}(h:pl (n+1) d=true)(e:aq d=some xs):∀x∈xs,pl n x=true:=by
 cases d<;>cases e<;>(unfold pl at h;exact List.all_eq_true.mp h)
theorem AV{n:Nat}{st:ai}{d:D}(h:pl (n+1) d=true)(l:∀xs,aq d=some xs->xs.length<=1000):Thing st d:=⟨vX h,fun xs hx=>by
 rw[gN h]at hx;exact⟨fun x hm=>vX (jI h hx x hm),cF (l xs hx)⟩⟩
def iu(y:D):Bool:=match aq y with
 |some [.int a,.int b]=>decide (0<b)&&decide (Nat.gcd a.natAbs b.natAbs=1)
 |_=>false
def toQ(y:D):Rat:=match aq y with
 |some [.int a,.int b]=>Rat.divInt a b
 |_=>0
theorem Pk{n:Nat}{st:ai}{d:D}(h:pl n d=true):vM st d=iu d:=by unfold vM iu;rw[gN h]
theorem EM{y:D}(h:iu y=true):aq y=some [.int (toQ y).num,.int (((toQ y).den:Nat):Int)]:=by
 unfold iu at h;unfold toQ;split at h
 . rename_i a b e;rw[e];rw[Bool.and_eq_true,decide_eq_true_eq,decide_eq_true_eq]at h;obtain⟨h1,h2⟩:=h;have hb:b≠0:=by omega
   have e2:=B7 (t:=a) hb;rw[if_neg (by omega),h2]at e2;simp only[Int.one_mul]at e2;rw[show((1:Nat):Int)=1 from rfl,Int.fdiv_one,Int.fdiv_one]at e2;injection e2 with e3;rw[e3]
 . cases h
theorem AL{n:Nat}{st:ai}:∀ {ys:List D},(∀y∈ys,pl n y=true)->ys.all iu=true->uv st ys (ys.map toQ)
 | [],_,_=>trivial
 |y::ys,h,hp=>by
  rw[List.all_cons,Bool.and_eq_true]at hp;exact⟨by rw[gN (h y List.mem_cons_self)];exact EM hp.1,AL (fun z hz=>h z (List.mem_cons_of_mem _ hz)) hp.2⟩
structure Sh(d:D):Prop where
 l:∀xs,aq d=some xs->xs.length<=1000/\∀x∈xs,∀ys,aq x=some ys->ys.length<=1000/\∀y∈ys,∀zs,aq y=some zs->zs.length<=1000
def pK:cA:=fun ds st K=>∃(d:D) (m:Int),ds=[d,.int m]/\pl 9 d=true/\Sh d/\K (.bl (match aq d with|some ys=>decide ((ys.length:Int)=m)&&ys.all iu|none=>false)) st
def my:List Str:=["thing","many"]
def Bg:DS:=(bc (ie (aC gM (ae (af 0) (ae (af 1) ao))) (bw oU (ae (dH (dJ (af 0)) [none] (bN 0) cw (aC tH (ae (af 0) ao))) ao))))
theorem y9:∀ds st K,pK ds st K->ds.length=2/\Bg {nx:=fun _ st'=>K .aE st',rt:=K} (aU my ds) st:=by
 rintro ds st K ⟨d,m,rfl,hp,hs,k⟩;refine⟨rfl,d,m,rfl,vX hp,?_⟩;rw[gN hp];cases e:aq d with
 |none=>rw[e]at k;exact k
 |some ys=>
  rw[e]at k;obtain⟨l1,l2⟩:=hs.l ys e;by_cases hl:(ys.length:Int)=m
  . simp only[hl,decide_true,Bool.true_and]at k⊢;rw[if_pos trivial];have e2:items? st d=some ys:=by rw[gN hp];exact e
    refine jQ e2 fun ok aK=>⟨cF l1,?_⟩
    refine jG (g:=fun x=> .bl (iu x)) aK ys [] (fun x hx K' q=>⟨_,rfl,x,rfl,AV (jI hp e x hx) (fun zs hz=>(l2 x hx zs hz).1),?_⟩) ?_
    . rw[Pk (jI hp e x hx)];exact q
    . refine sZ (mN ys) ?_;simpa using k
  . simp only[hl,decide_false,Bool.false_and]at k⊢;exact k
def nI:cA:=fun ds st K=>∃q:Rat,ds=[fj q]/\K (.bl (decide (q.den=1))) st
def nN:List Str:=["one"]
def DQ:DS:=(bc (au dE (au aS (af 0) (dC (.int 1))) (dC (.int 1))))
theorem Bh:∀ds st K,nI ds st K->ds.length=1/\DQ {nx:=fun _ st'=>K .aE st',rt:=K} (aU nN ds) st:=by
 rintro ds st K ⟨q,rfl,k⟩;refine⟨rfl,aA rfl rfl (eq2 (fun h=>?_) fun h=>?_)⟩
 . rw[decide_eq_true (by omega)]at k;exact k
 . rw[decide_eq_false (by omega)]at k;exact k
def WB:List D->Nat->Prop
 | [],_=>True
 |y::ys,t=>∃a b,(∀p q,aq y=some [.int p,.int q]->p.natAbs<=2^a/\q.natAbs<=2^a)/\WB ys b/\a+b<=t
theorem WB.pb:∀ {ys:List D} {t:Nat},WB ys t->ys.all iu=true->Mx.Pb (ys.map toQ) t
 | [],_,_,_=>trivial
 |y::ys,t,⟨a,b,h1,h2,h3⟩,hp=>by
  rw[List.all_cons,Bool.and_eq_true]at hp;have h4:=h1 _ _ (EM hp.1);exact⟨a,b,⟨h4.1,h4.2⟩,h2.pb hp.2,h3⟩
def pe(x:Rat):Bool:=decide (x.den=1)
def pB(A:List (List Int))(r:List Int)(w:Nat)(b:D):Bool:=match aq b with
 |some ys=>decide (ys.length=w)&&ys.all iu&& !pe (Mx.fE 0 (ys.map toQ) r)&&A.all fun s=>pe (Mx.fE 0 (ys.map toQ) s)
 |none=>false
def oQ:cA:=fun ds st K=>∃(dA dr b:D) (A:List (List Int)) (r:List Int) (N w:Nat),ds=[dA,dr,b]/\hO st dA A/\items? st dr=some (aB r)/\AN A N w r/\pl 9 b=true/\Sh b/\(∀ys,aq b=some ys->WB ys 20000000)/\K (.bl (pB A r w b)) st
def kZ:List Str:=["rows","row","parts"]
def zH:DS:=(aF (cO (nj (j6 (aR (aC pK (ae (af 2) (ae (bw dR (ae (af 1) ao)) ao))))) (aR (aC nI (ae (aC jJ (ae (af 2) (ae (af 1) ao))) ao)))) (bc (dC (.bl false))) bY)
 (bc (bw oU (ae (dH (dJ (af 0)) [none,some 2] (bN 0) cw (aC nI (ae (aC jJ (ae (af 1) (ae (af 0) ao))) ao))) ao))))
theorem ym{f:List Int->Bool}:∀A:List (List Int),jL (A.map fun s=>D.bl (f s))=some (A.map f)
 | []=>rfl
 |s::A=>by simp[jL,ym A]
theorem yF:∀ds st K,oQ ds st K->ds.length=3/\zH {nx:=fun _ st'=>K .aE st',rt:=K} (aU kZ ds) st:=by
 rintro ds st K ⟨dA,dr,b,A,r,N,w,rfl,⟨da,hda,ra⟩,hr,⟨hA,n1,n8,w8,bA,lr,br⟩,hp,hs,hz,k⟩;refine⟨rfl,cT hr ⟨b,_,rfl,hp,hs,?_⟩⟩;rw[List.length_map,lr];unfold pB at k;cases e:aq b with
 |none=>rw[e]at k;exact k
 |some ys=>
  rw[e]at k;by_cases hl:ys.length=w
  . have hl':((ys.length:Nat):Int)=(w:Int):=by omega
    simp only[hl,hl',decide_true,Bool.true_and]at k⊢;cases ha:ys.all iu with
    |false=>rw[ha]at k;exact k
    |true=>
     rw[ha]at k;simp only[Bool.true_and]at k;have eb:items? st b=some ys:=by rw[gN hp];exact e
     have hin:=AL (st:=st) (jI hp e) ha;have hpb:=(hz ys e).pb ha;have lq:(ys.map toQ).length*(64+1)<=8*65:=Nat.mul_le_mul (by rw[List.length_map];omega) (by decide);refine⟨b,dr,ys,ys.map toQ,r,_,64,rfl,eb,hin,hr,hpb,br,by omega,⟨_,rfl,?_⟩⟩;cases hwh:pe (Mx.fE 0 (ys.map toQ) r)with
     |true=>
      rw[hwh]at k;unfold pe at hwh;rw[hwh];exact k
     |false=>
      rw[hwh]at k;unfold pe at hwh;rw[hwh];simp only[Bool.not_false,Bool.true_and]at k;refine jQ hda fun ok aK=>⟨cF (by rw[ra.len,hA.len];omega),?_⟩
      refine jg (fun s=> .bl (pe (Mx.fE 0 (ys.map toQ) s))) aK ra (fun d s hsA he K' q=>⟨_,rfl,b,d,ys,ys.map toQ,s,_,64,rfl,eb,hin,he,hpb,fun x hx=>Nat.le_trans (bA s hsA x hx) (by decide),by omega,⟨_,rfl,q⟩⟩) ?_;refine sZ (ym A) ?_;rw[List.all_map];exact k
  . have hl':¬((ys.length:Nat):Int)=(w:Int):=by omega
    simp only[hl,hl',decide_false,Bool.false_and]at k⊢;exact k
def pA:D->Int
 | .int n=>n
 |_=>0
def wB(A:List (List Int))(r:List Int)(N w:Nat)(b:D):Bool:=match aq b with
 |some ys=>decide (ys.length=N)&&ys.all isInt&&decide (Mx.dP (ys.map pA) A (List.replicate w 0)=r)
 |none=>false
def lH:cA:=fun ds st K=>∃(dA dr b:D) (A:List (List Int)) (r:List Int) (N w:Nat),ds=[dA,dr,b]/\hO st dA A/\items? st dr=some (aB r)/\AN A N w r/\pl 9 b=true/\Sh b/\K (.bl (wB A r N w b)) st
def jt:List Str:=["rows","row","weights"]
def wN:DS:=(bc (ie (aC jV (ae (af 2) (ae (bw dR (ae (af 0) ao)) ao))) (au dE (aC qO (ae (af 2) (ae (af 0) (ae (bw dR (ae (af 1) ao)) ao)))) (bw d9 (ae (af 1) ao)))))
theorem t7:∀ {ys:List D},ys.all isInt=true->ys=aB (ys.map pA)
 | [],_=>rfl
 |y::ys,h=>by
  rw[List.all_cons,Bool.and_eq_true]at h;have ih:=t7 h.2;cases y<;>first|(cases h.1;done)|skip
  show _::ys=D.int _::aB (ys.map pA);rw[<-ih];rfl
theorem BM{n:Nat}{r:List Int}:pl (n+1) (bW r)=true:=by
 unfold pl;exact Cr
theorem BZ{n:Nat}{r:List Int}:pl (n+1) (bD r)=true:=by
 unfold pl;exact Cr
theorem o3:∀(r s:List Int),iI (aB r) (aB s)=decide (r=s)
 | [],[]=>by unfold iI;rfl
 | [],_::_=>by unfold iI;simp
 |_::_,[]=>by unfold iI;simp
 |a::r,b::s=>by
  simp only[List.map_cons];unfold iI;rw[o3 r s];unfold bU;by_cases h1:a=b<;>by_cases h2:r=s<;>simp[h1,h2]
theorem wH:∀ds st K,lH ds st K->ds.length=3/\wN {nx:=fun _ st'=>K .aE st',rt:=K} (aU jt ds) st:=by
 rintro ds st K ⟨dA,dr,b,A,r,N,w,rfl,hdA,hr,⟨hA,n1,n8,w8,bA,lr,br⟩,hp,hs,k⟩;obtain⟨da,hda,ra⟩:=hdA.ex;refine⟨rfl,cT hda ⟨b,_,rfl,AV hp (fun xs hx=>(hs.l xs hx).1),?_⟩⟩;rw[ra.len,hA.len];unfold tQ;rw[gN hp];unfold wB at k;cases e:aq b with
 |none=>rw[e]at k;exact k
 |some ys=>
  rw[e]at k;by_cases hl:ys.length=N
  . have hl':((ys.length:Nat):Int)=(N:Int):=by omega
    simp only[hl,hl',decide_true,Bool.true_and]at k⊢;cases ha:ys.all isInt with
    |false=>rw[ha]at k;exact k
    |true=>
     rw[ha]at k;simp only[Bool.true_and]at k;have eb:items? st b=some (aB (ys.map pA)):=by rw[gN hp,e,<-t7 ha]
     refine cm (cT hr ?_);rw[List.length_map,lr];refine⟨b,dA,w,ys.map pA,A,rfl,eb,hdA,hA.lB,by omega,fun x hx q hq y hy=>?_,?_⟩
     . have:=bA q hq y hy;exact l7 (by omega) (by omega)
     refine dB hr (mK BM BM ?_)
     have e4:bU (bW (Mx.dP (ys.map pA) A (List.replicate w 0))) (.tup (aB r))=decide (Mx.dP (ys.map pA) A (List.replicate w 0)=r):=by
      unfold bU;exact o3 _ _
     rw[e4];exact k
  . have hl':¬((ys.length:Nat):Int)=(N:Int):=by omega
    simp only[hl,hl',decide_false,Bool.false_and]at k⊢;exact k
structure qy(d:D):Prop where
 p:pl 10 d=true
 s:Sh d
 s2:∀xs,aq d=some xs->∀x∈xs,Sh x
 z:∀a b ys,aq d=some [a,b]->aq b=some ys->WB ys 20000000
def Fd(A:List (List Int))(r:List Int)(N w:Nat)(d:D):Bool:=match aq d with
 |some [a,b]=>if bU a (.str "told")=true then wB A r N w b else bU a (.str "none")&&pB A r w b
 |_=>false
def jw:cA:=fun ds st K=>∃(dA dr d:D) (A:List (List Int)) (r:List Int) (N w:Nat),ds=[dA,dr,d]/\hO st dA A/\items? st dr=some (aB r)/\AN A N w r/\qy d/\K (.bl (Fd A r N w d)) st
def ji:List Str:=["rows","row","told"]
def xf:DS:=(aF (cO (j6 (aR (aC gM (ae (af 2) (ae (dC (.int 2)) ao))))) (bc (dC (.bl false))) bY)
 (aF (cO (aR (au dE (au aS (af 2) (dC (.int 0))) (dC (.str "told")))) (bc (aC lH (ae (af 0) (ae (af 1) (ae (au aS (af 2) (dC (.int 1))) ao))))) bY)
 (bc (ie (au dE (au aS (af 2) (dC (.int 0))) (dC (.str "none"))) (aC oQ (ae (af 0) (ae (af 1) (ae (au aS (af 2) (dC (.int 1))) ao))))))))
theorem Ox:∀ {n:Nat} {d:D},pl n d=true->pl (n+1) d=true:=fun{n}=>by
 induction n with
 |zero=>intro d h;cases d<;>first|rfl|cases h
 |succ n ih=>
  intro d h;cases d with
  |lst xs=>unfold pl at h⊢;exact List.all_eq_true.mpr fun x hx=>ih (List.all_eq_true.mp h x hx)
  |tup xs=>unfold pl at h⊢;exact List.all_eq_true.mpr fun x hx=>ih (List.all_eq_true.mp h x hx)
  |ref m=>cases h
  |ty t=>cases h
  |_=>rfl
theorem fR{n m:Nat}{d:D}(h:pl n d=true)(l:n<=m):pl m d=true:=by
 induction l with
 |refl=>exact h
 |step _ ih=>exact Ox ih
theorem vA:∀ds st K,jw ds st K->ds.length=3/\xf {nx:=fun _ st'=>K .aE st',rt:=K} (aU ji ds) st:=by
 rintro ds st K ⟨dA,dr,d,A,r,N,w,rfl,hdA,hr,P,O,k⟩;refine⟨rfl,d,2,rfl,vX O.p,?_⟩;rw[gN O.p];unfold Fd at k;have hit:items? st d=aq d:=gN O.p;cases e:aq d with
 |none=>rw[e]at k;exact k
 |some xs=>
  rw[e]at k hit;match xs,e,k,hit with
  | [],_,k,_=>exact k
  | [_],_,k,_=>exact k
  |_::_::_::xs,_,k,_=>
   simp only;rw[decide_eq_false (by simp only[List.length_cons];omega)];exact k
  | [a,b],e,k,hit=>
    simp only at k⊢;have pa:=jI O.p e a List.mem_cons_self;have pb:=jI O.p e b (List.mem_cons_of_mem _ List.mem_cons_self);have sb:=O.s2 _ e b (List.mem_cons_of_mem _ List.mem_cons_self);refine aA hit rfl (mK (fR pa (by decide)) rfl ?_);cases e1:bU a (.str "told")with
    |true=>
     rw[e1,if_pos rfl]at k;exact cm (aA hit rfl ⟨dA,dr,b,A,r,N,w,rfl,hdA,hr,P,pb,sb,k⟩)
    |false=>
     rw[e1,if_neg (by decide)]at k;refine ML ?_;refine aA hit rfl (mK (fR pa (by decide)) rfl ?_);cases e2:bU a (.str "none")with
     |true=>
      rw[e2,Bool.true_and]at k;exact cm (aA hit rfl ⟨dA,dr,b,A,r,N,w,rfl,hdA,hr,P,pb,sb,fun ys hy=>O.z a b ys e hy,k⟩)
     |false=>
      rw[e2,Bool.false_and]at k;exact k
structure Hd(st:ai)(n:Nat)(b:Int):Prop where
 ex:∃(cs:List Int) (p q c:Int),st[n]?=some (.lst [.lst (aB cs),.int p,.int q,.int c])/\(∀x∈cs,0<=x)/\cs.length<=63/\0<=p/\0<=q/\0<=c/\c<=b
structure Upd(st:ai)(n:Nat)(st':ai):Prop where
 len:st'.length=st.length
 same:∀m,m≠n->st'[m]?=st[m]?
theorem Upd.refl{st:ai}{n:Nat}:Upd st n st:=⟨rfl,fun _ _=>rfl⟩
theorem Upd.trans{st st1 st2:ai}{n:Nat}(a:Upd st n st1)(b:Upd st1 n st2):Upd st n st2:=⟨b.len.trans a.len,fun m h=>(b.same m h).trans (a.same m h)⟩
theorem Upd.set{st:ai}{n:Nat}{c:Cell}:Upd st n (st.set n c):=⟨List.length_set,fun m h=>List.getElem?_set_ne (Ne.symm h)⟩
theorem Hd.mono{st:ai}{n:Nat}{b b':Int}(h:Hd st n b)(l:b<=b'):Hd st n b':=let⟨cs,p,q,c,e,h1,h2,h3,h4,h5,h6⟩:=h.ex;⟨cs,p,q,c,e,h1,h2,h3,h4,h5,by omega⟩
theorem lI{st:ai}{n:Nat}{xs ys:List D}{i:Int}{j:Nat}{d:D}{K:ai->Prop}(h:st[n]?=some (.lst xs))(e:ko xs.length i=some j)(ey:xs.set j d=ys)(k:∀st',st'[n]?=some (.lst ys)->Upd st n st'->K st'):zM (.ref n) (.int i) d st K:=i5 h e (by
 rw[ey];exact k _ (List.getElem?_set_self (List.getElem?_eq_some_iff.mp h).1) Upd.set)
theorem Kz{k:Nat}{te:DE}{B:DS}{E:mj}{σ:cn}{st:ai}(h:te σ st fun d st1=>B E (σ.set k (some d)) st1):aF (a7 k te) B E σ st:=h
def qM:cA:=fun ds st K=>∃ns:List Int,ds=[.lst (ns.map .int)]/\ns.length<=63/\∀st',Hd st' st.length 0->Ext st st'->K (.ref st.length) st'
def nD:List Str:=["_law_script"]
def CT:DS:=(bc (w6 (ae (dH (dJ (tx (af 0) qD (vz (dC (.int 63))))) [none] (bN 0) cw (bw oK (ae (af 0) ao))) (ae (dC (.int 0)) (ae (dC (.int 0)) (ae (dC (.int 0)) ao))))))
theorem AQ(r:List Int):(aB r).map (fun d=>match d with| .int x=> .int ((x.natAbs:Nat):Int)|_=> .aE)=aB (r.map fun x=>((x.natAbs:Nat):Int)):=by unfold aB;rw[List.map_map,List.map_map];rfl
theorem Bp:∀ds st K,qM ds st K->ds.length=1/\CT {nx:=fun _ st'=>K .aE st',rt:=K} (aU nD ds) st:=by
 rintro ds st K ⟨ns,rfl,hl,k⟩;refine⟨rfl,?_⟩;refine E2 (xr ⟨?_,?_⟩)
 . refine cF ?_;unfold L3.cutD;simp only[List.length_take,List.length_drop,List.length_map];omega
 refine comp_map (g:=fun d=>match d with| .int x=> .int ((x.natAbs:Nat):Int)|_=> .aE) trivial _ (fun d hd K' q=>?_) ?_
 . have:d∈ns.map D.int:=List.mem_of_mem_drop (List.mem_of_mem_take hd);obtain⟨i,_,rfl⟩:=List.mem_map.mp this;exact⟨_,rfl,oE q⟩
 . have ec:∀lo hi,L3.cutD (ns.map D.int) lo hi=aB ((ns.drop (HT.cu (ns.map D.int).length 0 lo)).take (HT.cu (ns.map D.int).length (ns.map D.int).length hi-HT.cu (ns.map D.int).length 0 lo)):=fun lo hi=>by
    unfold L3.cutD aB;rw[List.map_take,List.map_drop]
   rw[ec,AQ];refine⟨Nat.le_of_ble_eq_true rfl,?_⟩;refine k _ ⟨_,0,0,0,by rw[List.getElem?_append_right (Nat.le_refl _),Nat.sub_self];rfl,fun x hx=>?_,?_,Int.le_refl _,Int.le_refl _,Int.le_refl _,Int.le_refl _⟩ Ext.push
   . obtain⟨y,_,rfl⟩:=List.mem_map.mp hx;omega
   . simp only[List.length_map,List.length_take,List.length_drop];omega
def bo:cA:=fun ds st K=>∃(n:Nat) (m b:Int),ds=[.ref n,.int m]/\Hd st n b/\b<=1000000000/\0<m/\m<2^62/\∀r st',0<=r->r<m->Hd st' n (b+1)->Upd st n st'->K (.int r) st'
def nJ:List Str:=["_law_hand_here","_law_many","_law_cell","_law_once","_law_twice","_law_found"]
def Dw:DS:=(aF (et (af 0) (dC (.int 3)) (au d6 (au aS (af 0) (dC (.int 3))) (dC (.int 1))))
 (aF (cO (aR (au dE (au aS (af 0) (dC (.int 2))) (dC (.int 0)))) (aF (a7 2 (dC (.int 0)))
 (aF (cO (aR (au oS (bw dR (ae (au aS (af 0) (dC (.int 0))) ao)) (dC (.int 0)))) (a7 2 (au aS (au aS (af 0) (dC (.int 0))) (au f7 (au aS (af 0) (dC (.int 1))) (bw dR (ae (au aS (af 0) (dC (.int 0))) ao))))) bY)
 (aF (et (af 0) (dC (.int 1)) (au d6 (au aS (af 0) (dC (.int 1))) (dC (.int 1))))
 (aF (cO (nj (aR (au qw (af 2) (au sW (dC (.int 10)) (dC (.int 18))))) (aR (au oS (au aS (af 0) (dC (.int 1))) (bw dR (ae (au aS (af 0) (dC (.int 0))) ao))))) (aF (a7 3 (au d6 (au d6 (au f7 (af 2) (dC (.int 2147483629))) (au cX (dC (.int 7919)) (au aS (af 0) (dC (.int 3))))) (dC (.int 11))))
 (aF (a7 3 (au f7 (au cX (af 3) (au d6 (dC (.int 48271)) (au cX (dC (.int 2)) (au aS (af 0) (dC (.int 3)))))) (dC (.int 2147483647))))
 (aF (a7 4 (au f7 (au d6 (au cX (af 3) (au d6 (au f7 (af 3) (dC (.int 39373))) (au aS (af 0) (dC (.int 3))))) (au cX (dC (.int 31)) (au aS (af 0) (dC (.int 3))))) (dC (.int 1999999973))))
 (bc (au f7 (au nB (af 4) (dC (.int 7))) (af 1)))))) bY)
 (et (af 0) (dC (.int 2)) (af 2)))))) bY)
 (aF (a7 5 (au f7 (au aS (af 0) (dC (.int 2))) (af 1)))
 (aF (et (af 0) (dC (.int 2)) (au nB (au aS (af 0) (dC (.int 2))) (af 1)))
 (bc (af 5))))))
theorem Et{m:Int}(h0:0<m)(h:m<2^62):m.natAbs.log2<9000:=by
 have:m.natAbs.log2<62:=(Nat.log2_lt (by omega)).mpr (by omega);omega
theorem BI:∀ds st K,bo ds st K->ds.length=2/\Dw {nx:=fun _ st'=>K .aE st',rt:=K} (aU nJ ds) st:=by
 rintro ds st K ⟨n,m,b,rfl,⟨cs,p,q,c,e,hcs,hcl,hp,hq,hc,hb⟩,hb2,hm0,hm1,k⟩;refine⟨rfl,?_⟩;refine aA (aD e) (by rfl) (eh (lI (ys:=[.lst (aB cs),.int p,.int q,.int (c+1)]) e (by rfl) (by rfl) fun st1 e1 U1=>?_));have c1: -(2^64)<c+1:=by omega
 have c2:c+1<2^64:=by omega
 dsimp only;refine c_ (fun σ' st'=>∃(v2 v3 v4:Option D) (p q:Int),σ'=[some (.ref n),some (.int m),v2,v3,v4,none]/\st'[n]?=some (.lst [.lst (aB cs),.int p,.int q,.int (c+1)])/\0<=p/\0<=q/\Upd st n st') (fun nx hnx=>?_) ?_
 . refine aA (aD e1) (by rfl) (eq2 (fun h=>cm ?_) fun h=>hnx _ _ ⟨_,_,_,p,q,rfl,e1,hp,hq,U1⟩);refine Kz ?_;dsimp only[dC];refine c_ (fun σ' st'=>∃x:Int,0<=x/\σ'=[some (.ref n),some (.int m),some (.int x),none,none,none]/\st'=st1) (fun nx2 hnx2=>?_) ?_
   . refine aA (aD e1) (by rfl) (cT rfl (rG ?_));rw[List.length_map];by_cases hl:(0:Int)<(cs.length:Int)
     . rw[decide_eq_true hl];refine cm (aA (aD e1) (by rfl) (aA (aD e1) (by rfl) (aA (aD e1) (by rfl) (cT rfl (g6 (by rw[List.length_map];omega) ?_)))));rw[List.length_map];have m1:=Int.fmod_nonneg_of_pos p hl;have m2:=Int.fmod_lt_of_pos p hl;obtain⟨j,ej⟩:=Int.eq_ofNat_of_zero_le m1;rw[ej]at m2⊢;have hj:j<cs.length:=by omega
       exact aA rfl (jn hj) (hnx2 _ _ ⟨_,hcs _ (getD_mem hj),rfl,rfl⟩)
     . rw[decide_eq_false hl];exact hnx2 _ _ ⟨0,Int.le_refl _,rfl,rfl⟩
   . rintro σ' st' ⟨x,hx,rfl,rfl⟩;refine aA (aD e1) (by rfl) (eh (lI (ys:=[.lst (aB cs),.int (p+1),.int q,.int (c+1)]) e1 (by rfl) (by rfl) fun st2 e2 U2=>?_))
     have mixed:(aF (a7 3 (au d6 (au d6 (au f7 (af 2) (dC (.int 2147483629))) (au cX (dC (.int 7919)) (au aS (af 0) (dC (.int 3))))) (dC (.int 11))))
      (aF (a7 3 (au f7 (au cX (af 3) (au d6 (dC (.int 48271)) (au cX (dC (.int 2)) (au aS (af 0) (dC (.int 3)))))) (dC (.int 2147483647))))
      (aF (a7 4 (au f7 (au d6 (au cX (af 3) (au d6 (au f7 (af 3) (dC (.int 39373))) (au aS (af 0) (dC (.int 3))))) (au cX (dC (.int 31)) (au aS (af 0) (dC (.int 3))))) (dC (.int 1999999973))))
      (bc (au f7 (au nB (af 4) (dC (.int 7))) (af 1)))))) {nx:=nx,rt:=K} [some (.ref n),some (.int m),some (.int x),none,none,none] st2:=by
      refine g6 (by decide) (aA (aD e2) (by rfl) (cM (gR (by decide) (by decide)) (eh (eh ?_))));have m1:=Int.fmod_nonneg_of_pos x (show(0:Int)<2147483629 by decide);have m2:=Int.fmod_lt_of_pos x (show(0:Int)<2147483629 by decide);refine aA (aD e2) (by rfl) (cM (gR (by decide) (by decide)) (eh (cM (gR (by omega) (by omega)) (g6 (by decide) ?_))));have u1:=Int.fmod_nonneg_of_pos ((x.fmod 2147483629+7919*(c+1)+11)*(48271+2*(c+1))) (show(0:Int)<2147483647 by decide);have u2:=Int.fmod_lt_of_pos ((x.fmod 2147483629+7919*(c+1)+11)*(48271+2*(c+1))) (show(0:Int)<2147483647 by decide);generalize((x.fmod 2147483629+7919*(c+1)+11)*(48271+2*(c+1))).fmod 2147483647=u at u1 u2⊢;refine g6 (by decide) (aA (aD e2) (by rfl) (eh (cM (gR (by omega) (by omega)) (aA (aD e2) (by rfl) (cM (gR (by decide) (by decide)) (eh (g6 (by decide) ?_)))))));refine tR (by decide) (by decide+kernel) (g6 (by omega) ?_);exact k _ _ (Int.fmod_nonneg_of_pos _ hm0) (Int.fmod_lt_of_pos _ hm0) ⟨cs,_,_,_,e2,hcs,hcl,by omega,hq,by omega,by omega⟩ (U1.trans U2)
     refine vT ⟨by decide,by decide,by decide⟩ (yL ?_);by_cases hs:x<10^(18:Int).toNat
     . rw[decide_eq_true hs];exact mixed
     . rw[decide_eq_false hs];refine aA (aD e2) (by rfl) (aA (aD e2) (by rfl) (cT rfl (rG ?_)));rw[List.length_map];by_cases ho:(cs.length:Int)<p+1
       . rw[decide_eq_true ho];exact mixed
       . rw[decide_eq_false ho];refine lI (ys:=[.lst (aB cs),.int (p+1),.int x,.int (c+1)]) e2 (by rfl) (by rfl) fun st3 e3 U3=>?_;exact hnx _ _ ⟨_,_,_,p+1,x,rfl,e3,by omega,hx,(U1.trans U2).trans U3⟩
 . rintro σ' st' ⟨v2,v3,v4,p,q,rfl,e3,hp,hq,U3⟩;refine aA (aD e3) (by rfl) (g6 (by omega) (aA (aD e3) (by rfl) (tR (by omega) (Et hm0 hm1) (lI (ys:=[.lst (aB cs),.int p,.int (q.fdiv m),.int (c+1)]) e3 (by rfl) (by rfl) fun st4 e4 U4=>?_))));refine k _ _ (Int.fmod_nonneg_of_pos _ hm0) (Int.fmod_lt_of_pos _ hm0) ⟨cs,_,_,_,e4,hcs,hcl,hp,?_,by omega,by omega⟩ (U3.trans U4);rw[Int.fdiv_eq_ediv_of_nonneg _ (by omega)];exact Int.ediv_nonneg hq (by omega)
def k6:cA:=fun ds st K=>∃(n:Nat) (b kd:Int),ds=[.ref n,.int kd]/\Hd st n b/\b<=900000000/\∀r st',r.natAbs<=1000000000000->Hd st' n (b+3)->Upd st n st'->K (.int r) st'
def k_:List Str:=["_law_hand_here","_law_kind","_law_far"]
def Ab:DS:=(aF (cO (aR (au dE (af 1) (dC (.int 7)))) (aF (a7 2 (au d6 (au cX (aC bo (ae (af 0) (ae (au sW (dC (.int 10)) (dC (.int 6))) ao))) (au sW (dC (.int 10)) (dC (.int 6)))) (aC bo (ae (af 0) (ae (au sW (dC (.int 10)) (dC (.int 6))) ao)))))
 (bc (au cX (af 2) (au aS (fV (ae (dC (.int 1)) (ae (nu iM (dC (.int 1))) (ae (dC (.int 0)) ao)))) (aC bo (ae (af 0) (ae (dC (.int 3)) ao))))))) bY)
 (bc (au aS (fV (ae (dC (.int 0)) (ae (dC (.int 1)) (ae (nu iM (dC (.int 1))) (ae (au lb (aC bo (ae (af 0) (ae (dC (.int 19)) ao))) (dC (.int 9))) ao))))) (aC bo (ae (af 0) (ae (dC (.int 4)) ao))))))
theorem GL:(10:Int)^(6:Int).toNat=1000000:=by decide
theorem yt:∀ds st K,k6 ds st K->ds.length=2/\Ab {nx:=fun _ st'=>K .aE st',rt:=K} (aU k_ ds) st:=by
 rintro ds st K ⟨n,b,kd,rfl,B,hb,k⟩;refine⟨rfl,?_⟩;refine eq2 (fun h=>cm ?_) fun h=>?_
 . refine vT ⟨by decide,by decide,by decide⟩ ?_;rw[GL];refine⟨n,1000000,b,rfl,B,by omega,by decide,by decide,fun r1 st1 a1 a2 B1 U1=>?_⟩;refine vT ⟨by decide,by decide,by decide⟩ ?_;rw[GL];refine cM (l7 (by decide) (by decide)) (vT ⟨by decide,by decide,by decide⟩ ?_);rw[GL];refine⟨n,1000000,b+1,rfl,B1,by omega,by decide,by decide,fun r2 st2 c1 c2 B2 U2=>eh ?_⟩;refine gL ⟨Nat.le_of_ble_eq_true rfl,?_⟩;refine⟨n,3,b+1+1,rfl,B2,by omega,by decide,by decide,fun r3 st3 d1 d2 B3 U3=>?_⟩;have U:=(U1.trans U2).trans U3;have B4:=B3.mono (b':=b+3) (by omega);have:r3=0\/r3=1\/r3=2:=by omega
   rcases this with rfl|rfl|rfl
   . exact aA rfl rfl (cM (l7 (by decide) (by decide)) (k _ _ (by omega) B4 U))
   . exact aA rfl rfl (cM (l7 (by decide) (by decide)) (k _ _ (by omega) B4 U))
   . exact aA rfl rfl (cM (l7 (by decide) (by decide)) (k _ _ (by omega) B4 U))
 . refine gL ⟨n,19,b,rfl,B,by omega,by decide,by decide,fun r1 st1 a1 a2 B1 U1=>jF ⟨Nat.le_of_ble_eq_true rfl,?_⟩⟩;refine⟨n,4,b+1,rfl,B1,by omega,by decide,by decide,fun r2 st2 c1 c2 B2 U2=>?_⟩;have U:=U1.trans U2;have B4:=B2.mono (b':=b+3) (by omega);have:r2=0\/r2=1\/r2=2\/r2=3:=by omega
   rcases this with rfl|rfl|rfl|rfl
   . exact aA rfl rfl (k _ _ (by decide) B4 U)
   . exact aA rfl rfl (k _ _ (by decide) B4 U)
   . exact aA rfl rfl (k _ _ (by decide) B4 U)
   . exact aA rfl rfl (k _ _ (by omega) B4 U)
structure XU(st:ai)(n:Nat)(st':ai):Prop where
 len:st.length<=st'.length
 same:∀m,m<st.length->m≠n->st'[m]?=st[m]?
theorem XU.trans{st st1 st2:ai}{n:Nat}(a:XU st n st1)(b:XU st1 n st2):XU st n st2:=⟨Nat.le_trans a.len b.len,fun m h g=>(b.same m (Nat.lt_of_lt_of_le h a.len) g).trans (a.same m h g)⟩
theorem XU.upd{st st1:ai}{n:Nat}(a:Upd st n st1):XU st n st1:=⟨by rw[a.len];exact Nat.le_refl _,fun m _ g=>a.same m g⟩
theorem XU.ext{st st1:ai}{n:Nat}(a:Ext st st1):XU st n st1:=⟨a.len,fun m h _=>a.same m h⟩
theorem XU.set{st st1:ai}{n k:Nat}{c:Cell}(a:XU st n st1)(h:st.length<=k):XU st n (st1.set k c):=⟨by rw[List.length_set];exact a.len,fun m hm g=>by rw[List.getElem?_set_ne (by omega)];exact a.same m hm g⟩
theorem Hd.lt{st:ai}{n:Nat}{b:Int}(B:Hd st n b):n<st.length:=by
 obtain⟨_,_,_,_,e,_⟩:=B.ex;exact(List.getElem?_eq_some_iff.mp e).1
theorem Hd.cell{st st':ai}{n:Nat}{b:Int}(B:Hd st n b)(e:st'[n]?=st[n]?):Hd st' n b:=by
 obtain⟨cs,p,q,c,e1,r⟩:=B.ex;exact⟨cs,p,q,c,e.trans e1,r⟩
def qY:cA:=fun ds st K=>∃(n:Nat) (b:Int) (many wide:Nat) (kd:Int),ds=[.ref n,.int many,.int wide,.int kd]/\Hd st n b/\b<=600000000/\many<=8/\wide<=8/\∀A st',Mx.dY many wide A->(∀r∈A,∀x∈r,x.natAbs<=1000000000000*256)->Hd st' n (b+300)->XU st n st'->K (eC A) st'
def nL:List Str:=["_law_hand_here","_law_many","_law_wide","_law_kind","_law_rows_here","_law_k","_law_row_here","_law_way"]
def Dg:DS:=(aF (a7 4 (w6 ao))
 (aF (iN (fO (ae (af 1) ao)) (bN 5) (aF (a7 6 (dH (fO (ae (af 2) ao)) [none,some 0,some 3] (bN 0) cw (aC k6 (ae (af 1) (ae (af 2) ao)))))
 (aF (a7 7 (aC bo (ae (af 0) (ae (dC (.int 8)) ao))))
 (aF (cO (aR (au dE (af 7) (dC (.int 0)))) (a7 6 (au cX (fV (ae (dC (.int 0)) ao)) (af 2))) bY)
 (aF (cO (jZ (aR (au dE (af 7) (dC (.int 1)))) (aR (au oS (af 5) (dC (.int 0))))) (a7 6 (bw jr (ae (au aS (af 4) (au lb (af 5) (dC (.int 1)))) ao))) bY)
 (aF (cO (jZ (aR (au dE (af 7) (dC (.int 2)))) (aR (au oS (af 5) (dC (.int 1))))) (a7 6 (dH (qZ (ae (au aS (af 4) (au lb (af 5) (dC (.int 1)))) (ae (au aS (af 4) (au lb (af 5) (dC (.int 2)))) ao))) [none,none] (gc 0 1) cw (au d6 (af 0) (af 1)))) bY)
 (aF (cO (jZ (aR (au dE (af 3) (dC (.int 7)))) (aR (au qw (af 7) (dC (.int 3))))) (a7 6 (dH (dJ (af 6)) [none] (bN 0) cw (au f7 (af 0) (dC (.int 1000))))) bY)
 (jy (lY (af 4) (bw d9 (ae (af 6) ao)))))))))))
 (bc (bw d9 (ae (af 4) ao)))))
theorem AI{n w:Nat}{b kd:Int}{st:ai}{K:List D->ai->Prop}(B:Hd st n b)(hb:b<=700000000)(hw:w<=8)
 (k:∀r st',r.length=w->(∀x∈r,x.natAbs<=1000000000000)->Hd st' n (b+24)->Upd st n st'->K (aB r) st'):
 dk (bN 0) cw (aC k6 (ae (af 1) (ae (af 2) ao))) (fun _=>True) [none,some (.ref n),some (.int kd)] (eO 0 w) [] st K:=by
 refine i0 (fun rest acc st'=>∃r:List Int,acc=aB r/\r.length+rest.length=w/\(∀x∈r,x.natAbs<=1000000000000)/\Hd st' n (b+3*r.length)/\Upd st n st') ?_ ?_ _ _ _ ⟨[],rfl,by rw[ik];simp,by simp,B.mono (by simp),Upd.refl⟩
 . rintro acc st' ⟨r,rfl,hl,hr,B',U⟩;have hl:r.length=w:=by simpa using hl
   exact⟨trivial,k r st' hl hr (B'.mono (by omega)) U⟩
 . rintro x rest acc st' ⟨r,rfl,hl,hr,B',U⟩ next
   have hl2:r.length<w:=by simp at hl;omega
   refine⟨trivial,_,rfl,?_⟩;refine⟨n,_,kd,rfl,B',by omega,fun y st2 a1 B2 U2=>?_⟩;show dk _ _ _ _ _ _ _ _ _;rw[ints_app];refine next _ _ ⟨r++[y],rfl,by simp at hl⊢;omega,fun z hz=>?_,B2.mono (by simp;omega),U.trans U2⟩
   rcases List.mem_append.mp hz with h|h
   . exact hr z h
   . have:z=y:=by simpa using h
     subst this;exact a1
theorem vm{A:List (List Int)}{k:Nat}(h:k<A.length):dU (A.map bW) (k:Int)=some (bW (A.getD k [])):=by
 refine jm ?_;rw[List.getElem?_map,List.getElem?_eq_getElem h,Mx.bQ h];rfl
theorem zc:∀(r s:List Int),(eQ (aB r) (aB s)).map (fun d=>match d with| .tup [.int a,.int b]=> .int (a+b)|_=> .aE)=aB (List.zipWith (· + ·) r s)
 | [],_=>rfl
 |_::_,[]=>rfl
 |a::r,b::s=>by
  have:=zc r s;unfold eQ at this⊢;simp only[aB,List.map_cons,List.zip_cons_cons,List.zipWith_cons_cons]at this⊢;rw[this]
theorem Gn(r:List Int):(aB r).map (fun d=>match d with| .int x=> .int (x.fmod 1000)|_=> .aE)=aB (r.map fun x=>x.fmod 1000):=by unfold aB;rw[List.map_map,List.map_map];rfl
theorem N4{M:Nat}{r s:List Int}(hr:∀x∈r,x.natAbs<=M)(hs:∀x∈s,x.natAbs<=M):∀x∈List.zipWith (· + ·) r s,x.natAbs<=2*M:=fun x hx=>by
 obtain⟨k,hk,e⟩:=List.mem_iff_getElem.mp hx;rw[List.getElem_zipWith]at e;have h1:=hr _ (List.getElem_mem (by simp at hk;omega:k<r.length));have h2:=hs _ (List.getElem_mem (by simp at hk;omega:k<s.length));omega
theorem BC:∀ds st K,qY ds st K->ds.length=4/\Dg {nx:=fun _ st'=>K .aE st',rt:=K} (aU nL ds) st:=by
 rintro ds st K ⟨n,b,many,wide,kd,rfl,B,hb,hm,hw,k⟩;refine⟨rfl,?_⟩;have hn:=B.lt;refine⟨Nat.le_of_ble_eq_true rfl,?_⟩;refine iB ⟨by omega,by omega⟩ ?_;rw[Int.toNat_natCast];refine ke many (fun j σ st'=>∃(A:List (List Int)) (v5 v6 v7:Option D),σ=[some (.ref n),some (.int many),some (.int wide),some (.int kd),some (.ref st.length),v5,v6,v7]/\st'[st.length]?=some (.lst (A.map bW))/\A.length=j/\(∀r∈A,r.length=wide)/\(∀r∈A,∀x∈r,x.natAbs<=1000000000000*2^j)/\Hd st' n (b+25*j)/\XU st n st') ?_ ?_ ⟨[],none,none,none,rfl,by simp,rfl,by simp,by simp,(B.cell (List.getElem?_append_left hn)).mono (by simp),XU.ext Ext.push⟩
 . rintro σ st' ⟨A,v5,v6,v7,rfl,e,hl,hA,hb2,B2,X⟩;refine dB (aD e) (k A st' ⟨hl,hA⟩ (fun r hr x hx=>?_) (B2.mono (by omega)) X);have p:2^many<=2^8:=Nat.pow_le_pow_right (by decide) hm;have:=hb2 r hr x hx;exact Nat.le_trans this (Nat.mul_le_mul_left _ p)
 . rintro j σ st' rest hj ⟨A,v5,v6,v7,rfl,e,hl,hA,hb2,B2,X⟩ next
   refine⟨_,rfl,?_⟩;refine iB ⟨by omega,by omega⟩ ⟨cF (by rw[ik];omega),?_⟩;rw[Int.toNat_natCast];refine AI (n:=n) (kd:=kd) B2 (by omega) hw fun r0 st1 hr0 hr1 B3 U3=>?_;refine⟨n,8,_,rfl,B3,by omega,by decide,by decide,fun way st2 w0 w1 B4 U4=>?_⟩;have hlen:=(List.getElem?_eq_some_iff.mp e).1;have e2:st2[st.length]?=some (.lst (A.map bW)):=(U4.same _ (by omega)).trans ((U3.same _ (by omega)).trans e);have X2:XU st n st2:=X.trans ((XU.upd U3).trans (XU.upd U4));have p1:1000000000000<=1000000000000*2^(j+1):=Nat.le_mul_of_pos_right _ (Nat.pow_pos (by decide));have p2:1000000000000*2^j*2=1000000000000*2^(j+1):=by rw[Nat.pow_succ,Nat.mul_assoc]
   let J:cn->ai->Prop:=fun σ' st'=>st'=st2/\∃r:List Int,σ'=[some (.ref n),some (.int many),some (.int wide),some (.int kd),some (.ref st.length),some (.int (j:Int)),some (bD r),some (.int way)]/\r.length=wide/\∀x∈r,x.natAbs<=1000000000000*2^(j+1)
   have J0:J [some (.ref n),some (.int many),some (.int wide),some (.int kd),some (.ref st.length),some (.int (j:Int)),some (bD r0),some (.int way)] st2:=⟨rfl,r0,rfl,hr0,fun x hx=>Nat.le_trans (hr1 x hx) p1⟩
   dsimp only;refine c_ J (fun nx hnx=>?_) ?_
   . refine eq2 (fun h=>cm ?_) fun h=>hnx _ _ J0;refine Pm (Nat.le_of_ble_eq_true rfl) (Ck ⟨by omega,by omega,cF (by simp;omega)⟩ ?_);rw[Int.toNat_natCast,uR];exact hnx _ _ ⟨rfl,_,rfl,by simp,fun x hx=>by rw[(List.mem_replicate.mp hx).2];exact Nat.zero_le _⟩
   rintro σ' st3 ⟨rfl,r,rfl,hr,hrb⟩;refine c_ J (fun nx hnx=>?_) ?_
   . refine eq2 (fun h=>cm (rG ?_)) fun h=>hnx _ _ ⟨rfl,r,rfl,hr,hrb⟩;by_cases h0:(0:Int)<(j:Int)
     . rw[decide_eq_true h0];have ej:(j:Int)-1=((j-1:Nat):Int):=by omega
       refine cm (jF ?_);rw[ej];refine aA (aD e2) (vm (by omega)) (jj rfl ?_);have hmem:A.getD (j-1) []∈A:=by rw[Mx.bQ (by omega)];exact List.getElem_mem _
       exact hnx _ _ ⟨rfl,_,rfl,hA _ hmem,fun x hx=>Nat.le_trans (hb2 _ hmem x hx) (by omega)⟩
     . rw[decide_eq_false h0];exact hnx _ _ ⟨rfl,r,rfl,hr,hrb⟩
   clear hr hrb;rintro σ' st3 ⟨rfl,r,rfl,hr,hrb⟩;refine c_ J (fun nx hnx=>?_) ?_
   . refine eq2 (fun h=>cm (rG ?_)) fun h=>hnx _ _ ⟨rfl,r,rfl,hr,hrb⟩;by_cases h0:(1:Int)<(j:Int)
     . rw[decide_eq_true h0];have ej:(j:Int)-1=((j-1:Nat):Int):=by omega
       have ej2:(j:Int)-2=((j-2:Nat):Int):=by omega
       refine cm (jF ?_);rw[ej];refine aA (aD e2) (vm (by omega)) (jF ?_);rw[ej2];refine aA (aD e2) (vm (by omega)) ?_;have hm1:A.getD (j-1) []∈A:=by rw[Mx.bQ (by omega)];exact List.getElem_mem _
       have hm2:A.getD (j-2) []∈A:=by rw[Mx.bQ (by omega)];exact List.getElem_mem _
       have l1:=hA _ hm1;have l2:=hA _ hm2;refine om rfl rfl fun ok aK=>⟨cF (by rw[oW,List.length_map,List.length_map];omega),?_⟩
       refine comp_map (g:=fun d=>match d with| .tup [.int a,.int b]=> .int (a+b)|_=> .aE) (aK _ rfl rfl) _ (fun d hd K' q=>?_) ?_
       . obtain⟨a,c,_,_,rfl⟩:=vf hd;exact⟨_,rfl,eh q⟩
       rw[zc];refine hnx _ _ ⟨rfl,_,rfl,by rw[List.length_zipWith];omega,fun x hx=>?_⟩;have:=N4 (hb2 _ hm1) (hb2 _ hm2) x hx;omega
     . rw[decide_eq_false h0];exact hnx _ _ ⟨rfl,r,rfl,hr,hrb⟩
   clear hr hrb;rintro σ' st3 ⟨rfl,r,rfl,hr,hrb⟩;refine c_ J (fun nx hnx=>?_) ?_
   . refine eq2 (fun h=>cm (yL ?_)) fun h=>hnx _ _ ⟨rfl,r,rfl,hr,hrb⟩;by_cases h0:way<3
     . rw[decide_eq_true h0];refine cm (xr ⟨cF (by rw[List.length_map];omega),?_⟩);refine comp_map (g:=fun d=>match d with| .int x=> .int (x.fmod 1000)|_=> .aE) trivial _ (fun d hd K' q=>?_) ?_
       . obtain⟨x,_,rfl⟩:=List.mem_map.mp hd;exact⟨_,rfl,g6 (by decide) q⟩
       rw[Gn];refine hnx _ _ ⟨rfl,_,rfl,by rw[List.length_map];exact hr,fun x hx=>?_⟩;obtain⟨y,_,rfl⟩:=List.mem_map.mp hx;have a1:=Int.fmod_nonneg_of_pos y (show(0:Int)<1000 by decide);have a2:=Int.fmod_lt_of_pos y (show(0:Int)<1000 by decide);omega
     . rw[decide_eq_false h0];exact hnx _ _ ⟨rfl,r,rfl,hr,hrb⟩
   clear hr hrb;rintro σ' st3 ⟨rfl,r,rfl,hr,hrb⟩;refine AZ (by rfl) e2 (dB rfl (xQ e2 (by rw[sizeLine_eq,List.length_map];omega) ?_));have hl2:=(List.getElem?_eq_some_iff.mp e2).1;refine next _ _ ⟨A++[r],_,_,_,rfl,by rw[List.getElem?_set_self hl2,GH],by simp[hl],fun q hq=>?_,fun q hq x hx=>?_,(B4.cell (List.getElem?_set_ne (by omega))).mono (by omega),X2.set (Nat.le_refl _)⟩
   . rcases List.mem_append.mp hq with h|h
     . exact hA q h
     . have:q=r:=by simpa using h
       subst this;exact hr
   . rcases List.mem_append.mp hq with h|h
     . exact Nat.le_trans (hb2 q h x hx) (by omega)
     . have:q=r:=by simpa using h
       subst this;exact hrb x hx
def pV:cA:=fun ds st K=>∃(n:Nat) (b:Int),ds=[.ref n]/\Hd st n b/\b<=900000000/\∀(x y:Nat) st',1<=x->x<=8->1<=y->y<=8->Hd st' n (b+3)->Upd st n st'->K (.tup [.int x,.int y]) st'
def mx:List Str:=["_law_hand_here"]
def BG:DS:=(aF (cO (aR (au dE (aC bo (ae (af 0) (ae (dC (.int 8)) ao))) (dC (.int 0)))) (bc (c5 (ae (au d6 (dC (.int 5)) (aC bo (ae (af 0) (ae (dC (.int 4)) ao)))) (ae (au d6 (dC (.int 5)) (aC bo (ae (af 0) (ae (dC (.int 4)) ao)))) ao)))) bY)
 (bc (c5 (ae (au d6 (dC (.int 1)) (aC bo (ae (af 0) (ae (dC (.int 4)) ao)))) (ae (au d6 (dC (.int 1)) (aC bo (ae (af 0) (ae (dC (.int 4)) ao)))) ao)))))
theorem Ao:∀ds st K,pV ds st K->ds.length=1/\BG {nx:=fun _ st'=>K .aE st',rt:=K} (aU mx ds) st:=by
 rintro ds st K ⟨n,b,rfl,B,hb,k⟩;refine⟨rfl,?_⟩
 have fin:∀(x y:Int) st',1<=x->x<=8->1<=y->y<=8->Hd st' n (b+3)->Upd st n st'->K (.tup [.int x,.int y]) st':=fun x y st' h1 h2 h3 h4 H U=>by
  obtain⟨x,rfl⟩:=Int.eq_ofNat_of_zero_le (show 0<=x by omega);obtain⟨y,rfl⟩:=Int.eq_ofNat_of_zero_le (show 0<=y by omega);exact k x y st' (by omega) (by omega) (by omega) (by omega) H U
 refine⟨n,8,b,rfl,B,by omega,by decide,by decide,fun r0 st0 z1 z2 B0 U0=>?_⟩;refine eq2 (fun h=>cm ?_) fun h=>?_
 . refine⟨n,4,b+1,rfl,B0,by omega,by decide,by decide,fun r1 st1 a1 a2 B1 U1=>eh ?_⟩;refine⟨n,4,b+1+1,rfl,B1,by omega,by decide,by decide,fun r2 st2 c1 c2 B2 U2=>eh ⟨Nat.le_of_ble_eq_true rfl,?_⟩⟩;exact fin _ _ _ (by omega) (by omega) (by omega) (by omega) (B2.mono (by omega)) ((U0.trans U1).trans U2)
 . refine⟨n,4,b+1,rfl,B0,by omega,by decide,by decide,fun r1 st1 a1 a2 B1 U1=>eh ?_⟩;refine⟨n,4,b+1+1,rfl,B1,by omega,by decide,by decide,fun r2 st2 c1 c2 B2 U2=>eh ⟨Nat.le_of_ble_eq_true rfl,?_⟩⟩;exact fin _ _ _ (by omega) (by omega) (by omega) (by omega) (B2.mono (by omega)) ((U0.trans U1).trans U2)
def lx:cA:=fun ds st K=>∃(n:Nat) (b kinds:Int),ds=[.ref n,.int kinds]/\Hd st n b/\b<=500000000/\0<kinds/\kinds<2^62/\∀(m w:Nat) A st',1<=m->m<=8->1<=w->w<=8->Mx.dY m w A->(∀r∈A,∀x∈r,x.natAbs<=1000000000000*256)->Hd st' n (b+310)->XU st n st'->K (eC A) st'
def iS:List Str:=["_law_hand_here","_law_kinds","_law_many","_law_wide"]
def wq:DS:=(aF (w4 (gc 2 3) (aC pV (ae (af 0) ao)))
 (bc (aC qY (ae (af 0) (ae (af 2) (ae (af 3) (ae (aC bo (ae (af 0) (ae (af 1) ao))) ao)))))))
theorem vb:∀ds st K,lx ds st K->ds.length=2/\wq {nx:=fun _ st'=>K .aE st',rt:=K} (aU iS ds) st:=by
 rintro ds st K ⟨n,b,kinds,rfl,B,hb,k0,k1,k⟩;refine⟨rfl,?_⟩;refine⟨n,b,rfl,B,by omega,fun m w st1 m1 m8 w1 w8 B1 U1=>?_⟩;refine⟨_,rfl,?_⟩;refine⟨n,kinds,_,rfl,B1,by omega,k0,k1,fun kd st2 a1 a2 B2 U2=>?_⟩;refine⟨n,_,m,w,kd,rfl,B2,by omega,m8,w8,fun A st3 hA bA B3 X3=>?_⟩;exact k m w A st3 m1 m8 w1 w8 hA bA (B3.mono (by omega)) ((XU.upd (U1.trans U2)).trans X3)
def kR:cA:=fun ds st K=>∃(t:Int) (b:Nat),ds=[.int t,.int b]/\0<b/\K (.tup [.int (t.fdiv ((Nat.gcd t.natAbs b:Nat):Int)),.int ((b:Int).fdiv ((Nat.gcd t.natAbs b:Nat):Int))]) st
def kG:List Str:=["_law_top","_law_bottom","_law_one","_law_other"]
def AM:DS:=(aF (CN 2 3 (ae (bw oK (ae (af 0) ao)) (ae (af 1) ao)))
 (aF (sX (aR (au oS (af 3) (dC (.int 0)))) (CN 2 3 (ae (af 3) (ae (au f7 (af 2) (af 3)) ao))))
 (bc (c5 (ae (au jN (af 0) (af 2)) (ae (au jN (af 1) (af 2)) ao))))))
theorem yA:∀ds st K,kR ds st K->ds.length=2/\AM {nx:=fun _ st'=>K .aE st',rt:=K} (aU kG ds) st:=by
 rintro ds st K ⟨t,b,rfl,hb,k⟩;refine⟨rfl,?_⟩;refine oE ?_;refine⟨fun m σ st'=>∃(g s:Nat),σ=[some (.int t),some (.int b),some (.int g),some (.int s)]/\st'=st/\Nat.gcd g s=Nat.gcd t.natAbs b/\s=m,⟨b,t.natAbs,b,rfl,rfl,rfl,rfl⟩,?_⟩;rintro m σ st' ⟨g,s,rfl,rfl,hg,rfl⟩;refine PC (fun hs=>cm ?_) fun hs=>?_
 . refine g6 (by omega) ⟨g%s,Nat.mod_lt _ (by omega),s,g%s,?_,rfl,?_,rfl⟩
   . rw[zm];rfl
   . rw[Nat.gcd_comm,<-Nat.gcd_rec,Nat.gcd_comm];exact hg
 . have hs0:s=0:=by omega
   subst hs0;rw[Nat.gcd_zero_right]at hg;subst hg
   have hg0:Nat.gcd t.natAbs b≠0:=fun z=>by
    have:=Nat.eq_zero_of_gcd_eq_zero_right z;omega
   exact iW (by omega) (iW (by omega) ⟨Nat.le_of_ble_eq_true rfl,k⟩)
def ni:cA:=fun ds st K=>∃d,ds=[d]/\pl 8 d=true/\(∀xs,aq d=some xs->xs.length<=1000)/\K (.bl (iu d)) st
def jW:List Str:=["_law_found"]
def yw:DS:=(aF (cO (nj (j6 (aR (bw fJ (ae (af 0) (ae (c5 (ae (dC (.ty "tuple")) (ae (dC (.ty "list")) ao))) ao))))) (aR (au kO (bw dR (ae (af 0) ao)) (dC (.int 2))))) (bc (dC (.bl false))) bY)
 (aF (cO (j6 (aR (bw oU (ae (dH (dJ (af 0)) [none] (bN 0) cw (ie (bw fJ (ae (af 0) (ae (dC (.ty "int")) ao))) (rh (aR (bw fJ (ae (af 0) (ae (dC (.ty "bool")) ao))))))) ao)))) (bc (dC (.bl false))) bY)
 (bc (ie (au oS (au aS (af 0) (dC (.int 1))) (dC (.int 0))) (au dE (aC kR (ae (au aS (af 0) (dC (.int 0))) (ae (au aS (af 0) (dC (.int 1))) ao))) (c5 (ae (au aS (af 0) (dC (.int 0))) (ae (au aS (af 0) (dC (.int 1))) ao))))))))
theorem tj{n:Nat}{st:ai}{d:D}{K:DK}(h:pl n d=true)(k:K (.bl (aq d).isSome) st):fJ [d,.tup [.ty "tuple",.ty "list"]] st K:=by
 cases d with
 |ref m=>cases n<;>cases h
 |ty t=>cases n<;>cases h
 |_=>exact BJ (cl:=["tuple","list"]) rfl rfl (by decide) k
theorem Ld{n:Nat}{st:ai}{y:D}{K:DK}{σ:cn}(h:pl n y=true)(k:K (.bl (isInt y)) st):ie (bw fJ (ae (af 0) (ae (dC (.ty "int")) ao))) (rh (aR (bw fJ (ae (af 0) (ae (dC (.ty "bool")) ao))))) (some y::σ) st K:=by
 cases y with
 |ref m=>cases n<;>cases h
 |ty t=>cases n<;>cases h
 |int i=>exact iX rfl (by decide) (cm (iX rfl (by decide) k))
 |bl b=>exact iX rfl (by decide) (cm (iX rfl (by decide) k))
 |_=>exact iX rfl (by decide) k
theorem Cs{n:Nat}{K:DK}{st:ai}{ys:List D}(hl:ys.length<=1000)(hp:∀y∈ys,pl n y=true){ok:ai->Prop}(aK:ok st)(k:K (.bl (ys.all isInt)) st):ys.length<=sizeLine/\dk (bN 0) cw (ie (bw fJ (ae (af 0) (ae (dC (.ty "int")) ao))) (rh (aR (bw fJ (ae (af 0) (ae (dC (.ty "bool")) ao)))))) ok [none] ys [] st fun zs st'=>oU [.lst zs] st' K:=by
 refine⟨cF hl,jG (g:=fun x=> .bl (isInt x)) aK ys [] (fun y hy K' q=>⟨_,rfl,Ld (hp y hy) q⟩) ?_⟩;refine sZ (mN ys) ?_;simpa using k
theorem JP{p q:Int}(hq:0<q):bU (.tup [.int (p.fdiv ((Nat.gcd p.natAbs q.natAbs:Nat):Int)),.int (q.fdiv ((Nat.gcd p.natAbs q.natAbs:Nat):Int))]) (.tup [.int p,.int q])=decide (Nat.gcd p.natAbs q.natAbs=1):=by
 have e0:bU (.tup [.int (p.fdiv ((Nat.gcd p.natAbs q.natAbs:Nat):Int)),.int (q.fdiv ((Nat.gcd p.natAbs q.natAbs:Nat):Int))]) (.tup [.int p,.int q])=decide ([p.fdiv ((Nat.gcd p.natAbs q.natAbs:Nat):Int),q.fdiv ((Nat.gcd p.natAbs q.natAbs:Nat):Int)]=[p,q]):=by
  unfold bU;exact o3 [_,_] [p,q]
 rw[e0];refine decide_eq_decide.mpr ⟨fun h=>?_,fun h=>by rw[h];show [p.fdiv 1,q.fdiv 1]=_;rw[Int.fdiv_one,Int.fdiv_one]⟩;have h2:q.fdiv ((Nat.gcd p.natAbs q.natAbs:Nat):Int)=q:=by injection h with _ h;injection h
 have hg:0<Nat.gcd p.natAbs q.natAbs:=Nat.gcd_pos_of_pos_right _ (by omega);obtain⟨c,hc⟩:=yr p q;generalize Nat.gcd p.natAbs q.natAbs=g at*;rw[hc,Int.mul_fdiv_cancel_left _ (by omega)]at h2;have c0:c≠0:=fun z=>by rw[z,Int.mul_zero]at hc;omega
 have:(g:Int)=1:=by
  have h3:(g:Int)*c=1*c:=by rw[<-h2,Int.one_mul]
  exact Int.eq_of_mul_eq_mul_right c0 h3
 omega
theorem Ll{d:D}{xs:List D}(e:aq d=some xs)(h:xs.length≠2):iu d=false:=by
 unfold iu;split
 . rename_i a b z;rw[e]at z;cases z;exact absurd rfl h
 . rfl
theorem OL{d a b:D}(e:aq d=some [a,b])(h: [a,b].all isInt=false):iu d=false:=by
 unfold iu;split
 . rename_i p q z;rw[e]at z;cases z;cases h
 . rfl
theorem K7{d:D}{p q:Int}(e:aq d=some [.int p,.int q]):iu d=(decide (0<q)&&decide (Nat.gcd p.natAbs q.natAbs=1)):=by unfold iu;rw[e]
theorem wO:∀ds st K,ni ds st K->ds.length=1/\yw {nx:=fun _ st'=>K .aE st',rt:=K} (aU jW ds) st:=by
 rintro ds st K ⟨d,rfl,hp,hl,k⟩;refine⟨rfl,⟨Nat.le_of_ble_eq_true rfl,tj hp ?_⟩⟩;have hit:items? st d=aq d:=gN hp;cases e:aq d with
 |none=>
  have:iu d=false:=by unfold iu;rw[e]
  rw[this]at k;exact k
 |some xs=>
  rw[e]at hit;refine cT hit ?_;by_cases h2:xs.length=2
  . match xs,h2,e,hit with
    | [a,b],_,e,hit=>
      refine Ew rfl ?_;have pa:=jI hp e;refine jQ hit fun ok aK=>Cs (Nat.le_of_ble_eq_true rfl) pa aK ?_;cases ha: [a,b].all isInt with
      |false=>rw[OL e ha]at k;exact k
      |true=>
       have hh:=t7 ha;injection hh with h1 h2;injection h2 with h2 _;rw[h1,h2]at e hit;generalize pA a=p at e hit;generalize pA b=q at e hit;rw[K7 e]at k;refine aA hit rfl ?_;by_cases hq:0<q
       . rw[decide_eq_true hq,Bool.true_and]at k;refine Pq hq (cm (aA hit rfl (aA hit rfl ?_)));obtain⟨n,rfl⟩:=Int.eq_ofNat_of_zero_le (Int.le_of_lt hq);refine⟨p,n,rfl,by omega,?_⟩;refine aA hit rfl (aA hit rfl ⟨Nat.le_of_ble_eq_true rfl,mK rfl rfl ?_⟩);have e3:=JP (p:=p) hq;rw[Int.natAbs_natCast]at e3 k;rw[e3];exact k
       . rw[decide_eq_false hq,Bool.false_and]at k;exact PF (by omega) k
  . rw[Ll e h2]at k;exact neT (by omega) k
def mm:cA:=fun ds st K=>∃(dp dr:D) (xs:List D) (ps:List Rat) (r:List Int) (t:Nat),ds=[dp,dr]/\items? st dp=some xs/\uv st xs ps/\items? st dr=some (aB r)/\Mx.Pb ps t/\(∀x∈r,x.natAbs<=2^64)/\ps.length<=8/\t<=20000000/\K (.tup [.int (Mx.wo 0 1 ps r).1,.int (Mx.wo 0 1 ps r).2]) st
def mw:List Str:=["_law_parts","_law_row_here","_law_top","_law_bottom","_law_one","_law_number_here"]
def BF:DS:=(aF (a7 2 (dC (.int 0)))
 (aF (a7 3 (dC (.int 1)))
 (aF (iN (qZ (ae (af 0) (ae (af 1) ao))) (gc 4 5) (aF (a7 2 (au d6 (au cX (af 2) (au aS (af 4) (dC (.int 1)))) (au cX (au cX (au aS (af 4) (dC (.int 0))) (af 5)) (af 3))))
 (a7 3 (au cX (af 3) (au aS (af 4) (dC (.int 1)))))))
 (bc (c5 (ae (af 2) (ae (af 3) ao)))))))
theorem zO:∀ds st K,mm ds st K->ds.length=2/\BF {nx:=fun _ st'=>K .aE st',rt:=K} (aU mw ds) st:=by
 rintro ds st K ⟨dp,dr,xs,ps,r,t,rfl,hp,hx,hr,hP,hsm,hl8,ht,k⟩;refine⟨rfl,?_⟩;refine om hp hr fun ok aK=>?_;refine gK (fun rest σ st'=>st'=st/\∃(xs':List D) (ps':List Rat) (r':List Int) (T B:Int) (j τ C:Nat) (v4 v5:Option D),rest=eQ xs' (aB r')/\uv st xs' ps'/\σ=[some dp,some dr,some (.int T),some (.int B),v4,v5]/\T.natAbs<=2^(τ+66*j)/\B.natAbs<=2^τ/\Mx.Pb ps' C/\(∀x∈r',x∈r)/\Mx.wo T B ps' r'=Mx.wo 0 1 ps r/\τ+C<=20000000/\j+ps'.length<=8) ?_ ?_ _ _ _ ⟨rfl,xs,ps,r,0,1,0,0,t,none,none,rfl,hx,rfl,by decide,by decide,hP,fun _ h=>h,rfl,by omega,by omega⟩
 . rintro σ st' ⟨rfl,xs',ps',r',T,B,j,τ,C,v4,v5,he,hx',rfl,hT,hB,hC,_,hd,hle,hj⟩;refine⟨aK _ hp hr,⟨Nat.le_of_ble_eq_true rfl,?_⟩⟩
   have:Mx.wo T B ps' r'=(T,B):=by
    match xs',ps',r',hx',he with
    | [],[],_,_,_=>unfold Mx.wo;rfl
    |_::_,_::_,[],_,_=>unfold Mx.wo;rfl
    |_::_,_::_,_::_,_,he=>cases he
   rw[<-hd,this]at k;exact k
 . rintro x rest σ st' ⟨rfl,xs',ps',r',T,B,j,τ,C,v4,v5,he,hx',rfl,hT,hB,hC,hm,hd,hle,hj⟩ next
   match xs',ps',r',he,hx',hC,hm,hd,hj with
   | [],[],_,he,_,_,_,_,_=>cases he
   |_::_,_::_,[],he,_,_,_,_,_=>cases he
   |d::xs',p::ps',n::r',he,hx',⟨a,C',ha,hC',hbC⟩,hm,hd,hj=>
    have hz:eQ (d::xs') (aB (n::r'))= .tup [d,.int n]::eQ xs' (aB r'):=rfl;rw[hz,List.cons.injEq]at he;obtain⟨rfl,rfl⟩:=he;have hn:=hsm n (hm n List.mem_cons_self);rw[List.length_cons]at hj;have h1:=Mx.eL hT ha.nq;have h2:=Mx.eL ha.num hn;have h3:=Mx.eL h2 hB;have h4:=Mx.eL hB ha.nq;refine⟨aK _ hp hr,_,rfl,?_⟩;refine aA hx'.1 rfl (cM (du hT ha.nq (by omega)) (aA hx'.1 rfl (cM (du ha.num hn (by omega)) (cM (du h2 hB (by omega)) (eh (aA hx'.1 rfl (cM (du hB ha.nq (by omega)) ?_)))))));refine next _ _ ⟨rfl,xs',ps',r',_,_,j+1,τ+a,C',_,_,rfl,hx'.2,rfl,?_,h4,hC',fun x hx=>hm x (List.mem_cons_of_mem _ hx),hd,by omega,by omega⟩
    have q1:2^(τ+66*j+a)<=2^(τ+a+66*j+65):=Nat.pow_le_pow_right (by decide) (by omega);have q2:2^(a+64+τ)<=2^(τ+a+66*j+65):=Nat.pow_le_pow_right (by decide) (by omega);have q3:2^(τ+a+66*(j+1))=2^(τ+a+66*j+65)*2:=by rw[show τ+a+66*(j+1)=τ+a+66*j+65+1 by omega,Nat.pow_succ]
    have:=Int.natAbs_add_le (T*((p.den:Nat):Int)) (p.num*n*B);omega
def pN:cA:=fun ds st K=>∃(A:List (List Int)) (r:List Int) (N w:Nat) (d:D),ds=[eC A,bW r,d]/\AN A N w r/\qy d/\K (.bl (Fd A r N w d)) st
def mD:List Str:=["_law_rows_here","_law_row_here","_law_found","_law_told","_law_sums","_law_step","_law_top","_law_bottom"]
def Bf:DS:=(aF (cO (nj (j6 (aR (bw fJ (ae (af 2) (ae (c5 (ae (dC (.ty "tuple")) (ae (dC (.ty "list")) ao))) ao))))) (aR (au kO (bw dR (ae (af 2) ao)) (dC (.int 2))))) (bc (dC (.bl false))) bY)
 (aF (cO (nj (j6 (aR (bw fJ (ae (au aS (af 2) (dC (.int 0))) (ae (dC (.ty "str")) ao))))) (j6 (aR (bw fJ (ae (au aS (af 2) (dC (.int 1))) (ae (c5 (ae (dC (.ty "tuple")) (ae (dC (.ty "list")) ao))) ao)))))) (bc (dC (.bl false))) bY)
 (aF (a7 3 (au aS (af 2) (dC (.int 1))))
 (aF (cO (aR (au dE (au aS (af 2) (dC (.int 0))) (dC (.str "told")))) (aF (cO (nj (aR (au kO (bw dR (ae (af 3) ao)) (bw dR (ae (af 0) ao)))) (j6 (aR (bw oU (ae (dH (dJ (af 3)) [none] (bN 0) cw (ie (bw fJ (ae (af 0) (ae (dC (.ty "int")) ao))) (rh (aR (bw fJ (ae (af 0) (ae (dC (.ty "bool")) ao))))))) ao))))) (bc (dC (.bl false))) bY)
 (aF (a7 4 (dH (fO (ae (bw dR (ae (af 1) ao)) ao)) [none,some 3,some 0] (bN 0) cw (bw Aj (ae (dH (qZ (ae (af 1) (ae (af 2) ao))) [none,none,some 0] (gc 0 1) cw (au cX (af 0) (au aS (af 1) (af 2)))) ao))))
 (bc (au dE (af 4) (bw jr (ae (af 1) ao)))))) bY)
 (aF (cO (nj (aR (au zN (au aS (af 2) (dC (.int 0))) (dC (.str "none")))) (nj (aR (au kO (bw dR (ae (af 3) ao)) (bw dR (ae (af 1) ao)))) (j6 (aR (bw oU (ae (dH (dJ (af 3)) [none] (bN 0) cw (aC ni (ae (af 0) ao))) ao)))))) (bc (dC (.bl false))) bY)
 (aF (iN (dJ (af 0)) (bN 5) (aF (w4 (gc 6 7) (aC mm (ae (af 3) (ae (af 5) ao))))
 (cO (aR (au kO (au f7 (af 6) (af 7)) (dC (.int 0)))) (bc (dC (.bl false))) bY)))
 (aF (w4 (gc 6 7) (aC mm (ae (af 3) (ae (af 1) ao))))
 (bc (au kO (au f7 (af 6) (af 7)) (dC (.int 0)))))))))))
theorem FQ:∀(W:List Int) (A:List (List Int)) (j n:Nat),W.length=n->A.length=n->(List.zipWith (fun a (q:List Int)=>a*q.getD j 0) W A).sum=Mx.S n fun i=>W.getD i 0*Mx.g A i j
 | [],[],j,n,h,_=>by subst h;rfl
 | [],_::_,_,n,h,h'=>by subst h;cases h'
 |_::_,[],_,n,h,h'=>by subst h;cases h'
 |a::W,q::A,j,n,h,h'=>by
  subst h;rw[List.zipWith_cons_cons,List.sum_cons,FQ W A j W.length rfl (Nat.succ.inj h'),List.length_cons,Mx.zA]
  have e:(fun i=>(a::W).getD (i+1) 0*Mx.g (q::A) (i+1) j)=fun i=>W.getD i 0*Mx.g A i j:=by
   funext i;unfold Mx.g;simp
  rw[e];rfl
theorem EY{j w:Nat}(hj:j<w):∀(W:List Int) (A:List (List Int)),(∀q∈A,q.length=w)->(eQ (aB W) (A.map bW)).map (fun d=>match d with| .tup [.int a,.tup xs]=>(match dU xs (j:Int)with|some (.int b)=> .int (a*b)|_=> .aE)|_=> .aE)=aB (List.zipWith (fun a (q:List Int)=>a*q.getD j 0) W A)
 | [],_,_=>rfl
 |_::_,[],_=>rfl
 |a::W,q::A,h=>by
  have ih:=EY hj W A fun q hq=>h q (List.mem_cons_of_mem _ hq);have e:dU (aB q) (j:Int)=some (.int (q.getD j 0)):=jn (by rw[h q List.mem_cons_self];exact hj);unfold eQ at ih⊢;simp only[aB,List.map_cons,List.zip_cons_cons,List.zipWith_cons_cons]at ih⊢;rw[ih];congr 1;show(match dU (aB q) (j:Int)with|some (.int b)=>D.int (a*b)|_=>D.aE)=_;rw[e]
theorem HG{W:List Int}{A:List (List Int)}{d:D}(h:d∈eQ (aB W) (A.map bW)):∃a q,a∈W/\q∈A/\d= .tup [.int a,bW q]:=by
 induction W generalizing A with
 |nil=>cases h
 |cons a W ih=>
  cases A with
  |nil=>cases h
  |cons q A=>
   have e:eQ (aB (a::W)) ((q::A).map bW)= .tup [.int a,bW q]::eQ (aB W) (A.map bW):=rfl;rw[e]at h;rcases List.mem_cons.mp h with rfl|h
   . exact⟨a,q,List.mem_cons_self,List.mem_cons_self,rfl⟩
   . obtain⟨a',q',h1,h2,h3⟩:=ih h;exact⟨a',q',List.mem_cons_of_mem _ h1,List.mem_cons_of_mem _ h2,h3⟩
theorem K8{n:Nat}{st:ai}{a:D}{K:DK}(h:pl n a=true)(h1:∀s,a= .str s->K (.bl true) st)(h2:(∀s,a≠ .str s)->K (.bl false) st):fJ [a,.ty "str"] st K:=by
 cases a with
 |ref m=>cases n<;>cases h
 |ty t=>cases n<;>cases h
 |str s=>exact iX rfl (by decide) (h1 s rfl)
 |_=>exact iX rfl (by decide) (h2 fun s z=>by cases z)
theorem BK{a:D}(h:∀s,a≠ .str s)(t:Str):bU a (.str t)=false:=by
 cases a with
 |str s=>exact absurd rfl (h s)
 |_=>unfold bU;rfl
theorem HW{ps:List Rat}{s:List Int}{w:Nat}:0<(Mx.wo 0 1 ps s).2/\decide ((Mx.wo 0 1 ps s).1.fmod (Mx.wo 0 1 ps s).2=0)=pe (Mx.fE 0 ps s):=by
 obtain⟨h1,h2⟩:=Mx.HU ps s 0 1 (by decide);refine⟨h1,?_⟩;unfold pe;refine decide_eq_decide.mpr ?_;rw[Mx.NF h1,h2,<-Mx.Wh.den];have e0:((0:Int):Rat)/((1:Int):Rat)=0:=by rw[Rat.intCast_zero];grind
 rw[e0]
theorem za:∀ds st K,pN ds st K->ds.length=3/\Bf {nx:=fun _ st'=>K .aE st',rt:=K} (aU mD ds) st:=by
 rintro ds st K ⟨A,r,N,w,d,rfl,⟨hA,n1,n8,w8,bA,lr,br⟩,O,k⟩;refine⟨rfl,⟨Nat.le_of_ble_eq_true rfl,tj O.p ?_⟩⟩;have lA:=hA.len;unfold Fd at k;have hit:items? st d=aq d:=gN O.p;cases e:aq d with
 |none=>rw[e]at k;exact k
 |some xs=>
  rw[e]at k hit;refine cT hit ?_;match xs,e,k,hit with
  | [],_,k,_=>exact neT (by decide) k
  | [_],_,k,_=>exact neT (by simp) k
  |_::_::_::xs,_,k,_=>exact neT (by simp only[List.length_cons];omega) k
  | [a,b],e,k,hit=>
    simp only at k;refine Ew rfl ?_;have pa:=jI O.p e a List.mem_cons_self;have pb:=jI O.p e b (List.mem_cons_of_mem _ List.mem_cons_self);have sb:=O.s2 _ e b (List.mem_cons_of_mem _ List.mem_cons_self);refine aA hit rfl (K8 pa (fun s hs=>?_) fun hs=>?_);rotate_left 1
    . rw[BK hs,BK hs,if_neg (by decide),Bool.false_and]at k;exact k
    refine aA hit rfl ⟨Nat.le_of_ble_eq_true rfl,tj pb ?_⟩;have hib:items? st b=aq b:=gN pb;cases eb:aq b with
    |none=>
     have k':K (.bl false) st:=by
      unfold wB pB at k;rw[eb]at k;simpa using k
     exact k'
    |some ys=>
     rw[eb]at hib;have py:=jI pb eb;have ly:=(sb.l ys eb).1;refine aA hit rfl (aA hit rfl (mK (fR pa (by decide)) rfl ?_));cases e1:bU a (.str "told")with
     |true=>
      rw[e1,if_pos rfl]at k;unfold wB at k;rw[eb]at k;simp only at k;refine cm (cT hib (cT rfl ?_));rw[List.length_map,lA];by_cases hl:ys.length=N
      . rw[decide_eq_true hl,Bool.true_and]at k;refine Ew (by omega) ?_;refine jQ hib fun ok aK=>Cs ly py aK ?_;cases ha:ys.all isInt with
        |false=>rw[ha,Bool.false_and]at k;exact k
        |true=>
         rw[ha,Bool.true_and]at k;have hib2:items? st b=some (aB (ys.map pA)):=by rw[hib,<-t7 ha]
         have lW:(ys.map pA).length=N:=by rw[List.length_map];exact hl
         generalize ys.map pA=W at k hib2 lW;refine cT rfl ?_;rw[List.length_map,lr];refine iB ⟨by omega,by omega⟩ ⟨cF (by rw[ik];omega),?_⟩;rw[Int.toNat_natCast];refine nO (fun j=> .int ((List.zipWith (fun a (q:List Int)=>a*q.getD j 0) W A).sum)) w (fun j hj K' q=>⟨_,rfl,?_⟩) ?_
         . refine om hib2 rfl fun ok2 hok2=>⟨cF (by rw[oW,List.length_map,List.length_map];omega),?_⟩
           refine comp_map (g:=fun d=>match d with| .tup [.int a,.tup xs]=>(match dU xs (j:Int)with|some (.int b)=> .int (a*b)|_=> .aE)|_=> .aE) (hok2 _ hib2 rfl) _ (fun d hd K2 q2=>?_) ?_
           . obtain⟨a,s,_,hsA,rfl⟩:=HG hd;have ls:=hA.lB s hsA;have e5:dU (aB s) (j:Int)=some (.int (s.getD j 0)):=jn (by omega);have q2':K2 (match dU (aB s) (j:Int)with|some (.int b)=> .int (a*b)|_=> .aE) st:=q2;rw[e5]at q2';have b1:=bA s hsA _ (getD_mem (r:=s) (k:=j) (by omega));exact⟨_,rfl,aA rfl e5 (cM (l7 (by omega) (by omega)) q2')⟩
           rw[EY hj W A hA.lB];exact Nv (ints_map _) q
         . have e6:(List.range w).map (fun j=>D.int ((List.zipWith (fun a (q:List Int)=>a*q.getD j 0) W A).sum))=aB (Mx.dP W A (List.replicate w 0)):=by
            have lS:(Mx.dP W A (List.replicate w 0)).length=w:=Mx.pC (by simp) hA.lB;refine List.ext_getElem (by simp[lS]) fun j h1 h2=>?_;rw[List.getElem_map,List.getElem_map,List.getElem_range];have hj:j<w:=by simpa using h1
            have e7:=Mx.rl (n:=w) (ws:=W) (rs:=A) (acc:=List.replicate w 0) j (by simp) hA.lB (by omega);rw[Mx.d7,Int.zero_add,Mx.bQ (by omega),lA]at e7;rw[FQ W A j N lW lA,e7]
           rw[e6];refine jj rfl (mK BZ BZ ?_)
           have e8:bU (bD (Mx.dP W A (List.replicate w 0))) (.lst (aB r))=decide (Mx.dP W A (List.replicate w 0)=r):=by
            unfold bU;exact o3 _ _
           rw[e8];exact k
      . rw[decide_eq_false hl,Bool.false_and]at k;exact neT (by omega) k
     |false=>
      rw[e1,if_neg (by decide)]at k;refine ML ?_;refine aA hit rfl (L4 (fR pa (by decide)) rfl ?_);cases e2:bU a (.str "none")with
      |false=>rw[e2,Bool.false_and]at k;exact k
      |true=>
       rw[e2,Bool.true_and]at k;unfold pB at k;rw[eb]at k;simp only at k;refine cT hib (cT rfl ?_);rw[List.length_map,lr];by_cases hl:ys.length=w
       . rw[decide_eq_true hl,Bool.true_and]at k;refine Ew (by omega) ?_;refine jQ hib fun ok aK=>⟨cF ly,?_⟩
         refine jG (g:=fun x=> .bl (iu x)) aK ys [] (fun y hy K' q=>⟨_,rfl,y,rfl,py y hy,fun zs hz=>((sb.l ys eb).2 y hy zs hz).1,q⟩) ?_;refine sZ (mN ys) ?_;have ea:(ys.map iu).all id=ys.all iu:=by rw[List.all_map];rfl
         rw[ea];cases ha:ys.all iu with
         |false=>rw[ha,Bool.false_and,Bool.false_and]at k;exact k
         |true=>
          rw[ha,Bool.true_and]at k;have hin:=AL (st:=st) py ha;have hpb:=(O.z a b ys e eb).pb ha;have lq:(ys.map toQ).length<=8:=by rw[List.length_map];omega
          generalize ys.map toQ=ps at k hin hpb lq;refine iD ?_;refine gK (fun rest σ st'=>st=st'/\∃(i:Nat) (v5 v6 v7:Option D),i<=N/\rest=(A.map bW).drop i/\σ=[some (eC A),some (bW r),some d,some b,none,v5,v6,v7]/\((A.take i).all fun s=>pe (Mx.fE 0 ps s))=true) ?_ ?_ _ _ _ ⟨rfl,0,none,none,none,Nat.zero_le _,rfl,rfl,rfl⟩
          . rintro σ st' ⟨rfl,i,v5,v6,v7,hi,hrest,rfl,hall⟩;have hiN:=drop_nil hrest;rw[List.take_of_length_le hiN]at hall;rw[hall,Bool.and_true]at k;refine⟨trivial,b,_,ys,ps,r,_,rfl,hib,hin,rfl,hpb,br,lq,by decide,?_⟩;obtain⟨h1,h2⟩:=HW (ps:=ps) (s:=r) (w:=w);rw[<-h2]at k;refine⟨_,rfl,g6 (by omega) (C5 ?_)⟩;exact k
          . rintro x rest σ st' ⟨rfl,i,v5,v6,v7,hi,hrest,rfl,hall⟩ next
            obtain⟨hiA,rfl,rfl⟩:=drop_cons hrest;have hmem:A.getD i []∈A:=by rw[Mx.bQ hiA];exact List.getElem_mem _
            refine⟨trivial,_,rfl,b,_,ys,ps,A.getD i [],_,rfl,hib,hin,rfl,hpb,fun x hx=>Nat.le_trans (bA _ hmem x hx) (by decide),lq,by decide,?_⟩;obtain⟨h1,h2⟩:=HW (ps:=ps) (s:=A.getD i []) (w:=w);refine⟨_,rfl,g6 (by omega) (ne2 (fun h=>cm ?_) fun h=>?_)⟩
            . rw[decide_eq_false h]at h2
              have:(A.all fun s=>pe (Mx.fE 0 ps s))=false:=by
               rw[List.all_eq_false];exact⟨_,hmem,by rw[<-h2];decide⟩
              rw[this,Bool.and_false]at k;exact k
            . rw[decide_eq_true h]at h2;refine next _ _ ⟨rfl,i+1,_,_,_,by omega,rfl,rfl,?_⟩
              rw[List.take_succ_eq_append_getElem hiA,List.all_append,hall,Bool.true_and,List.all_cons,List.all_nil,Bool.and_true];rw[Mx.bQ hiA]at h2;exact h2.symm
       . rw[decide_eq_false hl,Bool.false_and]at k;exact neT (by omega) k
def sJ:cA:=fun ds st K=>∃(n:Nat) (b:Int) (A:List (List Int)) (N w:Nat),ds=[.ref n,eC A]/\Hd st n b/\b<=500000/\Mx.dY N w A/\1<=N/\N<=8/\1<=w/\w<=8/\(∀r∈A,∀x∈r,x.natAbs<=2^48)/\∀st' (r:List Int),r.length=w->(∀x∈r,x.natAbs<=2^64)->Hd st' n (b+20)->XU st n st'->K (bW r) st'
def pF:List Str:=["_law_hand_here","_law_rows_here","_law_row_here","_law_step","_law_often"]
def Ea:DS:=(aF (a7 2 (au t9 (fV (ae (dC (.int 0)) ao)) (bw dR (ae (au aS (af 1) (dC (.int 0))) ao))))
 (aF (iN (dJ (af 1)) (bN 3) (aF (a7 4 (au lb (aC bo (ae (af 0) (ae (dC (.int 3)) ao))) (dC (.int 1))))
 (cO (aR (au qw (bw vU (ae (dH (dJ (af 3)) [none] (bN 0) cw (bw oK (ae (af 0) ao))) ao)) (dC (.int 10)))) (a7 2 (iY (qZ (ae (af 2) (ae (af 3) ao))) [none,none,some 4] (gc 0 1) cw (au d6 (af 0) (au cX (af 2) (af 1))))) bY)))
 (aF (cO (aR (au dE (aC bo (ae (af 0) (ae (dC (.int 2)) ao))) (dC (.int 0)))) (et (af 2) (aC bo (ae (af 0) (ae (bw dR (ae (af 2) ao)) ao))) (au lb (aC bo (ae (af 0) (ae (dC (.int 9)) ao))) (dC (.int 4)))) bY)
 (bc (bw d9 (ae (af 2) ao))))))
theorem XU.GW{st st1 st2:ai}{n p:Nat}(X:XU st n st1)(U:Upd st1 p st2)(h:st.length<=p):XU st n st2:=⟨by rw[U.len];exact X.len,fun m hm g=>(U.same m (by omega)).trans (X.same m hm g)⟩
theorem XU.push{st st1:ai}{n:Nat}{c:List Cell}(X:XU st n st1):XU st n (st1++c):=X.trans (XU.ext Ext.push)
theorem DC:∀ds st K,sJ ds st K->ds.length=2/\Ea {nx:=fun _ st'=>K .aE st',rt:=K} (aU pF ds) st:=by
 rintro ds st K ⟨n,b,A,N,w,rfl,B,hb,hA,n1,n8,w1,w8,bA,k⟩;refine⟨rfl,?_⟩;have lA:=hA.len;have hn:=B.lt;have rw0:=hA.row (i:=0) n1;refine⟨Nat.le_of_ble_eq_true rfl,aA rfl (show dU (A.map bW) 0=some (bW (A.getD 0 []))from xH (k:=0) (by omega)) (cT rfl (Cq ⟨by omega,by rw[List.length_map];omega,cF (by rw[List.length_map,rw0];simp;omega)⟩ ?_))⟩;rw[List.length_map,rw0,Int.toNat_natCast,uR];try dsimp only[ao]
 refine c_ (A:=iN _ _ _) (fun σ st'=>∃(T:List Int) (p:Nat) (v3 v4:Option D),σ=[some (.ref n),some (eC A),some (.ref p),v3,v4]/\st'[p]?=some (.lst (aB T))/\st.length<=p/\T.length=w/\(∀x∈T,x.natAbs<=8*2^48)/\Hd st' n (b+8)/\XU st n st') (fun nx hnx=>?_) ?_
 . refine iD ?_;refine gK (fun rest σ st'=>∃(i:Nat) (T:List Int) (p:Nat) (v3 v4:Option D),i<=N/\rest=(A.map bW).drop i/\σ=[some (.ref n),some (eC A),some (.ref p),v3,v4]/\st'[p]?=some (.lst (aB T))/\st.length<=p/\T.length=w/\(∀x∈T,x.natAbs<=i*2^48)/\Hd st' n (b+i)/\XU st n st') ?_ ?_ _ _ _ ⟨0,List.replicate w 0,st.length,none,none,Nat.zero_le _,rfl,rfl,List.getElem?_concat_length,Nat.le_refl _,by simp,fun x hx=>by rw[List.eq_of_mem_replicate hx];exact Nat.zero_le _,(B.cell (List.getElem?_append_left hn)).mono (by omega),XU.ext Ext.push⟩
   . rintro σ st' ⟨i,T,p,v3,v4,hi,hrest,rfl,e,hp,lT,bT,B',X⟩;exact⟨trivial,hnx _ _ ⟨T,p,v3,v4,rfl,e,hp,lT,fun x hx=>Nat.le_trans (bT x hx) (Nat.mul_le_mul_right _ (by omega)),B'.mono (by omega),X⟩⟩
   . rintro x rest σ st' ⟨i,T,p,v3,v4,hi,hrest,rfl,e,hp,lT,bT,B',X⟩ next
     obtain⟨hiA,rfl,rfl⟩:=drop_cons hrest;have hiN:i<N:=by omega
     have lri:=hA.row hiN;have hmem:A.getD i []∈A:=by rw[Mx.bQ hiA];exact List.getElem_mem _
     refine⟨trivial,_,rfl,n,3,_,rfl,B',by omega,by decide,by decide,fun o st2 o0 o1 B2 U2=>jF ?_⟩;have e2:=(U2.same p (by omega)).trans e;have X2:=X.trans (XU.upd U2);refine iD ⟨cF (by rw[List.length_map];omega),?_⟩;refine comp_map (g:=fun d=>match d with| .int x=> .int ((x.natAbs:Nat):Int)|_=> .aE) trivial _ (fun d hd K' q=>?_) ?_
     . obtain⟨x,_,rfl⟩:=List.mem_map.mp hd;exact⟨_,rfl,oE q⟩
     have eab:(aB (A.getD i [])).map (fun d=>match d with| .int x=> .int ((x.natAbs:Nat):Int)|_=> .aE)=aB ((A.getD i []).map fun x=>((x.natAbs:Nat):Int)):=AQ _;rw[eab];refine Jd (ints_map _) (fun z=>?_) fun m _ _=>?_
     . have:=congrArg List.length z;rw[List.length_map,lri,List.length_nil]at this;omega
     refine IQ (fun _=>cm ?_) fun _=>next _ _ ⟨i+1,T,p,_,_,hiN,rfl,rfl,e2,hp,lT,fun x hx=>Nat.le_trans (bT x hx) (Nat.mul_le_mul_right _ (by omega)),B2.mono (by omega),X2⟩
     refine om (aD e2) rfl fun ok2 hok2=>⟨cF (by rw[oW,List.length_map,List.length_map];omega),?_⟩
     refine comp_map (g:=fun d=>match d with| .tup [.int a,.int b]=> .int (a+(o-1)*b)|_=> .aE) (hok2 _ (aD e2) rfl) _ (fun d hd K' t=>?_) ?_
     . obtain⟨a,b,ha,hb,rfl⟩:=vf hd;exact⟨_,rfl,cM (gR (by omega) (by omega)) (eh t)⟩
     have ea:(eQ (aB T) (aB (A.getD i []))).map (fun d=>match d with| .tup [.int a,.int b]=> .int (a+(o-1)*b)|_=> .aE)=aB (Mx.fz T (o-1) (A.getD i [])):=sx T (A.getD i []);rw[ea];have lAd:(Mx.fz T (o-1) (A.getD i [])).length=w:=by rw[Mx.l6 (by omega)];exact lT
     have hn2:=B2.lt;have sl:=X2.len;refine next _ _ ⟨i+1,Mx.fz T (o-1) (A.getD i []),st2.length,_,_,hiN,rfl,rfl,List.getElem?_concat_length,sl,lAd,fun z hz=>?_,(B2.cell (List.getElem?_append_left hn2)).mono (by omega),X2.push⟩
     obtain⟨c,hc,rfl⟩:=List.mem_iff_getElem.mp hz;have e3:(Mx.fz T (o-1) (A.getD i []))[c]=(Mx.fz T (o-1) (A.getD i [])).getD c 0:=(Mx.bQ hc).symm;rw[e3,Mx.tM (by omega)];have b1:=bT _ (getD_mem (r:=T) (k:=c) (by omega));have b2:=bA _ hmem _ (getD_mem (r:=A.getD i []) (k:=c) (by omega))
     have b3:((o-1)*(A.getD i []).getD c 0).natAbs<=1*2^48:=by
      rw[Int.natAbs_mul];exact Nat.mul_le_mul (by omega) b2
     have b4:=Int.natAbs_add_le (T.getD c 0) ((o-1)*(A.getD i []).getD c 0);rw[Nat.succ_mul];omega
 rintro σ st1 ⟨T,p,v3,v4,rfl,e,hp,lT,bT,B1,X1⟩;have up:∀x∈T,x.natAbs<=2^64:=fun x hx=>Nat.le_trans (bT x hx) (by decide);refine⟨n,2,_,rfl,B1,by omega,by decide,by decide,fun y st2 y0 y1 B2 U2=>?_⟩;have e2:=(U2.same p (by omega)).trans e;have X2:=X1.trans (XU.upd U2);refine eq2 (fun _=>cm ?_) fun _=>dB (aD e2) (k st2 T lT up (B2.mono (by omega)) X2);refine⟨n,9,_,rfl,B2,by omega,by decide,by decide,fun y3 st3 z0 z1 B3 U3=>jF ?_⟩;have e3:=(U3.same p (by omega)).trans e2;refine cT (aD e3) ?_;rw[List.length_map,lT];refine⟨n,_,_,rfl,B3,by omega,by omega,by omega,fun y4 st4 u0 u1 B4 U4=>?_⟩;obtain⟨j,rfl⟩:=Int.eq_ofNat_of_zero_le u0;have e4:=(U4.same p (by omega)).trans e3;have X4:=X2.trans (XU.upd (U3.trans U4));refine lI (ys:=aB (T.set j (y3-4))) e4 (tD (by omega) (by rw[List.length_map];omega)) (by rw[Int.toNat_natCast,<-List.map_set]) fun st5 e5 U5=>?_;refine dB (aD e5) (k st5 _ (by rw[List.length_set];exact lT) (fun x hx=>?_) ((B4.cell (U5.same n (by omega))).mono (by omega)) (X4.GW U5 hp));rcases List.mem_or_eq_of_mem_set hx with h|h
 . exact up x h
 . rw[h];have:(2:Nat)^64=18446744073709551616:=by decide
   omega
def kI:Nat->D->Bool
 |_,.int i=>decide (i.natAbs<=8)
 |_,.aE=>true
 |_,.bl _=>true
 |_,.str _=>true
 |n+1,.tup xs=>decide (xs.length<=10)&&xs.all (kI n)
 |n+1,.lst xs=>decide (xs.length<=10)&&xs.all (kI n)
 |_,_=>false
def mP:cA:=fun ds st K=>∃(n:Nat) (b:Int),ds=[.ref n]/\Hd st n b/\b<=500000/\∀d st',kI 2 d=true->Hd st' n (b+1)->Upd st n st'->K d st'
def pE:List Str:=["_law_hand_here","_law_some"]
def FA:DS:=(aF (a7 1 (fV (ae (dC (.bl true)) (ae (dC .aE) (ae (dC (.str "none")) (ae (c5 (ae (dC (.int 1)) (ae (dC (.int 2)) ao))) (ae (fV ao) (ae (c5 ao) (ae (c5 (ae (dC (.int 2)) (ae (dC (.int 4)) ao))) (ae (c5 (ae (dC (.int 1)) (ae (nu iM (dC (.int 2))) ao))) (ae (c5 (ae (dC (.int 1)) (ae (dC (.int 0)) ao))) (ae (nu iM (dC (.int 1))) (ae (dC (.int 5)) (ae (fV (ae (fV (ae (dC (.int 1)) ao)) ao)) (ae (c5 (ae (dC (.int 0)) (ae (dC (.int 1)) ao))) (ae (c5 (ae (dC (.int 1)) ao)) ao))))))))))))))))
 (aF (a7 1 (au d6 (af 1) (fV (ae (c5 (ae (dC (.bl true)) (ae (dC (.int 2)) ao))) (ae (c5 (ae (dC (.str "1")) (ae (dC (.int 2)) ao))) (ae (c5 (ae (dC .aE) (ae (dC (.int 1)) ao))) (ae (fV (ae (dC (.int 1)) (ae (dC (.int 2)) ao))) (ae (c5 (ae (dC (.int 1)) (ae (dC (.bl true)) ao))) (ae (c5 (ae (dC (.int 1)) (ae (dC (.int 2)) (ae (dC (.int 3)) ao)))) ao)))))))))
 (bc (au aS (af 1) (aC bo (ae (af 0) (ae (bw dR (ae (af 1) ao)) ao)))))))
def Dm:List D:=[.bl true,.aE,.str "none",.tup [.int 1,.int 2],.lst [],.tup [],.tup [.int 2,.int 4],.tup [.int 1,.int (-2)],.tup [.int 1,.int 0],.int (-1),.int 5,.lst [.lst [.int 1]],.tup [.int 0,.int 1],.tup [.int 1],.tup [.bl true,.int 2],.tup [.str "1",.int 2],.tup [.aE,.int 1],.lst [.int 1,.int 2],.tup [.int 1,.bl true],.tup [.int 1,.int 2,.int 3]]
theorem J6:Dm.all (kI 2)=true:=by decide
theorem CZ:∀ds st K,mP ds st K->ds.length=1/\FA {nx:=fun _ st'=>K .aE st',rt:=K} (aU pE ds) st:=by
 rintro ds st K ⟨n,b,rfl,B,hb,k⟩;refine⟨rfl,?_⟩;refine⟨Nat.le_of_ble_eq_true rfl,Nat.le_of_ble_eq_true rfl,Nat.le_of_ble_eq_true rfl,Nat.le_of_ble_eq_true rfl,gL ⟨Nat.le_of_ble_eq_true rfl,Nat.le_of_ble_eq_true rfl,gL ⟨Nat.le_of_ble_eq_true rfl,Nat.le_of_ble_eq_true rfl,Nat.le_of_ble_eq_true rfl,Nat.le_of_ble_eq_true rfl,Nat.le_of_ble_eq_true rfl,?_⟩⟩⟩;refine⟨Nat.le_of_ble_eq_true rfl,Nat.le_of_ble_eq_true rfl,Nat.le_of_ble_eq_true rfl,Nat.le_of_ble_eq_true rfl,Nat.le_of_ble_eq_true rfl,Nat.le_of_ble_eq_true rfl,Nat.le_of_ble_eq_true rfl,KJ (Nat.le_of_ble_eq_true rfl) ?_⟩;refine cT rfl ⟨n,20,_,rfl,B,by omega,by decide,by decide,fun r st2 r0 r1 B2 U2=>?_⟩;obtain⟨j,rfl⟩:=Int.eq_ofNat_of_zero_le r0;have hj:j<Dm.length:=by show j<20;omega
 refine aA rfl (show dU Dm (j:Int)=some Dm[j]from jm (List.getElem?_eq_getElem hj)) ?_;exact k _ st2 (List.all_eq_true.mp J6 _ (List.getElem_mem hj)) B2 U2
theorem Dt:∀ {n:Nat} {d:D},kI n d=true->pl n d=true:=fun{n}=>by
 induction n with
 |zero=>intro d h;cases d<;>first|rfl|cases h
 |succ n ih=>
  intro d h;cases d with
  |lst xs=>
   unfold kI at h;rw[Bool.and_eq_true]at h;unfold pl;exact List.all_eq_true.mpr fun x hx=>ih (List.all_eq_true.mp h.2 x hx)
  |tup xs=>
   unfold kI at h;rw[Bool.and_eq_true]at h;unfold pl;exact List.all_eq_true.mpr fun x hx=>ih (List.all_eq_true.mp h.2 x hx)
  |ref m=>cases h
  |ty t=>cases h
  |_=>rfl
theorem gS{n:Nat}{d:D}{xs:List D}(h:kI (n+1) d=true)(e:aq d=some xs):xs.length<=10/\∀x∈xs,kI n x=true:=by
 cases d<;>cases e<;>(unfold kI at h;rw[Bool.and_eq_true,decide_eq_true_eq]at h;exact⟨h.1,List.all_eq_true.mp h.2⟩)
theorem zz{d:D}(h:kI 0 d=true):aq d=none:=by cases d<;>first|rfl|cases h
theorem wx{n:Nat}{i:Int}(h:kI n (.int i)=true):i.natAbs<=8:=by
 cases n<;>(unfold kI at h;exact of_decide_eq_true h)
structure El(y:D):Prop where
 p:pl 4 y=true
 l:∀zs,aq y=some zs->zs.length<=1000/\∀z∈zs,∀us,aq z=some us->us.length<=1000
theorem El.sm{y:D}(h:kI 2 y=true):El y:=⟨fR (Dt h) (by decide),fun zs hz=>by
 obtain⟨h1,h2⟩:=gS h hz;exact⟨by omega,fun z hm us hu=>by have:=(gS (h2 z hm) hu).1;omega⟩⟩
theorem El.int{i:Int}:El (.int i):=⟨rfl,fun zs hz=>by cases hz⟩
theorem El.two{y:D}{a b:Int}(h:aq y=some [.int a,.int b]):El y:=by
 cases y<;>cases h
 all_goals exact⟨rfl,fun zs hz=>by
  cases hz
  exact⟨Nat.le_of_ble_eq_true rfl,fun z hm us hu=>by
   rcases List.mem_cons.mp hm with rfl|hm
   . cases hu
   . rw[List.mem_singleton.mp hm]at hu;cases hu⟩⟩
abbrev Wy(y:D)(a:Nat):Prop:=∀p q,aq y=some [.int p,.int q]->p.natAbs<=2^a/\q.natAbs<=2^a
theorem Wy.sm{y:D}(h:kI 2 y=true):Wy y 3:=fun p q e=>by
 obtain⟨_,h2⟩:=gS h e;exact⟨wx (h2 _ List.mem_cons_self),wx (h2 _ (List.mem_cons_of_mem _ List.mem_cons_self))⟩
theorem Wy.int{i:Int}:Wy (.int i) 0:=fun p q e=>by cases e
theorem WB.mono:∀ {ys:List D} {s t:Nat},WB ys s->s<=t->WB ys t
 | [],_,_,_,_=>trivial
 |_::_,_,_,⟨a,b,h1,h2,h3⟩,l=>⟨a,b,h1,h2,Nat.le_trans h3 l⟩
theorem WB.set{x:D}{a:Nat}(hx:Wy x a):∀ {ys:List D} {t k:Nat},WB ys t->WB (ys.set k x) (t+a)
 | [],_,_,_=>trivial
 |q::qs,t,0,⟨a',b,h1,h2,h3⟩=>⟨a,b,hx,h2,by omega⟩
 |q::qs,t,k+1,⟨a',b,h1,h2,h3⟩=>⟨a',b+a,h1,h2.set hx,by omega⟩
theorem WB.ins{x:D}{a:Nat}(hx:Wy x a):∀ {ys:List D} {t k:Nat},WB ys t->WB (ys.take k++x::ys.drop k) (t+a)
 | [],t,k,_=>by
   rw[List.take_nil,List.drop_nil];exact⟨a,0,hx,trivial,by omega⟩
 |q::qs,t,0,h=>⟨a,t,hx,h,by omega⟩
 |q::qs,t,k+1,⟨a',b,h1,h2,h3⟩=>⟨a',b+a,h1,h2.ins hx,by omega⟩
theorem WB.erase:∀ {ys:List D} {t k:Nat},WB ys t->WB (ys.eraseIdx k) t
 | [],_,_,_=>trivial
 |q::qs,t,0,⟨a',b,h1,h2,h3⟩=>h2.mono (by omega)
 |q::qs,t,k+1,⟨a',b,h1,h2,h3⟩=>⟨a',b,h1,h2.erase,h3⟩
theorem WB.all{c:Nat}:∀ {ys:List D},(∀y∈ys,Wy y c)->WB ys (ys.length*c)
 | [],_=>trivial
 |y::ys,h=>⟨c,_,h y List.mem_cons_self,WB.all fun z hz=>h z (List.mem_cons_of_mem _ hz),by rw[List.length_cons,Nat.succ_mul];omega⟩
theorem WB.Dd{f:Rat->D}{c:Nat}(hf:∀q a,Mx.Sz q a->Wy (f q) (a+c)):∀ {ps:List Rat} {t:Nat},Mx.Pb ps t->WB (ps.map f) (t+ps.length*c)
 | [],_,_=>trivial
 |p::ps,t,⟨a,b,h1,h2,h3⟩=>⟨a+c,_,hf p a h1,WB.Dd hf h2,by rw[List.length_cons,Nat.succ_mul];omega⟩
theorem qI{d a b:D}(e:aq d=some [a,b])(ha:aq a=none)(pd:pl 10 d=true)(sb:Sh b)(hz:∀ys,aq b=some ys->WB ys 20000000):qy d:=by
 refine⟨pd,⟨fun xs hx=>?_⟩,fun xs hx x hm=>?_,fun a' b' ys he hb=>?_⟩
 . rw[e]at hx;cases hx;refine⟨Nat.le_of_ble_eq_true rfl,fun x hm ys hy=>?_⟩;rcases List.mem_cons.mp hm with rfl|hm
   . rw[ha]at hy;cases hy
   . rw[List.mem_singleton.mp hm]at hy;obtain⟨h1,h2⟩:=sb.l ys hy;exact⟨h1,fun y hym zs hz=>(h2 y hym zs hz).1⟩
 . rw[e]at hx;cases hx;rcases List.mem_cons.mp hm with rfl|hm
   . exact⟨fun xs hx=>by rw[ha]at hx;cases hx⟩
   . rw[List.mem_singleton.mp hm];exact sb
 . rw[e]at he;cases he;exact hz ys hb
theorem xV{d:D}(h:kI 2 d=true):qy d:=by
 have go:∀ {n:Nat} {x:D},kI n x=true->n<=2->Sh x:=fun{n x} hx hn=>⟨fun xs he=>by
  cases n with
  |zero=>rw[zz hx]at he;cases he
  |succ n=>
   obtain⟨h1,h2⟩:=gS hx he;refine⟨by omega,fun y hy ys hys=>?_⟩;cases n with
   |zero=>rw[zz (h2 y hy)]at hys;cases hys
   |succ n=>
    obtain⟨h3,h4⟩:=gS (h2 y hy) hys;refine⟨by omega,fun z hz zs hzs=>?_⟩;cases n with
    |zero=>rw[zz (h4 z hz)]at hzs;cases hzs
    |succ n=>exact absurd hn (by omega)⟩
 refine⟨fR (Dt h) (by decide),go h (Nat.le_refl _),fun xs he x hx=>go ((gS h he).2 x hx) (by decide),fun a b ys he hb=>?_⟩;have h2:=(gS h he).2 b (List.mem_cons_of_mem _ List.mem_cons_self);obtain⟨h3,h4⟩:=gS h2 hb;exact(WB.all (c:=0) fun y hy p q e=>by rw[zz (h4 y hy)]at e;cases e).mono (by omega)
structure Ro(ys:List D):Prop where
 len:ys.length<=9
 el:∀y∈ys,El y
 wb:WB ys 10001000
theorem Ro.sh{ys:List D}{b:D}(R:Ro ys)(e:aq b=some ys):Sh b:=⟨fun xs hx=>by
 rw[e]at hx;cases hx;exact⟨by have:=R.len;omega,fun y hy zs hz=>(R.el y hy).l zs hz⟩⟩
theorem Ro.pl{ys:List D}(R:Ro ys){n:Nat}(hn:4<=n):ys.all (L3.pl n)=true:=List.all_eq_true.mpr fun y hy=>fR (R.el y hy).p hn
def Kd(a:D)(ys:List D):Prop:=(a= .str "told"/\∃W:List Int,ys=aB W/\1<=W.length/\W.length<=8)\/(a= .str "none"/\∃ps:List Rat,ys=ps.map fj/\1<=ps.length/\ps.length<=8/\Mx.Pb ps 10000000)
theorem zx{q:Rat}{a c:Nat}(h:Mx.Sz q a):Wy (fj q) (a+c):=fun p r e=>by
 cases e;exact⟨Nat.le_trans h.num (Nat.pow_le_pow_right (by decide) (by omega)),Nat.le_trans h.den (Nat.pow_le_pow_right (by decide) (by omega))⟩
theorem Kd.ro{a:D}{ys:List D}(h:Kd a ys):Ro ys/\1<=ys.length/\ys.length<=8:=by
 rcases h with⟨_,W,rfl,h1,h2⟩|⟨_,ps,rfl,h1,h2,h3⟩
 . rw[List.length_map];refine⟨⟨by rw[List.length_map];omega,fun y hy=>?_,?_⟩,h1,h2⟩
   . obtain⟨i,_,rfl⟩:=List.mem_map.mp hy;exact El.int
   . refine(WB.all (c:=0) fun y hy=>?_).mono (by omega);obtain⟨i,_,rfl⟩:=List.mem_map.mp hy;exact Wy.int
 . rw[List.length_map];refine⟨⟨by rw[List.length_map];omega,fun y hy=>?_,(WB.Dd (c:=0) (fun q a hq=>zx hq) h3).mono (by omega)⟩,h1,h2⟩;obtain⟨p,_,rfl⟩:=List.mem_map.mp hy;exact El.two rfl
def rF:cA:=fun ds st K=>∃(n:Nat) (b:Int) (a:D) (ys:List D),ds=[.ref n,.tup [a,.tup ys]]/\Kd a ys/\Hd st n b/\b<=400000/\∀d st',qy d->Hd st' n (b+10)->XU st n st'->K d st'
def nE:List Str:=["_law_hand_here","_law_told","_law_word","_law_row_here","_law_way","_law_at"]
def DR:DS:=(aF (w4 (gc 2 3) (c5 (ae (au aS (af 1) (dC (.int 0))) (ae (bw qg (ae (au aS (af 1) (dC (.int 1))) ao)) ao))))
 (aF (a7 4 (aC bo (ae (af 0) (ae (dC (.int 11)) ao))))
 (aF (a7 5 (aC bo (ae (af 0) (ae (bw zW (ae (dC (.int 1)) (ae (bw dR (ae (af 3) ao)) ao))) ao))))
 (aF (cO (aR (au dE (af 4) (dC (.int 0)))) (a7 2 (au aS (fV (ae (dC (.str "told")) (ae (dC (.str "none")) (ae (dC (.str "some")) (ae (dC .aE) (ae (dC (.int 1)) ao)))))) (aC bo (ae (af 0) (ae (dC (.int 5)) ao))))) bY)
 (aF (cO (jZ (aR (au dE (af 4) (dC (.int 1)))) (aR (au vj (af 3) (fV ao)))) (et (af 3) (af 5) (aC mP (ae (af 0) ao))) bY)
 (aF (cO (jZ (aR (au dE (af 4) (dC (.int 2)))) (aR (au vj (af 3) (fV ao)))) (jy (lg o9 (af 3) (ae (af 5) ao))) bY)
 (aF (cO (aR (au dE (af 4) (dC (.int 3)))) (jy (lg nK (af 3) (ae (af 5) (ae (au aS (fV (ae (dC (.int 0)) (ae (c5 (ae (dC (.int 0)) (ae (dC (.int 1)) ao))) ao))) (aC bo (ae (af 0) (ae (dC (.int 2)) ao)))) ao)))) bY)
 (aF (cO (jZ (aR (au dE (af 4) (dC (.int 4)))) (aR (au dE (af 2) (dC (.str "none"))))) (a7 3 (iY (dJ (af 3)) [none] (bN 0) cw (IJ (aR (au dE (au f7 (au aS (af 0) (dC (.int 1))) (dC (.int 2))) (dC (.int 1)))) (c5 (ae (au cX (au aS (af 0) (dC (.int 0))) (dC (.int 2))) (ae (au aS (af 0) (dC (.int 1))) ao))) (c5 (ae (au aS (af 0) (dC (.int 0))) (ae (au nB (au aS (af 0) (dC (.int 1))) (dC (.int 2))) ao)))))) bY)
 (aF (cO (jZ (aR (au dE (af 4) (dC (.int 5)))) (aR (au dE (af 2) (dC (.str "none"))))) (a7 3 (iY (dJ (af 3)) [none] (bN 0) cw (c5 (ae (au cX (dC (.int 2)) (au aS (af 0) (dC (.int 0)))) (ae (au cX (dC (.int 2)) (au aS (af 0) (dC (.int 1)))) ao))))) bY)
 (aF (cO (aR (au dE (af 4) (dC (.int 6)))) (a7 3 (iY (dJ (af 3)) [none,some 2] (bN 0) cw (au aS (fV (ae (dC (.int 0)) (ae (c5 (ae (dC (.int 0)) (ae (dC (.int 1)) ao))) ao))) (bw zS (ae (au dE (af 1) (dC (.str "none"))) ao))))) bY)
 (aF (cO (jZ (aR (au dE (af 4) (dC (.int 7)))) (aR (au dE (af 2) (dC (.str "told"))))) (et (af 3) (af 5) (au d6 (au aS (af 3) (af 5)) (dC (.int 1)))) bY)
 (aF (cO (aR (au dE (af 4) (dC (.int 8)))) (bc (au aS (fV (ae (c5 (ae (af 2) ao)) (ae (c5 (ae (af 2) (ae (bw d9 (ae (af 3) ao)) (ae (c5 ao) ao)))) (ae (aC mP (ae (af 0) ao)) (ae (dC .aE) ao))))) (aC bo (ae (af 0) (ae (dC (.int 4)) ao))))) bY)
 (aF (cO (aR (au dE (af 4) (dC (.int 9)))) (bc (c5 (ae (af 2) (ae (aC mP (ae (af 0) ao)) ao)))) bY)
 (aF (cO (jZ (aR (au dE (af 4) (dC (.int 10)))) (aR (au dE (af 2) (dC (.str "none"))))) (bc (fV (ae (af 2) (ae (dH (dJ (af 3)) [none] (bN 0) cw (bw jr (ae (af 0) ao))) ao)))) bY)
 (qJ 3 (bc (au aS (fV (ae (c5 (ae (af 2) (ae (bw d9 (ae (af 3) ao)) ao))) (ae (fV (ae (af 2) (ae (af 3) ao))) ao))) (aC bo (ae (af 0) (ae (dC (.int 2)) ao))))))))))))))))))))
theorem Qw{σ:cn}{st:ai}{K:DK}{n:Nat}{xs:List D}{to:DE}{ta:DA}(ho:∀K',K' (.ref n) st->to σ st K')(e:st[n]?=some (.lst xs))(ha:ta σ st fun ds st2=>(∃ys,st2[n]?=some (.lst ys))/\o9 n ds st2 K):lg o9 to ta σ st K:=by
 unfold lg;refine ho _ ?_;simp only[e];exact ha
theorem Qe{st2:ai}{K:DK}{n:Nat}{ys:List D}{i:Int}{j:Nat}{d:D}(e2:st2[n]?=some (.lst ys))(h63: -(2^63)<=i/\i<2^63)(ej:ko ys.length i=some j)(ed:ys[j]?=some d)(k:K d (st2.set n (.lst (ys.eraseIdx j)))):(∃ys,st2[n]?=some (.lst ys))/\o9 n [.int i] st2 K:=by
 refine⟨⟨ys,e2⟩,?_⟩;unfold o9;simp only[e2,ej,ed];exact⟨h63,k⟩
theorem KC{σ:cn}{st:ai}{K:DK}{n:Nat}{xs:List D}{to:DE}{ta:DA}(ho:∀K',K' (.ref n) st->to σ st K')(e:st[n]?=some (.lst xs))(ha:ta σ st fun ds st2=>(∃ys,st2[n]?=some (.lst ys))/\nK n ds st2 K):lg nK to ta σ st K:=by
 unfold lg;refine ho _ ?_;simp only[e];exact ha
theorem P8{st2:ai}{K:DK}{n:Nat}{ys:List D}{i:Int}{d:D}(e2:st2[n]?=some (.lst ys))(h:0<=i/\i<=ys.length/\i<2^62/\ys.length<sizeLine)(k:K .aE (st2.set n (.lst (ys.take i.toNat++d::ys.drop i.toNat)))):(∃ys,st2[n]?=some (.lst ys))/\nK n [.int i,d] st2 K:=by
 refine⟨⟨ys,e2⟩,?_⟩;unfold nK;simp only[e2];exact⟨h,k⟩
theorem wZ{a:D}{ys:List D}(ha:aq a=none)(pa:pl 1 a=true)(R:Ro ys):qy (.tup [a,.tup ys]):=by
 refine qI rfl ha ?_ (R.sh rfl) fun zs hz=>by cases hz;exact R.wb.mono (by decide)
 unfold pl;rw[List.all_cons,List.all_cons,fR pa (show 1<=9 by decide)];unfold pl;rw[R.pl (by decide)];rfl
theorem BV{a:D}{ys:List D}(ha:aq a=none)(pa:pl 1 a=true)(R:Ro ys):qy (.lst [a,.lst ys]):=by
 refine qI rfl ha ?_ (R.sh rfl) fun zs hz=>by cases hz;exact R.wb.mono (by decide)
 unfold pl;rw[List.all_cons,List.all_cons,fR pa (show 1<=9 by decide)];unfold pl;rw[R.pl (by decide)];rfl
theorem Sh.no{d:D}(h:aq d=none):Sh d:=⟨fun xs hx=>by rw[h]at hx;cases hx⟩
theorem El.sh{y:D}(h:kI 2 y=true):Sh y:=⟨fun xs he=>by
 obtain⟨h1,h2⟩:=gS h he
 exact⟨by omega,fun z hz zs hzs=>by
  obtain⟨h3,h4⟩:=gS (h2 z hz) hzs;exact⟨by omega,fun u hu us hus=>by rw[zz (h4 u hu)]at hus;cases hus⟩⟩⟩
theorem Ks{a:D}(ha:aq a=none)(pa:pl 1 a=true):qy (.tup [a]):=by
 refine⟨?_,⟨fun xs hx=>?_⟩,fun xs hx x hm=>?_,fun a' b' ys he hb=>by cases he⟩
 . unfold pl;rw[List.all_cons,fR pa (show 1<=9 by decide)];rfl
 . cases hx;refine⟨Nat.le_of_ble_eq_true rfl,fun x hm ys hy=>?_⟩;rw[List.mem_singleton.mp hm,ha]at hy;cases hy
 . cases hx;rw[List.mem_singleton.mp hm];exact Sh.no ha
theorem D8{a:D}{ys:List D}(ha:aq a=none)(pa:pl 1 a=true)(R:Ro ys):qy (.tup [a,.tup ys,.tup []]):=by
 have n0:Sh (.tup []):=⟨fun xs hx=>by cases hx;exact⟨Nat.zero_le _,fun x hm=>by cases hm⟩⟩
 have al:∀x∈[a,.tup ys,.tup []],Sh x:=fun x hm=>by
  rcases List.mem_cons.mp hm with rfl|hm
  . exact Sh.no ha
  rcases List.mem_cons.mp hm with rfl|hm
  . exact R.sh rfl
  rw[List.mem_singleton.mp hm];exact n0
 refine⟨?_,⟨fun xs hx=>?_⟩,fun xs hx=>by cases hx;exact al,fun a' b' ys he hb=>by cases he⟩
 . unfold pl;rw[List.all_cons,List.all_cons,fR pa (show 1<=9 by decide)];unfold pl;rw[R.pl (by decide)];rfl
 . cases hx;exact⟨Nat.le_of_ble_eq_true rfl,fun x hm ys hy=>⟨((al x hm).l ys hy).1,fun y hy2 zs hz=>(((al x hm).l ys hy).2 y hy2 zs hz).1⟩⟩
theorem yP{p q:Int}{a:Nat}(h1:p.natAbs<=2^a)(h2:q.natAbs<=2^a):Wy (.tup [.int p,.int q]) a:=fun p' q' e=>by cases e;exact⟨h1,h2⟩
theorem Ro.Gh{ps:List Rat}{f:Rat->D}(h8:ps.length<=8)(hP:Mx.Pb ps 10000000)(h1:∀q,∃a b,aq (f q)=some [.int a,.int b])(h2:∀q a,Mx.Sz q a->Wy (f q) (a+1)):Ro (ps.map f):=⟨by rw[List.length_map];omega,fun y hy=>by
 obtain⟨p,_,rfl⟩:=List.mem_map.mp hy;obtain⟨a,b,e⟩:=h1 p;exact El.two e,(WB.Dd (c:=1) h2 hP).mono (by omega)⟩
def dbl(q:Rat):D:= .tup [.int (2*q.num),.int (2*((q.den:Nat):Int))]
def wk(q:Rat):D:=if((q.den:Nat):Int).fmod 2=1 then .tup [.int (q.num*2),.int ((q.den:Nat):Int)]else .tup [.int q.num,.int (((q.den:Nat):Int).fdiv 2)]
theorem Mm{q:Rat}{a:Nat}(h:Mx.Sz q a):Wy (dbl q) (a+1):=yP (by rw[Int.natAbs_mul,Nat.pow_succ,Nat.mul_comm];exact Nat.mul_le_mul h.num (Nat.le_refl _)) (by rw[Int.natAbs_mul,Nat.pow_succ,Nat.mul_comm];exact Nat.mul_le_mul h.den (Nat.le_refl _))
theorem Lf{q:Rat}{a:Nat}(h:Mx.Sz q a):Wy (wk q) (a+1):=by
 have up:2^a<=2^(a+1):=Nat.pow_le_pow_right (by decide) (by omega);unfold wk;split
 . exact yP (by rw[Int.natAbs_mul,Nat.pow_succ];exact Nat.mul_le_mul h.num (Nat.le_refl _)) (Nat.le_trans h.den up)
 . exact yP (Nat.le_trans h.num up) (Nat.le_trans (Nat.le_trans (Mx.i8 _ (by decide)) h.den) up)
theorem Jz(q:Rat):∃a b,aq (wk q)=some [.int a,.int b]:=by
 unfold wk;split<;>exact⟨_,_,rfl⟩
theorem Fj{ys:List D}{k:Nat}{x:D}(R:Ro ys)(e:El x){a:Nat}(w:Wy x a)(ha:WB (ys.set k x) 10001000):Ro (ys.set k x):=⟨by rw[List.length_set];exact R.len,fun y hy=>(List.mem_or_eq_of_mem_set hy).elim (R.el y) fun z=>z▸e,ha⟩
theorem Bw:∀ds st K,rF ds st K->ds.length=2/\DR {nx:=fun _ st'=>K .aE st',rt:=K} (aU nE ds) st:=by
 rintro ds st K ⟨n,b,a0,ys0,rfl,hk,B,hb,k⟩;refine⟨rfl,?_⟩;obtain⟨R0,l1,l8⟩:=hk.ro
 have wb0:WB ys0 10000100:=by
  rcases hk with⟨_,W,rfl,_,_⟩|⟨_,ps,rfl,_,h2,h3⟩
  . refine(WB.all (c:=0) fun y hy=>?_).mono (by omega);obtain⟨i,_,rfl⟩:=List.mem_map.mp hy;exact Wy.int
  . exact(WB.Dd (c:=0) (fun q a hq=>zx hq) h3).mono (by omega)
 have ha0:aq a0=none/\pl 1 a0=true:=by
  rcases hk with⟨rfl,_⟩|⟨rfl,_⟩<;>exact⟨rfl,rfl⟩
 have hn:=B.lt;refine aA rfl rfl (aA rfl rfl (AK rfl ⟨Nat.le_of_ble_eq_true rfl,⟨_,rfl,?_⟩⟩));have B1:Hd (st++[Cell.lst ys0]) n b:=B.cell (List.getElem?_append_left hn);refine⟨n,11,_,rfl,B1,by omega,by decide,by decide,fun way st2 w0 w11 B2 U2=>?_⟩;have e2:st2[st.length]?=some (.lst ys0):=(U2.same _ (by omega)).trans List.getElem?_concat_length;have X2:XU st n st2:=(XU.ext Ext.push).trans (XU.upd U2);refine cT (aD e2) (MS ?_);have emax:(if((ys0.length:Nat):Int)>1 then((ys0.length:Nat):Int)else 1)=((ys0.length:Nat):Int):=by split<;>omega
 rw[emax];refine⟨n,_,_,rfl,B2,by omega,by omega,by omega,fun at_ st3 a1 a2 B3 U3=>?_⟩;obtain⟨j,rfl⟩:=Int.eq_ofNat_of_zero_le a1;have hj:j<ys0.length:=by omega
 have e3:=(U3.same st.length (by omega)).trans e2;have X3:=X2.trans (XU.upd U3);clear U2 U3 B1 B2 e2 X2 a1 a2 emax
 let J:Nat->cn->ai->Prop:=fun i σ st'=>∃(a:D) (ys:List D) (p:Nat),σ=[some (.ref n),some (.tup [a0,.tup ys0]),some a,some (.ref p),some (.int way),some (.int (j:Int))]/\st'[p]?=some (.lst ys)/\st.length<=p/\aq a=none/\pl 1 a=true/\Ro ys/\Hd st' n (b+5)/\XU st n st'/\((i:Int)<=way->a=a0/\ys=ys0/\Hd st' n (b+2))
 have skip:∀ {i:Nat} {σ:cn} {st':ai},J i σ st'->J (i+1) σ st':=fun{i σ st'} ⟨a,ys,p,h1,h2,h3,h4,h5,h6,h7,h8,h9⟩=>⟨a,ys,p,h1,h2,h3,h4,h5,h6,h7,h8,fun h=>h9 (by omega)⟩
 have J0:J 0 [some (.ref n),some (.tup [a0,.tup ys0]),some a0,some (.ref st.length),some (.int way),some (.int (j:Int))] st3:=⟨a0,ys0,st.length,rfl,e3,Nat.le_refl _,ha0.1,ha0.2,R0,B3.mono (by omega),X3,fun _=>⟨rfl,rfl,B3.mono (by omega)⟩⟩
 clear e3 B3 X3
 have ne0:∀ {st':ai} {K':DK} {p:Nat},st'[p]?=some (.lst ys0)->K' (.bl true) st'->vj (.ref p) (.lst []) st' K':=fun{st' K' p} e q=>MX e (R0.pl (by decide)) rfl (by
  have:bU (.lst ys0) (.lst [])=false:=by
   unfold bU;cases ys0 with
   |nil=>exact absurd l1 (by decide)
   |cons y ys=>rfl
  rw[this];exact q)
 have told2:∀ {K':DK} {st':ai} {t:Str},(a0= .str t->K' (.bl true) st')->K' (.bl false) st'->dE a0 (.str t) st' K':=fun{K' st' t} h1 h2=>mK (fR ha0.2 (by decide)) rfl (by
  have hs:∃s,a0= .str s:=by rcases hk with⟨rfl,_⟩|⟨rfl,_⟩<;>exact⟨_,rfl⟩
  obtain⟨s,hs⟩:=hs;by_cases e:s=t
  . have:=h1 (by rw[hs,e]);have ee:bU a0 (.str t)=true:=by rw[hs,e];unfold bU;simp
    rw[ee];exact this
  . have ee:bU a0 (.str t)=false:=by rw[hs];unfold bU;simpa using e
    rw[ee];exact h2)
 dsimp only;refine c_ (J 1) (fun nx hnx=>?_) ?_
 . have J0':=J0;obtain⟨a,ys,p,h1,h2,h3,h4,h5,h6,h7,h8,h9⟩:=J0;refine eq2 (fun h=>cm ?_) fun h=>hnx _ _ (skip J0');obtain⟨rfl,rfl,B'⟩:=h9 (by omega);refine⟨Nat.le_of_ble_eq_true rfl,n,5,_,rfl,B',by omega,by decide,by decide,fun r st4 r0 r1 B4 U4=>?_⟩;have go:∀c:D,aq c=none->pl 1 c=true->nx [some (.ref n),some (.tup [a,.tup ys]),some c,some (.ref st.length),some (.int way),some (.int (j:Int))] st4:=fun c c1 c2=>hnx _ _ ⟨c,ys,st.length,rfl,(U4.same _ (by omega)).trans (by injection h1 with _ h1;injection h1 with _ h1;injection h1 with _ h1;injection h1 with h1 _;injection h1 with h1;injection h1 with h1;rw[h1];exact h2),Nat.le_refl _,c1,c2,h6,B4.mono (by omega),h8.trans (XU.upd U4),fun z=>by omega⟩;have:r=0\/r=1\/r=2\/r=3\/r=4:=by omega
   rcases this with rfl|rfl|rfl|rfl|rfl<;>exact aA rfl rfl (go _ rfl rfl)
 clear J0;rintro σ st4 J1;refine c_ (J 2) (fun nx hnx=>?_) ?_
 . have J1':=J1;obtain⟨a,ys,p,rfl,h2,h3,h4,h5,h6,h7,h8,h9⟩:=J1;refine eq2 (fun h=>cm ?_) fun h=>hnx _ _ (skip J1');obtain⟨rfl,rfl,B'⟩:=h9 (by omega);refine⟨Nat.zero_le _,ne0 h2 (cm ?_)⟩;refine⟨n,_,rfl,B',by omega,fun d st5 hd B5 U5=>?_⟩;have e5:=(U5.same p (by omega)).trans h2;refine lI (ys:=ys.set j d) e5 (tD (by omega) (by omega)) (by rw[Int.toNat_natCast]) fun st6 e6 U6=>?_;exact hnx _ _ ⟨a,ys.set j d,p,rfl,e6,h3,h4,h5,Fj h6 (El.sm hd) (Wy.sm hd) ((wb0.set (Wy.sm hd)).mono (by decide)),(B5.cell (U6.same n (by omega))).mono (by omega),(h8.trans (XU.upd U5)).GW U6 h3,fun z=>by omega⟩
 clear J1;rintro σ st4 J1;refine c_ (J 3) (fun nx hnx=>?_) ?_
 . have J1':=J1;obtain⟨a,ys,p,rfl,h2,h3,h4,h5,h6,h7,h8,h9⟩:=J1;refine eq2 (fun h=>cm ?_) fun h=>hnx _ _ (skip J1');obtain⟨rfl,rfl,B'⟩:=h9 (by omega);refine⟨Nat.zero_le _,ne0 h2 (cm ?_)⟩;refine Qw (fun K' q=>q) h2 (Qe h2 (j:=j) ⟨by omega,by omega⟩ (tD (by omega) (by omega)) (List.getElem?_eq_getElem hj) ?_);refine hnx _ _ ⟨a,ys.eraseIdx j,p,rfl,List.getElem?_set_self (List.getElem?_eq_some_iff.mp h2).1,h3,h4,h5,⟨by rw[List.length_eraseIdx_of_lt hj];omega,fun y hy=>h6.el y (List.mem_of_mem_eraseIdx hy),h6.wb.erase⟩,(B'.cell (List.getElem?_set_ne (by omega))).mono (by omega),h8.set h3,fun z=>by omega⟩
 clear J1;rintro σ st4 J1;refine c_ (J 4) (fun nx hnx=>?_) ?_
 . have J1':=J1;obtain⟨a,ys,p,rfl,h2,h3,h4,h5,h6,h7,h8,h9⟩:=J1;refine eq2 (fun h=>cm ?_) fun h=>hnx _ _ (skip J1');obtain⟨rfl,rfl,B'⟩:=h9 (by omega);refine KC (fun K' q=>q) h2 ⟨Nat.le_of_ble_eq_true rfl,Nat.le_of_ble_eq_true rfl,n,2,_,rfl,B',by omega,by decide,by decide,fun r st5 r0 r1 B5 U5=>?_⟩;have e5:=(U5.same p (by omega)).trans h2
   have go:∀d:D,kI 2 d=true->(∃ys,st5[p]?=some (.lst ys))/\nK p [.int (j:Int),d] st5 fun _ st6=>nx [some (.ref n),some (.tup [a,.tup ys]),some a,some (.ref p),some (.int way),some (.int (j:Int))] st6:=fun d hd=>by
    refine P8 e5 ⟨by omega,by omega,by omega,by rw[sizeLine_eq];omega⟩ ?_;rw[Int.toNat_natCast];refine hnx _ _ ⟨a,_,p,rfl,List.getElem?_set_self (List.getElem?_eq_some_iff.mp e5).1,h3,h4,h5,⟨by rw[List.length_append,List.length_cons,List.length_take,List.length_drop];omega,fun y hy=>?_,(wb0.ins (Wy.sm hd)).mono (by decide)⟩,(B5.cell (List.getElem?_set_ne (by omega))).mono (by omega),(h8.trans (XU.upd U5)).set h3,fun z=>by omega⟩;rcases List.mem_append.mp hy with hy|hy
    . exact h6.el y (List.mem_of_mem_take hy)
    . rcases List.mem_cons.mp hy with rfl|hy
      . exact El.sm hd
      . exact h6.el y (List.mem_of_mem_drop hy)
   have:r=0\/r=1:=by omega
   rcases this with rfl|rfl
   . exact aA rfl rfl (go (.int 0) (by decide))
   . exact aA rfl rfl (go (.tup [.int 0,.int 1]) (by decide))
 clear J1;rintro σ st4 J1;refine c_ (J 5) (fun nx hnx=>?_) ?_
 . have J1':=J1;obtain⟨a,ys,p,rfl,h2,h3,h4,h5,h6,h7,h8,h9⟩:=J1;refine eq2 (fun h=>cm ?_) fun h=>hnx _ _ (skip J1');obtain⟨rfl,rfl,B'⟩:=h9 (by omega);refine told2 (fun ht=>cm ?_) (hnx _ _ (skip J1'));rcases hk with⟨hh,_⟩|⟨_,ps,rfl,p1,p8,hP⟩
   . rw[hh]at ht;injection ht with ht;exact absurd ht (by decide)
   refine tO (aD h2) fun ok aK=>⟨cF (by omega),?_⟩
   refine i0 (fun rest acc st'=>st4=st'/\∃i:Nat,i<=ps.length/\rest=(ps.map fj).drop i/\acc=(ps.take i).map wk) ?_ ?_ _ _ _ ⟨rfl,0,Nat.zero_le _,rfl,rfl⟩
   . rintro acc st' ⟨rfl,i,hi,hrest,rfl⟩
     have hil:ps.length<=i:=by
      have:=congrArg List.length hrest;rw[List.length_drop,List.length_map,List.length_nil]at this;omega
     rw[List.take_of_length_le hil];refine⟨aK _ (aD h2),hnx _ _ ⟨a,ps.map wk,st4.length,rfl,List.getElem?_concat_length,h8.len,h4,h5,Ro.Gh p8 hP Jz fun q a h=>Lf h,(B'.cell (List.getElem?_append_left B'.lt)).mono (by omega),h8.push,fun z=>by omega⟩⟩
   . rintro x rest acc st' ⟨rfl,i,hi,hrest,rfl⟩ next
     have hil:i<ps.length:=by
      rcases Nat.lt_or_ge i ps.length with h|h
      . exact h
      . rw[List.drop_eq_nil_of_le (by rw[List.length_map];exact h)]at hrest;cases hrest
     rw[List.drop_eq_getElem_cons (by rw[List.length_map];exact hil),List.getElem_map]at hrest;obtain⟨rfl,rfl⟩:=List.cons.inj hrest;have fin:dk (bN 0) cw _ ok _ ((ps.map fj).drop (i+1)) ((ps.take i).map wk++[wk ps[i]]) st4 _:=next _ _ ⟨rfl,i+1,hil,rfl,by rw[List.take_succ_eq_append_getElem hil,List.map_append];rfl⟩
     refine⟨aK _ (aD h2),_,rfl,aA rfl rfl (g6 (by decide) ?_)⟩;unfold wk at fin;refine eq2 (fun hm=>cm ?_) fun hm=>?_
     . rw[if_pos hm]at fin;exact aA rfl rfl (cM (l7 (by decide) (by decide)) (aA rfl rfl ⟨Nat.le_of_ble_eq_true rfl,fin⟩))
     . rw[if_neg hm]at fin;exact aA rfl rfl (aA rfl rfl (tR (by decide) (by decide) ⟨Nat.le_of_ble_eq_true rfl,fin⟩))
 clear J1;rintro σ st4 J1;refine c_ (J 6) (fun nx hnx=>?_) ?_
 . have J1':=J1;obtain⟨a,ys,p,rfl,h2,h3,h4,h5,h6,h7,h8,h9⟩:=J1;refine eq2 (fun h=>cm ?_) fun h=>hnx _ _ (skip J1');obtain⟨rfl,rfl,B'⟩:=h9 (by omega);refine told2 (fun ht=>cm ?_) (hnx _ _ (skip J1'));rcases hk with⟨hh,_⟩|⟨_,ps,rfl,p1,p8,hP⟩
   . rw[hh]at ht;injection ht with ht;exact absurd ht (by decide)
   refine tO (aD h2) fun ok aK=>⟨cF (by omega),?_⟩
   refine comp_map (g:=fun x=>match x with| .tup [.int u,.int v]=> .tup [.int (2*u),.int (2*v)]|_=> .aE) (aK _ (aD h2)) _ (fun x hx K' q=>?_) ?_
   . obtain⟨r,_,rfl⟩:=List.mem_map.mp hx;exact⟨_,rfl,aA rfl rfl (cM (gR (by decide) (by decide)) (aA rfl rfl (cM (gR (by decide) (by decide)) ⟨Nat.le_of_ble_eq_true rfl,q⟩)))⟩
   . rw[List.map_map];exact hnx _ _ ⟨a,ps.map dbl,st4.length,rfl,List.getElem?_concat_length,h8.len,h4,h5,Ro.Gh p8 hP (fun q=>⟨_,_,rfl⟩) fun q a h=>Mm h,(B'.cell (List.getElem?_append_left B'.lt)).mono (by omega),h8.push,fun z=>by omega⟩
 clear J1;rintro σ st4 J1;refine c_ (J 7) (fun nx hnx=>?_) ?_
 . have J1':=J1;obtain⟨a,ys,p,rfl,h2,h3,h4,h5,h6,h7,h8,h9⟩:=J1;refine eq2 (fun h=>cm ?_) fun h=>hnx _ _ (skip J1');obtain⟨rfl,rfl,B'⟩:=h9 (by omega);refine tO (aD h2) fun ok aK=>⟨cF (by omega),?_⟩
   refine comp_map (g:=fun _=>if bU a (.str "none")=true then .tup [.int 0,.int 1]else .int 0) (aK _ (aD h2)) _ (fun x hx K' q=>?_) ?_
   . refine⟨_,rfl,Nat.le_of_ble_eq_true rfl,Nat.le_of_ble_eq_true rfl,mK (fR h5 (by decide)) rfl (J5 ?_)⟩;cases hz:bU a (.str "none")with
     |true=>rw[hz]at q;exact aA rfl rfl q
     |false=>rw[hz]at q;exact aA rfl rfl q
   . refine hnx _ _ ⟨a,_,st4.length,rfl,List.getElem?_concat_length,h8.len,h4,h5,⟨by rw[List.length_map];omega,fun y hy=>?_,(WB.all (c:=3) fun y hy=>?_).mono (by rw[List.length_map];omega)⟩,(B'.cell (List.getElem?_append_left B'.lt)).mono (by omega),h8.push,fun z=>by omega⟩
     all_goals
      obtain⟨_,_,rfl⟩:=List.mem_map.mp hy;split
     . exact El.two rfl
     . exact El.int
     . exact Wy.sm (by decide)
     . exact Wy.sm (by decide)
 clear J1;rintro σ st4 J1;refine c_ (J 8) (fun nx hnx=>?_) ?_
 . have J1':=J1;obtain⟨a,ys,p,rfl,h2,h3,h4,h5,h6,h7,h8,h9⟩:=J1;refine eq2 (fun h=>cm ?_) fun h=>hnx _ _ (skip J1');obtain⟨rfl,rfl,B'⟩:=h9 (by omega);refine told2 (fun ht=>cm ?_) (hnx _ _ (skip J1'));rcases hk with⟨_,W,rfl,p1,p8⟩|⟨hh,_⟩
   . have hj':j<W.length:=by rw[List.length_map]at hj;exact hj
     refine aA (e:= .int W[j]) (aD h2) (jm (j:=j) (by unfold aB;rw[List.getElem?_map,List.getElem?_eq_getElem hj'];rfl)) (eh ?_);refine lI (ys:=(aB W).set j (.int (W[j]+1))) h2 (tD (by omega) (by omega)) (by rw[Int.toNat_natCast]) fun st6 e6 U6=>?_;exact hnx _ _ ⟨a,_,p,rfl,e6,h3,h4,h5,Fj h6 El.int Wy.int ((wb0.set Wy.int).mono (by decide)),(B'.cell (U6.same n (by omega))).mono (by omega),h8.GW U6 h3,fun z=>by omega⟩
   . rw[hh]at ht;injection ht with ht;exact absurd ht (by decide)
 clear J1;rintro σ st4 J1;refine c_ (J 9) (fun nx hnx=>?_) ?_
 . have J1':=J1;obtain⟨a,ys,p,rfl,h2,h3,h4,h5,h6,h7,h8,h9⟩:=J1;refine eq2 (fun h=>cm ?_) fun h=>hnx _ _ (skip J1');obtain⟨rfl,rfl,B'⟩:=h9 (by omega);refine⟨Nat.le_of_ble_eq_true rfl,dB (aD h2) ⟨Nat.le_of_ble_eq_true rfl,Nat.le_of_ble_eq_true rfl,n,_,rfl,B',by omega,fun d st5 hd B5 U5=>?_⟩⟩;refine⟨Nat.le_of_ble_eq_true rfl,n,4,_,rfl,B5,by omega,by decide,by decide,fun r st6 r0 r1 B6 U6=>?_⟩;have go:∀c:D,qy c->K c st6:=fun c hc=>k c st6 hc (B6.mono (by omega)) ((h8.trans (XU.upd U5)).trans (XU.upd U6));have:r=0\/r=1\/r=2\/r=3:=by omega
   rcases this with rfl|rfl|rfl|rfl
   . exact aA rfl rfl (go _ (Ks h4 h5))
   . exact aA rfl rfl (go _ (D8 h4 h5 h6))
   . exact aA rfl rfl (go _ (xV hd))
   . exact aA rfl rfl (go _ (xV rfl))
 clear J1;rintro σ st4 J1;refine c_ (J 10) (fun nx hnx=>?_) ?_
 . have J1':=J1;obtain⟨a,ys,p,rfl,h2,h3,h4,h5,h6,h7,h8,h9⟩:=J1;refine eq2 (fun h=>cm ?_) fun h=>hnx _ _ (skip J1');obtain⟨rfl,rfl,B'⟩:=h9 (by omega);refine⟨n,_,rfl,B',by omega,fun d st5 hd B5 U5=>⟨Nat.le_of_ble_eq_true rfl,?_⟩⟩;refine k _ st5 (qI rfl h4 ?_ (El.sh hd) fun ys hy=>(WB.all (c:=3) fun y hm p q e=>?_).mono ?_) (B5.mono (by omega)) (h8.trans (XU.upd U5))
   . unfold pl;rw[List.all_cons,List.all_cons,fR h5 (show 1<=9 by decide),fR (Dt hd) (show 2<=9 by decide)];rfl
   . obtain⟨_,h4⟩:=gS ((gS hd hy).2 y hm) e;exact⟨wx (h4 _ List.mem_cons_self),wx (h4 _ (List.mem_cons_of_mem _ List.mem_cons_self))⟩
   . have:=(gS hd hy).1;omega
 clear J1;rintro σ st4 J1;refine c_ (J 11) (fun nx hnx=>?_) ?_
 . have J1':=J1;obtain⟨a,ys,p,rfl,h2,h3,h4,h5,h6,h7,h8,h9⟩:=J1;refine eq2 (fun h=>cm ?_) fun h=>hnx _ _ (skip J1');obtain⟨rfl,rfl,B'⟩:=h9 (by omega);refine told2 (fun ht=>cm ?_) (hnx _ _ (skip J1'));rcases hk with⟨hh,_⟩|⟨_,ps,rfl,p1,p8,hP⟩
   . rw[hh]at ht;injection ht with ht;exact absurd ht (by decide)
   refine tO (aD h2) fun ok aK=>⟨cF (by omega),?_⟩
   refine comp_map (g:=fun x=>match x with| .tup xs=> .lst xs|_=> .aE) (aK _ (aD h2)) _ (fun x hx K' q=>?_) ?_
   . obtain⟨r,_,rfl⟩:=List.mem_map.mp hx;exact⟨_,rfl,jj rfl q⟩
   . rw[List.map_map];exact⟨Nat.le_of_ble_eq_true rfl,k _ st4 (BV h4 h5 (Ro.Gh (f:=fun q=> .lst [.int q.num,.int ((q.den:Nat):Int)]) p8 hP (fun q=>⟨_,_,rfl⟩) fun q a h p r e=>by cases e;exact zx h _ _ rfl)) (B'.mono (by omega)) h8⟩
 clear J1;rintro σ st4 ⟨a,ys,p,rfl,h2,h3,h4,h5,h6,h7,h8,h9⟩;refine F4 rfl h2 ?_;have B':=h7.cell (st':=st4.set p .dead) (List.getElem?_set_ne (by omega));refine dB rfl ⟨Nat.le_of_ble_eq_true rfl,Nat.le_of_ble_eq_true rfl,Nat.le_of_ble_eq_true rfl,n,2,_,rfl,B',by omega,by decide,by decide,fun r st6 r0 r1 B6 U6=>?_⟩;have go:∀c:D,qy c->K c st6:=fun c hc=>k c st6 hc (B6.mono (by omega)) ((h8.set h3).trans (XU.upd U6));have:r=0\/r=1:=by omega
 rcases this with rfl|rfl
 . exact aA rfl rfl (go _ (wZ h4 h5 h6))
 . exact aA rfl rfl (go _ (BV h4 h5 h6))
def pZ:cA:=fun ds st K=>∃(n:Nat) (b:Int) (A:List (List Int)) (N w:Nat),ds=[.ref n,eC A]/\Mx.dY N w A/\1<=N/\N<=8/\1<=w/\w<=8/\Hd st n b/\b<=400000/\∀d st',qy d->Hd st' n (b+30)->XU st n st'->K d st'
def mF:List Str:=["_law_hand_here","_law_rows_here","_law_parts","_law_k","_law_bottom"]
def Bz:DS:=(aF (cO (aR (au dE (aC bo (ae (af 0) (ae (dC (.int 2)) ao))) (dC (.int 0)))) (bc (c5 (ae (dC (.str "told")) (ae (bw d9 (ae (dH (dJ (af 1)) [none,some 0] (bN 0) cw (au lb (aC bo (ae (af 1) (ae (dC (.int 5)) ao))) (dC (.int 2)))) ao)) ao)))) bY)
 (aF (a7 2 (w6 ao))
 (aF (iN (fO (ae (bw dR (ae (au aS (af 1) (dC (.int 0))) ao)) ao)) (bN 3) (aF (a7 4 (au d6 (dC (.int 1)) (aC bo (ae (af 0) (ae (dC (.int 4)) ao)))))
 (jy (lY (af 2) (aC kR (ae (au lb (aC bo (ae (af 0) (ae (dC (.int 7)) ao))) (dC (.int 3))) (ae (af 4) ao)))))))
 (qJ 2 (bc (c5 (ae (dC (.str "none")) (ae (af 2) ao))))))))
theorem A7:∀ds st K,pZ ds st K->ds.length=2/\Bz {nx:=fun _ st'=>K .aE st',rt:=K} (aU mF ds) st:=by
 rintro ds st K ⟨n,b,A,N,w,rfl,hA,n1,n8,w1,w8,B,hb,k⟩;refine⟨rfl,?_⟩;have lA:=hA.len;have rw0:=hA.row (i:=0) n1;refine⟨n,2,_,rfl,B,by omega,by decide,by decide,fun r st1 _ _ B1 U1=>?_⟩;have X1:=XU.upd U1;clear U1;refine eq2 (fun _=>cm ?_) fun _=>?_
 . refine iD ⟨cF (by rw[List.length_map];omega),?_⟩;refine i0 (fun rest acc st'=>∃(i:Nat) (W:List Int),i<=N/\rest=(A.map bW).drop i/\acc=aB W/\W.length=i/\Hd st' n (b+1+i)/\XU st n st') ?_ ?_ _ _ _ ⟨0,[],Nat.zero_le _,rfl,rfl,rfl,B1.mono (by omega),X1⟩
   . rintro acc st' ⟨i,W,hi,hrest,rfl,lW,B',X'⟩;have:=drop_nil hrest;exact⟨trivial,dB rfl ⟨Nat.le_of_ble_eq_true rfl,k _ st' (wZ rfl rfl (Kd.ro (a:= .str "told") (.inl ⟨rfl,W,rfl,by omega,by omega⟩)).1) (B'.mono (by omega)) X'⟩⟩
   . rintro d rest acc st' ⟨i,W,hi,hrest,rfl,lW,B',X'⟩ next
     obtain⟨hiA,rfl,rfl⟩:=drop_cons hrest;refine⟨trivial,_,rfl,n,5,_,rfl,B',by omega,by decide,by decide,fun r2 st2 _ _ B2 U2=>jF ?_⟩;refine next _ _ ⟨i+1,W++[r2-2],by omega,rfl,by simp[aB],by rw[List.length_append,lW];rfl,B2.mono (by omega),X'.trans (XU.upd U2)⟩
 . have hn:=B1.lt;refine⟨Nat.zero_le _,?_⟩;refine aA rfl (show dU (A.map bW) 0=some (bW (A.getD 0 []))from xH (k:=0) (by omega)) (cT rfl (iB ?_ ?_))
   . rw[List.length_map,rw0];omega
   rw[List.length_map,rw0,Int.toNat_natCast];refine L3.ke w (fun i σ st'=>∃(ys:List D) (v3 v4:Option D),σ=[some (.ref n),some (eC A),some (.ref st1.length),v3,v4]/\st'[st1.length]?=some (.lst ys)/\ys.length=i/\(∀y∈ys,∃p q:Int,y= .tup [.int p,.int q]/\p.natAbs<=8/\q.natAbs<=8)/\Hd st' n (b+1+2*i)/\XU st n st') ?_ ?_ ⟨[],none,none,rfl,List.getElem?_concat_length,rfl,fun _ h=>(by cases h),(B1.cell (List.getElem?_append_left hn)).mono (by omega),X1.push⟩
   . rintro σ st' ⟨ys,v3,v4,rfl,e,ly,hy,B',X'⟩;refine F4 rfl e ⟨Nat.le_of_ble_eq_true rfl,?_⟩
     have R:Ro ys:=⟨by omega,fun y hm=>by
      obtain⟨p,q,rfl,_⟩:=hy y hm;exact El.two rfl,(WB.all (c:=3) fun y hm=>by
      obtain⟨p,q,rfl,h1,h2⟩:=hy y hm;exact yP h1 h2).mono (by omega)⟩
     refine k _ _ (qI rfl rfl ?_ (R.sh rfl) fun zs hz=>by cases hz;exact R.wb.mono (by decide)) ((B'.cell (List.getElem?_set_ne (by omega))).mono (by omega)) (X'.set X1.len);unfold pl;rw[List.all_cons,List.all_cons];unfold pl;rw[R.pl (by decide)];rfl
   . rintro i σ st' rest hi ⟨ys,v3,v4,rfl,e,ly,hy,B',X'⟩ next
     refine⟨_,rfl,n,4,_,rfl,B',by omega,by decide,by decide,fun r2 st2 a1 a2 B2 U2=>eh ?_⟩;have e2:=(U2.same st1.length (by omega)).trans e;refine AZ (by rfl) e2 ⟨n,7,_,rfl,B2,by omega,by decide,by decide,fun r3 st3 a3 a4 B3 U3=>jF ?_⟩;have e3:=(U3.same st1.length (by omega)).trans e2;obtain⟨j,rfl⟩:=Int.eq_ofNat_of_zero_le a1;refine⟨r3-3,1+j,by rw[Int.natCast_add];rfl,by omega,?_⟩;have hg:0<((Nat.gcd (r3-3).natAbs (1+j):Nat):Int):=Int.natCast_pos.mpr (Nat.gcd_pos_of_pos_right _ (by omega));have q1:=Mx.i8 (r3-3) hg;have q2:=Mx.i8 ((1+j:Nat):Int) hg;refine xQ e3 (by rw[sizeLine_eq];omega) (next _ _ ⟨_,_,_,rfl,List.getElem?_set_self (List.getElem?_eq_some_iff.mp e3).1,by rw[List.length_append,ly];rfl,fun y hm=>?_,(B3.cell (List.getElem?_set_ne (by omega))).mono (by omega),((X'.trans (XU.upd U2)).trans (XU.upd U3)).set X1.len⟩);rcases List.mem_append.mp hm with hm|hm
     . exact hy y hm
     . exact⟨_,_,List.mem_singleton.mp hm,by omega,by omega⟩
abbrev HJ:cA:=EV Mu
def yT:List Str:=["_law_script","_law_hand_here","_law_rows_here","_law_row_here","_law_told","_law_turn","_law_bent_here","_law_found"]
def O3:DS:=(aF (a7 1 (aC qM (ae (af 0) ao)))
 (aF (a7 2 (aC lx (ae (af 1) (ae (dC (.int 8)) ao))))
 (aF (a7 3 (aC sJ (ae (af 1) (ae (af 2) ao))))
 (aF (a7 4 (aC uX (ae (af 2) (ae (af 3) ao))))
 (aF (cO (aR (au pG (aC jw (ae (af 2) (ae (af 3) (ae (af 4) ao)))) (dC (.bl true)))) (bc (dC (.bl false))) bY)
 (aF (iN (fO (ae (dC (.int 6)) ao)) (bN 5) (aF (a7 6 (aC rF (ae (af 1) (ae (af 4) ao))))
 (aF (cO (aR (au dE (af 5) (dC (.int 5)))) (a7 6 (aC pZ (ae (af 1) (ae (af 2) ao)))) bY)
 (aF (a7 7 (aC jw (ae (dH (dJ (af 2)) [none] (bN 0) cw (bw jr (ae (af 0) ao))) (ae (bw jr (ae (af 3) ao)) (ae (af 6) ao)))))
 (cO (nj (j6 (aR (bw fJ (ae (af 7) (ae (dC (.ty "bool")) ao))))) (aR (au kO (af 7) (aC pN (ae (af 2) (ae (af 3) (ae (af 6) ao))))))) (bc (dC (.bl false))) bY)))))
 (bc (dC (.bl true)))))))))
theorem Om{A:List (List Int)}{N w:Nat}{r:List Int}{x:D}(h:Lx A N w r x)(n1:1<=N)(n8:N<=8)(w1:1<=w)(w8:w<=8):∃a ys,x= .tup [a,.tup ys]/\Kd a ys:=by
 rcases h with⟨W,rfl,lW,_⟩|⟨ps,rfl,lp,hP,_⟩
 . exact⟨_,_,rfl,.inl ⟨rfl,W,rfl,by omega,by omega⟩⟩
 . exact⟨_,_,rfl,.inr ⟨rfl,ps,rfl,by omega,by omega,hP⟩⟩
theorem Hz(W:List Int):(aB W).map pA=W:=by
 unfold aB;rw[List.map_map];exact(List.map_congr_left fun x _=>rfl).trans (List.map_id _)
theorem Jx(ps:List Rat):(ps.map fj).map toQ=ps:=by
 rw[List.map_map];refine(List.map_congr_left fun x _=>?_).trans (List.map_id _);exact x.num_divInt_den
theorem OT{A:List (List Int)}{N w:Nat}{r:List Int}{x:D}(P:AN A N w r)(h:Lx A N w r x):Fd A r N w x=true:=by
 obtain⟨hA,n1,n8,w8,bA,lr,br⟩:=P;have lA:=hA.len;rcases h with⟨W,rfl,lW,hs⟩|⟨ps,rfl,lp,hP,hw,hn⟩
 . show wB A r N w (bW W)=true;show(decide ((aB W).length=N)&&(aB W).all isInt&&decide (Mx.dP ((aB W).map pA) A (List.replicate w 0)=r))=true
   have e:Mx.dP W A (List.replicate w 0)=r:=by
    refine Mx.JK (Mx.pC (by simp) hA.lB) lr fun j hj=>?_;rw[Mx.rl (n:=w) j (by simp) hA.lB (by omega),Mx.d7,Int.zero_add,lA];exact hs j hj
   rw[Hz,decide_eq_true e,decide_eq_true (by rw[List.length_map];exact lW),Bool.true_and,Bool.and_true];refine List.all_eq_true.mpr fun y hy=>?_;obtain⟨i,_,rfl⟩:=List.mem_map.mp hy;rfl
 . show pB A r w (.tup (ps.map fj))=true;show(decide ((ps.map fj).length=w)&&(ps.map fj).all iu&& !pe (Mx.fE 0 ((ps.map fj).map toQ) r)&&A.all fun s=>pe (Mx.fE 0 ((ps.map fj).map toQ) s))=true
   have e1:(ps.map fj).all iu=true:=List.all_eq_true.mpr fun y hy=>by
    obtain⟨q,_,rfl⟩:=List.mem_map.mp hy;show(decide _&&decide _)=true;rw[decide_eq_true (Int.natCast_pos.mpr q.den_pos),decide_eq_true (show Nat.gcd q.num.natAbs ((q.den:Nat):Int).natAbs=1 from q.reduced)];rfl
   have e2:pe (Mx.fE 0 ps r)=false:=by
    rw[G0 lp lr];exact decide_eq_false fun z=>hn (Mx.Wh.den.mpr z)
   have e3:(A.all fun s=>pe (Mx.fE 0 ps s))=true:=List.all_eq_true.mpr fun s hs=>by
    obtain⟨i,hi,rfl⟩:=List.mem_iff_getElem.mp hs;rw[G0 lp (hA.lB _ hs)]
    have e:(fun c=>(A[i]).getD c 0)=Mx.g A i:=by
     funext c;unfold Mx.g;rw[Mx.bQ hi]
    rw[e];exact decide_eq_true (Mx.Wh.den.mp (hw i (by omega)))
   rw[Jx,e1,e2,e3,decide_eq_true (by rw[List.length_map];exact lp)];rfl
theorem Lc:∀ds st K,HJ ds st K->ds.length=1/\O3 {nx:=fun _ st'=>K .aE st',rt:=K} (aU yT ds) st:=by
 rintro ds st K ⟨ns,rfl,hl,hst,k⟩;refine⟨rfl,?_⟩;have l0:st.length=1:=by rw[hst];rfl
 have t0:st[0]?=some (g4 false):=by rw[hst];rfl
 clear hst;refine⟨ns,rfl,hl,fun st1 B1 X1=>?_⟩;refine⟨_,_,8,rfl,B1,by decide,by decide,by decide,fun N w A st2 N1 N8 w1 w8 hA hb B2 X2=>?_⟩;have bA:∀r∈A,∀x∈r,x.natAbs<=2^48:=fun r hr x hx=>Nat.le_trans (hb r hr x hx) (by decide);have t1:st1[0]?=some (g4 false):=by rw[X1.same 0 (by omega)];exact t0
 have l1:=X1.len;have l2:=X2.len;have t2:st2[0]?=some (g4 false):=by rw[X2.same 0 (by omega) (by omega)];exact t1
 refine⟨_,_,A,N,w,rfl,B2,by decide,hA,N1,N8,w1,w8,bA,fun st3 r lr br B3 X3=>?_⟩;have t3:st3[0]?=some (g4 false):=by rw[X3.same 0 (by omega) (by omega)];exact t2
 have P:AN A N w r:=⟨hA,N1,N8,w8,bA,lr,br⟩
 have hAl:A.length<=1000:=by rw[hA.len];omega
 refine⟨_,_,A,r,N,w,false,rfl,xO,rfl,P,t3,fun st4 x K4 hR hS=>?_⟩;have B4:=B3.cell (K4.fr _ B3.lt (by omega));obtain⟨a,ys,rfl,hk⟩:=Om hS N1 N8 w1 w8;obtain⟨R,y1,y8⟩:=hk.ro
 have ha:aq a=none/\pl 1 a=true:=by
  rcases hk with⟨rfl,_⟩|⟨rfl,_⟩<;>exact⟨rfl,rfl⟩
 refine⟨_,_,_,A,r,N,w,rfl,xO,rfl,P,wZ ha.1 ha.2 R,?_⟩;rw[OT P hS];refine Ow rfl ?_;clear B1 X1 B2 X2 B3 X3 t0 t1 t2 t3 hb hR K4 l1 l2;dsimp only;refine iB ⟨by decide,by decide⟩ ?_;refine L3.ke 6 (fun i σ st'=>(∃v5 v6 v7:Option D,σ=[some (.lst (ns.map .int)),some (.ref st.length),some (eC A),some (bW r),some (.tup [a,.tup ys]),v5,v6,v7])/\Hd st' st.length (1000+100*i)) ?_ ?_ ⟨⟨none,none,none,rfl⟩,B4.mono (by decide)⟩
 . rintro σ st' ⟨⟨v5,v6,v7,rfl⟩,B'⟩;exact k _
 . rintro i σ st' rest hi ⟨⟨v5,v6,v7,rfl⟩,B'⟩ next
   refine⟨_,rfl,st.length,_,a,ys,rfl,hk,B',by omega,fun d st5 hd B5 X5=>?_⟩;dsimp only;refine c_ (A:=cO _ _ _) (fun σ st'=>∃d,qy d/\σ=[some (.lst (ns.map .int)),some (.ref st.length),some (eC A),some (bW r),some (.tup [a,.tup ys]),some (.int i),some d,v7]/\Hd st' st.length (1000+100*i+60)) (fun nx hnx=>?_) ?_
   . refine eq2 (fun h=>cm ?_) fun h=>hnx _ _ ⟨d,hd,rfl,B5.mono (by omega)⟩;refine⟨st.length,_,A,N,w,rfl,hA,N1,N8,w1,w8,B5,by omega,fun d2 st6 hd2 B6 X6=>?_⟩;exact hnx _ _ ⟨d2,hd2,rfl,B6.mono (by omega)⟩
   rintro _ st6 ⟨d,hd,rfl,B6⟩;refine iD ⟨cF (by rw[List.length_map];exact hAl),?_⟩;refine jg bD trivial cU.tup (fun d q _ he K' t=>⟨_,rfl,jj he t⟩) ?_;dsimp only[ae,bw,ao];refine FU (d:=bW r) rfl ?_;refine jj (xs:=aB r) rfl ?_;refine⟨_,_,_,A,r,N,w,rfl,⟨_,rfl,cU.lst⟩,rfl,P,hd,?_⟩;refine iX rfl (by decide) ?_;refine⟨A,r,N,w,d,rfl,P,hd,?_⟩;refine Nu ?_;rw[decide_eq_true rfl];exact next _ _ ⟨⟨_,_,_,rfl⟩,B6.mono (by omega)⟩
end Prog
namespace Row
open PySem L2 L3 Prog
open PySem.Spec hiding items?
open PyProof.Rows hiding St
theorem vP:(("int":Str))≠"__name__":=by decide+kernel
theorem c6:(("isinstance":Str))≠"__name__":=by decide+kernel
theorem t6:(("bool":Str))≠"__name__":=by decide+kernel
theorem cY:(("tuple":Str))≠"__name__":=by decide+kernel
theorem eV:(("list":Str))≠"__name__":=by decide+kernel
theorem cS:(("len":Str))≠"__name__":=by decide+kernel
theorem ql:(("all":Str))≠"__name__":=by decide+kernel
theorem oq:(("abs":Str))≠"__name__":=by decide+kernel
theorem Nr:(("str":Str))≠"__name__":=by decide+kernel
theorem Lj:(("sum":Str))≠"__name__":=by decide+kernel
theorem EU:(("max":Str))≠"__name__":=by decide+kernel
structure Bl(mg:Str->Option Value):Prop where
 yW:mg "int"=none
 dh:mg "isinstance"=none
 vx:mg "bool"=none
 dm:mg "tuple"=none
 fU:mg "list"=none
 di:mg "len"=none
 tX:mg "all"=none
 rg:mg "abs"=none
 rD:mg "zip"=none
 gb:mg "range"=none
 A_:mg "enumerate"=none
 Hg:mg "sorted"=none
 O0:mg "str"=none
 Od:mg "sum"=none
 Ik:mg "max"=none
structure Kl(K:PySem.W.Frag)(mg:Str->Option Value):Prop where
 a9:ClsAt K mg "Bench" aI
 cC:gq K aI "body"
 eH:gq K aI "turn"
 cK:gq K aI "back_columns"
theorem eF:VS (aj iy) mG ["int","isinstance","bool"]:=⟨by decide+kernel⟩
theorem Au:aN mG ["thing"] (aj iy):=⟨rfl,rfl,rfl,by decide+kernel,rfl,by decide+kernel,by decide+kernel⟩
theorem gz:VS (aj ix) mE ["tuple","list","isinstance"]:=⟨by decide+kernel⟩
theorem Av:aN mE ["thing"] (aj ix):=⟨rfl,rfl,rfl,by decide+kernel,rfl,by decide+kernel,by decide+kernel⟩
theorem eS:VS (aj fP) jf ["is_listed","len"]:=⟨by decide+kernel⟩
theorem vG:aN jf ["thing","many"] (aj fP):=⟨rfl,rfl,rfl,by decide+kernel,rfl,by decide+kernel,by decide+kernel⟩
theorem fy:VS (aj fA) jT ["is_listed_of","all"]:=⟨by decide+kernel⟩
theorem xp:aN jT ["thing","many"] (aj fA):=⟨rfl,rfl,rfl,by decide+kernel,rfl,by decide+kernel,by decide+kernel⟩
theorem dM:VS (aj l_) rJ ["abs"]:=⟨by decide+kernel⟩
theorem ki:aN rJ ["one","other"] (aj l_):=⟨rfl,rfl,rfl,by decide+kernel,rfl,by decide+kernel,by decide+kernel⟩
theorem iq:VS (aj qC) vO ["common"]:=⟨by decide+kernel⟩
theorem lD:aN vO ["top","bottom"] (aj qC):=⟨rfl,rfl,rfl,by decide+kernel,rfl,by decide+kernel,by decide+kernel⟩
theorem mW:VS (aj p_) v_ ["part"]:=⟨by decide+kernel⟩
theorem KD:aN v_ ["one","other"] (aj p_):=⟨rfl,rfl,rfl,by decide+kernel,rfl,by decide+kernel,by decide+kernel⟩
theorem kq:VS (aj og) uc ["part"]:=⟨by decide+kernel⟩
theorem GX:aN uc ["one","other"] (aj og):=⟨rfl,rfl,rfl,by decide+kernel,rfl,by decide+kernel,by decide+kernel⟩
theorem nW:VS (aj oj) t5 ["part"]:=⟨by decide+kernel⟩
theorem He:aN t5 ["one","other"] (aj oj):=⟨rfl,rfl,rfl,by decide+kernel,rfl,by decide+kernel,by decide+kernel⟩
theorem qt:VS (aj qh) vS ["part"]:=⟨by decide+kernel⟩
theorem Kk:aN vS ["one","other"] (aj qh):=⟨rfl,rfl,rfl,by decide+kernel,rfl,by decide+kernel,by decide+kernel⟩
theorem J9:VS (aj oi) tP []:=⟨by decide+kernel⟩
theorem GK:aN tP ["n"] (aj oi):=⟨rfl,rfl,rfl,by decide+kernel,rfl,by decide+kernel,by decide+kernel⟩
theorem g9:VS (aj ky) oY ["are_numbers","common"]:=⟨by decide+kernel⟩
theorem DP:aN oY ["thing"] (aj ky):=⟨rfl,rfl,rfl,by decide+kernel,rfl,by decide+kernel,by decide+kernel⟩
theorem tJ:VS (aj i9) o5 ["tuple"]:=⟨by decide+kernel⟩
theorem DH:aN o5 ["rows"] (aj i9):=⟨rfl,rfl,rfl,by decide+kernel,rfl,by decide+kernel,by decide+kernel⟩
theorem xl:VS (aj mf) ui ["zip"]:=⟨by decide+kernel⟩
theorem Ga:aN ui ["row","times","other"] (aj mf):=⟨rfl,rfl,rfl,by decide+kernel,rfl,by decide+kernel,by decide+kernel⟩
theorem eG:VS (aj lX) rk ["zip","added","tuple"]:=⟨by decide+kernel⟩
theorem o8:aN rk ["weights","rows","wide"] (aj lX):=⟨rfl,rfl,rfl,by decide+kernel,rfl,by decide+kernel,by decide+kernel⟩
theorem vk:VS (aj j8) rL ["tuple"]:=⟨by decide+kernel⟩
theorem ET:aN rL ["rows","place"] (aj j8):=⟨rfl,rfl,rfl,by decide+kernel,rfl,by decide+kernel,by decide+kernel⟩
theorem jU:VS (aj fx) j0 ["range","tuple"]:=⟨by decide+kernel⟩
theorem xq:aN j0 ["rows","wide"] (aj fx):=⟨rfl,rfl,rfl,by decide+kernel,rfl,by decide+kernel,by decide+kernel⟩
theorem nP:VS (aj ia) nG ["range","tuple"]:=⟨by decide+kernel⟩
theorem BE:aN nG ["n","place"] (aj ia):=⟨rfl,rfl,rfl,by decide+kernel,rfl,by decide+kernel,by decide+kernel⟩
theorem mJ:VS (aj gD) mq ["range","tuple"]:=⟨by decide+kernel⟩
theorem AE:aN mq ["n"] (aj gD):=⟨rfl,rfl,rfl,by decide+kernel,rfl,by decide+kernel,by decide+kernel⟩
theorem oX:VS (aj kB) pf ["enumerate"]:=⟨by decide+kernel⟩
theorem vV:aN pf ["row"] (aj kB):=⟨rfl,rfl,rfl,by decide+kernel,rfl,by decide+kernel,by decide+kernel⟩
theorem je:VS (aj eA) gf []:=⟨by decide+kernel⟩
theorem iQ:aN gf ["top","bottom"] (aj eA):=⟨rfl,rfl,rfl,by decide+kernel,rfl,by decide+kernel,by decide+kernel⟩
theorem dn:VS (aj iA) mL ["list"]:=⟨by decide+kernel⟩
theorem sy:aN mL ["rows","k","other"] (aj iA):=⟨rfl,rfl,rfl,by decide+kernel,rfl,by decide+kernel,by decide+kernel⟩
theorem FO:VS (aj i_) pj []:=⟨by decide+kernel⟩
theorem C6:aN pj ["row"] (aj i_):=⟨rfl,rfl,rfl,by decide+kernel,rfl,by decide+kernel,by decide+kernel⟩
theorem bX:VS (aj df) ij ["len","unit_rows"]:=⟨by decide+kernel⟩
theorem uj:aN ij ["self","rows"] (aj df):=⟨rfl,rfl,rfl,by decide+kernel,rfl,by decide+kernel,by decide+kernel⟩
theorem a8:VS (aj g0) kM ["added"]:=⟨by decide+kernel⟩
theorem yx:aN kM ["self","k","times","other"] (aj g0):=⟨rfl,rfl,rfl,by decide+kernel,rfl,by decide+kernel,by decide+kernel⟩
theorem bg:VS (aj e9) h_ ["exchanged"]:=⟨by decide+kernel⟩
theorem uq:aN h_ ["self","k","other"] (aj e9):=⟨rfl,rfl,rfl,by decide+kernel,rfl,by decide+kernel,by decide+kernel⟩
theorem aZ:VS (aj d4) fW ["negated"]:=⟨by decide+kernel⟩
theorem qQ:aN fW ["self","k"] (aj d4):=⟨rfl,rfl,rfl,by decide+kernel,rfl,by decide+kernel,by decide+kernel⟩
theorem dy:VS (aj dw) gG ["len","range","sorted"]:=⟨by decide+kernel⟩
theorem m7:aN gG ["self","top","place"] (aj dw):=⟨rfl,rfl,rfl,by decide+kernel,rfl,by decide+kernel,by decide+kernel⟩
theorem aH:VS (aj fN) jB ["len","nearest_quotient"]:=⟨by decide+kernel⟩
theorem gj:aN jB ["self","top","place"] (aj fN):=⟨rfl,rfl,rfl,by decide+kernel,rfl,by decide+kernel,by decide+kernel⟩
theorem cv:VS (aj dZ) fY ["range"]:=⟨by decide+kernel⟩
theorem fG:aN fY ["self","top","place"] (aj dZ):=⟨rfl,rfl,rfl,by decide+kernel,rfl,by decide+kernel,by decide+kernel⟩
theorem a_:VS (aj jo) ny ["Bench","len","range","turned_over","as_rows"]:=⟨by decide+kernel⟩
theorem iH:aN ny ["rows"] (aj jo):=⟨rfl,rfl,rfl,by decide+kernel,rfl,by decide+kernel,by decide+kernel⟩
theorem bL:VS (aj kg) oZ ["list","lead_of","added","tuple"]:=⟨by decide+kernel⟩
theorem hJ:aN oZ ["form","row"] (aj kg):=⟨rfl,rfl,rfl,by decide+kernel,rfl,by decide+kernel,by decide+kernel⟩
theorem cN:VS (aj iE) mB ["whole","zip","times","plus"]:=⟨by decide+kernel⟩
theorem la:aN mB ["parts","row"] (aj iE):=⟨rfl,rfl,rfl,by decide+kernel,rfl,by decide+kernel,by decide+kernel⟩
theorem d5:VS (aj iF) mn ["lead_of","abs"]:=⟨by decide+kernel⟩
theorem sV:aN mn ["form","rest","place"] (aj iF):=⟨rfl,rfl,rfl,by decide+kernel,rfl,by decide+kernel,by decide+kernel⟩
theorem ax:VS (aj fm) iU ["lead_of","whole","len","bottom_at","part","range","parts_dot","minus","over","tuple"]:=⟨by decide+kernel⟩
theorem eY:aN iU ["form","rest"] (aj fm):=⟨rfl,rfl,rfl,by decide+kernel,rfl,by decide+kernel,by decide+kernel⟩
theorem ck:VS (aj ma) rE ["standing","weighed","lead_of","parts_against","len","sum_by"]:=⟨by decide+kernel⟩
theorem o7:aN rE ["rows","row"] (aj ma):=⟨rfl,rfl,rfl,by decide+kernel,rfl,by decide+kernel,by decide+kernel⟩
theorem gu:VS (aj gv) my ["is_listed_of","all"]:=⟨by decide+kernel⟩
theorem zG:aN my ["thing","many"] (aj gv):=⟨rfl,rfl,rfl,by decide+kernel,rfl,by decide+kernel,by decide+kernel⟩
theorem C8:VS (aj jA) nN []:=⟨by decide+kernel⟩
theorem Bv:aN nN ["one"] (aj jA):=⟨rfl,rfl,rfl,by decide+kernel,rfl,by decide+kernel,by decide+kernel⟩
theorem cQ:VS (aj fT) kZ ["len","are_parts","parts_dot","is_whole","all"]:=⟨by decide+kernel⟩
theorem yy:aN kZ ["rows","row","parts"] (aj fT):=⟨rfl,rfl,rfl,by decide+kernel,rfl,by decide+kernel,by decide+kernel⟩
theorem bZ:VS (aj fM) jt ["len","are_numbers","sum_by","tuple"]:=⟨by decide+kernel⟩
theorem vI:aN jt ["rows","row","weights"] (aj fM):=⟨rfl,rfl,rfl,by decide+kernel,rfl,by decide+kernel,by decide+kernel⟩
theorem cy:VS (aj fQ) ji ["is_listed_of","weights_show","parts_show"]:=⟨by decide+kernel⟩
theorem wy:aN ji ["rows","row","told"] (aj fQ):=⟨rfl,rfl,rfl,by decide+kernel,rfl,by decide+kernel,by decide+kernel⟩
theorem Dr:VS (aj ig) nD []:=⟨by decide+kernel⟩
theorem Br:aN nD ["_law_script"] (aj ig):=⟨rfl,rfl,rfl,by decide+kernel,rfl,by decide+kernel,by decide+kernel⟩
theorem aP:VS (aj js) nJ ["len"]:=⟨by decide+kernel⟩
theorem gy:aN nJ ["_law_hand_here","_law_many"] (aj js):=⟨rfl,rfl,rfl,by decide+kernel,rfl,by decide+kernel,by decide+kernel⟩
theorem cq:VS (aj gY) k_ ["_law_draw"]:=⟨by decide+kernel⟩
theorem rQ:aN k_ ["_law_hand_here","_law_kind"] (aj gY):=⟨rfl,rfl,rfl,by decide+kernel,rfl,by decide+kernel,by decide+kernel⟩
theorem aT:VS (aj fI) nL ["range","_law_draw","list","zip","tuple"]:=⟨by decide+kernel⟩
theorem fe:aN nL ["_law_hand_here","_law_many","_law_wide","_law_kind"] (aj fI):=⟨rfl,rfl,rfl,by decide+kernel,rfl,by decide+kernel,by decide+kernel⟩
theorem cZ:VS (aj iG) mx ["_law_draw"]:=⟨by decide+kernel⟩
theorem AW:aN mx ["_law_hand_here"] (aj iG):=⟨rfl,rfl,rfl,by decide+kernel,rfl,by decide+kernel,by decide+kernel⟩
theorem cP:VS (aj ft) iS ["_law_sizes","_law_draw","_law_rows"]:=⟨by decide+kernel⟩
theorem oy:aN iS ["_law_hand_here","_law_kinds"] (aj ft):=⟨rfl,rfl,rfl,by decide+kernel,rfl,by decide+kernel,by decide+kernel⟩
theorem dg:VS (aj d8) kG ["abs"]:=⟨by decide+kernel⟩
theorem fv:aN kG ["_law_top","_law_bottom"] (aj d8):=⟨rfl,rfl,rfl,by decide+kernel,rfl,by decide+kernel,by decide+kernel⟩
theorem bK:VS (aj fw) jW ["list","tuple","isinstance","len","all","_law_lowest"]:=⟨by decide+kernel⟩
theorem wU:aN jW ["_law_found"] (aj fw):=⟨rfl,rfl,rfl,by decide+kernel,rfl,by decide+kernel,by decide+kernel⟩
theorem cR:VS (aj iw) mw ["zip"]:=⟨by decide+kernel⟩
theorem gT:aN mw ["_law_parts","_law_row_here"] (aj iw):=⟨rfl,rfl,rfl,by decide+kernel,rfl,by decide+kernel,by decide+kernel⟩
theorem ay:VS (aj fb) mD ["list","tuple","isinstance","len","str","all","range","_law_worth"]:=⟨by decide+kernel⟩
theorem gX:aN mD ["_law_rows_here","_law_row_here","_law_found"] (aj fb):=⟨rfl,rfl,rfl,by decide+kernel,rfl,by decide+kernel,by decide+kernel⟩
theorem bz:VS (aj g7) pF ["len","_law_draw","max","zip","tuple"]:=⟨by decide+kernel⟩
theorem kL:aN pF ["_law_hand_here","_law_rows_here"] (aj g7):=⟨rfl,rfl,rfl,by decide+kernel,rfl,by decide+kernel,by decide+kernel⟩
theorem fL:VS (aj kr) pE ["len","_law_draw"]:=⟨by decide+kernel⟩
theorem q_:aN pE ["_law_hand_here"] (aj kr):=⟨rfl,rfl,rfl,by decide+kernel,rfl,by decide+kernel,by decide+kernel⟩
theorem aw:VS (aj fh) nE ["list","_law_draw","len","max","_law_odd","tuple"]:=⟨by decide+kernel⟩
theorem fK:aN nE ["_law_hand_here","_law_told"] (aj fh):=⟨rfl,rfl,rfl,by decide+kernel,rfl,by decide+kernel,by decide+kernel⟩
theorem bO:VS (aj gw) mF ["_law_draw","tuple","len","range","_law_lowest"]:=⟨by decide+kernel⟩
theorem lh:aN mF ["_law_hand_here","_law_rows_here"] (aj gw):=⟨rfl,rfl,rfl,by decide+kernel,rfl,by decide+kernel,by decide+kernel⟩
theorem bJ:VS (aj nF) yT ["_law_hand","_law_some_rows","_law_row","inside","shows_inside","range","_law_bent","_law_drawn","list","bool","isinstance","_law_shown"]:=⟨by decide+kernel⟩
theorem kH:aN yT ["_law_script"] (aj nF):=⟨rfl,rfl,rfl,by decide+kernel,rfl,by decide+kernel,by decide+kernel⟩
structure Ev(w:World)(mg:Str->Option Value)(h:Heap):Prop where
 X:(KX w.params).In h
 G:h.Ns mainGlobals mg
section
variable {w:World}{mg:Str->Option Value}{h base:Heap}(e:Ev w mg h)
include e
theorem Bt:Bl mg:=⟨PySem.W.mg_none_of e.X e.G (by kernel_rfl),PySem.W.mg_none_of e.X e.G (by kernel_rfl),PySem.W.mg_none_of e.X e.G (by kernel_rfl),PySem.W.mg_none_of e.X e.G (by kernel_rfl),PySem.W.mg_none_of e.X e.G (by kernel_rfl),PySem.W.mg_none_of e.X e.G (by kernel_rfl),PySem.W.mg_none_of e.X e.G (by kernel_rfl),PySem.W.mg_none_of e.X e.G (by kernel_rfl),PySem.W.mg_none_of e.X e.G (by kernel_rfl),PySem.W.mg_none_of e.X e.G (by kernel_rfl),PySem.W.mg_none_of e.X e.G (by kernel_rfl),PySem.W.mg_none_of e.X e.G (by kernel_rfl),PySem.W.mg_none_of e.X e.G (by kernel_rfl),PySem.W.mg_none_of e.X e.G (by kernel_rfl),PySem.W.mg_none_of e.X e.G (by kernel_rfl)⟩
theorem Qt:Kl (KX w.params) mg:=⟨⟨⟨by kernel_rfl,by kernel_rfl,by kernel_rfl,by kernel_rfl⟩,PySem.W.mg_of e.X e.G (by kernel_rfl),by kernel_rfl,by kernel_rfl⟩,Hd.na (by kernel_rfl),Hd.na (by kernel_rfl),Hd.na (by kernel_rfl)⟩
theorem ux:bE (KX w.params) mg "is_number" "is_number" iy ["thing"] 21 (Hd.fd iy "is_number" "is_number" rR 20):=Hd.oR e.X e.G (by kernel_rfl) fun _ _ _ _ _ _ _=>rfl
theorem Bm:bf PW w (KX w.params) mg base cD 1 21 (Hd.fd iy "is_number" "is_number" rR 20) ["thing"] (cG pU):=by
 have B:=Bt e;have Q:=Qt e;exact bH (N:=mG) (ux e).fn Au (fun cdv A outer s H E hr=>(az (aL (kP (b_ jX (aa (eF.nm 0) (aa (jD B.yW rfl vP (eF.d 0) (eF.g 0)) ag)) B.dh rfl c6 (eF.d 1) (eF.g 1)) (mr (CM (b_ jX (aa (eF.nm 0) (aa (jD B.vx rfl t6 (eF.d 2) (eF.g 2)) ag)) B.dh rfl c6 (eF.d 1) (eF.g 1)))))))) As
theorem uE:bE (KX w.params) mg "is_listed" "is_listed" ix ["thing"] 28 (Hd.fd ix "is_listed" "is_listed" rR 27):=Hd.oR e.X e.G (by kernel_rfl) fun _ _ _ _ _ _ _=>rfl
theorem Bb:bf PW w (KX w.params) mg base cD 1 28 (Hd.fd ix "is_listed" "is_listed" rR 27) ["thing"] (cG p9):=by
 have B:=Bt e;have Q:=Qt e;exact bH (N:=mE) (uE e).fn Av (fun cdv A outer s H E hr=>(az (aL (b_ jX (aa (gz.nm 0) (aa (cH (aa (jD B.fU rfl eV (gz.d 1) (gz.g 1)) (aa (jD B.dm rfl cY (gz.d 0) (gz.g 0)) ag))) ag)) B.dh rfl c6 (gz.d 2) (gz.g 2))))) A4
theorem jq:bE (KX w.params) mg "is_listed_of" "is_listed_of" fP ["thing","many"] 35 (Hd.fd fP "is_listed_of" "is_listed_of" rR 34):=Hd.il e.X e.G (by kernel_rfl) fun _ _ _ _ _ _ _ _=>rfl
theorem lO:bf PW w (KX w.params) mg base cD 2 35 (Hd.fd fP "is_listed_of" "is_listed_of" rR 34) ["thing","many"] (cG gM):=by
 have B:=Bt e;have Q:=Qt e;exact bH (N:=jf) (jq e).fn vG (fun cdv A outer s H E hr=>(az (aL (kP (aO (uE e) (Bb e) (hr.mono (by decide)) (aa (eS.nm 0) ag) (eS.d 0) (eS.g 0)) (mr (kW (dc hr) (aQ _) (b_ dj (aa (eS.nm 0) ag) B.di rfl cS (eS.d 1) (eS.g 1)) (eS.nm 1))))))) we
theorem nh:bE (KX w.params) mg "are_numbers" "are_numbers" fA ["thing","many"] 40 (Hd.fd fA "are_numbers" "are_numbers" rR 39):=Hd.il e.X e.G (by kernel_rfl) fun _ _ _ _ _ _ _ _=>rfl
theorem rS:bf PW w (KX w.params) mg base cD 3 40 (Hd.fd fA "are_numbers" "are_numbers" rR 39) ["thing","many"] (cG jV):=by
 have B:=Bt e;have Q:=Qt e;exact bH (N:=jT) (nh e).fn xp (fun cdv A outer s H E hr=>(az (aL (kP (aO (jq e) (lO e) (hr.mono (by decide)) (aa (fy.nm 0) (aa (fy.nm 1) ag)) (fy.d 0) (fy.g 0)) (mr (b_ (tS rfl) (aa (eN (Nc:=["each"]) (bh.look (aj fA) ["thing","many"] (by decide+kernel)) (d_ (fy.nm 0)) (fun _ _ _ _=>(dz (show(["each"]:List Str).Nodup by decide+kernel) (by first|exact Or.inl rfl|exact Or.inr rfl) (by first|exact .inl rfl|exact .inr rfl))) (fun _ _ _ _=>cB) (fun _ _ _ _=>(aO (ux e) (Bm e) (hr.mono (by decide)) (aa cW ag) (by decide+kernel) rfl)) cx) ag) B.tX rfl ql (fy.d 1) (fy.g 1))))))) xD
theorem va:bE (KX w.params) mg "common" "common" l_ ["one","other"] 47 (Hd.fd l_ "common" "common" iR 46):=Hd.il e.X e.G (by kernel_rfl) fun _ _ _ _ _ _ _ _=>rfl
theorem zK:bf PW w (KX w.params) mg base cD 1 47 (Hd.fd l_ "common" "common" iR 46) ["one","other"] (cG qK):=by
 have B:=Bt e;have Q:=Qt e
 exact bH (N:=rJ) (va e).fn ki (fun cdv A outer s H E hr=>(av (aV ki.nd (dM.l 2) (b_ qF (aa (dM.nm 0) ag) B.rg rfl oq (dM.d 0) (dM.g 0)))
  (av (aV ki.nd (dM.l 3) (b_ qF (aa (dM.nm 1) ag) B.rg rfl oq (dM.d 0) (dM.g 0)))
  (av (u4 (a6 pR (aQ _) (dM.nm 3) ak) (av (aV ki.nd (dM.l 4) (aX jl (dM.nm 2) (dM.nm 3)))
  (av (aV ki.nd (dM.l 2) (dM.nm 3))
  (az (aV ki.nd (dM.l 3) (dM.nm 4))))))
  (az (aL (dM.nm 2))))))) EC
theorem qA:bE (KX w.params) mg "part" "part" qC ["top","bottom"] 54 (Hd.fd qC "part" "part" iR 53):=Hd.il e.X e.G (by kernel_rfl) fun _ _ _ _ _ _ _ _=>rfl
theorem sR:bf PW w (KX w.params) mg base cD 2 54 (Hd.fd qC "part" "part" iR 53) ["top","bottom"] (cG oJ):=by
 have B:=Bt e;have Q:=Qt e
 exact bH (N:=vO) (qA e).fn lD (fun cdv A outer s H E hr=>(av (aV lD.nd (iq.l 2) (aO (va e) (zK e) (hr.mono (by decide)) (aa (iq.nm 0) (aa (iq.nm 1) ag)) (iq.d 0) (iq.g 0)))
  (av (cp (a6 xt (aQ _) (iq.nm 1) ak) (az (aV lD.nd (iq.l 2) (jz (iq.nm 2)))) bI)
  (az (aL (cH (aa (aX (nY hr rfl lD.gen lD.co) (iq.nm 0) (iq.nm 2)) (aa (aX (nY hr rfl lD.gen lD.co) (iq.nm 1) (iq.nm 2)) ag)))))))) Jm
theorem F0:bE (KX w.params) mg "plus" "plus" p_ ["one","other"] 61 (Hd.fd p_ "plus" "plus" iR 60):=Hd.il e.X e.G (by kernel_rfl) fun _ _ _ _ _ _ _ _=>rfl
theorem Mn:bf PW w (KX w.params) mg base cD 3 61 (Hd.fd p_ "plus" "plus" iR 60) ["one","other"] (cG ze):=by
 have B:=Bt e;have Q:=Qt e;exact bH (N:=v_) (F0 e).fn KD (fun cdv A outer s H E hr=>(az (aL (aO (qA e) (sR e) (hr.mono (by decide)) (aa (aX ff (aX c7 (aJ (mW.nm 0) ak) (aJ (mW.nm 1) ak)) (aX c7 (aJ (mW.nm 1) ak) (aJ (mW.nm 0) ak))) (aa (aX c7 (aJ (mW.nm 0) ak) (aJ (mW.nm 1) ak)) ag)) (mW.d 0) (mW.g 0))))) J4
theorem BO:bE (KX w.params) mg "minus" "minus" og ["one","other"] 68 (Hd.fd og "minus" "minus" iR 67):=Hd.il e.X e.G (by kernel_rfl) fun _ _ _ _ _ _ _ _=>rfl
theorem JH:bf PW w (KX w.params) mg base cD 3 68 (Hd.fd og "minus" "minus" iR 67) ["one","other"] (cG wV):=by
 have B:=Bt e;have Q:=Qt e;exact bH (N:=uc) (BO e).fn GX (fun cdv A outer s H E hr=>(az (aL (aO (qA e) (sR e) (hr.mono (by decide)) (aa (aX mI (aX c7 (aJ (kq.nm 0) ak) (aJ (kq.nm 1) ak)) (aX c7 (aJ (kq.nm 1) ak) (aJ (kq.nm 0) ak))) (aa (aX c7 (aJ (kq.nm 0) ak) (aJ (kq.nm 1) ak)) ag)) (kq.d 0) (kq.g 0))))) Gv
theorem BW:bE (KX w.params) mg "times" "times" oj ["one","other"] 75 (Hd.fd oj "times" "times" iR 74):=Hd.il e.X e.G (by kernel_rfl) fun _ _ _ _ _ _ _ _=>rfl
theorem Ji:bf PW w (KX w.params) mg base cD 3 75 (Hd.fd oj "times" "times" iR 74) ["one","other"] (cG xm):=by
 have B:=Bt e;have Q:=Qt e;exact bH (N:=t5) (BW e).fn He (fun cdv A outer s H E hr=>(az (aL (aO (qA e) (sR e) (hr.mono (by decide)) (aa (aX c7 (aJ (nW.nm 0) ak) (aJ (nW.nm 1) ak)) (aa (aX c7 (aJ (nW.nm 0) ak) (aJ (nW.nm 1) ak)) ag)) (nW.d 0) (nW.g 0))))) Gp
theorem EO:bE (KX w.params) mg "over" "over" qh ["one","other"] 82 (Hd.fd qh "over" "over" iR 81):=Hd.il e.X e.G (by kernel_rfl) fun _ _ _ _ _ _ _ _=>rfl
theorem MN:bf PW w (KX w.params) mg base cD 3 82 (Hd.fd qh "over" "over" iR 81) ["one","other"] (cG zl):=by
 have B:=Bt e;have Q:=Qt e;exact bH (N:=vS) (EO e).fn Kk (fun cdv A outer s H E hr=>(az (aL (aO (qA e) (sR e) (hr.mono (by decide)) (aa (aX c7 (aJ (qt.nm 0) ak) (aJ (qt.nm 1) ak)) (aa (aX c7 (aJ (qt.nm 0) ak) (aJ (qt.nm 1) ak)) ag)) (qt.d 0) (qt.g 0))))) Jb
theorem nV:bE (KX w.params) mg "whole" "whole" oi ["n"] 89 (Hd.fd oi "whole" "whole" iR 88):=Hd.oR e.X e.G (by kernel_rfl) fun _ _ _ _ _ _ _=>rfl
theorem qB:bf PW w (KX w.params) mg base cD 1 89 (Hd.fd oi "whole" "whole" iR 88) ["n"] (cG lM):=by
 have B:=Bt e;have Q:=Qt e;exact bH (N:=tP) (nV e).fn GK (fun cdv A outer s H E hr=>(az (aL (cH (aa (J9.nm 0) (aa ak ag)))))) GN
theorem yj:bE (KX w.params) mg "is_part" "is_part" ky ["thing"] 96 (Hd.fd ky "is_part" "is_part" iR 95):=Hd.oR e.X e.G (by kernel_rfl) fun _ _ _ _ _ _ _=>rfl
theorem FZ:bf PW w (KX w.params) mg base cD 4 96 (Hd.fd ky "is_part" "is_part" iR 95) ["thing"] (cG tH):=by
 have B:=Bt e;have Q:=Qt e;exact bH (N:=oY) (yj e).fn DP (fun cdv A outer s H E hr=>(az (aL (kP (aO (nh e) (rS e) (hr.mono (by decide)) (aa (g9.nm 0) (aa ak ag)) (g9.d 0) (g9.g 0)) (kP (kW sA (aQ _) (aJ (g9.nm 0) ak) ak) (mr (kW (dc hr) (aQ _) (aO (va e) (zK e) (hr.mono (by decide)) (aa (aJ (g9.nm 0) ak) (aa (aJ (g9.nm 0) ak) ag)) (g9.d 1) (g9.g 1)) ak))))))) Dz
theorem s_:bE (KX w.params) mg "as_rows" "as_rows" i9 ["rows"] 101 (Hd.fd i9 "as_rows" "as_rows" jM 100):=Hd.oR e.X e.G (by kernel_rfl) fun _ _ _ _ _ _ _=>rfl
theorem x5:bf PW w (KX w.params) mg base cD 1 101 (Hd.fd i9 "as_rows" "as_rows" jM 100) ["rows"] (cG ph):=by
 have B:=Bt e;have Q:=Qt e;exact bH (N:=o5) (s_ e).fn DH (fun cdv A outer s H E hr=>(az (aL (eK eB (aa (eN (Nc:=["row"]) (bh.look (aj i9) ["rows"] (by decide+kernel)) (d_ (tJ.nm 0)) (fun _ _ _ _=>(dz (show(["row"]:List Str).Nodup by decide+kernel) (by first|exact Or.inl rfl|exact Or.inr rfl) (by first|exact .inl rfl|exact .inr rfl))) (fun _ _ _ _=>cB) (fun _ _ _ _=>(eK eB (aa cW ag) B.dm rfl cY (by decide+kernel) rfl)) cx) ag) B.dm rfl cY (tJ.d 0) (tJ.g 0))))) C1
theorem nZ:bE (KX w.params) mg "added" "added" mf ["row","times","other"] 106 (Hd.fd mf "added" "added" jM 105):=Hd.x8 e.X e.G (by kernel_rfl) fun _ _ _ _ _ _ _ _ _=>rfl
theorem qj:bf PW w (KX w.params) mg base cD 1 106 (Hd.fd mf "added" "added" jM 105) ["row","times","other"] (cG lZ):=by
 have B:=Bt e;have Q:=Qt e;exact bH (N:=ui) (nZ e).fn Ga (fun cdv A outer s H E hr=>(az (aL (eN (Nc:=["one","two","times"]) (bh.look (aj mf) ["row","times","other"] (by decide+kernel)) (qE (xl.g 0) B.rD (aa (xl.nm 0) (aa (xl.nm 2) ag))) (fun _ _ _ _=>(jS rfl (show(["one","two","times"]:List Str).Nodup by decide+kernel) (by first|exact Or.inl rfl|exact Or.inr rfl) (by first|exact .inl rfl|exact .inr rfl) (by first|exact Or.inl rfl|exact Or.inr rfl) (by first|exact .inl rfl|exact .inr rfl))) (fun _ _ _ _=>cB) (fun _ _ _ _=>(aX ff cW (aX c7 cW cW))) ue)))) Gi
theorem u_:bE (KX w.params) mg "sum_by" "sum_by" lX ["weights","rows","wide"] 113 (Hd.fd lX "sum_by" "sum_by" jM 112):=Hd.x8 e.X e.G (by kernel_rfl) fun _ _ _ _ _ _ _ _ _=>rfl
theorem zI:bf PW w (KX w.params) mg base cD 2 113 (Hd.fd lX "sum_by" "sum_by" jM 112) ["weights","rows","wide"] (cG qO):=by
 have B:=Bt e;have Q:=Qt e
 exact bH (N:=rk) (u_ e).fn o8 (fun cdv A outer s H E hr=>(av (aV o8.nd (eG.l 3) (aX c7 (e_ (aa ak ag)) (eG.nm 2)))
  (av (gn (qE (eG.g 0) B.rD (aa (eG.nm 0) (aa (eG.nm 1) ag))) (jS rfl o8.nd (by first|exact Or.inl rfl|exact Or.inr rfl) (by first|exact .inl rfl|exact .inr rfl) (by first|exact Or.inl rfl|exact Or.inr rfl) (by first|exact .inl rfl|exact .inr rfl)) (az (aV o8.nd (eG.l 3) (aO (nZ e) (qj e) (hr.mono (by decide)) (aa (eG.nm 3) (aa (eG.nm 4) (aa (eG.nm 5) ag))) (eG.d 1) (eG.g 1)))))
  (az (aL (eK eB (aa (eG.nm 3) ag) B.dm rfl cY (eG.d 2) (eG.g 2))))))) EB
theorem Ar:bE (KX w.params) mg "column" "column" j8 ["rows","place"] 118 (Hd.fd j8 "column" "column" jM 117):=Hd.il e.X e.G (by kernel_rfl) fun _ _ _ _ _ _ _ _=>rfl
theorem GV:bf PW w (KX w.params) mg base cD 1 118 (Hd.fd j8 "column" "column" jM 117) ["rows","place"] (cG u9):=by
 have B:=Bt e;have Q:=Qt e;exact bH (N:=rL) (Ar e).fn ET (fun cdv A outer s H E hr=>(az (aL (eK eB (aa (eN (Nc:=["row","place"]) (bh.look (aj j8) ["rows","place"] (by decide+kernel)) (d_ (vk.nm 0)) (fun _ _ _ _=>(dz (show(["row","place"]:List Str).Nodup by decide+kernel) (by first|exact Or.inl rfl|exact Or.inr rfl) (by first|exact .inl rfl|exact .inr rfl))) (fun _ _ _ _=>cB) (fun _ _ _ _=>(aJ cW cW)) cx) ag) B.dm rfl cY (vk.d 0) (vk.g 0))))) D7
theorem rP:bE (KX w.params) mg "turned_over" "turned_over" fx ["rows","wide"] 123 (Hd.fd fx "turned_over" "turned_over" jM 122):=Hd.il e.X e.G (by kernel_rfl) fun _ _ _ _ _ _ _ _=>rfl
theorem yB:bf PW w (KX w.params) mg base cD 2 123 (Hd.fd fx "turned_over" "turned_over" jM 122) ["rows","wide"] (cG nc):=by
 have B:=Bt e;have Q:=Qt e;exact bH (N:=j0) (rP e).fn xq (fun cdv A outer s H E hr=>(az (aL (eK eB (aa (eN (Nc:=["place","rows"]) (bh.look (aj fx) ["rows","wide"] (by decide+kernel)) (gB (jU.g 0) B.gb (aa (jU.nm 1) ag)) (fun _ _ _ _=>(dz (show(["place","rows"]:List Str).Nodup by decide+kernel) (by first|exact Or.inl rfl|exact Or.inr rfl) (by first|exact .inl rfl|exact .inr rfl))) (fun _ _ _ _=>cB) (fun _ _ _ _=>(aO (Ar e) (GV e) (hr.mono (by decide)) (aa cW (aa cW ag)) (by decide+kernel) rfl)) cx) ag) B.dm rfl cY (jU.d 1) (jU.g 1))))) wX
theorem vN:bE (KX w.params) mg "unit_row" "unit_row" ia ["n","place"] 128 (Hd.fd ia "unit_row" "unit_row" jM 127):=Hd.il e.X e.G (by kernel_rfl) fun _ _ _ _ _ _ _ _=>rfl
theorem CI:bf PW w (KX w.params) mg base cD 1 128 (Hd.fd ia "unit_row" "unit_row" jM 127) ["n","place"] (cG qW):=by
 have B:=Bt e;have Q:=Qt e;exact bH (N:=nG) (vN e).fn BE (fun cdv A outer s H E hr=>(az (aL (eK eB (aa (eN (Nc:=["k","place"]) (bh.look (aj ia) ["n","place"] (by decide+kernel)) (gB (nP.g 0) B.gb (aa (nP.nm 0) ag)) (fun _ _ _ _=>(dz (show(["k","place"]:List Str).Nodup by decide+kernel) (by first|exact Or.inl rfl|exact Or.inr rfl) (by first|exact .inl rfl|exact .inr rfl))) (fun _ _ _ _=>cB) (fun _ _ _ _=>(Im (a6 (dc hr) (aQ _) cW cW) ak ak)) cx) ag) B.dm rfl cY (nP.d 1) (nP.g 1))))) By
theorem pQ:bE (KX w.params) mg "unit_rows" "unit_rows" gD ["n"] 133 (Hd.fd gD "unit_rows" "unit_rows" jM 132):=Hd.oR e.X e.G (by kernel_rfl) fun _ _ _ _ _ _ _=>rfl
theorem uL:bf PW w (KX w.params) mg base cD 2 133 (Hd.fd gD "unit_rows" "unit_rows" jM 132) ["n"] (cG mv):=by
 have B:=Bt e;have Q:=Qt e;exact bH (N:=mq) (pQ e).fn AE (fun cdv A outer s H E hr=>(az (aL (eK eB (aa (eN (Nc:=["place","n"]) (bh.look (aj gD) ["n"] (by decide+kernel)) (gB (mJ.g 0) B.gb (aa (mJ.nm 0) ag)) (fun _ _ _ _=>(dz (show(["place","n"]:List Str).Nodup by decide+kernel) (by first|exact Or.inl rfl|exact Or.inr rfl) (by first|exact .inl rfl|exact .inr rfl))) (fun _ _ _ _=>cB) (fun _ _ _ _=>(aO (vN e) (CI e) (hr.mono (by decide)) (aa cW (aa cW ag)) (by decide+kernel) rfl)) cx) ag) B.dm rfl cY (mJ.d 1) (mJ.g 1))))) zD
theorem kj:bE (KX w.params) mg "lead_of" "lead_of" kB ["row"] 140 (Hd.fd kB "lead_of" "lead_of" eJ 139):=Hd.oR e.X e.G (by kernel_rfl) fun _ _ _ _ _ _ _=>rfl
theorem mS:bf PW w (KX w.params) mg base cD 1 140 (Hd.fd kB "lead_of" "lead_of" eJ 139) ["row"] (cG i4):=by
 have B:=Bt e;have Q:=Qt e
 exact bH (N:=pf) (kj e).fn vV (fun cdv A outer s H E hr=>(av (gn (LP (oX.g 0) B.A_ (aa (oX.nm 0) ag)) (jS rfl vV.nd (by first|exact Or.inl rfl|exact Or.inr rfl) (by first|exact .inl rfl|exact .inr rfl) (by first|exact Or.inl rfl|exact Or.inr rfl) (by first|exact .inl rfl|exact .inr rfl)) (az (cp (a6 pR (aQ _) (oX.nm 2) ak) (az (aL (oX.nm 1))) bI)))
  (az (aL tV)))) Dy
theorem m5:bE (KX w.params) mg "nearest_quotient" "nearest_quotient" eA ["top","bottom"] 147 (Hd.fd eA "nearest_quotient" "nearest_quotient" eJ 146):=Hd.il e.X e.G (by kernel_rfl) fun _ _ _ _ _ _ _ _=>rfl
theorem si:bf PW w (KX w.params) mg base cD 1 147 (Hd.fd eA "nearest_quotient" "nearest_quotient" eJ 146) ["top","bottom"] (cG jb):=by
 have B:=Bt e;have Q:=Qt e;exact bH (N:=gf) (m5 e).fn iQ (fun cdv A outer s H E hr=>(az (aL (aX (nY hr rfl iQ.gen iQ.co) (aX ff (aX c7 ak (je.nm 0)) (je.nm 1)) (aX c7 ak (je.nm 1)))))) r8
theorem mM:bE (KX w.params) mg "exchanged" "exchanged" iA ["rows","k","other"] 154 (Hd.fd iA "exchanged" "exchanged" eJ 153):=Hd.x8 e.X e.G (by kernel_rfl) fun _ _ _ _ _ _ _ _ _=>rfl
theorem pH:bf PW w (KX w.params) mg base cD 1 154 (Hd.fd iA "exchanged" "exchanged" eJ 153) ["rows","k","other"] (cG jR):=by
 have B:=Bt e;have Q:=Qt e
 exact bH (N:=mL) (mM e).fn sy (fun cdv A outer s H E hr=>(av (aV sy.nd (dn.l 3) (eK Ct (aa (dn.nm 0) ag) B.fU rfl eV (dn.d 0) (dn.g 0)))
  (av (dN (aJ (dn.nm 0) (dn.nm 2)) (dn.nm 3) (dn.nm 1))
  (av (dN (aJ (dn.nm 0) (dn.nm 1)) (dn.nm 3) (dn.nm 2))
  (az (aL (dn.nm 3))))))) zC
theorem pD:bE (KX w.params) mg "negated" "negated" i_ ["row"] 159 (Hd.fd i_ "negated" "negated" eJ 158):=Hd.oR e.X e.G (by kernel_rfl) fun _ _ _ _ _ _ _=>rfl
theorem tL:bf PW w (KX w.params) mg base cD 1 159 (Hd.fd i_ "negated" "negated" eJ 158) ["row"] (cG m6):=by
 have B:=Bt e;have Q:=Qt e;exact bH (N:=pj) (pD e).fn C6 (fun cdv A outer s H E hr=>(az (aL (eN (Nc:=["number"]) (bh.look (aj i_) ["row"] (by decide+kernel)) (d_ (FO.nm 0)) (fun _ _ _ _=>(dz (show(["number"]:List Str).Nodup by decide+kernel) (by first|exact Or.inl rfl|exact Or.inr rfl) (by first|exact .inl rfl|exact .inr rfl))) (fun _ _ _ _=>cB) (fun _ _ _ _=>(jz cW)) cx)))) De
theorem ib:MethAt (KX w.params) aI "__init__" "Bench.__init__" df ["self","rows"] 171 (Hd.fd df "__init__" "Bench.__init__" eJ 170):=Hd.PD (by kernel_rfl) fun _ _ _ _ _ _ _ _=>rfl
theorem u6:bf PW w (KX w.params) mg base cD 3 171 (Hd.fd df "__init__" "Bench.__init__" eJ 170) ["self","rows"] (cG ka):=by
 have B:=Bt e;have Q:=Qt e
 exact bH (N:=ij) (ib e).fn uj (fun cdv A outer s H E hr=>(av (nR Q.a9.cl Q.cC (bX.nm 0) (xa (Nc:=["row"]) (bh.look (aj df) ["self","rows"] (by decide+kernel)) (d_ (bX.nm 1)) (fun _ _ _ _=>(dz (show(["row"]:List Str).Nodup by decide+kernel) (by first|exact Or.inl rfl|exact Or.inr rfl) (by first|exact .inl rfl|exact .inr rfl))) (fun _ _ _ _=>cB) (fun _ _ _ _=>(eK ll (aa cW ag) B.fU rfl eV (by decide+kernel) rfl)) cx))
  (av (nR Q.a9.cl Q.eH (bX.nm 0) (xa (Nc:=["row"]) (bh.look (aj df) ["self","rows"] (by decide+kernel)) (d_ (aO (pQ e) (uL e) (hr.mono (by decide)) (aa (b_ dj (aa (bX.nm 1) ag) B.di rfl cS (bX.d 0) (bX.g 0)) ag) (bX.d 1) (bX.g 1))) (fun _ _ _ _=>(dz (show(["row"]:List Str).Nodup by decide+kernel) (by first|exact Or.inl rfl|exact Or.inr rfl) (by first|exact .inl rfl|exact .inr rfl))) (fun _ _ _ _=>cB) (fun _ _ _ _=>(eK ll (aa cW ag) B.fU rfl eV (by decide+kernel) rfl)) cx))
  (az (nR Q.a9.cl Q.cK (bX.nm 0) (xa (Nc:=["row"]) (bh.look (aj df) ["self","rows"] (by decide+kernel)) (d_ (aO (pQ e) (uL e) (hr.mono (by decide)) (aa (b_ dj (aa (bX.nm 1) ag) B.di rfl cS (bX.d 0) (bX.g 0)) ag) (bX.d 1) (bX.g 1))) (fun _ _ _ _=>(dz (show(["row"]:List Str).Nodup by decide+kernel) (by first|exact Or.inl rfl|exact Or.inr rfl) (by first|exact .inl rfl|exact .inr rfl))) (fun _ _ _ _=>cB) (fun _ _ _ _=>(eK ll (aa cW ag) B.fU rfl eV (by decide+kernel) rfl)) cx)))))) ur
theorem i3:MethAt (KX w.params) aI "take" "Bench.take" g0 ["self","k","times","other"] 178 (Hd.fd g0 "take" "Bench.take" eJ 177):=Hd.Q5 (by kernel_rfl) fun _ _ _ _ _ _ _ _ _ _=>rfl
theorem tG:bf PW w (KX w.params) mg base cD 2 178 (Hd.fd g0 "take" "Bench.take" eJ 177) ["self","k","times","other"] (cG kJ):=by
 have B:=Bt e;have Q:=Qt e
 exact bH (N:=kM) (i3 e).fn yx (fun cdv A outer s H E hr=>(av (dN (aO (nZ e) (qj e) (hr.mono (by decide)) (aa (aJ (dD Q.a9.cl Q.cC (a8.nm 0)) (a8.nm 1)) (aa (jz (a8.nm 2)) (aa (aJ (dD Q.a9.cl Q.cC (a8.nm 0)) (a8.nm 3)) ag))) (a8.d 0) (a8.g 0)) (dD Q.a9.cl Q.cC (a8.nm 0)) (a8.nm 1))
  (av (dN (aO (nZ e) (qj e) (hr.mono (by decide)) (aa (aJ (dD Q.a9.cl Q.eH (a8.nm 0)) (a8.nm 1)) (aa (jz (a8.nm 2)) (aa (aJ (dD Q.a9.cl Q.eH (a8.nm 0)) (a8.nm 3)) ag))) (a8.d 0) (a8.g 0)) (dD Q.a9.cl Q.eH (a8.nm 0)) (a8.nm 1))
  (az (dN (aO (nZ e) (qj e) (hr.mono (by decide)) (aa (aJ (dD Q.a9.cl Q.cK (a8.nm 0)) (a8.nm 3)) (aa (a8.nm 2) (aa (aJ (dD Q.a9.cl Q.cK (a8.nm 0)) (a8.nm 1)) ag))) (a8.d 0) (a8.g 0)) (dD Q.a9.cl Q.cK (a8.nm 0)) (a8.nm 3)))))) yH
theorem j7:MethAt (KX w.params) aI "exchange" "Bench.exchange" e9 ["self","k","other"] 185 (Hd.fd e9 "exchange" "Bench.exchange" eJ 184):=Hd.HK (by kernel_rfl) fun _ _ _ _ _ _ _ _ _=>rfl
theorem vo:bf PW w (KX w.params) mg base cD 2 185 (Hd.fd e9 "exchange" "Bench.exchange" eJ 184) ["self","k","other"] (cG j9):=by
 have B:=Bt e;have Q:=Qt e
 exact bH (N:=h_) (j7 e).fn uq (fun cdv A outer s H E hr=>(av (nR Q.a9.cl Q.cC (bg.nm 0) (aO (mM e) (pH e) (hr.mono (by decide)) (aa (dD Q.a9.cl Q.cC (bg.nm 0)) (aa (bg.nm 1) (aa (bg.nm 2) ag))) (bg.d 0) (bg.g 0)))
  (av (nR Q.a9.cl Q.eH (bg.nm 0) (aO (mM e) (pH e) (hr.mono (by decide)) (aa (dD Q.a9.cl Q.eH (bg.nm 0)) (aa (bg.nm 1) (aa (bg.nm 2) ag))) (bg.d 0) (bg.g 0)))
  (az (nR Q.a9.cl Q.cK (bg.nm 0) (aO (mM e) (pH e) (hr.mono (by decide)) (aa (dD Q.a9.cl Q.cK (bg.nm 0)) (aa (bg.nm 1) (aa (bg.nm 2) ag))) (bg.d 0) (bg.g 0))))))) uo
theorem iO:MethAt (KX w.params) aI "change_sign" "Bench.change_sign" d4 ["self","k"] 192 (Hd.fd d4 "change_sign" "Bench.change_sign" eJ 191):=Hd.PD (by kernel_rfl) fun _ _ _ _ _ _ _ _=>rfl
theorem r_:bf PW w (KX w.params) mg base cD 2 192 (Hd.fd d4 "change_sign" "Bench.change_sign" eJ 191) ["self","k"] (cG iP):=by
 have B:=Bt e;have Q:=Qt e
 exact bH (N:=fW) (iO e).fn qQ (fun cdv A outer s H E hr=>(av (dN (aO (pD e) (tL e) (hr.mono (by decide)) (aa (aJ (dD Q.a9.cl Q.cC (aZ.nm 0)) (aZ.nm 1)) ag) (aZ.d 0) (aZ.g 0)) (dD Q.a9.cl Q.cC (aZ.nm 0)) (aZ.nm 1))
  (av (dN (aO (pD e) (tL e) (hr.mono (by decide)) (aa (aJ (dD Q.a9.cl Q.eH (aZ.nm 0)) (aZ.nm 1)) ag) (aZ.d 0) (aZ.g 0)) (dD Q.a9.cl Q.eH (aZ.nm 0)) (aZ.nm 1))
  (az (dN (aO (pD e) (tL e) (hr.mono (by decide)) (aa (aJ (dD Q.a9.cl Q.cK (aZ.nm 0)) (aZ.nm 1)) ag) (aZ.d 0) (aZ.g 0)) (dD Q.a9.cl Q.cK (aZ.nm 0)) (aZ.nm 1)))))) rB
theorem gI:MethAt (KX w.params) aI "live_rows" "Bench.live_rows" dw ["self","top","place"] 197 (Hd.fd dw "live_rows" "Bench.live_rows" eJ 196):=Hd.HK (by kernel_rfl) fun _ _ _ _ _ _ _ _ _=>rfl
theorem nr:bf PW w (KX w.params) mg base cD 3 197 (Hd.fd dw "live_rows" "Bench.live_rows" eJ 196) ["self","top","place"] (cG gJ):=by
 have B:=Bt e;have Q:=Qt e;have hC:PySem.W.codeHdIn (KX w.params) 196 194=true:=by kernel_rfl
 exact LN (N:=gG) (Hd.fc (by kernel_rfl)) m7 (fun A outer s H E hr=>(av (qv m7.nd (dy.l 3) (Nc:=["k","self","place"]) (bh.look (aj dw) ["self","top","place","live"] (by decide+kernel)) (GF (dy.g 1) B.gb (aa (dy.nm 1) (aa (b_ dj (aa (dD Q.a9.cl Q.cC (dy.nm 0)) ag) B.di rfl cS (dy.d 0) (dy.g 0)) ag))) (fun _ _ _ _=>(dz (show(["k","self","place"]:List Str).Nodup by decide+kernel) (by first|exact Or.inl rfl|exact Or.inr rfl) (by first|exact .inl rfl|exact .inr rfl))) (fun _ _ _ _=>(Nm (a6 pR (aQ _) (aJ (aJ (dD Q.a9.cl Q.cC cW) cW) cW) ak))) (fun _ _ _ _=>cW) cx)
  (az (aL (J_ (c0:=196) (nM.look (Nc:=["k","self","place"]) (fr:=[none,some 0,some 2]) (p:="k") (bh.look (aj dw) ["self","top","place","live"] (by decide+kernel))) rfl hr rfl hC (fun _ _ _ _=>(b_ qF (aa (aJ (aJ (dD Q.a9.cl Q.cC cW) cW) cW) ag) B.rg rfl oq (by decide+kernel) rfl)) (dy.nm 3) (dy.g 2) B.Hg))))) sj
theorem lP:MethAt (KX w.params) aI "gather" "Bench.gather" fN ["self","top","place"] 204 (Hd.fd fN "gather" "Bench.gather" eJ 203):=Hd.HK (by kernel_rfl) fun _ _ _ _ _ _ _ _ _=>rfl
theorem wY:bf PW w (KX w.params) mg base cD 4 204 (Hd.fd fN "gather" "Bench.gather" eJ 203) ["self","top","place"] (cG lQ):=by
 have B:=Bt e;have Q:=Qt e
 exact bH (N:=jB) (lP e).fn gj (fun cdv A outer s H E hr=>(av (aV gj.nd (aH.l 3) (mT (aH.nm 0) Q.a9.cl (gI e).me (nr e) (hr.mono (by decide)) (gI e).bd (aa (aH.nm 1) (aa (aH.nm 2) ag))))
  (av (u4 (a6 sA (aQ _) (b_ dj (aa (aH.nm 3) ag) B.di rfl cS (aH.d 0) (aH.g 0)) ak) (av (aV gj.nd (aH.l 4) (aJ (aH.nm 3) (jz ak)))
  (av (aV gj.nd (aH.l 5) (aJ (aH.nm 3) (jz ak)))
  (av (iz (mT (aH.nm 0) Q.a9.cl (i3 e).me (tG e) (hr.mono (by decide)) (i3 e).bd (aa (aH.nm 4) (aa (aO (m5 e) (si e) (hr.mono (by decide)) (aa (aJ (aJ (dD Q.a9.cl Q.cC (aH.nm 0)) (aH.nm 4)) (aH.nm 2)) (aa (aJ (aJ (dD Q.a9.cl Q.cC (aH.nm 0)) (aH.nm 5)) (aH.nm 2)) ag)) (aH.d 1) (aH.g 1)) (aa (aH.nm 5) ag)))))
  (az (aV gj.nd (aH.l 3) (mT (aH.nm 0) Q.a9.cl (gI e).me (nr e) (hr.mono (by decide)) (gI e).bd (aa (aH.nm 1) (aa (aH.nm 2) ag)))))))))
  (av (cp (a6 (dc hr) (aQ _) (b_ dj (aa (aH.nm 3) ag) B.di rfl cS (aH.d 0) (aH.g 0)) ak) (az (aL iJ)) bI)
  (av (iz (mT (aH.nm 0) Q.a9.cl (j7 e).me (vo e) (hr.mono (by decide)) (j7 e).bd (aa (aH.nm 1) (aa (aJ (aH.nm 3) ak) ag))))
  (av (cp (a6 xt (aQ _) (aJ (aJ (dD Q.a9.cl Q.cC (aH.nm 0)) (aH.nm 1)) (aH.nm 2)) ak) (az (iz (mT (aH.nm 0) Q.a9.cl (iO e).me (r_ e) (hr.mono (by decide)) (iO e).bd (aa (aH.nm 1) ag)))) bI)
  (az (aL iJ)))))))) vD
theorem iL:MethAt (KX w.params) aI "lower_above" "Bench.lower_above" dZ ["self","top","place"] 211 (Hd.fd dZ "lower_above" "Bench.lower_above" eJ 210):=Hd.HK (by kernel_rfl) fun _ _ _ _ _ _ _ _ _=>rfl
theorem se:bf PW w (KX w.params) mg base cD 3 211 (Hd.fd dZ "lower_above" "Bench.lower_above" eJ 210) ["self","top","place"] (cG iK):=by
 have B:=Bt e;have Q:=Qt e;exact bH (N:=fY) (iL e).fn fG (fun cdv A outer s H E hr=>(az (gn (gB (cv.g 0) B.gb (aa (cv.nm 1) ag)) (dz fG.nd (by first|exact Or.inl rfl|exact Or.inr rfl) (by first|exact .inl rfl|exact .inr rfl)) (az (iz (mT (cv.nm 0) Q.a9.cl (i3 e).me (tG e) (hr.mono (by decide)) (i3 e).bd (aa (cv.nm 3) (aa (aX (nY hr rfl fG.gen fG.co) (aJ (aJ (dD Q.a9.cl Q.cC (cv.nm 0)) (cv.nm 3)) (cv.nm 2)) (aJ (aJ (dD Q.a9.cl Q.cC (cv.nm 0)) (cv.nm 1)) (cv.nm 2))) (aa (cv.nm 1) ag))))))))) rN
theorem vR:bE (KX w.params) mg "standing" "standing" jo ["rows"] 225 (Hd.fd jo "standing" "standing" eJ 224):=Hd.oR e.X e.G (by kernel_rfl) fun _ _ _ _ _ _ _=>rfl
theorem Dv:bf PW w (KX w.params) mg base cD 5 225 (Hd.fd jo "standing" "standing" eJ 224) ["rows"] (cG rq):=by
 have B:=Bt e;have Q:=Qt e
 exact bH (N:=ny) (vR e).fn iH (fun cdv A outer s H E hr=>(av (aV iH.nd (a_.l 1) (LD ⟨Q.a9.QU,(ib e).me.at_,(ib e).me.fn,Q.a9.kp⟩ (u6 e) (hr.mono (by decide)) (a_.g 0) Q.a9.mg (ib e).bd (aa (a_.nm 0) ag) (a_.d 0)))
  (av (aV iH.nd (a_.l 2) ak)
  (av (gn (gB (a_.g 2) B.gb (aa (b_ dj (aa (aJ (a_.nm 0) ak) ag) B.di rfl cS (a_.d 1) (a_.g 1)) ag)) (dz iH.nd (by first|exact Or.inl rfl|exact Or.inr rfl) (by first|exact .inl rfl|exact .inr rfl)) (az (cp (ip (mT (a_.nm 1) Q.a9.cl (lP e).me (wY e) (hr.mono (by decide)) (lP e).bd (aa (a_.nm 2) (aa (a_.nm 3) ag)))) (av (iz (mT (a_.nm 1) Q.a9.cl (iL e).me (se e) (hr.mono (by decide)) (iL e).bd (aa (a_.nm 2) (aa (a_.nm 3) ag))))
  (az (LQ iH.nd (a_.l 2) ak LF))) bI)))
  (av (aV iH.nd (a_.l 4) (aO (rP e) (yB e) (hr.mono (by decide)) (aa (dD Q.a9.cl Q.cK (a_.nm 1)) (aa (b_ dj (aa (a_.nm 0) ag) B.di rfl cS (a_.d 1) (a_.g 1)) ag)) (a_.d 3) (a_.g 3)))
  (az (aL (cH (aa (aO (s_ e) (x5 e) (hr.mono (by decide)) (aa (wR (dD Q.a9.cl Q.cC (a_.nm 1)) wM (w9 (a_.nm 2))) ag) (a_.d 4) (a_.g 4)) (aa (aO (s_ e) (x5 e) (hr.mono (by decide)) (aa (dD Q.a9.cl Q.eH (a_.nm 1)) ag) (a_.d 4) (a_.g 4)) (aa (a_.nm 4) ag))))))))))) Ba
theorem yl:bE (KX w.params) mg "weighed" "weighed" kg ["form","row"] 232 (Hd.fd kg "weighed" "weighed" eJ 231):=Hd.il e.X e.G (by kernel_rfl) fun _ _ _ _ _ _ _ _=>rfl
theorem FL:bf PW w (KX w.params) mg base cD 2 232 (Hd.fd kg "weighed" "weighed" eJ 231) ["form","row"] (cG sQ):=by
 have B:=Bt e;have Q:=Qt e
 exact bH (N:=oZ) (yl e).fn hJ (fun cdv A outer s H E hr=>(av (aV hJ.nd (bL.l 2) (yS ag))
  (av (aV hJ.nd (bL.l 3) (eK ll (aa (bL.nm 1) ag) B.fU rfl eV (bL.d 0) (bL.g 0)))
  (av (gn (d_ (bL.nm 0)) (dz hJ.nd (by first|exact Or.inl rfl|exact Or.inr rfl) (by first|exact .inl rfl|exact .inr rfl)) (av (aV hJ.nd (bL.l 5) (aO (kj e) (mS e) (hr.mono (by decide)) (aa (bL.nm 4) ag) (bL.d 1) (bL.g 1)))
  (av (aV hJ.nd (bL.l 6) (aX v8 (aJ (bL.nm 3) (bL.nm 5)) (aJ (bL.nm 4) (bL.nm 5))))
  (av (iz (sO (bL.nm 2) (bL.nm 6)))
  (az (aV hJ.nd (bL.l 3) (aO (nZ e) (qj e) (hr.mono (by decide)) (aa (bL.nm 3) (aa (jz (bL.nm 6)) (aa (bL.nm 4) ag))) (bL.d 2) (bL.g 2))))))))
  (az (aL (cH (aa (eK eB (aa (bL.nm 2) ag) B.dm rfl cY (bL.d 3) (bL.g 3)) (aa (eK eB (aa (bL.nm 3) ag) B.dm rfl cY (bL.d 3) (bL.g 3)) ag))))))))) Dp
theorem mH:bE (KX w.params) mg "parts_dot" "parts_dot" iE ["parts","row"] 239 (Hd.fd iE "parts_dot" "parts_dot" gQ 238):=Hd.il e.X e.G (by kernel_rfl) fun _ _ _ _ _ _ _ _=>rfl
theorem pY:bf PW w (KX w.params) mg base cD 4 239 (Hd.fd iE "parts_dot" "parts_dot" gQ 238) ["parts","row"] (cG jJ):=by
 have B:=Bt e;have Q:=Qt e
 exact bH (N:=mB) (mH e).fn la (fun cdv A outer s H E hr=>(av (aV la.nd (cN.l 2) (aO (nV e) (qB e) (hr.mono (by decide)) (aa ak ag) (cN.d 0) (cN.g 0)))
  (av (gn (qE (cN.g 1) B.rD (aa (cN.nm 0) (aa (cN.nm 1) ag))) (jS rfl la.nd (by first|exact Or.inl rfl|exact Or.inr rfl) (by first|exact .inl rfl|exact .inr rfl) (by first|exact Or.inl rfl|exact Or.inr rfl) (by first|exact .inl rfl|exact .inr rfl)) (az (aV la.nd (cN.l 2) (aO (F0 e) (Mn e) (hr.mono (by decide)) (aa (cN.nm 2) (aa (aO (BW e) (Ji e) (hr.mono (by decide)) (aa (cN.nm 3) (aa (aO (nV e) (qB e) (hr.mono (by decide)) (aa (cN.nm 4) ag) (cN.d 0) (cN.g 0)) ag)) (cN.d 2) (cN.g 2)) ag)) (cN.d 3) (cN.g 3)))))
  (az (aL (cN.nm 2)))))) Aa
theorem uy:bE (KX w.params) mg "bottom_at" "bottom_at" iF ["form","rest","place"] 246 (Hd.fd iF "bottom_at" "bottom_at" gQ 245):=Hd.x8 e.X e.G (by kernel_rfl) fun _ _ _ _ _ _ _ _ _=>rfl
theorem BD:bf PW w (KX w.params) mg base cD 2 246 (Hd.fd iF "bottom_at" "bottom_at" gQ 245) ["form","rest","place"] (cG pL):=by
 have B:=Bt e;have Q:=Qt e
 exact bH (N:=mn) (uy e).fn sV (fun cdv A outer s H E hr=>(av (gn (d_ (d5.nm 0)) (dz sV.nd (by first|exact Or.inl rfl|exact Or.inr rfl) (by first|exact .inl rfl|exact .inr rfl)) (az (cp (a6 (dc hr) (aQ _) (aO (kj e) (mS e) (hr.mono (by decide)) (aa (d5.nm 3) ag) (d5.d 0) (d5.g 0)) (d5.nm 2)) (az (aL (aJ (d5.nm 3) (d5.nm 2)))) bI)))
  (az (aL (aX c7 ak (b_ qF (aa (aJ (d5.nm 1) (d5.nm 2)) ag) B.rg rfl oq (d5.d 1) (d5.g 1))))))) Ah
theorem pw:bE (KX w.params) mg "parts_against" "parts_against" fm ["form","rest"] 253 (Hd.fd fm "parts_against" "parts_against" gQ 252):=Hd.il e.X e.G (by kernel_rfl) fun _ _ _ _ _ _ _ _=>rfl
theorem vF:bf PW w (KX w.params) mg base cD 5 253 (Hd.fd fm "parts_against" "parts_against" gQ 252) ["form","rest"] (cG kY):=by
 have B:=Bt e;have Q:=Qt e
 exact bH (N:=iU) (pw e).fn eY (fun cdv A outer s H E hr=>(av (aV eY.nd (ax.l 2) (aO (kj e) (mS e) (hr.mono (by decide)) (aa (ax.nm 1) ag) (ax.d 0) (ax.g 0)))
  (av (aV eY.nd (ax.l 3) (aX Eg (e_ (aa (aO (nV e) (qB e) (hr.mono (by decide)) (aa ak ag) (ax.d 1) (ax.g 1)) ag)) (b_ dj (aa (ax.nm 1) ag) B.di rfl cS (ax.d 2) (ax.g 2))))
  (av (dN (aO (qA e) (sR e) (hr.mono (by decide)) (aa ak (aa (aO (uy e) (BD e) (hr.mono (by decide)) (aa (ax.nm 0) (aa (ax.nm 1) (aa (ax.nm 2) ag))) (ax.d 3) (ax.g 3)) ag)) (ax.d 4) (ax.g 4)) (ax.nm 3) (ax.nm 2))
  (av (gn (Gf (ax.g 5) B.gb (aa (aX mI (b_ dj (aa (ax.nm 0) ag) B.di rfl cS (ax.d 2) (ax.g 2)) ak) (aa (jz ak) (aa (jz ak) ag)))) (dz eY.nd (by first|exact Or.inl rfl|exact Or.inr rfl) (by first|exact .inl rfl|exact .inr rfl)) (av (aV eY.nd (ax.l 5) (aO (kj e) (mS e) (hr.mono (by decide)) (aa (aJ (ax.nm 0) (ax.nm 4)) ag) (ax.d 0) (ax.g 0)))
  (az (cp (a6 xt (aQ _) (ax.nm 5) (ax.nm 2)) (av (aV eY.nd (ax.l 6) (aO (BO e) (JH e) (hr.mono (by decide)) (aa (aO (nV e) (qB e) (hr.mono (by decide)) (aa ak ag) (ax.d 1) (ax.g 1)) (aa (aO (mH e) (pY e) (hr.mono (by decide)) (aa (ax.nm 3) (aa (aJ (ax.nm 0) (ax.nm 4)) ag)) (ax.d 6) (ax.g 6)) ag)) (ax.d 7) (ax.g 7)))
  (az (dN (aO (EO e) (MN e) (hr.mono (by decide)) (aa (ax.nm 6) (aa (aO (nV e) (qB e) (hr.mono (by decide)) (aa (aJ (aJ (ax.nm 0) (ax.nm 4)) (ax.nm 5)) ag) (ax.d 1) (ax.g 1)) ag)) (ax.d 8) (ax.g 8)) (ax.nm 3) (ax.nm 5)))) bI))))
  (az (aL (eK eB (aa (ax.nm 3) ag) B.dm rfl cY (ax.d 9) (ax.g 9))))))))) uY
theorem zR:bE (KX w.params) mg "inside" "inside" ma ["rows","row"] 260 (Hd.fd ma "inside" "inside" gQ 259):=Hd.il e.X e.G (by kernel_rfl) fun _ _ _ _ _ _ _ _=>rfl
theorem GY:bf PW w (KX w.params) mg base cD 6 260 (Hd.fd ma "inside" "inside" gQ 259) ["rows","row"] (cG uX):=by
 have B:=Bt e;have Q:=Qt e
 exact bH (N:=rE) (zR e).fn o7 (fun cdv A outer s H E hr=>(av (aV o7.nd (ck.l 2) (aO (vR e) (Dv e) (hr.mono (by decide)) (aa (ck.nm 0) ag) (ck.d 0) (ck.g 0)))
  (av (aV o7.nd (ck.l 3) (aJ (ck.nm 2) ak))
  (av (aV o7.nd (ck.l 4) (aO (yl e) (FL e) (hr.mono (by decide)) (aa (ck.nm 3) (aa (ck.nm 1) ag)) (ck.d 1) (ck.g 1)))
  (av (cp (a6 FJ (aQ _) (aO (kj e) (mS e) (hr.mono (by decide)) (aa (aJ (ck.nm 4) ak) ag) (ck.d 2) (ck.g 2)) tV) (az (aL (cH (aa f6 (aa (aO (pw e) (vF e) (hr.mono (by decide)) (aa (ck.nm 3) (aa (aJ (ck.nm 4) ak) ag)) (ck.d 3) (ck.g 3)) ag))))) bI)
  (az (aL (cH (aa f6 (aa (aO (u_ e) (zI e) (hr.mono (by decide)) (aa (aJ (ck.nm 4) ak) (aa (wR (aJ (ck.nm 2) ak) wM (w9 (b_ dj (aa (ck.nm 3) ag) B.di rfl cS (ck.d 4) (ck.g 4)))) (aa (b_ dj (aa (ck.nm 0) ag) B.di rfl cS (ck.d 4) (ck.g 4)) ag))) (ck.d 5) (ck.g 5)) ag)))))))))) FR
theorem uO:bE (KX w.params) mg "are_parts" "are_parts" gv ["thing","many"] 265 (Hd.fd gv "are_parts" "are_parts" gQ 264):=Hd.il e.X e.G (by kernel_rfl) fun _ _ _ _ _ _ _ _=>rfl
theorem BB:bf PW w (KX w.params) mg base cD 5 265 (Hd.fd gv "are_parts" "are_parts" gQ 264) ["thing","many"] (cG pK):=by
 have B:=Bt e;have Q:=Qt e;exact bH (N:=my) (uO e).fn zG (fun cdv A outer s H E hr=>(az (aL (kP (aO (jq e) (lO e) (hr.mono (by decide)) (aa (gu.nm 0) (aa (gu.nm 1) ag)) (gu.d 0) (gu.g 0)) (mr (b_ (tS rfl) (aa (eN (Nc:=["each"]) (bh.look (aj gv) ["thing","many"] (by decide+kernel)) (d_ (gu.nm 0)) (fun _ _ _ _=>(dz (show(["each"]:List Str).Nodup by decide+kernel) (by first|exact Or.inl rfl|exact Or.inr rfl) (by first|exact .inl rfl|exact .inr rfl))) (fun _ _ _ _=>cB) (fun _ _ _ _=>(aO (yj e) (FZ e) (hr.mono (by decide)) (aa cW ag) (by decide+kernel) rfl)) cx) ag) B.tX rfl ql (gu.d 1) (gu.g 1))))))) y9
theorem rp:bE (KX w.params) mg "is_whole" "is_whole" jA ["one"] 272 (Hd.fd jA "is_whole" "is_whole" gQ 271):=Hd.oR e.X e.G (by kernel_rfl) fun _ _ _ _ _ _ _=>rfl
theorem vK:bf PW w (KX w.params) mg base cD 1 272 (Hd.fd jA "is_whole" "is_whole" gQ 271) ["one"] (cG nI):=by
 have B:=Bt e;have Q:=Qt e;exact bH (N:=nN) (rp e).fn Bv (fun cdv A outer s H E hr=>(az (aL (kW (dc hr) (aQ _) (aJ (C8.nm 0) ak) ak)))) Bh
theorem sF:bE (KX w.params) mg "parts_show" "parts_show" fT ["rows","row","parts"] 277 (Hd.fd fT "parts_show" "parts_show" gQ 276):=Hd.x8 e.X e.G (by kernel_rfl) fun _ _ _ _ _ _ _ _ _=>rfl
theorem zo:bf PW w (KX w.params) mg base cD 6 277 (Hd.fd fT "parts_show" "parts_show" gQ 276) ["rows","row","parts"] (cG oQ):=by
 have B:=Bt e;have Q:=Qt e
 exact bH (N:=kZ) (sF e).fn yy (fun cdv A outer s H E hr=>(av (cp (gd (nC (jP (ip (aO (uO e) (BB e) (hr.mono (by decide)) (aa (cQ.nm 2) (aa (b_ dj (aa (cQ.nm 1) ag) B.di rfl cS (cQ.d 0) (cQ.g 0)) ag)) (cQ.d 1) (cQ.g 1)))) (m9 (ip (aO (rp e) (vK e) (hr.mono (by decide)) (aa (aO (mH e) (pY e) (hr.mono (by decide)) (aa (cQ.nm 2) (aa (cQ.nm 1) ag)) (cQ.d 2) (cQ.g 2)) ag) (cQ.d 3) (cQ.g 3)))))) (az (aL iJ)) bI)
  (az (aL (b_ (tS rfl) (aa (eN (Nc:=["each","parts"]) (bh.look (aj fT) ["rows","row","parts"] (by decide+kernel)) (d_ (cQ.nm 0)) (fun _ _ _ _=>(dz (show(["each","parts"]:List Str).Nodup by decide+kernel) (by first|exact Or.inl rfl|exact Or.inr rfl) (by first|exact .inl rfl|exact .inr rfl))) (fun _ _ _ _=>cB) (fun _ _ _ _=>(aO (rp e) (vK e) (hr.mono (by decide)) (aa (aO (mH e) (pY e) (hr.mono (by decide)) (aa cW (aa cW ag)) (by decide+kernel) rfl) ag) (by decide+kernel) rfl)) cx) ag) B.tX rfl ql (cQ.d 4) (cQ.g 4)))))) yF
theorem qz:bE (KX w.params) mg "weights_show" "weights_show" fM ["rows","row","weights"] 284 (Hd.fd fM "weights_show" "weights_show" gQ 283):=Hd.x8 e.X e.G (by kernel_rfl) fun _ _ _ _ _ _ _ _ _=>rfl
theorem w_:bf PW w (KX w.params) mg base cD 4 284 (Hd.fd fM "weights_show" "weights_show" gQ 283) ["rows","row","weights"] (cG lH):=by
 have B:=Bt e;have Q:=Qt e;exact bH (N:=jt) (qz e).fn vI (fun cdv A outer s H E hr=>(az (aL (kP (aO (nh e) (rS e) (hr.mono (by decide)) (aa (bZ.nm 2) (aa (b_ dj (aa (bZ.nm 0) ag) B.di rfl cS (bZ.d 0) (bZ.g 0)) ag)) (bZ.d 1) (bZ.g 1)) (mr (kW (dc hr) (aQ _) (aO (u_ e) (zI e) (hr.mono (by decide)) (aa (bZ.nm 2) (aa (bZ.nm 0) (aa (b_ dj (aa (bZ.nm 1) ag) B.di rfl cS (bZ.d 0) (bZ.g 0)) ag))) (bZ.d 2) (bZ.g 2)) (eK eB (aa (bZ.nm 1) ag) B.dm rfl cY (bZ.d 3) (bZ.g 3)))))))) wH
theorem lE:bE (KX w.params) mg "shows_inside" "shows_inside" fQ ["rows","row","told"] 291 (Hd.fd fQ "shows_inside" "shows_inside" gQ 290):=Hd.x8 e.X e.G (by kernel_rfl) fun _ _ _ _ _ _ _ _ _=>rfl
theorem qo:bf PW w (KX w.params) mg base cD 7 291 (Hd.fd fQ "shows_inside" "shows_inside" gQ 290) ["rows","row","told"] (cG jw):=by
 have B:=Bt e;have Q:=Qt e
 exact bH (N:=ji) (lE e).fn wy (fun cdv A outer s H E hr=>(av (cp (jP (ip (aO (jq e) (lO e) (hr.mono (by decide)) (aa (cy.nm 2) (aa ak ag)) (cy.d 0) (cy.g 0)))) (az (aL iJ)) bI)
  (av (cp (a6 (dc hr) (aQ _) (aJ (cy.nm 2) ak) f6) (az (aL (aO (qz e) (w_ e) (hr.mono (by decide)) (aa (cy.nm 0) (aa (cy.nm 1) (aa (aJ (cy.nm 2) ak) ag))) (cy.d 1) (cy.g 1)))) bI)
  (az (aL (kP (kW (dc hr) (aQ _) (aJ (cy.nm 2) ak) f6) (mr (aO (sF e) (zo e) (hr.mono (by decide)) (aa (cy.nm 0) (aa (cy.nm 1) (aa (aJ (cy.nm 2) ak) ag))) (cy.d 2) (cy.g 2))))))))) vA
theorem vQ:bE (KX w.params) mg "_law_hand" "_law_hand" ig ["_law_script"] 296 (Hd.fd ig "_law_hand" "_law_hand" dO 295):=Hd.oR e.X e.G (by kernel_rfl) fun _ _ _ _ _ _ _=>rfl
theorem DU:bf PW w (KX w.params) mg base cD 1 296 (Hd.fd ig "_law_hand" "_law_hand" dO 295) ["_law_script"] (cG qM):=by
 have B:=Bt e;have Q:=Qt e;exact bH (N:=nD) (vQ e).fn Br (fun cdv A outer s H E hr=>(az (aL (yS (aa (eN (Nc:=["_law_cell"]) (bh.look (aj ig) ["_law_script"] (by decide+kernel)) (d_ (wR (Dr.nm 0) wM (w9 ak))) (fun _ _ _ _=>(dz (show(["_law_cell"]:List Str).Nodup by decide+kernel) (by first|exact Or.inl rfl|exact Or.inr rfl) (by first|exact .inl rfl|exact .inr rfl))) (fun _ _ _ _=>cB) (fun _ _ _ _=>(b_ qF (aa cW ag) B.rg rfl oq (by decide+kernel) rfl)) cx) (aa ak (aa ak (aa ak ag)))))))) Bp
theorem bC:bE (KX w.params) mg "_law_draw" "_law_draw" js ["_law_hand_here","_law_many"] 303 (Hd.fd js "_law_draw" "_law_draw" dO 302):=Hd.il e.X e.G (by kernel_rfl) fun _ _ _ _ _ _ _ _=>rfl
theorem bG:bf PW w (KX w.params) mg base cD 1 303 (Hd.fd js "_law_draw" "_law_draw" dO 302) ["_law_hand_here","_law_many"] (cG bo):=by
 have B:=Bt e;have Q:=Qt e
 exact bH (N:=nJ) (bC e).fn gy (fun cdv A outer s H E hr=>(av (dN (aX ff (aJ (aP.nm 0) ak) ak) (aP.nm 0) ak)
  (av (cp (a6 (dc hr) (aQ _) (aJ (aP.nm 0) ak) ak) (av (aV gy.nd (aP.l 2) ak)
  (av (cp (a6 sA (aQ _) (b_ dj (aa (aJ (aP.nm 0) ak) ag) B.di rfl cS (aP.d 0) (aP.g 0)) ak) (az (aV gy.nd (aP.l 2) (aJ (aJ (aP.nm 0) ak) (aX jl (aJ (aP.nm 0) ak) (b_ dj (aa (aJ (aP.nm 0) ak) ag) B.di rfl cS (aP.d 0) (aP.g 0)))))) bI)
  (av (dN (aX ff (aJ (aP.nm 0) ak) ak) (aP.nm 0) ak)
  (av (cp (gd (nC (a6 xt (aQ _) (aP.nm 2) (aX yV ak ak)) (m9 (a6 sA (aQ _) (aJ (aP.nm 0) ak) (b_ dj (aa (aJ (aP.nm 0) ak) ag) B.di rfl cS (aP.d 0) (aP.g 0)))))) (av (aV gy.nd (aP.l 3) (aX ff (aX ff (aX jl (aP.nm 2) ak) (aX c7 ak (aJ (aP.nm 0) ak))) ak))
  (av (aV gy.nd (aP.l 3) (aX jl (aX c7 (aP.nm 3) (aX ff ak (aX c7 ak (aJ (aP.nm 0) ak)))) ak))
  (av (aV gy.nd (aP.l 4) (aX jl (aX ff (aX c7 (aP.nm 3) (aX ff (aX jl (aP.nm 3) ak) (aJ (aP.nm 0) ak))) (aX c7 ak (aJ (aP.nm 0) ak))) ak))
  (az (aL (aX jl (aX v8 (aP.nm 4) ak) (aP.nm 1))))))) bI)
  (az (dN (aP.nm 2) (aP.nm 0) ak)))))) bI)
  (av (aV gy.nd (aP.l 5) (aX jl (aJ (aP.nm 0) ak) (aP.nm 1)))
  (av (dN (aX v8 (aJ (aP.nm 0) ak) (aP.nm 1)) (aP.nm 0) ak)
  (az (aL (aP.nm 5)))))))) BI
theorem sM:bE (KX w.params) mg "_law_number" "_law_number" gY ["_law_hand_here","_law_kind"] 310 (Hd.fd gY "_law_number" "_law_number" dO 309):=Hd.il e.X e.G (by kernel_rfl) fun _ _ _ _ _ _ _ _=>rfl
theorem Aw:bf PW w (KX w.params) mg base cD 2 310 (Hd.fd gY "_law_number" "_law_number" dO 309) ["_law_hand_here","_law_kind"] (cG k6):=by
 have B:=Bt e;have Q:=Qt e
 exact bH (N:=k_) (sM e).fn rQ (fun cdv A outer s H E hr=>(av (cp (a6 (dc hr) (aQ _) (cq.nm 1) ak) (av (aV rQ.nd (cq.l 2) (aX ff (aX c7 (aO (bC e) (bG e) (hr.mono (by decide)) (aa (cq.nm 0) (aa (aX yV ak ak) ag)) (cq.d 0) (cq.g 0)) (aX yV ak ak)) (aO (bC e) (bG e) (hr.mono (by decide)) (aa (cq.nm 0) (aa (aX yV ak ak) ag)) (cq.d 0) (cq.g 0))))
  (az (aL (aX c7 (cq.nm 2) (aJ (e_ (aa ak (aa (jz ak) (aa ak ag)))) (aO (bC e) (bG e) (hr.mono (by decide)) (aa (cq.nm 0) (aa ak ag)) (cq.d 0) (cq.g 0))))))) bI)
  (az (aL (aJ (e_ (aa ak (aa ak (aa (jz ak) (aa (aX mI (aO (bC e) (bG e) (hr.mono (by decide)) (aa (cq.nm 0) (aa ak ag)) (cq.d 0) (cq.g 0)) ak) ag))))) (aO (bC e) (bG e) (hr.mono (by decide)) (aa (cq.nm 0) (aa ak ag)) (cq.d 0) (cq.g 0))))))) yt
theorem wz:bE (KX w.params) mg "_law_rows" "_law_rows" fI ["_law_hand_here","_law_many","_law_wide","_law_kind"] 315 (Hd.fd fI "_law_rows" "_law_rows" dO 314):=Hd.Q1 e.X e.G (by kernel_rfl) fun _ _ _ _ _ _ _ _ _ _=>rfl
theorem DN:bf PW w (KX w.params) mg base cD 3 315 (Hd.fd fI "_law_rows" "_law_rows" dO 314) ["_law_hand_here","_law_many","_law_wide","_law_kind"] (cG qY):=by
 have B:=Bt e;have Q:=Qt e
 exact bH (N:=nL) (wz e).fn fe (fun cdv A outer s H E hr=>(av (aV fe.nd (aT.l 4) (yS ag))
  (av (gn (gB (aT.g 0) B.gb (aa (aT.nm 1) ag)) (dz fe.nd (by first|exact Or.inl rfl|exact Or.inr rfl) (by first|exact .inl rfl|exact .inr rfl)) (av (qv fe.nd (aT.l 6) (Nc:=["_law_j","_law_hand_here","_law_kind"]) (bh.look (aj fI) ["_law_hand_here","_law_many","_law_wide","_law_kind","_law_rows_here","_law_k","_law_row_here","_law_way"] (by decide+kernel)) (gB (aT.g 0) B.gb (aa (aT.nm 2) ag)) (fun _ _ _ _=>(dz (show(["_law_j","_law_hand_here","_law_kind"]:List Str).Nodup by decide+kernel) (by first|exact Or.inl rfl|exact Or.inr rfl) (by first|exact .inl rfl|exact .inr rfl))) (fun _ _ _ _=>cB) (fun _ _ _ _=>(aO (sM e) (Aw e) (hr.mono (by decide)) (aa cW (aa cW ag)) (by decide+kernel) rfl)) cx)
  (av (aV fe.nd (aT.l 7) (aO (bC e) (bG e) (hr.mono (by decide)) (aa (aT.nm 0) (aa ak ag)) (aT.d 1) (aT.g 1)))
  (av (cp (a6 (dc hr) (aQ _) (aT.nm 7) ak) (az (aV fe.nd (aT.l 6) (aX c7 (e_ (aa ak ag)) (aT.nm 2)))) bI)
  (av (cp (gd (lz (a6 (dc hr) (aQ _) (aT.nm 7) ak) (jv (a6 sA (aQ _) (aT.nm 5) ak)))) (az (aV fe.nd (aT.l 6) (eK ll (aa (aJ (aT.nm 4) (aX mI (aT.nm 5) ak)) ag) B.fU rfl eV (aT.d 2) (aT.g 2)))) bI)
  (av (cp (gd (lz (a6 (dc hr) (aQ _) (aT.nm 7) ak) (jv (a6 sA (aQ _) (aT.nm 5) ak)))) (az (qv fe.nd (aT.l 6) (Nc:=["_law_one","_law_other"]) (bh.look (aj fI) ["_law_hand_here","_law_many","_law_wide","_law_kind","_law_rows_here","_law_k","_law_row_here","_law_way"] (by decide+kernel)) (qE (aT.g 3) B.rD (aa (aJ (aT.nm 4) (aX mI (aT.nm 5) ak)) (aa (aJ (aT.nm 4) (aX mI (aT.nm 5) ak)) ag))) (fun _ _ _ _=>(jS rfl (show(["_law_one","_law_other"]:List Str).Nodup by decide+kernel) (by first|exact Or.inl rfl|exact Or.inr rfl) (by first|exact .inl rfl|exact .inr rfl) (by first|exact Or.inl rfl|exact Or.inr rfl) (by first|exact .inl rfl|exact .inr rfl))) (fun _ _ _ _=>cB) (fun _ _ _ _=>(aX ff cW cW)) ue)) bI)
  (av (cp (gd (lz (a6 (dc hr) (aQ _) (aT.nm 3) ak) (jv (a6 xt (aQ _) (aT.nm 7) ak)))) (az (qv fe.nd (aT.l 6) (Nc:=["_law_number_here"]) (bh.look (aj fI) ["_law_hand_here","_law_many","_law_wide","_law_kind","_law_rows_here","_law_k","_law_row_here","_law_way"] (by decide+kernel)) (d_ (aT.nm 6)) (fun _ _ _ _=>(dz (show(["_law_number_here"]:List Str).Nodup by decide+kernel) (by first|exact Or.inl rfl|exact Or.inr rfl) (by first|exact .inl rfl|exact .inr rfl))) (fun _ _ _ _=>cB) (fun _ _ _ _=>(aX jl cW ak)) cx)) bI)
  (az (iz (sO (aT.nm 4) (eK eB (aa (aT.nm 6) ag) B.dm rfl cY (aT.d 4) (aT.g 4))))))))))))
  (az (aL (eK eB (aa (aT.nm 4) ag) B.dm rfl cY (aT.d 4) (aT.g 4))))))) BC
theorem uJ:bE (KX w.params) mg "_law_sizes" "_law_sizes" iG ["_law_hand_here"] 322 (Hd.fd iG "_law_sizes" "_law_sizes" dO 321):=Hd.oR e.X e.G (by kernel_rfl) fun _ _ _ _ _ _ _=>rfl
theorem Bj:bf PW w (KX w.params) mg base cD 2 322 (Hd.fd iG "_law_sizes" "_law_sizes" dO 321) ["_law_hand_here"] (cG pV):=by
 have B:=Bt e;have Q:=Qt e
 exact bH (N:=mx) (uJ e).fn AW (fun cdv A outer s H E hr=>(av (cp (a6 (dc hr) (aQ _) (aO (bC e) (bG e) (hr.mono (by decide)) (aa (cZ.nm 0) (aa ak ag)) (cZ.d 0) (cZ.g 0)) ak) (az (aL (cH (aa (aX ff ak (aO (bC e) (bG e) (hr.mono (by decide)) (aa (cZ.nm 0) (aa ak ag)) (cZ.d 0) (cZ.g 0))) (aa (aX ff ak (aO (bC e) (bG e) (hr.mono (by decide)) (aa (cZ.nm 0) (aa ak ag)) (cZ.d 0) (cZ.g 0))) ag))))) bI)
  (az (aL (cH (aa (aX ff ak (aO (bC e) (bG e) (hr.mono (by decide)) (aa (cZ.nm 0) (aa ak ag)) (cZ.d 0) (cZ.g 0))) (aa (aX ff ak (aO (bC e) (bG e) (hr.mono (by decide)) (aa (cZ.nm 0) (aa ak ag)) (cZ.d 0) (cZ.g 0))) ag))))))) Ao
theorem pq:bE (KX w.params) mg "_law_some_rows" "_law_some_rows" ft ["_law_hand_here","_law_kinds"] 329 (Hd.fd ft "_law_some_rows" "_law_some_rows" dO 328):=Hd.il e.X e.G (by kernel_rfl) fun _ _ _ _ _ _ _ _=>rfl
theorem wd:bf PW w (KX w.params) mg base cD 4 329 (Hd.fd ft "_law_some_rows" "_law_some_rows" dO 328) ["_law_hand_here","_law_kinds"] (cG lx):=by
 have B:=Bt e;have Q:=Qt e
 exact bH (N:=iS) (pq e).fn oy (fun cdv A outer s H E hr=>(av (wJ (aO (uJ e) (Bj e) (hr.mono (by decide)) (aa (cP.nm 0) ag) (cP.d 0) (cP.g 0)) (jS rfl oy.nd (by first|exact Or.inl rfl|exact Or.inr rfl) (by first|exact .inl rfl|exact .inr rfl) (by first|exact Or.inl rfl|exact Or.inr rfl) (by first|exact .inl rfl|exact .inr rfl)))
  (az (aL (aO (wz e) (DN e) (hr.mono (by decide)) (aa (cP.nm 0) (aa (cP.nm 2) (aa (cP.nm 3) (aa (aO (bC e) (bG e) (hr.mono (by decide)) (aa (cP.nm 0) (aa (cP.nm 1) ag)) (cP.d 1) (cP.g 1)) ag)))) (cP.d 2) (cP.g 2)))))) vb
theorem oN:bE (KX w.params) mg "_law_lowest" "_law_lowest" d8 ["_law_top","_law_bottom"] 336 (Hd.fd d8 "_law_lowest" "_law_lowest" dO 335):=Hd.il e.X e.G (by kernel_rfl) fun _ _ _ _ _ _ _ _=>rfl
theorem sv:bf PW w (KX w.params) mg base cD 1 336 (Hd.fd d8 "_law_lowest" "_law_lowest" dO 335) ["_law_top","_law_bottom"] (cG kR):=by
 have B:=Bt e;have Q:=Qt e
 exact bH (N:=kG) (oN e).fn fv (fun cdv A outer s H E hr=>(av (D_ fv.nd (by decide) (show(aj d8).names.lookup ("_law_one":Str)=some .local by decide+kernel) (show(aj d8).names.lookup ("_law_other":Str)=some .local by decide+kernel) (aa (b_ qF (aa (dg.nm 0) ag) B.rg rfl oq (dg.d 0) (dg.g 0)) (aa (dg.nm 1) ag)))
  (av (u4 (a6 sA (aQ _) (dg.nm 3) ak) (az (D_ fv.nd (by decide) (show(aj d8).names.lookup ("_law_one":Str)=some .local by decide+kernel) (show(aj d8).names.lookup ("_law_other":Str)=some .local by decide+kernel) (aa (dg.nm 3) (aa (aX jl (dg.nm 2) (dg.nm 3)) ag)))))
  (az (aL (cH (aa (aX (nY hr rfl fv.gen fv.co) (dg.nm 0) (dg.nm 2)) (aa (aX (nY hr rfl fv.gen fv.co) (dg.nm 1) (dg.nm 2)) ag)))))))) yA
theorem rT:bE (KX w.params) mg "_law_is_part" "_law_is_part" fw ["_law_found"] 341 (Hd.fd fw "_law_is_part" "_law_is_part" dO 340):=Hd.oR e.X e.G (by kernel_rfl) fun _ _ _ _ _ _ _=>rfl
theorem yG:bf PW w (KX w.params) mg base cD 2 341 (Hd.fd fw "_law_is_part" "_law_is_part" dO 340) ["_law_found"] (cG ni):=by
 have B:=Bt e;have Q:=Qt e
 exact bH (N:=jW) (rT e).fn wU (fun cdv A outer s H E hr=>(av (cp (gd (nC (jP (ip (b_ jX (aa (bK.nm 0) (aa (cH (aa (jD B.dm rfl cY (bK.d 1) (bK.g 1)) (aa (jD B.fU rfl eV (bK.d 0) (bK.g 0)) ag))) ag)) B.dh rfl c6 (bK.d 2) (bK.g 2)))) (m9 (a6 pR (aQ _) (b_ dj (aa (bK.nm 0) ag) B.di rfl cS (bK.d 3) (bK.g 3)) ak)))) (az (aL iJ)) bI)
  (av (cp (jP (ip (b_ (tS rfl) (aa (eN (Nc:=["_law_one"]) (bh.look (aj fw) ["_law_found"] (by decide+kernel)) (d_ (bK.nm 0)) (fun _ _ _ _=>(dz (show(["_law_one"]:List Str).Nodup by decide+kernel) (by first|exact Or.inl rfl|exact Or.inr rfl) (by first|exact .inl rfl|exact .inr rfl))) (fun _ _ _ _=>cB) (fun _ _ _ _=>(kP (b_ jX (aa cW (aa (jD B.yW rfl vP (by decide+kernel) rfl) ag)) B.dh rfl c6 (by decide+kernel) rfl) (mr (CM (b_ jX (aa cW (aa (jD B.vx rfl t6 (by decide+kernel) rfl) ag)) B.dh rfl c6 (by decide+kernel) rfl))))) cx) ag) B.tX rfl ql (bK.d 4) (bK.g 4)))) (az (aL iJ)) bI)
  (az (aL (kP (kW sA (aQ _) (aJ (bK.nm 0) ak) ak) (mr (kW (dc hr) (aQ _) (aO (oN e) (sv e) (hr.mono (by decide)) (aa (aJ (bK.nm 0) ak) (aa (aJ (bK.nm 0) ak) ag)) (bK.d 5) (bK.g 5)) (cH (aa (aJ (bK.nm 0) ak) (aa (aJ (bK.nm 0) ak) ag))))))))))) wO
theorem pP:bE (KX w.params) mg "_law_worth" "_law_worth" iw ["_law_parts","_law_row_here"] 348 (Hd.fd iw "_law_worth" "_law_worth" dO 347):=Hd.il e.X e.G (by kernel_rfl) fun _ _ _ _ _ _ _ _=>rfl
theorem uz:bf PW w (KX w.params) mg base cD 1 348 (Hd.fd iw "_law_worth" "_law_worth" dO 347) ["_law_parts","_law_row_here"] (cG mm):=by
 have B:=Bt e;have Q:=Qt e
 exact bH (N:=mw) (pP e).fn gT (fun cdv A outer s H E hr=>(av (aV gT.nd (cR.l 2) ak)
  (av (aV gT.nd (cR.l 3) ak)
  (av (gn (qE (cR.g 0) B.rD (aa (cR.nm 0) (aa (cR.nm 1) ag))) (jS rfl gT.nd (by first|exact Or.inl rfl|exact Or.inr rfl) (by first|exact .inl rfl|exact .inr rfl) (by first|exact Or.inl rfl|exact Or.inr rfl) (by first|exact .inl rfl|exact .inr rfl)) (av (aV gT.nd (cR.l 2) (aX ff (aX c7 (cR.nm 2) (aJ (cR.nm 4) ak)) (aX c7 (aX c7 (aJ (cR.nm 4) ak) (cR.nm 5)) (cR.nm 3))))
  (az (aV gT.nd (cR.l 3) (aX c7 (cR.nm 3) (aJ (cR.nm 4) ak))))))
  (az (aL (cH (aa (cR.nm 2) (aa (cR.nm 3) ag))))))))) zO
theorem uP:bE (KX w.params) mg "_law_shown" "_law_shown" fb ["_law_rows_here","_law_row_here","_law_found"] 353 (Hd.fd fb "_law_shown" "_law_shown" dO 352):=Hd.x8 e.X e.G (by kernel_rfl) fun _ _ _ _ _ _ _ _ _=>rfl
theorem BH:bf PW w (KX w.params) mg base cD 3 353 (Hd.fd fb "_law_shown" "_law_shown" dO 352) ["_law_rows_here","_law_row_here","_law_found"] (cG pN):=by
 have B:=Bt e;have Q:=Qt e
 exact bH (N:=mD) (uP e).fn gX (fun cdv A outer s H E hr=>(av (cp (gd (nC (jP (ip (b_ jX (aa (ay.nm 2) (aa (cH (aa (jD B.dm rfl cY (ay.d 1) (ay.g 1)) (aa (jD B.fU rfl eV (ay.d 0) (ay.g 0)) ag))) ag)) B.dh rfl c6 (ay.d 2) (ay.g 2)))) (m9 (a6 pR (aQ _) (b_ dj (aa (ay.nm 2) ag) B.di rfl cS (ay.d 3) (ay.g 3)) ak)))) (az (aL iJ)) bI)
  (av (cp (gd (nC (jP (ip (b_ jX (aa (aJ (ay.nm 2) ak) (aa (jD B.O0 rfl Nr (ay.d 4) (ay.g 4)) ag)) B.dh rfl c6 (ay.d 2) (ay.g 2)))) (m9 (jP (ip (b_ jX (aa (aJ (ay.nm 2) ak) (aa (cH (aa (jD B.dm rfl cY (ay.d 1) (ay.g 1)) (aa (jD B.fU rfl eV (ay.d 0) (ay.g 0)) ag))) ag)) B.dh rfl c6 (ay.d 2) (ay.g 2))))))) (az (aL iJ)) bI)
  (av (aV gX.nd (ay.l 3) (aJ (ay.nm 2) ak))
  (av (cp (a6 (dc hr) (aQ _) (aJ (ay.nm 2) ak) f6) (av (cp (gd (nC (a6 pR (aQ _) (b_ dj (aa (ay.nm 3) ag) B.di rfl cS (ay.d 3) (ay.g 3)) (b_ dj (aa (ay.nm 0) ag) B.di rfl cS (ay.d 3) (ay.g 3))) (m9 (jP (ip (b_ (tS rfl) (aa (eN (Nc:=["_law_one"]) (bh.look (aj fb) ["_law_rows_here","_law_row_here","_law_found","_law_told","_law_sums","_law_step","_law_top","_law_bottom"] (by decide+kernel)) (d_ (ay.nm 3)) (fun _ _ _ _=>(dz (show(["_law_one"]:List Str).Nodup by decide+kernel) (by first|exact Or.inl rfl|exact Or.inr rfl) (by first|exact .inl rfl|exact .inr rfl))) (fun _ _ _ _=>cB) (fun _ _ _ _=>(kP (b_ jX (aa cW (aa (jD B.yW rfl vP (by decide+kernel) rfl) ag)) B.dh rfl c6 (by decide+kernel) rfl) (mr (CM (b_ jX (aa cW (aa (jD B.vx rfl t6 (by decide+kernel) rfl) ag)) B.dh rfl c6 (by decide+kernel) rfl))))) cx) ag) B.tX rfl ql (ay.d 5) (ay.g 5))))))) (az (aL iJ)) bI)
  (av (qv gX.nd (ay.l 4) (Nc:=["_law_j","_law_told","_law_rows_here"]) (bh.look (aj fb) ["_law_rows_here","_law_row_here","_law_found","_law_told","_law_sums","_law_step","_law_top","_law_bottom"] (by decide+kernel)) (gB (ay.g 6) B.gb (aa (b_ dj (aa (ay.nm 1) ag) B.di rfl cS (ay.d 3) (ay.g 3)) ag)) (fun _ _ _ _=>(dz (show(["_law_j","_law_told","_law_rows_here"]:List Str).Nodup by decide+kernel) (by first|exact Or.inl rfl|exact Or.inr rfl) (by first|exact .inl rfl|exact .inr rfl))) (fun _ _ _ _=>cB) (fun _ _ _ _=>(b_ (Ou rfl) (aa (eN (Nc:=["_law_often","_law_step","_law_j"]) (bh.Pa (by decide+kernel)) (qE rfl B.rD (aa cW (aa cW ag))) (fun _ _ _ _=>(jS rfl (show(["_law_often","_law_step","_law_j"]:List Str).Nodup by decide+kernel) (by first|exact Or.inl rfl|exact Or.inr rfl) (by first|exact .inl rfl|exact .inr rfl) (by first|exact Or.inl rfl|exact Or.inr rfl) (by first|exact .inl rfl|exact .inr rfl))) (fun _ _ _ _=>cB) (fun _ _ _ _=>(aX c7 cW (aJ cW cW))) ue) ag) B.Od rfl Lj (by decide+kernel) rfl)) cx)
  (az (aL (kW (dc hr) (aQ _) (ay.nm 4) (eK ll (aa (ay.nm 1) ag) B.fU rfl eV (ay.d 0) (ay.g 0))))))) bI)
  (av (cp (gd (nC (a6 (OA hr) (aQ _) (aJ (ay.nm 2) ak) f6) (nC (a6 pR (aQ _) (b_ dj (aa (ay.nm 3) ag) B.di rfl cS (ay.d 3) (ay.g 3)) (b_ dj (aa (ay.nm 1) ag) B.di rfl cS (ay.d 3) (ay.g 3))) (m9 (jP (ip (b_ (tS rfl) (aa (eN (Nc:=["_law_one"]) (bh.look (aj fb) ["_law_rows_here","_law_row_here","_law_found","_law_told","_law_sums","_law_step","_law_top","_law_bottom"] (by decide+kernel)) (d_ (ay.nm 3)) (fun _ _ _ _=>(dz (show(["_law_one"]:List Str).Nodup by decide+kernel) (by first|exact Or.inl rfl|exact Or.inr rfl) (by first|exact .inl rfl|exact .inr rfl))) (fun _ _ _ _=>cB) (fun _ _ _ _=>(aO (rT e) (yG e) (hr.mono (by decide)) (aa cW ag) (by decide+kernel) rfl)) cx) ag) B.tX rfl ql (ay.d 5) (ay.g 5)))))))) (az (aL iJ)) bI)
  (av (gn (d_ (ay.nm 0)) (dz gX.nd (by first|exact Or.inl rfl|exact Or.inr rfl) (by first|exact .inl rfl|exact .inr rfl)) (av (wJ (aO (pP e) (uz e) (hr.mono (by decide)) (aa (ay.nm 3) (aa (ay.nm 5) ag)) (ay.d 7) (ay.g 7)) (jS rfl gX.nd (by first|exact Or.inl rfl|exact Or.inr rfl) (by first|exact .inl rfl|exact .inr rfl) (by first|exact Or.inl rfl|exact Or.inr rfl) (by first|exact .inl rfl|exact .inr rfl)))
  (az (cp (a6 pR (aQ _) (aX jl (ay.nm 6) (ay.nm 7)) ak) (az (aL iJ)) bI))))
  (av (wJ (aO (pP e) (uz e) (hr.mono (by decide)) (aa (ay.nm 3) (aa (ay.nm 1) ag)) (ay.d 7) (ay.g 7)) (jS rfl gX.nd (by first|exact Or.inl rfl|exact Or.inr rfl) (by first|exact .inl rfl|exact .inr rfl) (by first|exact Or.inl rfl|exact Or.inr rfl) (by first|exact .inl rfl|exact .inr rfl)))
  (az (aL (kW pR (aQ _) (aX jl (ay.nm 6) (ay.nm 7)) ak))))))))))) za
theorem x3:bE (KX w.params) mg "_law_row" "_law_row" g7 ["_law_hand_here","_law_rows_here"] 358 (Hd.fd g7 "_law_row" "_law_row" dO 357):=Hd.il e.X e.G (by kernel_rfl) fun _ _ _ _ _ _ _ _=>rfl
theorem Er:bf PW w (KX w.params) mg base cD 2 358 (Hd.fd g7 "_law_row" "_law_row" dO 357) ["_law_hand_here","_law_rows_here"] (cG sJ):=by
 have B:=Bt e;have Q:=Qt e
 exact bH (N:=pF) (x3 e).fn kL (fun cdv A outer s H E hr=>(av (aV kL.nd (bz.l 2) (aX Eg (e_ (aa ak ag)) (b_ dj (aa (aJ (bz.nm 1) ak) ag) B.di rfl cS (bz.d 0) (bz.g 0))))
  (av (gn (d_ (bz.nm 1)) (dz kL.nd (by first|exact Or.inl rfl|exact Or.inr rfl) (by first|exact .inl rfl|exact .inr rfl)) (av (aV kL.nd (bz.l 4) (aX mI (aO (bC e) (bG e) (hr.mono (by decide)) (aa (bz.nm 0) (aa ak ag)) (bz.d 1) (bz.g 1)) ak))
  (az (cp (a6 xt (aQ _) (b_ (MM rfl) (aa (eN (Nc:=["_law_one"]) (bh.look (aj g7) ["_law_hand_here","_law_rows_here","_law_row_here","_law_step","_law_often"] (by decide+kernel)) (d_ (bz.nm 3)) (fun _ _ _ _=>(dz (show(["_law_one"]:List Str).Nodup by decide+kernel) (by first|exact Or.inl rfl|exact Or.inr rfl) (by first|exact .inl rfl|exact .inr rfl))) (fun _ _ _ _=>cB) (fun _ _ _ _=>(b_ qF (aa cW ag) B.rg rfl oq (by decide+kernel) rfl)) cx) ag) B.Ik rfl EU (bz.d 2) (bz.g 2)) ak) (az (qH kL.nd (bz.l 2) (Nc:=["_law_one","_law_other","_law_often"]) (bh.look (aj g7) ["_law_hand_here","_law_rows_here","_law_row_here","_law_step","_law_often"] (by decide+kernel)) (qE (bz.g 3) B.rD (aa (bz.nm 2) (aa (bz.nm 3) ag))) (fun _ _ _ _=>(jS rfl (show(["_law_one","_law_other","_law_often"]:List Str).Nodup by decide+kernel) (by first|exact Or.inl rfl|exact Or.inr rfl) (by first|exact .inl rfl|exact .inr rfl) (by first|exact Or.inl rfl|exact Or.inr rfl) (by first|exact .inl rfl|exact .inr rfl))) (fun _ _ _ _=>cB) (fun _ _ _ _=>(aX ff cW (aX c7 cW cW))) ue)) bI))))
  (av (cp (a6 (dc hr) (aQ _) (aO (bC e) (bG e) (hr.mono (by decide)) (aa (bz.nm 0) (aa ak ag)) (bz.d 1) (bz.g 1)) ak) (az (dN (aX mI (aO (bC e) (bG e) (hr.mono (by decide)) (aa (bz.nm 0) (aa ak ag)) (bz.d 1) (bz.g 1)) ak) (bz.nm 2) (aO (bC e) (bG e) (hr.mono (by decide)) (aa (bz.nm 0) (aa (b_ dj (aa (bz.nm 2) ag) B.di rfl cS (bz.d 0) (bz.g 0)) ag)) (bz.d 1) (bz.g 1)))) bI)
  (az (aL (eK eB (aa (bz.nm 2) ag) B.dm rfl cY (bz.d 4) (bz.g 4)))))))) DC
theorem o6:bE (KX w.params) mg "_law_odd" "_law_odd" kr ["_law_hand_here"] 365 (Hd.fd kr "_law_odd" "_law_odd" dO 364):=Hd.oR e.X e.G (by kernel_rfl) fun _ _ _ _ _ _ _=>rfl
theorem tm:bf PW w (KX w.params) mg base cD 2 365 (Hd.fd kr "_law_odd" "_law_odd" dO 364) ["_law_hand_here"] (cG mP):=by
 have B:=Bt e;have Q:=Qt e
 exact bH (N:=pE) (o6 e).fn q_ (fun cdv A outer s H E hr=>(av (aV q_.nd (fL.l 1) (e_ (aa iJ (aa tV (aa f6 (aa (cH (aa ak (aa ak ag))) (aa (e_ ag) (aa (cH ag) (aa (cH (aa ak (aa ak ag))) (aa (cH (aa ak (aa (jz ak) ag))) (aa (cH (aa ak (aa ak ag))) (aa (jz ak) (aa ak (aa (e_ (aa (e_ (aa ak ag)) ag)) (aa (cH (aa ak (aa ak ag))) (aa (cH (aa ak ag)) ag))))))))))))))))
  (av (aV q_.nd (fL.l 1) (aX ff (fL.nm 1) (e_ (aa (cH (aa iJ (aa ak ag))) (aa (cH (aa f6 (aa ak ag))) (aa (cH (aa tV (aa ak ag))) (aa (e_ (aa ak (aa ak ag))) (aa (cH (aa ak (aa iJ ag))) (aa (cH (aa ak (aa ak (aa ak ag)))) ag)))))))))
  (az (aL (aJ (fL.nm 1) (aO (bC e) (bG e) (hr.mono (by decide)) (aa (fL.nm 0) (aa (b_ dj (aa (fL.nm 1) ag) B.di rfl cS (fL.d 0) (fL.g 0)) ag)) (fL.d 1) (fL.g 1)))))))) CZ
theorem vC:bE (KX w.params) mg "_law_bent" "_law_bent" fh ["_law_hand_here","_law_told"] 370 (Hd.fd fh "_law_bent" "_law_bent" dO 369):=Hd.il e.X e.G (by kernel_rfl) fun _ _ _ _ _ _ _ _=>rfl
theorem DF:bf PW w (KX w.params) mg base cD 3 370 (Hd.fd fh "_law_bent" "_law_bent" dO 369) ["_law_hand_here","_law_told"] (cG rF):=by
 have B:=Bt e;have Q:=Qt e
 exact bH (N:=nE) (vC e).fn fK (fun cdv A outer s H E hr=>(av (wJ (cH (aa (aJ (aw.nm 1) ak) (aa (eK Ct (aa (aJ (aw.nm 1) ak) ag) B.fU rfl eV (aw.d 0) (aw.g 0)) ag))) (jS rfl fK.nd (by first|exact Or.inl rfl|exact Or.inr rfl) (by first|exact .inl rfl|exact .inr rfl) (by first|exact Or.inl rfl|exact Or.inr rfl) (by first|exact .inl rfl|exact .inr rfl)))
  (av (aV fK.nd (aw.l 4) (aO (bC e) (bG e) (hr.mono (by decide)) (aa (aw.nm 0) (aa ak ag)) (aw.d 1) (aw.g 1)))
  (av (aV fK.nd (aw.l 5) (aO (bC e) (bG e) (hr.mono (by decide)) (aa (aw.nm 0) (aa (b_ (NR rfl) (aa ak (aa (b_ dj (aa (aw.nm 3) ag) B.di rfl cS (aw.d 2) (aw.g 2)) ag)) B.Ik rfl EU (aw.d 3) (aw.g 3)) ag)) (aw.d 1) (aw.g 1)))
  (av (cp (a6 (dc hr) (aQ _) (aw.nm 4) ak) (az (aV fK.nd (aw.l 2) (aJ (e_ (aa f6 (aa f6 (aa f6 (aa tV (aa ak ag)))))) (aO (bC e) (bG e) (hr.mono (by decide)) (aa (aw.nm 0) (aa ak ag)) (aw.d 1) (aw.g 1))))) bI)
  (av (cp (gd (lz (a6 (dc hr) (aQ _) (aw.nm 4) ak) (jv (a6 (HM hr) (aQ _) (aw.nm 3) (e_ ag))))) (az (dN (aO (o6 e) (tm e) (hr.mono (by decide)) (aa (aw.nm 0) ag) (aw.d 4) (aw.g 4)) (aw.nm 3) (aw.nm 5))) bI)
  (av (cp (gd (lz (a6 (dc hr) (aQ _) (aw.nm 4) ak) (jv (a6 (HM hr) (aQ _) (aw.nm 3) (e_ ag))))) (az (iz (MC (aw.nm 3) (aw.nm 5)))) bI)
  (av (cp (a6 (dc hr) (aQ _) (aw.nm 4) ak) (az (iz (O6 (aw.nm 3) (aw.nm 5) (aJ (e_ (aa ak (aa (cH (aa ak (aa ak ag))) ag))) (aO (bC e) (bG e) (hr.mono (by decide)) (aa (aw.nm 0) (aa ak ag)) (aw.d 1) (aw.g 1)))))) bI)
  (av (cp (gd (lz (a6 (dc hr) (aQ _) (aw.nm 4) ak) (jv (a6 (dc hr) (aQ _) (aw.nm 2) f6)))) (az (qH fK.nd (aw.l 3) (Nc:=["_law_one"]) (bh.look (aj fh) ["_law_hand_here","_law_told","_law_word","_law_row_here","_law_way","_law_at"] (by decide+kernel)) (d_ (aw.nm 3)) (fun _ _ _ _=>(dz (show(["_law_one"]:List Str).Nodup by decide+kernel) (by first|exact Or.inl rfl|exact Or.inr rfl) (by first|exact .inl rfl|exact .inr rfl))) (fun _ _ _ _=>cB) (fun _ _ _ _=>(Im (a6 (dc hr) (aQ _) (aX jl (aJ cW ak) ak) ak) (cH (aa (aX c7 (aJ cW ak) ak) (aa (aJ cW ak) ag))) (cH (aa (aJ cW ak) (aa (aX v8 (aJ cW ak) ak) ag))))) cx)) bI)
  (av (cp (gd (lz (a6 (dc hr) (aQ _) (aw.nm 4) ak) (jv (a6 (dc hr) (aQ _) (aw.nm 2) f6)))) (az (qH fK.nd (aw.l 3) (Nc:=["_law_one"]) (bh.look (aj fh) ["_law_hand_here","_law_told","_law_word","_law_row_here","_law_way","_law_at"] (by decide+kernel)) (d_ (aw.nm 3)) (fun _ _ _ _=>(dz (show(["_law_one"]:List Str).Nodup by decide+kernel) (by first|exact Or.inl rfl|exact Or.inr rfl) (by first|exact .inl rfl|exact .inr rfl))) (fun _ _ _ _=>cB) (fun _ _ _ _=>(cH (aa (aX c7 ak (aJ cW ak)) (aa (aX c7 ak (aJ cW ak)) ag)))) cx)) bI)
  (av (cp (a6 (dc hr) (aQ _) (aw.nm 4) ak) (az (qH fK.nd (aw.l 3) (Nc:=["_law_one","_law_word"]) (bh.look (aj fh) ["_law_hand_here","_law_told","_law_word","_law_row_here","_law_way","_law_at"] (by decide+kernel)) (d_ (aw.nm 3)) (fun _ _ _ _=>(dz (show(["_law_one","_law_word"]:List Str).Nodup by decide+kernel) (by first|exact Or.inl rfl|exact Or.inr rfl) (by first|exact .inl rfl|exact .inr rfl))) (fun _ _ _ _=>cB) (fun _ _ _ _=>(aJ (e_ (aa ak (aa (cH (aa ak (aa ak ag))) ag))) (eK N5 (aa (kW (dc hr) (aQ _) cW f6) ag) B.yW rfl vP (by decide+kernel) rfl))) cx)) bI)
  (av (cp (gd (lz (a6 (dc hr) (aQ _) (aw.nm 4) ak) (jv (a6 (dc hr) (aQ _) (aw.nm 2) f6)))) (az (dN (aX ff (aJ (aw.nm 3) (aw.nm 5)) ak) (aw.nm 3) (aw.nm 5))) bI)
  (av (cp (a6 (dc hr) (aQ _) (aw.nm 4) ak) (az (aL (aJ (e_ (aa (cH (aa (aw.nm 2) ag)) (aa (cH (aa (aw.nm 2) (aa (eK eB (aa (aw.nm 3) ag) B.dm rfl cY (aw.d 5) (aw.g 5)) (aa (cH ag) ag)))) (aa (aO (o6 e) (tm e) (hr.mono (by decide)) (aa (aw.nm 0) ag) (aw.d 4) (aw.g 4)) (aa tV ag))))) (aO (bC e) (bG e) (hr.mono (by decide)) (aa (aw.nm 0) (aa ak ag)) (aw.d 1) (aw.g 1))))) bI)
  (av (cp (a6 (dc hr) (aQ _) (aw.nm 4) ak) (az (aL (cH (aa (aw.nm 2) (aa (aO (o6 e) (tm e) (hr.mono (by decide)) (aa (aw.nm 0) ag) (aw.d 4) (aw.g 4)) ag))))) bI)
  (av (cp (gd (lz (a6 (dc hr) (aQ _) (aw.nm 4) ak) (jv (a6 (dc hr) (aQ _) (aw.nm 2) f6)))) (az (aL (e_ (aa (aw.nm 2) (aa (eN (Nc:=["_law_one"]) (bh.look (aj fh) ["_law_hand_here","_law_told","_law_word","_law_row_here","_law_way","_law_at"] (by decide+kernel)) (d_ (aw.nm 3)) (fun _ _ _ _=>(dz (show(["_law_one"]:List Str).Nodup by decide+kernel) (by first|exact Or.inl rfl|exact Or.inr rfl) (by first|exact .inl rfl|exact .inr rfl))) (fun _ _ _ _=>cB) (fun _ _ _ _=>(eK ll (aa cW ag) B.fU rfl eV (by decide+kernel) rfl)) cx) ag))))) bI)
  (az (FI (aL (aJ (e_ (aa (cH (aa (aw.nm 2) (aa (eK eB (aa (aw.nm 3) ag) B.dm rfl cY (aw.d 5) (aw.g 5)) ag))) (aa (e_ (aa (aw.nm 2) (aa (aw.nm 3) ag))) ag))) (aO (bC e) (bG e) (hr.mono (by decide)) (aa (aw.nm 0) (aa ak ag)) (aw.d 1) (aw.g 1))))))))))))))))))))) Bw
theorem uG:bE (KX w.params) mg "_law_drawn" "_law_drawn" gw ["_law_hand_here","_law_rows_here"] 375 (Hd.fd gw "_law_drawn" "_law_drawn" dO 374):=Hd.il e.X e.G (by kernel_rfl) fun _ _ _ _ _ _ _ _=>rfl
theorem Bu:bf PW w (KX w.params) mg base cD 2 375 (Hd.fd gw "_law_drawn" "_law_drawn" dO 374) ["_law_hand_here","_law_rows_here"] (cG pZ):=by
 have B:=Bt e;have Q:=Qt e
 exact bH (N:=mF) (uG e).fn lh (fun cdv A outer s H E hr=>(av (cp (a6 (dc hr) (aQ _) (aO (bC e) (bG e) (hr.mono (by decide)) (aa (bO.nm 0) (aa ak ag)) (bO.d 0) (bO.g 0)) ak) (az (aL (cH (aa f6 (aa (eK eB (aa (eN (Nc:=["_law_row_here","_law_hand_here"]) (bh.look (aj gw) ["_law_hand_here","_law_rows_here","_law_parts","_law_k","_law_bottom"] (by decide+kernel)) (d_ (bO.nm 1)) (fun _ _ _ _=>(dz (show(["_law_row_here","_law_hand_here"]:List Str).Nodup by decide+kernel) (by first|exact Or.inl rfl|exact Or.inr rfl) (by first|exact .inl rfl|exact .inr rfl))) (fun _ _ _ _=>cB) (fun _ _ _ _=>(aX mI (aO (bC e) (bG e) (hr.mono (by decide)) (aa cW (aa ak ag)) (by decide+kernel) rfl) ak)) cx) ag) B.dm rfl cY (bO.d 1) (bO.g 1)) ag))))) bI)
  (av (aV lh.nd (bO.l 2) (yS ag))
  (av (gn (gB (bO.g 3) B.gb (aa (b_ dj (aa (aJ (bO.nm 1) ak) ag) B.di rfl cS (bO.d 2) (bO.g 2)) ag)) (dz lh.nd (by first|exact Or.inl rfl|exact Or.inr rfl) (by first|exact .inl rfl|exact .inr rfl)) (av (aV lh.nd (bO.l 4) (aX ff ak (aO (bC e) (bG e) (hr.mono (by decide)) (aa (bO.nm 0) (aa ak ag)) (bO.d 0) (bO.g 0))))
  (az (iz (sO (bO.nm 2) (aO (oN e) (sv e) (hr.mono (by decide)) (aa (aX mI (aO (bC e) (bG e) (hr.mono (by decide)) (aa (bO.nm 0) (aa ak ag)) (bO.d 0) (bO.g 0)) ak) (aa (bO.nm 4) ag)) (bO.d 4) (bO.g 4)))))))
  (az (FI (aL (cH (aa f6 (aa (bO.nm 2) ag)))))))))) A7
theorem OC:bE (KX w.params) mg "law" "law" nF ["_law_script"] 380 (Hd.fd nF "law" "law" dO 379):=Hd.oR e.X e.G (by kernel_rfl) fun _ _ _ _ _ _ _=>rfl
theorem Of:bf PW w (KX w.params) mg base cD 8 380 (Hd.fd nF "law" "law" dO 379) ["_law_script"] (cG HJ):=by
 have B:=Bt e;have Q:=Qt e
 exact bH (N:=yT) (OC e).fn kH (fun cdv A outer s H E hr=>(av (aV kH.nd (bJ.l 1) (aO (vQ e) (DU e) (hr.mono (by decide)) (aa (bJ.nm 0) ag) (bJ.d 0) (bJ.g 0)))
  (av (aV kH.nd (bJ.l 2) (aO (pq e) (wd e) (hr.mono (by decide)) (aa (bJ.nm 1) (aa ak ag)) (bJ.d 1) (bJ.g 1)))
  (av (aV kH.nd (bJ.l 3) (aO (x3 e) (Er e) (hr.mono (by decide)) (aa (bJ.nm 1) (aa (bJ.nm 2) ag)) (bJ.d 2) (bJ.g 2)))
  (av (aV kH.nd (bJ.l 4) (aO (zR e) (GY e) (hr.mono (by decide)) (aa (bJ.nm 2) (aa (bJ.nm 3) ag)) (bJ.d 3) (bJ.g 3)))
  (av (cp (a6 FJ (aQ _) (aO (lE e) (qo e) (hr.mono (by decide)) (aa (bJ.nm 2) (aa (bJ.nm 3) (aa (bJ.nm 4) ag))) (bJ.d 4) (bJ.g 4)) iJ) (az (aL iJ)) bI)
  (av (gn (gB (bJ.g 5) B.gb (aa ak ag)) (dz kH.nd (by first|exact Or.inl rfl|exact Or.inr rfl) (by first|exact .inl rfl|exact .inr rfl)) (av (aV kH.nd (bJ.l 6) (aO (vC e) (DF e) (hr.mono (by decide)) (aa (bJ.nm 1) (aa (bJ.nm 4) ag)) (bJ.d 6) (bJ.g 6)))
  (av (cp (a6 (dc hr) (aQ _) (bJ.nm 5) ak) (az (aV kH.nd (bJ.l 6) (aO (uG e) (Bu e) (hr.mono (by decide)) (aa (bJ.nm 1) (aa (bJ.nm 2) ag)) (bJ.d 7) (bJ.g 7)))) bI)
  (av (aV kH.nd (bJ.l 7) (aO (lE e) (qo e) (hr.mono (by decide)) (aa (eN (Nc:=["_law_step"]) (bh.look (aj nF) ["_law_script","_law_hand_here","_law_rows_here","_law_row_here","_law_told","_law_turn","_law_bent_here","_law_found"] (by decide+kernel)) (d_ (bJ.nm 2)) (fun _ _ _ _=>(dz (show(["_law_step"]:List Str).Nodup by decide+kernel) (by first|exact Or.inl rfl|exact Or.inr rfl) (by first|exact .inl rfl|exact .inr rfl))) (fun _ _ _ _=>cB) (fun _ _ _ _=>(eK ll (aa cW ag) B.fU rfl eV (by decide+kernel) rfl)) cx) (aa (eK ll (aa (bJ.nm 3) ag) B.fU rfl eV (bJ.d 8) (bJ.g 8)) (aa (bJ.nm 6) ag))) (bJ.d 4) (bJ.g 4)))
  (az (cp (gd (nC (jP (ip (b_ jX (aa (bJ.nm 7) (aa (jD B.vx rfl t6 (bJ.d 9) (bJ.g 9)) ag)) B.dh rfl c6 (bJ.d 10) (bJ.g 10)))) (m9 (a6 pR (aQ _) (bJ.nm 7) (aO (uP e) (BH e) (hr.mono (by decide)) (aa (bJ.nm 2) (aa (bJ.nm 3) (aa (bJ.nm 6) ag))) (bJ.d 11) (bJ.g 11)))))) (az (aL iJ)) bI))))))
  (az (aL iJ))))))))) Lc
end
def dL:DefRec:=match nF with
 | .FunctionDef n a b _ _ _ sc _ _ pos=>⟨n,a,b,sc,pos⟩
 |_=>⟨"",L2.kl (.Pass ⟨0,0,0,0⟩),[],L2.aj (.Pass ⟨0,0,0,0⟩),⟨0,0,0,0⟩⟩
theorem Gz:PySem.Challenge.rw_latticeworks_k17_inside_shown.wellSaid=true:=by decide+kernel
end Row
open PySem PySem.W PyProof.Rows
set_option maxRecDepth 100000 in
set_option maxHeartbeats 0 in
theorem PySem.Challenge.cw_latticeworks_k17_inside_shown_holds : PySem.Challenge.rw_latticeworks_k17_inside_shown.Holds := by
 refine PySem.W.holds_law Row.Gz fun Gz=>?_;refine PySem.W.holds_open (r:=PySem.Challenge.rw_latticeworks_k17_inside_shown.row) (q:=PySem.W.view Row.PW [1,2,3,4,6,7,8,9,10,11,12,13,15,16,17,18,19,20,21,23,24,25,26,27,28,29,31,32,33,34,35,36,37,38,39,41,42,43,44,45,46,47,48,49,50,51,52,53,54,55]) (loose:=[]) (Xt:=fun _=>true) (XP:=fun _ _=>True) (YP:=(PySem.W.kmHook Row.KX Row.KA (fun _=>rfl) [194]).says) (d:=Row.dL) (kwd:=[]) Row.left ((PySem.W.kmHook Row.KX Row.KA (fun _=>rfl) [194]).of) ((PySem.W.kmHook Row.KX Row.KA (fun _=>rfl) [194]).keeps) (fun _ _=>trivial) (fun _ _ _ _ _=>trivial) (by kernel_rfl) (by kernel_rfl) (by kernel_rfl) (fun s _=>PySem.W.recFacts_of (R:=[]) rfl) (by kernel_rfl) Gz (by decide+kernel) ⟨rfl,rfl,rfl,rfl,rfl,by decide+kernel⟩ ?hw ?hc;case hw=>w_witness2
 refine L2.OE (n:=63) (k:=8) (x:="_law_script") (ts:=[(196,194)]) (K:=Row.KX) (sp:=fun w=>L3.Fl (Row.KX w.params) [(196,194)]) rfl (by decide) (by kernel_rfl) ⟨rfl,by decide,by decide⟩ (by kernel_rfl) rfl (fun w h Y=>⟨PySem.W.km_in_of Y,⟨(fun q hq=>by rcases List.mem_cons.mp hq with rfl|hq;kernel_rfl;cases hq),(fun q hq=>by rcases List.mem_cons.mp hq with rfl|hq;kernel_rfl;cases hq),fun q hq=>PySem.W.km_tabs_of Y _ (List.mem_map_of_mem (f:=Prod.snd) hq)⟩⟩) ?F fun _ _ a ns hl hE=>⟨a,ns,rfl,hE,hl,fun _=>rfl⟩
 intro w mg fa h X G hmg;have e2:=hmg.symm.trans (PySem.W.mg_of (v:= .ref 380) X G (by kernel_rfl));cases e2;exact⟨Hd.fd Row.nF "law" "law" Row.dO 379,fun s v=> .of_eq rfl,fun base _ _=>(Row.Of ⟨X,G⟩).imp fun vs H Q E h=>L3.EF (tl:=[(194,⟨93,32,93,66⟩,"Bench.live_rows.<locals>.<lambda>")]) (by kernel_rfl) rfl (by decide) h⟩
