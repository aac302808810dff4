import PyProof.Rows.All
import Wide.All
import OpenK.AllK
import Wide.FinOn
import Lean
import PyProof.EqAt
import PyProof.EqKinds
import PyProof.TupleCall
import PyProof.NeKinds
import PySem.Challenge.RW_latticeworks_k33_short_or_not
set_option Elab.async false
set_option linter.all false
set_option maxRecDepth 100000
namespace L2
open PySem PySem.Spec PyProof.Rows
abbrev Key := Sum Int Str
def keyIs : Key → Value → Bool
  | .inl k, v => Value.isInt k v
  | .inr x, v => Value.isStrOf x v
def keyH (w : World) : Key → Int
  | .inl k => hashInt k
  | .inr x => hashStr w x
theorem keyIs_shape : ∀ {k : Key} {v : Value}, keyIs k v = true → (∃ i t, k = Sum.inl i ∧ v = Value.int i t) ∨ (∃ x t, k = Sum.inr x ∧ v = Value.str x t)
  | .inl i, v, h => by
    obtain ⟨t, e⟩ := Value.isInt_shape (k := i) (v := v) h
    exact .inl ⟨i, t, rfl, e⟩
  | .inr x, v, h => by
    obtain ⟨t, e⟩ := Value.isStrOf_shape (x := x) (v := v) h
    exact .inr ⟨x, t, rfl, e⟩
theorem key_ll (a b : Int) : decide ((Sum.inl a : Key) = Sum.inl b) = (a == b) := by
  by_cases e : a = b
  · subst e; simp
  · have h : ¬ (Sum.inl a : Key) = Sum.inl b := fun q => e (Sum.inl.inj q)
    rw [decide_eq_false h]
    exact (beq_eq_false_iff_ne.mpr e).symm
theorem key_rr (a b : Str) : decide ((Sum.inr a : Key) = Sum.inr b) = decide (a = b) := by
  by_cases e : a = b
  · subst e; simp
  · have h : ¬ (Sum.inr a : Key) = Sum.inr b := fun q => e (Sum.inr.inj q)
    rw [decide_eq_false h, decide_eq_false e]
theorem key_lr (a : Int) (b : Str) : decide ((Sum.inl a : Key) = Sum.inr b) = false := decide_eq_false (fun q => nomatch q)
theorem key_rl (a : Str) (b : Int) : decide ((Sum.inr a : Key) = Sum.inl b) = false := decide_eq_false (fun q => nomatch q)
def mixKind (prog : Program) (w : World) : PySem.KeyKind prog w Key where
  is := keyIs
  hash := keyH w
  inj := fun v a b ha hb => by
    rcases keyIs_shape ha with ⟨i, t, rfl, rfl⟩ | ⟨x, t, rfl, rfl⟩
    · rcases keyIs_shape hb with ⟨j, u, rfl, e⟩ | ⟨y, u, rfl, e⟩
      · injection e with e1 _; rw [e1]
      · exact nomatch e
    · rcases keyIs_shape hb with ⟨j, u, rfl, e⟩ | ⟨y, u, rfl, e⟩
      · exact nomatch e
      · injection e with e1 _; rw [e1]
  byValue := fun k v h => by
    rcases keyIs_shape h with ⟨i, t, rfl, rfl⟩ | ⟨x, t, rfl, rfl⟩ <;> rfl
  pyHash := fun hv h => by
    rcases keyIs_shape hv with ⟨i, t, rfl, rfl⟩ | ⟨x, t, rfl, rfl⟩
    · exact wpAny_pyHash_int h
    · exact wpAny_pyHash_str h
  eqBool := fun hu hv h => by
    rcases keyIs_shape hu with ⟨i, t, rfl, rfl⟩ | ⟨x, t, rfl, rfl⟩
    · rcases keyIs_shape hv with ⟨j, u, rfl, rfl⟩ | ⟨y, u, rfl, rfl⟩
      · rw [key_ll] at h; exact wpAny_eqBool_int h
      · rw [key_lr] at h; exact SeqAt.EqAt.int_str i t y u _ _ _ _ h
    · rcases keyIs_shape hv with ⟨j, u, rfl, rfl⟩ | ⟨y, u, rfl, rfl⟩
      · rw [key_rl] at h; exact SeqAt.EqAt.str_int x t j u _ _ _ _ h
      · rw [key_rr] at h; exact wpAny_eqBool_str h
  «strs» := fun k x t v h => by
    rcases keyIs_shape h with ⟨i, u, rfl, e⟩ | ⟨y, u, rfl, e⟩
    · exact nomatch e
    · injection e with e1 _
      subst e1
      cases v <;> rfl
end L2
namespace L2
open PySem PySem.Spec PyProof.Rows
inductive V where
  | non | bl (b : Bool) | int (i : Int) | str (x : Str) | byt (b : Array UInt8) | flt (b : UInt64) | ref (a : Addr) | ty (n : String)
  deriving DecidableEq
def RelV : V → Value → Prop
  | .non, u => u = Value.none
  | .bl b, u => u = Value.bool b
  | .int i, u => ∃ t, u = Value.int i t
  | .str x, u => ∃ t, u = Value.str x t
  | .byt b, u => ∃ t, u = Value.bytes b t
  | .flt b, u => ∃ t, u = Value.float b t
  | .ref a, u => u = Value.ref a
  | .ty n, u => u = Value.type n
abbrev Vals : List V → List Value → Prop := Paired RelV
theorem Vals.length {xs : List V} {us : List Value} (r : Vals xs us) : xs.length = us.length := Paired.length r
theorem Vals.get : ∀ {xs : List V} {us : List Value} {i : Nat} {x : V}, Vals xs us → xs[i]? = some x → ∃ u, us[i]? = some u ∧ RelV x u
  | _, _, _, _, .nil, e => by simp at e
  | _, _, 0, _, .cons r _, e => by simp at e; subst e; exact ⟨_, rfl, r⟩
  | _, _, i + 1, x, .cons _ t, e => by
    obtain ⟨u, h1, h2⟩ := Vals.get (i := i) (x := x) t (by simpa using e)
    exact ⟨u, by simpa using h1, h2⟩
theorem Vals.set {x : V} {u : Value} (r : RelV x u) : ∀ {xs : List V} {us : List Value} (i : Nat), Vals xs us → Vals (xs.set i x) (us.set i u)
  | _, _, _, .nil => .nil
  | _, _, 0, .cons _ t => .cons r t
  | _, _, i + 1, .cons q t => .cons q (Vals.set r i t)
theorem Vals.append : ∀ {xs ys : List V} {us ws : List Value}, Vals xs us → Vals ys ws → Vals (xs ++ ys) (us ++ ws)
  | _, _, _, _, .nil, s => s
  | _, _, _, _, .cons r t, s => .cons r (Vals.append t s)
theorem Vals.take : ∀ {xs : List V} {us : List Value} (n : Nat), Vals xs us → Vals (xs.take n) (us.take n)
  | _, _, 0, _ => .nil
  | _, _, _ + 1, .nil => .nil
  | _, _, n + 1, .cons r t => .cons r (Vals.take n t)
theorem Vals.drop : ∀ {xs : List V} {us : List Value} (n : Nat), Vals xs us → Vals (xs.drop n) (us.drop n)
  | _, _, 0, r => r
  | _, _, _ + 1, .nil => .nil
  | _, _, n + 1, .cons _ t => Vals.drop n t
def RelO : Option V → Option Value → Prop
  | some v, some u => RelV v u
  | none, none => True
  | _, _ => False
def KV {κ : Type} : List (κ × V) → List (κ × Value) → Prop := Paired fun (p : κ × V) (q : κ × Value) => p.1 = q.1 ∧ RelV p.2 q.2
def kV : Key → V
  | .inl i => .int i
  | .inr x => .str x
inductive HO where
    | lst (xs : List V)
    | tup (xs : List V)
    | dK (kvs : List (Key × V)) | dT (kvs : List (List Key × V))
    | set (S : Int → Bool) (n : Nat)
    | ins (C dx : Addr) (fs : List (Str × V))
    | own (x : Addr)
    | xd (fs : List (Str × V))
    | met (f x : Addr)
    | rng (lo hi : Int)
    | frz (o : Obj) (u : HO)
    | tbl (ps : Array Value)
    | ext (φ : Heap → Prop)
abbrev Hp := Addr → Option HO
def upd (H : Hp) (a : Addr) (o : HO) : Hp := fun b => if b = a then some o else H b
theorem upd_same {H : Hp} {a : Addr} {o : HO} : upd H a o a = some o := by unfold upd; rw [if_pos rfl]
theorem upd_ne {H : Hp} {a b : Addr} {o : HO} (h : b ≠ a) : upd H a o b = H b := by unfold upd; rw [if_neg h]
theorem upd_upd {H : Hp} {a : Addr} {o u : HO} : upd (upd H a o) a u = upd H a u := by
  funext b; unfold upd; split <;> rfl
theorem ne_of_none {H : Hp} {a b : Addr} {o : HO} (h : H a = some o) (h' : H b = none) : a ≠ b := by
  intro e; subst e; rw [h] at h'; cases h'
section
variable (P : Program) (w : World)
def ObjOk (H : Hp) (h : Heap) (a : Addr) : HO → Prop
  | .lst xs => xs.length ≤ sizeLine ∧ ∃ (its : List Value) (n : Nat), Vals xs its ∧ h.get? a = some { cls := .type "list", data := .seq its.toArray n }
  | .tup xs => xs.length ≤ sizeLine ∧ ∃ its : List Value, Vals xs its ∧ IsTup h a its.toArray
  | .dK kvs => kvs.length ≤ sizeLine ∧ (a == sysModules) = false ∧ ∃ vs, KV kvs vs ∧ h.DictOf (mixKind P w) a vs
  | .dT kvs => kvs.length ≤ sizeLine ∧ (a == sysModules) = false ∧ ∃ xs : List (List Key × Addr × Value),
      Paired (fun (p : List Key × V) (q : List Key × Addr × Value) => p.1 = q.1 ∧ H q.2.1 = some (.tup (p.1.map kV)) ∧ RelV p.2 q.2.2) kvs xs ∧
      ∃ o es ep, h.get? a = some o ∧ o.ExactDict ∧ o.data = .dict es ep ∧ es.toList = xs.map (entryOfKey (tupleKind (mixKind P w))) ∧ (xs.map (·.1)).Nodup
  | .set S n => h.SetOf (intKind P w) a S n
  | .ins C dx fs => H dx = some (.own a) ∧ fs.length ≤ 1000 ∧ dx ≠ a ∧ h.get? a = some (PySem.W.instObj C dx) ∧
      ∃ mA, h.Ns1 dx mA ∧ (∀ f, RelO (fs.lookup f) (mA f)) ∧ PySem.Within mA (fs.map (·.1))
  | .own _ => ∃ o, h.get? a = some o
  | .xd fs => ∃ mA, h.Ns1 a mA ∧ ∀ f, RelO (fs.lookup f) (mA f)
  | .rng lo hi => ∃ t u v, h.get? a = some { cls := .type "range", data := .fields #[.int lo t, .int hi u, .int 1 v] }
  | .frz o u => h.get? a = some o ∧ ObjOk H h a u
  | .tbl ps => h.get? a = some { cls := .none, data := .fields ps }
  | .met f x => h.get? a = some (PySem.W.methodObj (.ref f) (.ref x))
  | .ext φ => φ h ∧ (∃ o, h.get? a = some o) ∧ ∀ h1 h2 : Heap, φ h1 → (∀ o, h1.get? a = some o → h2.get? a = some o) → φ h2
def HOk (H : Hp) (h : Heap) : Prop := ∀ a o, H a = some o → ObjOk P w H h a o
end
section
variable {P : Program} {w : World} {H H' : Hp} {h h' : Heap} {a : Addr} {o : HO}
theorem ObjOk.lt (x : ObjOk P w H h a o) : a < h.objs.size := by
  cases o with
  | lst xs => obtain ⟨_, _, _, _, e⟩ := x; exact Heap.lt_size e
  | tup xs => obtain ⟨_, _, _, p⟩ := x; exact p.lt
  | dK kvs => obtain ⟨_, _, _, _, o, _, _, e, _⟩ := x; exact Heap.lt_size e
  | dT kvs => obtain ⟨_, _, _, _, o, _, _, e, _⟩ := x; exact Heap.lt_size e
  | set S n => obtain ⟨o, _, _, _, e, _⟩ := x; exact Heap.lt_size e
  | ins C dx fs => obtain ⟨_, _, _, e, _⟩ := x; exact Heap.lt_size e
  | own y => obtain ⟨_, e⟩ := x; exact Heap.lt_size e
  | xd fs => obtain ⟨_, ⟨_, _, _, e, _⟩, _⟩ := x; exact Heap.lt_size e
  | rng lo hi => obtain ⟨_, _, _, e⟩ := x; exact Heap.lt_size e
  | frz ob u => obtain ⟨e, _⟩ := x; exact Heap.lt_size e
  | tbl ps => exact Heap.lt_size (show h.get? a = some _ from x)
  | met f y => exact Heap.lt_size (show h.get? a = some _ from x)
  | ext φ => obtain ⟨_, ⟨_, e⟩, _⟩ := x; exact Heap.lt_size e
theorem Paired.mapP {α β : Type} {F G : α → β → Prop} : ∀ {l₁ : List α} {l₂ : List β}, Paired F l₁ l₂ → (∀ a b, F a b → G a b) → Paired G l₁ l₂
  | _, _, .nil, _ => .nil
  | _, _, .cons r t, f => .cons (f _ _ r) (Paired.mapP t f)
theorem ObjOk.stay (x : ObjOk P w H h a o) (k : ∀ b u, (b = a ∨ H b = some (.own a)) → h.get? b = some u → h'.get? b = some u)
    (ho : ∀ b, H b = some (.own a) → H' b = some (.own a)) (ht : ∀ b xs, H b = some (.tup xs) → H' b = some (.tup xs)) : ObjOk P w H' h' a o := by
  induction o with
  | lst xs => obtain ⟨z, its, n, r, e⟩ := x; exact ⟨z, its, n, r, k _ _ (.inl rfl) e⟩
  | tup xs => obtain ⟨z, its, r, ob, e, c⟩ := x; exact ⟨z, its, r, ob, k _ _ (.inl rfl) e, c⟩
  | dK kvs => obtain ⟨z, y, vs, r, ob, es, ep, e, c⟩ := x; exact ⟨z, y, vs, r, ob, es, ep, k _ _ (.inl rfl) e, c⟩
  | dT kvs =>
    obtain ⟨z, y, xs, r, ob, es, ep, e, c⟩ := x
    exact ⟨z, y, xs, Paired.mapP r fun p q z => ⟨z.1, ht _ _ z.2.1, z.2.2⟩, ob, es, ep, k _ _ (.inl rfl) e, c⟩
  | set S n => obtain ⟨ob, es, ep, t, e, c⟩ := x; exact ⟨ob, es, ep, t, k _ _ (.inl rfl) e, c⟩
  | ins C dx fs =>
    obtain ⟨d, z, ne, e, mA, ⟨od, es, ep, e2, c⟩, r⟩ := x
    exact ⟨ho _ d, z, ne, k _ _ (.inl rfl) e, mA, ⟨od, es, ep, k _ _ (.inr d) e2, c⟩, r⟩
  | own y => obtain ⟨ob, e⟩ := x; exact ⟨ob, k _ _ (.inl rfl) e⟩
  | xd fs => obtain ⟨mA, ⟨od, es, ep, e, c⟩, r⟩ := x; exact ⟨mA, ⟨od, es, ep, k _ _ (.inl rfl) e, c⟩, r⟩
  | rng lo hi => obtain ⟨t, u, v, e⟩ := x; exact ⟨t, u, v, k _ _ (.inl rfl) e⟩
  | frz ob u ih => obtain ⟨e, q⟩ := x; exact ⟨k _ _ (.inl rfl) e, ih q⟩
  | tbl ps =>
    have e : h.get? a = some { cls := .none, data := .fields ps } := x
    show h'.get? a = some { cls := .none, data := .fields ps }
    exact k a _ (.inl rfl) e
  | met f y =>
    have e : h.get? a = some (PySem.W.methodObj (.ref f) (.ref y)) := x
    show h'.get? a = some (PySem.W.methodObj (.ref f) (.ref y))
    exact k a _ (.inl rfl) e
  | ext φ => obtain ⟨p, ⟨o, e⟩, st⟩ := x; exact ⟨st _ _ p fun o q => k _ _ (.inl rfl) q, ⟨o, k _ _ (.inl rfl) e⟩, st⟩
theorem HOk.lt (x : HOk P w H h) (e : H a = some o) : a < h.objs.size := (x a o e).lt
theorem HOk.fresh (x : HOk P w H h) (e : h.objs.size ≤ a) : H a = none := by
  cases q : H a with
  | none => rfl
  | some u => exact absurd (Nat.lt_of_lt_of_le (x.lt q) e) (Nat.lt_irrefl _)
theorem HOk.kept (x : HOk P w H h) (k : ∀ b u, h.get? b = some u → h'.get? b = some u) : HOk P w H h' := fun a o e =>
  (x a o e).stay (fun b u _ q => k b u q) (fun _ q => q) fun _ _ q => q
theorem HOk.laid (x : HOk P w H h) (k : ∀ b u, h.get? b = some u → h'.get? b = some u) (hp : h.objs.size ≤ a) (new : ObjOk P w (upd H a o) h' a o) : HOk P w (upd H a o) h' := fun b u e => by
  have hn := x.fresh hp
  by_cases hb : b = a
  · subst hb; rw [upd_same] at e; cases e; exact new
  · rw [upd_ne hb] at e
    exact (x b u e).stay (fun c v _ q => k c v q) (fun c q => by rw [upd_ne (ne_of_none q hn)]; exact q) fun c xs q => by rw [upd_ne (ne_of_none q hn)]; exact q
end
def Rd (H : Hp) (a : Addr) (u : HO) : Prop := H a = some u ∨ ∃ o, H a = some (.frz o u)
theorem Rd.of {H : Hp} {a : Addr} {u : HO} (h : H a = some u) : Rd H a u := .inl h
theorem Rd.ok {P : Program} {w : World} {H : Hp} {h : Heap} {a : Addr} {u : HO} (r : Rd H a u) (x : HOk P w H h) : ObjOk P w H h a u := by
  rcases r with r | ⟨o, r⟩
  · exact x a u r
  · obtain ⟨_, q⟩ := x a _ r
    exact q
def Mut : Option HO → Prop
  | some (.lst _) => True
  | some (.dK _) => True
  | some (.dT _) => True
  | some (.set _ _) => True
  | some (.ins _ _ _) => True
  | some (.ext _) => True
  | _ => False
section
variable {P : Program} {w : World} {H : Hp} {h h' : Heap} {x e : Addr} {o' : HO}
theorem HOk.write (ok : HOk P w H h) (mu : Mut (H x)) (he : e = x ∨ H e = some (.own x)) (k : ∀ b u, b ≠ e → h.get? b = some u → h'.get? b = some u) (heo : ∃ u, h'.get? e = some u)
    (new : ObjOk P w (upd H x o') h' x o') : HOk P w (upd H x o') h' := fun b u q => by
  have nown : ∀ c y, H c = some (.own y) → c ≠ x := fun c y r z => by subst z; rw [r] at mu; exact mu
  have ntup : ∀ c xs, H c = some (.tup xs) → c ≠ x := fun c xs r z => by subst z; rw [r] at mu; exact mu
  by_cases hb : b = x
  · subst hb; rw [upd_same] at q; cases q; exact new
  · rw [upd_ne hb] at q
    by_cases hbe : b = e
    · have q' : H b = some (.own x) := by
        rcases he with z | z
        · exact absurd (hbe.trans z) hb
        · rw [hbe]; exact z
      rw [q] at q'; cases q'
      obtain ⟨v, hv⟩ := heo
      exact ⟨v, by rw [hbe]; exact hv⟩
    · refine (ok b u q).stay (fun c v hc r => k c v ?_ r) (fun c r => by rw [upd_ne (nown c b r)]; exact r) fun c xs r => by rw [upd_ne (ntup c xs r)]; exact r
      rcases hc with rfl | hc
      · exact hbe
      · rintro rfl
        rcases he with z | z
        · exact nown c b hc z
        · rw [hc] at z; cases z; exact hb rfl
end
structure Un (fs ex : List Addr) (H H' : Hp) (h h' : Heap) : Prop where
  keep : ∀ b o, h.get? b = some o → H b = none → b ∉ fs → b ∉ ex → h'.get? b = some o
  slot : ∀ b o, h.get? b = some o → H b = none → b ∈ fs → b ∉ ex → ∃ sl, h'.get? b = some { o with slots := sl }
  free : ∀ b o, h.get? b = some o → H b = none → b ∉ ex → H' b = none
  there : ∀ b o, h.get? b = some o → b ∉ ex → ∃ o', h'.get? b = some o'
  tups : ∀ b xs, H b = some (.tup xs) → H' b = some (.tup xs)
  frzs : ∀ b o u, H b = some (.frz o u) → H' b = some (.frz o u)
  tbls : ∀ b ps, H b = some (.tbl ps) → ∃ more, H' b = some (.tbl (ps ++ more))
section
variable {fs fs' ex ex' : List Addr} {H H1 H2 : Hp} {h h1 h2 h' : Heap} {a x e : Addr} {o : HO}
theorem Un.any (u : Un fs ex H H1 h h1) {b : Addr} {ob : Obj} (q : h.get? b = some ob) (n : H b = none) (hx : b ∉ ex) : ∃ sl, h1.get? b = some { ob with slots := sl } := by
  by_cases hb : b ∈ fs
  · exact u.slot b ob q n hb hx
  · exact ⟨ob.slots, u.keep b ob q n hb hx⟩
theorem Un.trans (a : Un fs ex H H1 h h1) (b : Un fs ex H1 H2 h1 h2) : Un fs ex H H2 h h2 where
  keep := fun c ob q n hc hx => b.keep c ob (a.keep c ob q n hc hx) (a.free c ob q n hx) hc hx
  slot := fun c ob q n hc hx => by
    obtain ⟨sl, e1⟩ := a.slot c ob q n hc hx
    obtain ⟨sl', e2⟩ := b.slot c _ e1 (a.free c ob q n hx) hc hx
    exact ⟨sl', e2⟩
  free := fun c ob q n hx => by
    obtain ⟨o', e1⟩ := a.there c ob q hx
    exact b.free c o' e1 (a.free c ob q n hx) hx
  there := fun c ob q hx => by
    obtain ⟨o', e1⟩ := a.there c ob q hx
    exact b.there c o' e1 hx
  tups := fun c xs q => b.tups c xs (a.tups c xs q)
  frzs := fun c ob xs q => b.frzs c ob xs (a.frzs c ob xs q)
  tbls := fun c ps q => by
    obtain ⟨m1, e1⟩ := a.tbls c ps q
    obtain ⟨m2, e2⟩ := b.tbls c _ e1
    exact ⟨m1 ++ m2, by rw [e2, Array.append_assoc]⟩
theorem Un.kept (k : ∀ b u, h.get? b = some u → h'.get? b = some u) : Un fs ex H H h h' :=
  ⟨fun b ob q _ _ _ => k b ob q, fun b ob q _ _ _ => ⟨ob.slots, k b ob q⟩, fun _ _ _ n _ => n, fun b ob q _ => ⟨ob, k b ob q⟩, fun _ _ q => q, fun _ _ _ q => q, fun _ ps q => ⟨#[], by rw [q]; simp⟩⟩
theorem Un.refl : Un fs ex H H h h := Un.kept fun _ _ q => q
theorem Un.laid (k : ∀ b u, h.get? b = some u → h'.get? b = some u) (hp : h.objs.size ≤ a) (hn : H a = none) : Un fs ex H (upd H a o) h h' where
  keep := fun b u q _ _ _ => k b u q
  slot := fun b u q _ _ _ => ⟨u.slots, k b u q⟩
  free := fun b u q n _ => by rw [upd_ne (Nat.ne_of_lt (Nat.lt_of_lt_of_le (Heap.lt_size q) hp))]; exact n
  there := fun b u q _ => ⟨u, k b u q⟩
  tups := fun b xs q => by rw [upd_ne (ne_of_none q hn)]; exact q
  frzs := fun b u xs q => by rw [upd_ne (ne_of_none q hn)]; exact q
  tbls := fun b ps q => ⟨#[], by rw [upd_ne (ne_of_none q hn), q]; simp⟩
theorem Un.write (mu : Mut (H x)) (he : e = x ∨ H e = some (.own x)) (k : ∀ b u, b ≠ e → h.get? b = some u → h'.get? b = some u) (heo : ∃ u, h'.get? e = some u) : Un fs ex H (upd H x o) h h' := by
  have hx : ∀ b, H b = none → b ≠ x := fun b n z => by subst z; rw [n] at mu; exact mu
  have hb : ∀ b, H b = none → b ≠ e := fun b n z => by
    subst z
    rcases he with r | r
    · exact hx b n r
    · rw [n] at r; cases r
  have hm : ∀ b u, H b = some u → ¬ Mut (some u) → b ≠ x := fun b u q nm z => by subst z; rw [q] at mu; exact nm mu
  refine ⟨fun b u q n _ _ => k b u (hb b n) q, fun b u q n _ _ => ⟨u.slots, k b u (hb b n) q⟩, fun b u q n _ => by rw [upd_ne (hx b n)]; exact n, fun b u q _ => ?_,
    fun b xs q => by rw [upd_ne (hm b _ q fun z => z)]; exact q, fun b u xs q => by rw [upd_ne (hm b _ q fun z => z)]; exact q, fun b ps q => ⟨#[], by rw [upd_ne (hm b _ q fun z => z), q]; simp⟩⟩
  by_cases hbe : b = e
  · subst hbe; exact heo
  · exact ⟨u, k b u hbe q⟩
theorem Un.mono (u : Un fs ex H H1 h h1) (hs : ∀ b ∈ fs, b ∈ fs') (hx : ∀ b ∈ ex, b ∈ ex') : Un fs' ex' H H1 h h1 :=
  ⟨fun b ob q n hb he => u.keep b ob q n (fun z => hb (hs b z)) fun z => he (hx b z), fun _ _ q n _ he => u.any q n fun z => he (hx _ z), fun b ob q n he => u.free b ob q n fun z => he (hx b z), fun b ob q he => u.there b ob q fun z => he (hx b z), u.tups, u.frzs, u.tbls⟩
end
def trk (h : Heap) (H : Hp) : List Addr := (List.range h.objs.size).filter fun a => (H a).isSome
def hidT (h : Heap) (H : Hp) : Heap := PySem.W.hideAll h (trk h H)
theorem hidT_size (h : Heap) (H : Hp) : (hidT h H).objs.size = h.objs.size := PySem.W.hideAll_size _ _
theorem hidT_get {h : Heap} {H : Hp} {b : Addr} {o : Obj} (e : h.get? b = some o) (n : H b = none) : (hidT h H).get? b = some o :=
  PySem.W.hideAll_get _ e fun hm => by
    have q : (H b).isSome = true := (List.mem_filter.mp hm).2
    rw [n] at q; simp at q
theorem of_hidT {h : Heap} {H : Hp} {b : Addr} {o : Obj} (e : (hidT h H).get? b = some o) : h.get? b = some o ∧ H b = none := by
  have e' : h.get? b = some o := PySem.W.of_hideAll (trk h H) e
  refine ⟨e', ?_⟩
  cases q : H b with
  | none => rfl
  | some x =>
    have hm : b ∈ trk h H := List.mem_filter.mpr ⟨List.mem_range.mpr (Heap.lt_size e'), by simp [q]⟩
    have z : (hidT h H).get? b = none := PySem.W.hideAll_none (trk h H) hm
    rw [z] at e; cases e
def allNews (g h : Heap) (L : Addr) : List (Addr × Obj) := (List.range h.objs.size).filterMap fun a => if a = L ∨ (g.get? a).isSome = true then none else (h.get? a).map fun o => (a, o)
def rest (g h : Heap) (L d : Addr) : List (Addr × Obj) := (allNews g h L).filter fun p => decide (p.1 ≠ d)
end L2
namespace L2
open PySem PySem.Spec PyProof.Rows
structure Mod (K : PySem.W.Frag) (mg : Str → Option Value) (base : Heap) : Prop where
  kin : K.In base
  glob : base.Ns mainGlobals mg
  blt : ∃ mb, base.Ns builtinsNs mb ∧ ∀ x : Str, x ≠ "__name__" → mb x = bootBuiltins x
  nolimit : base.NoLimit
structure Cx where
  prog : Program
  w : World
  K : PySem.W.Frag
  mg : Str → Option Value
  base : Heap
  A : Around
  N : List Str
  s₀ : Shared
  H₀ : Hp
  env : Env
  outer : List Env
  stack : List Env
  ex : List Addr
  fn : Str → Bool
  calm : Bool
  pn : List (Addr × Obj)
  xe : Value → Shared → Prop
def frs (l : List Env) : List Addr := l.filterMap (·.frame)
abbrev Cx.fs (X : Cx) : List Addr := frs X.outer
def Vis (sc : Scope) (x : Str) : Prop := sc.names.lookup x = some .local ∨ sc.names.lookup x = some .cell ∨ sc.names.lookup x = some .free
def Loc (sc : Scope) (x : Str) : Prop := sc.names.lookup x = some .local ∨ sc.names.lookup x = some .cell
def Look (env : Env) (h : Heap) (m : Str → Option Value) (x : Str) (u : Value) : Prop :=
  (env.kindOf x = some .local ∧ m x = some u) ∨ ((env.kindOf x = some .cell ∨ env.kindOf x = some .free) ∧ ∃ c, env.cells.lookup x = some c ∧ h.IsCell c (some u))
structure Cx.Ok (X : Cx) : Prop where
  mod : Mod X.K X.mg X.base
  kind : X.env.scope.kind = .function
  glob : X.env.globals = mainGlobals
  blt : X.env.builtins = builtinsNs
  above : X.s₀.heap.objs.size ≤ X.env.locals
  inj : ∀ x y c, X.env.cells.lookup x = some c → X.env.cells.lookup y = some c → x = y
  has : ∀ x, (X.env.kindOf x = some .cell ∨ X.env.kindOf x = some .free) → ∃ c, X.env.cells.lookup x = some c
  cab : ∀ x c, X.fn x = true → X.env.cells.lookup x = some c → X.s₀.heap.objs.size ≤ c
  hd : X.calm = true → X.A.handled = none
  frames : X.A.frames = some X.stack
  stk : X.stack = X.outer ∨ (X.stack = X.env :: X.outer ∧ X.env.frame = some X.env.locals)
  exf : ∀ b ∈ X.ex, b ≠ X.env.locals ∧ ∀ x c, X.env.cells.lookup x = some c → c ≠ b
  bs : ∀ b o, X.base.get? b = some o → X.s₀.heap.get? b = some o ∧ X.H₀ b = none
  bsz : X.base.objs.size ≤ X.s₀.heap.objs.size
  noex : ∀ b o, X.base.get? b = some o → b ∉ X.ex
  exfs : ∀ b ∈ X.ex, b ∉ X.fs
  funs : X.s₀.heap.FunFrames X.base X.outer
  frf : ∀ b ∈ X.fs, X.H₀ b = none
structure Inv (X : Cx) (pins : List (Addr × Obj)) (σ : List (Option V)) (H : Hp) (s : Shared) : Prop where
  ok : X.Ok
  os : s.os = X.s₀.os
  bare : AllBare s.gens
  base : Un X.fs X.ex X.H₀ H X.s₀.heap s.heap
  loc : ∃ m, s.heap.Ns X.env.locals m ∧ ∀ (i : Nat) (x : Str) (v : V), X.N[i]? = some x → σ[i]? = some (some v) → Vis X.env.scope x → ∃ u, RelV v u ∧ Look X.env s.heap m x u
  cell : ∀ x c, X.env.cells.lookup x = some c → ∃ v, s.heap.IsCell c v
  free : H X.env.locals = none
  freeC : ∀ x c, X.env.cells.lookup x = some c → H c = none
  pin : ∀ p ∈ X.pn ++ pins, s.heap.get? p.1 = some p.2 ∧ H p.1 = none ∧ p.1 ≠ X.env.locals ∧ p.1 ∉ X.fs ∧ ∀ v, p.2.data ≠ .cell v
  hok : HOk X.prog X.w H s.heap
  len : σ.length = X.N.length
section
variable {X : Cx} {pins : List (Addr × Obj)} {σ : List (Option V)} {H H' : Hp} {s : Shared} {h' : Heap}
theorem Cx.Ok.nofr (ok : X.Ok) {b : Addr} {o : Obj} (e : X.base.get? b = some o) : b ∉ X.fs := fun hb => by
  have := (ok.funs.mem hb).1
  rw [e] at this; cases this
theorem Inv.bs (I : Inv X pins σ H s) : ∀ b o, X.base.get? b = some o → s.heap.get? b = some o ∧ H b = none := fun b o e =>
  ⟨I.base.keep b o (I.ok.bs b o e).1 (I.ok.bs b o e).2 (I.ok.nofr e) (I.ok.noex b o e), I.base.free b o (I.ok.bs b o e).1 (I.ok.bs b o e).2 (I.ok.noex b o e)⟩
theorem Inv.bk (I : Inv X pins σ H s) : ∀ b o, X.base.get? b = some o → s.heap.get? b = some o := fun b o e => (I.bs b o e).1
theorem Inv.mod (I : Inv X pins σ H s) : Mod X.K X.mg X.base := I.ok.mod
theorem Inv.kIn (I : Inv X pins σ H s) : X.K.In s.heap := I.ok.mod.kin.keeps I.bk
theorem Inv.nolimit (I : Inv X pins σ H s) : s.heap.NoLimit := I.ok.mod.nolimit.keeps I.bk
theorem Inv.fr (I : Inv X pins σ H s) : ∃ m, Fr X.base X.env.locals s.heap m :=
  let ⟨m, hn, _⟩ := I.loc
  ⟨m, hn, I.bk, Nat.le_trans I.ok.bsz I.ok.above⟩
theorem Inv.lt (I : Inv X pins σ H s) : X.env.locals < s.heap.objs.size := let ⟨_, hn, _⟩ := I.loc; hn.lt
theorem Inv.sz (I : Inv X pins σ H s) : X.s₀.heap.objs.size ≤ s.heap.objs.size := Nat.le_trans I.ok.above (Nat.le_of_lt I.lt)
theorem Inv.nofs (I : Inv X pins σ H s) {a : Addr} (h : s.heap.objs.size ≤ a) : a ∉ X.fs := fun hb => by
  obtain ⟨_, o, ho, _⟩ := I.ok.funs.mem hb
  exact absurd (Nat.lt_of_lt_of_le (Heap.lt_size ho) (Nat.le_trans I.sz h)) (Nat.lt_irrefl _)
theorem Inv.cne (I : Inv X pins σ H s) : ∀ x c, X.env.cells.lookup x = some c → c ≠ X.env.locals := fun x c e z => by
  obtain ⟨v, o, ho, hd⟩ := I.cell x c e
  obtain ⟨m, ⟨o', es, ep, ho', hd', _⟩, _⟩ := I.loc
  rw [z, ho'] at ho; cases ho; rw [hd'] at hd; cases hd
theorem Inv.funs (I : Inv X pins σ H s) : s.heap.FunFrames X.base X.outer := by
  have all : ∀ (l : List Env), (∀ b ∈ frs l, b ∈ X.fs) → X.s₀.heap.FunFrames X.base l → s.heap.FunFrames X.base l := by
    intro l
    induction l with
    | nil => intro _ _; trivial
    | cons env r ih =>
      intro hs hl
      obtain ⟨hk, ⟨L, o, hf, hn, ho, hd⟩, hr⟩ := hl
      have hL : L ∈ X.fs := hs L (by unfold frs; rw [List.filterMap_cons, hf]; exact List.mem_cons_self)
      obtain ⟨sl, e⟩ := I.base.slot L o ho (I.ok.frf L hL) hL fun z => I.ok.exfs L z hL
      exact ⟨hk, ⟨L, _, hf, hn, e, hd⟩, ih (fun b hb => hs b (by unfold frs; rw [List.filterMap_cons, hf]; exact List.mem_cons_of_mem _ hb)) hr⟩
  exact all X.outer (fun _ hb => hb) I.ok.funs
theorem Inv.stack (I : Inv X pins σ H s) : s.heap.FunFrames X.base X.stack := by
  rcases I.ok.stk with e | ⟨e, hf⟩
  · rw [e]; exact I.funs
  · rw [e]
    obtain ⟨m, hn, _⟩ := I.loc
    refine .cons (by rw [I.ok.kind]; decide) hf hn ?_ I.funs
    exact Heap.get?_none_of_le (Nat.le_trans I.ok.bsz I.ok.above)
theorem Inv.stkSub (I : Inv X pins σ H s) : ∀ b ∈ frs X.stack, b ∈ X.env.locals :: X.fs := fun b hb => by
  rcases I.ok.stk with e | ⟨e, hf⟩
  · rw [e] at hb; exact List.mem_cons_of_mem _ hb
  · rw [e] at hb
    unfold frs at hb
    rw [List.filterMap_cons, hf] at hb
    exact hb
theorem Inv.stkFree (I : Inv X pins σ H s) : ∀ b ∈ frs X.stack, H b = none := fun b hb => by
  rcases List.mem_cons.mp (I.stkSub b hb) with e | hb
  · rw [e]; exact I.free
  · obtain ⟨_, o, ho, _⟩ := I.ok.funs.mem hb
    exact I.base.free b o ho (I.ok.frf b hb) fun z => I.ok.exfs b z hb
theorem Inv.step {g' : Array GenState} {t' : Nat} {d' : Drawn} {ch : List Addr} (I : Inv X pins σ H s)
    (hch : ∀ b ∈ ch, (b ∈ X.ex ∨ X.s₀.heap.objs.size ≤ b) ∧ b ≠ X.env.locals ∧ (∀ x c, X.env.cells.lookup x = some c → c ≠ b) ∧ ∀ p ∈ X.pn ++ pins, p.1 ≠ b)
    (keep : ∀ b o, b ≠ X.env.locals → b ∉ X.fs → b ∉ ch → s.heap.get? b = some o → H b = none → h'.get? b = some o)
    (slot : ∀ b o, b ≠ X.env.locals → b ∈ X.fs → b ∉ ch → s.heap.get? b = some o → H b = none → ∃ sl, h'.get? b = some { o with slots := sl }) (free : ∀ b o, b ∉ ch → s.heap.get? b = some o → H b = none → H' b = none)
    (there : ∀ b o, b ∉ ch → s.heap.get? b = some o → ∃ o', h'.get? b = some o')
    (tups : ∀ b xs, H b = some (.tup xs) → H' b = some (.tup xs)) (frzs : ∀ b o u, H b = some (.frz o u) → H' b = some (.frz o u)) (tbls : ∀ b ps, H b = some (.tbl ps) → ∃ more, H' b = some (.tbl (ps ++ more)))
    (ns : ∀ m, s.heap.Ns X.env.locals m → h'.Ns X.env.locals m) (hok : HOk X.prog X.w H' h') (hg : AllBare g') :
    Inv X pins σ H' { s with heap := h', gens := g', drawn := d', toks := t' } := by
  have neL : ∀ b o, X.s₀.heap.get? b = some o → b ≠ X.env.locals := fun b o e => Nat.ne_of_lt (Nat.lt_of_lt_of_le (Heap.lt_size e) I.ok.above)
  have neC : ∀ b o, X.s₀.heap.get? b = some o → b ∉ X.ex → b ∉ ch := fun b o e hx hb => by
    rcases (hch b hb).1 with z | z
    · exact hx z
    · exact absurd (Nat.lt_of_lt_of_le (Heap.lt_size e) z) (Nat.lt_irrefl _)
  have cellK : ∀ x c, X.env.cells.lookup x = some c → ∀ v, s.heap.IsCell c v → h'.IsCell c v := fun x c e v ⟨o, ho, hd⟩ => by
    have nch : c ∉ ch := fun z => (hch c z).2.2.1 x c e rfl
    by_cases hc : c ∈ X.fs
    · obtain ⟨sl, q⟩ := slot c o (I.cne x c e) hc nch ho (I.freeC x c e)
      exact ⟨_, q, hd⟩
    · exact ⟨o, keep c o (I.cne x c e) hc nch ho (I.freeC x c e), hd⟩
  refine ⟨I.ok, I.os, hg, ⟨fun b o e n hb hx => ?_, fun b o e n hb hx => ?_, fun b o e n hx => ?_, fun b o e hx => ?_, fun b xs e => tups b xs (I.base.tups b xs e), fun b o xs e => frzs b o xs (I.base.frzs b o xs e), fun b ps e => ?_⟩, ?_, fun x c e => ?_, ?_, fun x c e => ?_, fun p hp => ?_, hok, I.len⟩
  · exact keep b o (neL b o e) hb (neC b o e hx) (I.base.keep b o e n hb hx) (I.base.free b o e n hx)
  · obtain ⟨sl, e1⟩ := I.base.slot b o e n hb hx
    obtain ⟨sl', e2⟩ := slot b _ (neL b o e) hb (neC b o e hx) e1 (I.base.free b o e n hx)
    exact ⟨sl', e2⟩
  · obtain ⟨o', e1⟩ := I.base.there b o e hx
    exact free b o' (neC b o e hx) e1 (I.base.free b o e n hx)
  · obtain ⟨o', e1⟩ := I.base.there b o e hx
    exact there b o' (neC b o e hx) e1
  · obtain ⟨m1, e1⟩ := I.base.tbls b ps e
    obtain ⟨m2, e2⟩ := tbls b _ e1
    exact ⟨m1 ++ m2, by rw [e2, Array.append_assoc]⟩
  · obtain ⟨m, hn, hl⟩ := I.loc
    refine ⟨m, ns m hn, fun i x v e1 e2 e3 => ?_⟩
    obtain ⟨u, r, l⟩ := hl i x v e1 e2 e3
    refine ⟨u, r, ?_⟩
    rcases l with l | ⟨k, c, e, z⟩
    · exact .inl l
    · exact .inr ⟨k, c, e, cellK x c e _ z⟩
  · obtain ⟨v, z⟩ := I.cell x c e
    exact ⟨v, cellK x c e v z⟩
  · obtain ⟨m, ⟨o, _, _, ho, _⟩, _⟩ := I.loc
    exact free _ o (fun z => (hch _ z).2.1 rfl) ho I.free
  · obtain ⟨v, o, ho, hd⟩ := I.cell x c e
    exact free c o (fun z => (hch c z).2.2.1 x c e rfl) ho (I.freeC x c e)
  · obtain ⟨e, n, ne, nf, d⟩ := I.pin p hp
    have nch : p.1 ∉ ch := fun z => (hch p.1 z).2.2.2 p hp rfl
    exact ⟨keep p.1 p.2 ne nf nch e n, free p.1 p.2 nch e n, ne, nf, d⟩
theorem Inv.un {t' : Nat} (I : Inv X pins σ H s) (u : Un X.fs [] H H' s.heap h') (hok : HOk X.prog X.w H' h') : Inv X pins σ H' { s with heap := h', toks := t' } := by
  obtain ⟨m, ⟨o, es, ep, ho, r⟩, _⟩ := id I.loc
  obtain ⟨sl, hL⟩ := u.any ho I.free (by simp)
  exact I.step (g' := s.gens) (d' := s.drawn) (ch := []) (fun _ z => nomatch z) (fun b o _ hb _ e n => u.keep b o e n hb (by simp)) (fun b o _ hb _ e n => u.slot b o e n hb (by simp)) (fun b o _ e n => u.free b o e n (by simp)) (fun b o _ e => u.there b o e (by simp)) u.tups u.frzs u.tbls (fun m' hm => by
    obtain ⟨o', es', ep', ho', r'⟩ := hm
    rw [ho] at ho'; cases ho'
    exact ⟨_, es', ep', hL, r'⟩) hok I.bare
theorem Inv.call {g' : Array GenState} {t' : Nat} {d' : Drawn} {ch : List Addr} (I : Inv X pins σ H s) (u : Un (frs X.stack) ch H H' s.heap h') (hok : HOk X.prog X.w H' h') (hg : AllBare g')
    (hch : ∀ b ∈ ch, (b ∈ X.ex ∨ X.s₀.heap.objs.size ≤ b) ∧ b ≠ X.env.locals ∧ (∀ x c, X.env.cells.lookup x = some c → c ≠ b) ∧ ∀ p ∈ X.pn ++ pins, p.1 ≠ b) :
    Inv X pins σ H' { s with heap := h', gens := g', drawn := d', toks := t' } := by
  obtain ⟨m, ⟨o, es, ep, ho, r⟩, _⟩ := id I.loc
  obtain ⟨sl, hL⟩ := u.any ho I.free fun z => (hch _ z).2.1 rfl
  exact I.step (ch := ch) hch (fun b o hL hb hc e n => u.keep b o e n (fun z => (List.mem_cons.mp (I.stkSub b z)).elim hL hb) hc) (fun b o _ _ hc e n => u.any e n hc) (fun b o hc e n => u.free b o e n hc) (fun b o hc e => u.there b o e hc) u.tups u.frzs u.tbls (fun m' hm => by
    obtain ⟨o', es', ep', ho', r'⟩ := hm
    rw [ho] at ho'; cases ho'
    exact ⟨_, es', ep', hL, r'⟩) hok hg
theorem Inv.turned {t' : Nat} {it : Addr} (I : Inv X pins σ H s) (k : ∀ b o, b ≠ it → s.heap.get? b = some o → h'.get? b = some o) (hn : H it = none) (hL : it ≠ X.env.locals)
    (h1 : it ∈ X.ex ∨ X.s₀.heap.objs.size ≤ it) (h2 : ∀ x c, X.env.cells.lookup x = some c → c ≠ it) (h3 : ∀ p ∈ X.pn ++ pins, p.1 ≠ it) : Inv X pins σ H { s with heap := h', toks := t' } := by
  have nit : ∀ b u, H b = some u → b ≠ it := fun b u e z => by rw [z, hn] at e; cases e
  refine I.step (g' := s.gens) (d' := s.drawn) (ch := [it]) (fun b hb => ?_) (fun b o _ _ hc e _ => k b o (fun z => hc (by simp [z])) e) (fun b o _ _ hc e _ => ⟨o.slots, k b o (fun z => hc (by simp [z])) e⟩) (fun _ _ _ _ n => n)
    (fun b o hc e => ⟨o, k b o (fun z => hc (by simp [z])) e⟩) (fun _ _ e => e) (fun _ _ _ e => e) (fun b ps e => ⟨#[], by rw [e]; simp⟩) (fun m hm => ?_) (fun b u e => ?_) I.bare
  · have e : b = it := by simpa using hb
    subst e
    exact ⟨h1, hL, h2, h3⟩
  · obtain ⟨o, es, ep, ho, r⟩ := hm
    exact ⟨o, es, ep, k _ o (Ne.symm hL) ho, r⟩
  · refine (I.hok b u e).stay (fun c v hc q => k c v ?_ q) (fun _ q => q) fun _ _ q => q
    rcases hc with z | z
    · rw [z]; exact nit b u e
    · exact nit c _ z
theorem Inv.tok (I : Inv X pins σ H s) (t : Nat) : Inv X pins σ H { s with toks := t } := I.un (h' := s.heap) (t' := t) Un.refl I.hok
theorem Inv.kept {t' : Nat} (I : Inv X pins σ H s) (k : ∀ b u, s.heap.get? b = some u → h'.get? b = some u) : Inv X pins σ H { s with heap := h', toks := t' } := I.un (Un.kept k) (I.hok.kept k)
theorem Inv.laid {a : Addr} {o : HO} {t' : Nat} (I : Inv X pins σ H s) (k : ∀ b u, s.heap.get? b = some u → h'.get? b = some u) (hp : s.heap.objs.size ≤ a) (new : ObjOk X.prog X.w (upd H a o) h' a o) :
    Inv X pins σ (upd H a o) { s with heap := h', toks := t' } := I.un (Un.laid k hp (I.hok.fresh hp)) (I.hok.laid k hp new)
theorem Inv.write {x e : Addr} {o : HO} {t' : Nat} (I : Inv X pins σ H s) (mu : Mut (H x)) (he : e = x ∨ H e = some (.own x)) (k : ∀ b u, b ≠ e → s.heap.get? b = some u → h'.get? b = some u) (heo : ∃ u, h'.get? e = some u)
    (new : ObjOk X.prog X.w (upd H x o) h' x o) : Inv X pins σ (upd H x o) { s with heap := h', toks := t' } := I.un (Un.write mu he k heo) (I.hok.write mu he k heo new)
theorem Inv.pins_of {pins' : List (Addr × Obj)} (I : Inv X pins σ H s) (h : ∀ p ∈ pins', s.heap.get? p.1 = some p.2 ∧ H p.1 = none ∧ p.1 ≠ X.env.locals ∧ p.1 ∉ X.fs ∧ ∀ v, p.2.data ≠ .cell v) : Inv X pins' σ H s :=
  ⟨I.ok, I.os, I.bare, I.base, I.loc, I.cell, I.free, I.freeC, fun p hp => (List.mem_append.mp hp).elim (fun z => I.pin p (List.mem_append_left _ z)) (h p), I.hok, I.len⟩
theorem nodup_ix {N : List Str} (hN : N.Nodup) {i j : Nat} {x : Str} (a : N[i]? = some x) (b : N[j]? = some x) : i = j := by
  obtain ⟨h1, e1⟩ := List.getElem?_eq_some_iff.mp a
  obtain ⟨h2, e2⟩ := List.getElem?_eq_some_iff.mp b
  exact (List.getElem_inj hN).mp (e1.trans e2.symm)
theorem store_ok2 {M : Model} {A : Around} {E : Value → Shared → Prop} {i : Nat} {x : Str} {v : V} {u : Value} {Q : Unit → Shared → Prop} (I : Inv X pins σ H s) (hN : X.N.Nodup) (hi : X.N[i]? = some x) (hx : Loc X.env.scope x) (r : RelV v u)
    (h : ∀ s', Inv X pins (σ.set i (some v)) H s' → (∃ a, Heap.SameBut a s.heap s'.heap ∧ (a = X.env.locals ∨ X.env.cells.lookup x = some a)) → Q () s') (hf : X.fn x = true ∨ X.env.scope.names.lookup x = some .local := by first | exact .inl rfl | exact .inr rfl | assumption) : wpAny M A (storeName X.env x u) Q E s := by
  obtain ⟨m, hn, hl⟩ := id I.loc
  have hcls : (X.env.scope.kind == .class || (X.env.scope.kind == .module && X.env.locals != X.env.globals)) = false := by rw [I.ok.kind]; rfl
  have hiσ : i < σ.length := by rw [I.len]; exact (List.getElem?_eq_some_iff.mp hi).1
  have cne := I.cne
  have tracked : ∀ {a : Addr} {h' : Heap}, (∃ o, s.heap.get? a = some o ∧ H a = none) → Heap.SameBut a s.heap h' → HOk X.prog X.w H h' := fun {a h'} ha hs b ob e => by
    obtain ⟨_, _, hfree⟩ := ha
    refine (I.hok b ob e).stay (fun c w' hc q => (hs.2 c ?_).trans q) (fun _ q => q) fun _ _ q => q
    rintro rfl
    rcases hc with rfl | hc
    · rw [hfree] at e; cases e
    · rw [hfree] at hc; cases hc
  rcases hx with hk | hk
  · refine wpAny_storeName_local hk hn (fun h' hn' hs => ?_) hcls
    obtain ⟨oL, _, _, hoL, _⟩ := id hn
    refine h _ ⟨I.ok, I.os, I.bare, ⟨fun b o e n hb hx => ?_, fun b o e n hb hx => ?_, I.base.free, fun b o e hx => ?_, I.base.tups, I.base.frzs, I.base.tbls⟩, ⟨_, hn', fun j y v' e1 e2 e3 => ?_⟩, fun y c e => ?_, I.free, I.freeC, fun p hp => ?_, tracked ⟨oL, hoL, I.free⟩ hs, by simpa using I.len⟩ ⟨_, hs, .inl rfl⟩
    · exact (hs.2 b (Nat.ne_of_lt (Nat.lt_of_lt_of_le (Heap.lt_size e) I.ok.above))).trans (I.base.keep b o e n hb hx)
    · obtain ⟨sl, e1⟩ := I.base.slot b o e n hb hx
      exact ⟨sl, (hs.2 b (Nat.ne_of_lt (Nat.lt_of_lt_of_le (Heap.lt_size e) I.ok.above))).trans e1⟩
    · obtain ⟨o', e1⟩ := I.base.there b o e hx
      exact ⟨o', (hs.2 b (Nat.ne_of_lt (Nat.lt_of_lt_of_le (Heap.lt_size e) I.ok.above))).trans e1⟩
    · by_cases hj : j = i
      · subst hj
        rw [hi] at e1; cases e1
        rw [List.getElem?_set_self hiσ] at e2
        cases e2
        exact ⟨u, r, .inl ⟨hk, by simp⟩⟩
      · rw [List.getElem?_set_ne (Ne.symm hj)] at e2
        obtain ⟨u', r', q⟩ := hl j y v' e1 e2 e3
        refine ⟨u', r', ?_⟩
        rcases q with ⟨k, e⟩ | ⟨k, c, e, z⟩
        · refine .inl ⟨k, ?_⟩
          have : y ≠ x := fun e => hj (nodup_ix hN e1 (e ▸ hi))
          simp [this, e]
        · exact .inr ⟨k, c, e, z.sameBut hs (cne y c e)⟩
    · obtain ⟨w', z⟩ := I.cell y c e
      exact ⟨w', z.sameBut hs (cne y c e)⟩
    · obtain ⟨e, n, ne, nf, d⟩ := I.pin p hp
      exact ⟨(hs.2 p.1 ne).trans e, n, ne, nf, d⟩
  · have hfn : X.fn x = true := by
      rcases hf with z | z
      · exact z
      · rw [z] at hk; cases hk
    obtain ⟨c, hc⟩ := I.ok.has x (.inl hk)
    obtain ⟨w', z⟩ := I.cell x c hc
    refine wpAny_storeName_cell I.ok.kind hk hc z (fun h' hc' hs => ?_)
    obtain ⟨oc, hoc, hocd⟩ := id z
    refine h { s with heap := h' } ⟨I.ok, I.os, I.bare, ⟨fun b o e n hb hx => ?_, fun b o e n hb hx => ?_, I.base.free, fun b o e hx => ?_, I.base.tups, I.base.frzs, I.base.tbls⟩, ⟨m, hn.sameBut hs (Ne.symm (cne x c hc)), fun j y v' e1 e2 e3 => ?_⟩, fun y c' e => ?_, I.free, I.freeC, fun p hp => ?_, tracked ⟨oc, hoc, I.freeC x c hc⟩ hs, by simpa using I.len⟩ ⟨c, hs, .inr hc⟩
    · exact (hs.2 b (Nat.ne_of_lt (Nat.lt_of_lt_of_le (Heap.lt_size e) (I.ok.cab x c hfn hc)))).trans (I.base.keep b o e n hb hx)
    · obtain ⟨sl, e1⟩ := I.base.slot b o e n hb hx
      exact ⟨sl, (hs.2 b (Nat.ne_of_lt (Nat.lt_of_lt_of_le (Heap.lt_size e) (I.ok.cab x c hfn hc)))).trans e1⟩
    · obtain ⟨o', e1⟩ := I.base.there b o e hx
      exact ⟨o', (hs.2 b (Nat.ne_of_lt (Nat.lt_of_lt_of_le (Heap.lt_size e) (I.ok.cab x c hfn hc)))).trans e1⟩
    · by_cases hj : j = i
      · subst hj
        rw [hi] at e1; cases e1
        rw [List.getElem?_set_self hiσ] at e2
        cases e2
        exact ⟨u, r, .inr ⟨.inl hk, c, hc, hc'⟩⟩
      · rw [List.getElem?_set_ne (Ne.symm hj)] at e2
        obtain ⟨u', r', q⟩ := hl j y v' e1 e2 e3
        refine ⟨u', r', ?_⟩
        rcases q with q | ⟨k, c', e, z'⟩
        · exact .inl q
        · refine .inr ⟨k, c', e, z'.sameBut hs ?_⟩
          rintro rfl
          exact hj (nodup_ix hN e1 (I.ok.inj _ _ _ e hc ▸ hi))
    · by_cases hcc : c' = c
      · subst hcc; exact ⟨_, hc'⟩
      · obtain ⟨w2, z2⟩ := I.cell y c' e
        exact ⟨w2, z2.sameBut hs hcc⟩
    · obtain ⟨e, n, ne, nf, d⟩ := I.pin p hp
      refine ⟨(hs.2 p.1 ?_).trans e, n, ne, nf, d⟩
      intro q
      rw [q, hoc] at e
      have q' : oc = p.2 := Option.some.inj e
      exact d w' (by rw [← q']; exact hocd)
theorem store_ok {M : Model} {A : Around} {E : Value → Shared → Prop} {i : Nat} {x : Str} {v : V} {u : Value} {Q : Unit → Shared → Prop} (I : Inv X pins σ H s) (hN : X.N.Nodup) (hi : X.N[i]? = some x) (hx : Loc X.env.scope x) (r : RelV v u)
    (h : ∀ s', Inv X pins (σ.set i (some v)) H s' → Q () s') (hf : X.fn x = true ∨ X.env.scope.names.lookup x = some .local := by first | exact .inl rfl | exact .inr rfl | assumption) : wpAny M A (storeName X.env x u) Q E s :=
  store_ok2 I hN hi hx r (fun s' I' _ => h s' I') hf
theorem Inv.call' {s' : Shared} {ch : List Addr} (I : Inv X pins σ H s) (ho : s'.os = s.os) (u : Un (frs X.stack) ch H H' s.heap s'.heap) (hok : HOk X.prog X.w H' s'.heap) (hg : AllBare s'.gens)
    (hch : ∀ b ∈ ch, (b ∈ X.ex ∨ X.s₀.heap.objs.size ≤ b) ∧ b ≠ X.env.locals ∧ (∀ x c, X.env.cells.lookup x = some c → c ≠ b) ∧ ∀ p ∈ X.pn ++ pins, p.1 ≠ b) : Inv X pins σ H' s' := by
  obtain ⟨h', g', d', t', o'⟩ := s'
  have e : o' = s.os := ho
  subst e
  exact I.call (g' := g') (t' := t') (d' := d') u hok hg hch
end
abbrev XK := Value → Option Addr → Hp → Prop
abbrev St := List (Option V)
abbrev VK := V → Hp → Prop
abbrev TE := St → Hp → VK → Prop
abbrev TT := St → Hp → (Bool → Hp → Prop) → Prop
abbrev TA := St → Hp → (List V → Hp → Prop) → Prop
structure Ends where
  nx : St → Hp → Prop
  rt : VK
  bk : St → Hp → Prop := fun _ _ => False
  ct : St → Hp → Prop := fun _ _ => False
abbrev TS := Ends → St → Hp → Prop
def EP (X : Cx) (pins : List (Addr × Obj)) (σ : St) (Q : VK) (u : Value) (s' : Shared) : Prop := ∃ v H', Inv X pins σ H' s' ∧ RelV v u ∧ Q v H'
def TP (X : Cx) (pins : List (Addr × Obj)) (σ : St) (Q : Bool → Hp → Prop) (b : Bool) (s' : Shared) : Prop := ∃ H', Inv X pins σ H' s' ∧ Q b H'
def AP (X : Cx) (pins : List (Addr × Obj)) (σ : St) (Q : List V → Hp → Prop) (us : List Value) (s' : Shared) : Prop := ∃ vs H', Inv X pins σ H' s' ∧ Vals vs us ∧ Q vs H'
def SP (X : Cx) (pins : List (Addr × Obj)) (D : Ends) (f : Flow) (s' : Shared) : Prop :=
  match f with
  | .next => ∃ σ' H', Inv X pins σ' H' s' ∧ D.nx σ' H'
  | .brk => ∃ σ' H', Inv X pins σ' H' s' ∧ D.bk σ' H'
  | .cont => ∃ σ' H', Inv X pins σ' H' s' ∧ D.ct σ' H'
  | .ret u => ∃ v σ' H', Inv X pins σ' H' s' ∧ RelV v u ∧ D.rt v H'
def PE (X : Cx) (e : Expr) (t : TE) : Prop :=
  ∀ (pins : List (Addr × Obj)) (s : Shared) (σ : St) (H : Hp) (Q : VK), Inv X pins σ H s → t σ H Q → wpAny (model X.prog X.w) X.A (eval e X.env) (EP X pins σ Q) X.xe s
def PT (X : Cx) (e : Expr) (t : TT) : Prop :=
  ∀ (pins : List (Addr × Obj)) (s : Shared) (σ : St) (H : Hp) (Q : Bool → Hp → Prop), Inv X pins σ H s → t σ H Q → wpAny (model X.prog X.w) X.A (isTrue e X.env (eval e X.env)) (TP X pins σ Q) X.xe s
def PW (X : Cx) (e : Expr) (t : TT) : Prop :=
  ∀ (whole : Sem Value) (pins : List (Addr × Obj)) (s : Shared) (σ : St) (H : Hp) (Q : Bool → Hp → Prop), Inv X pins σ H s → t σ H Q → wpAny (model X.prog X.w) X.A (isTrue e X.env whole) (TP X pins σ Q) X.xe s
theorem PW.pt {X : Cx} {e : Expr} {t : TT} (h : PW X e t) : PT X e t := h _
def PA (X : Cx) (es : List Expr) (t : TA) : Prop :=
  ∀ (pos : Pos) (pins : List (Addr × Obj)) (s : Shared) (σ : St) (H : Hp) (Q : List V → Hp → Prop), Inv X pins σ H s → t σ H Q → wpAny (model X.prog X.w) X.A (spliced (backTo pos (starEach es X.env))) (AP X pins σ Q) X.xe s
def PS (X : Cx) (st : Stmt) (t : TS) : Prop :=
  ∀ (pins : List (Addr × Obj)) (s : Shared) (σ : St) (H : Hp) (D : Ends), Inv X pins σ H s → t D σ H → wpAny (model X.prog X.w) X.A (exec st X.env) (SP X pins D) X.xe s
def PSs (X : Cx) (st : List Stmt) (t : TS) : Prop :=
  ∀ (pins : List (Addr × Obj)) (s : Shared) (σ : St) (H : Hp) (D : Ends), Inv X pins σ H s → t D σ H → wpAny (model X.prog X.w) X.A (execs st X.env) (SP X pins D) X.xe s
theorem thn {α : Type} {t : Sem α} {Q Q' : α → Shared → Prop} {M : Model} {A : Around} {E : Value → Shared → Prop} {s : Shared} (h : wpAny M A t Q E s) (hQ : ∀ a s, Q a s → Q' a s) : wpAny M A t Q' E s := wpAny_mono h hQ fun _ _ x => x
end L2
namespace L2
open PySem PySem.Spec PyProof.Rows
section
variable {X : Cx}
def tVar (i : Nat) : TE := fun σ H Q => ∃ v, σ[i]? = some (some v) ∧ Q v H
def tC (v : V) : TE := fun _ H Q => Q v H
theorem pe_var {i : Nat} {x : Str} {pos : Pos} (hN : X.N[i]? = some x) (hv : Vis X.env.scope x) (hd : (x == ("__debug__" : Str)) = false := by decide) (hcd : (x == ("__classdict__" : Str)) = false := by decide) : PE X (.Name x pos) (tVar i) := by
  intro pins s σ H Q I h
  obtain ⟨v, e, h⟩ := h
  obtain ⟨m, hn, hl⟩ := I.loc
  obtain ⟨u, r, l⟩ := hl i x v hN e hv
  have fin : EP X pins σ Q u s := ⟨v, H, I, r, h⟩
  rcases l with ⟨hk, hm⟩ | ⟨hk, c, hc, hcell⟩
  · exact wpAny_Name (wpAny_loadName_local I.ok.kind hk hn hm fin) hd
  · rcases hk with hk | hk
    · exact wpAny_Name (wpAny_loadName_cell I.ok.kind hk hc hcell fin) hd
    · exact wpAny_Name (wpAny_loadName_free I.ok.kind hk hc hcell fin hcd) hd
theorem pe_int {i j pos} : PE X (.Constant (.int i) j pos) (tC (.int i)) := fun _ _ _ H _ I h => wpAny_Constant_int ⟨.int i, H, I.tok _, ⟨_, rfl⟩, h⟩
theorem pe_bl {b j pos} : PE X (.Constant (.bool b) j pos) (tC (.bl b)) := fun _ _ _ H _ I h => Constant_bool ⟨.bl b, H, I, rfl, h⟩
theorem pe_non {j pos} : PE X (.Constant .none j pos) (tC .non) := fun _ _ _ H _ I h => Constant_none ⟨.non, H, I, rfl, h⟩
def Gl (X : Cx) (x : Str) : Prop := X.env.kindOf x = some .globalImplicit
theorem ld_glob {E : Value → Shared → Prop} {pins : List (Addr × Obj)} {s : Shared} {σ : St} {H : Hp} {x : Str} {u : Value} {pos : Pos} {Q : Value → Shared → Prop} (I : Inv X pins σ H s) (hg : Gl X x) (hm : X.mg x = some u) (h : Q u s)
    (hd : (x == ("__debug__" : Str)) = false := by decide) : wpAny (model X.prog X.w) X.A (eval (.Name x pos) X.env) Q E s :=
  Calls.Name_function_global I.ok.kind hg (Calls.loadGlobal_global (by rw [I.ok.glob]; exact I.mod.glob.keeps I.bk) hm h) hd
theorem ld_blt {E : Value → Shared → Prop} {pins : List (Addr × Obj)} {s : Shared} {σ : St} {H : Hp} {x : Str} {u : Value} {pos : Pos} {Q : Value → Shared → Prop} (I : Inv X pins σ H s) (hg : Gl X x) (hm : X.mg x = none) (hv : bootBuiltins x = some u) (h : Q u s)
    (hn : x ≠ "__name__" := by decide) (hd : (x == ("__debug__" : Str)) = false := by decide) : wpAny (model X.prog X.w) X.A (eval (.Name x pos) X.env) Q E s := by
  obtain ⟨mb, h1, h2⟩ := I.mod.blt
  exact Calls.Name_function_global I.ok.kind hg (Calls.loadGlobal_builtin (by rw [I.ok.glob]; exact I.mod.glob.keeps I.bk) hm (by rw [I.ok.blt]; exact h1.keeps I.bk) ((h2 x hn).trans hv) h) hd
theorem pe_bltn {x : Str} {v : V} {u : Value} {pos : Pos} (hg : Gl X x) (hm : X.mg x = none) (hv : bootBuiltins x = some u) (r : RelV v u) (hn : x ≠ "__name__" := by decide) (hd : (x == ("__debug__" : Str)) = false := by decide) : PE X (.Name x pos) (tC v) :=
  fun _ _ _ H _ I h => ld_blt I hg hm hv ⟨v, H, I, r, h⟩ hn hd
variable {a b : Expr} {ta tb : TE} {pos : Pos}
def tB (t : TE) : TT := fun σ H Q => t σ H fun x H1 => ∃ c, x = .bl c ∧ Q c H1
theorem pt_val {e : Expr} {t : TE} (h : PE X e t) (he : ∀ whole, isTrue e X.env whole = (do let v ← whole; standAt e.pos; holding [v] (truthy v)) := by intro _; rfl) : PT X e (tB t) := by
  intro pins s σ H Q I hw
  refine isTrue_plain (thn (h pins s σ H _ I hw) fun v s1 ⟨x, H1, I1, r1, q1⟩ => ?_) (he _)
  obtain ⟨d, rfl, q⟩ := q1
  cases r1
  exact wpAny_truthy_bool ⟨H1, I1, q⟩
variable {tA tB' : TT} {rest : List Expr}
def tAnd (t u : TT) : TT := fun σ H Q => t σ H fun c H1 => if c = true then u σ H1 Q else Q false H1
def tOr (t u : TT) : TT := fun σ H Q => t σ H fun c H1 => if c = true then Q true H1 else u σ H1 Q
def tNot (t : TT) : TT := fun σ H Q => t σ H fun c H1 => Q (!c) H1
theorem pw_and1 (ha : PT X a tA) : PW X (.BoolOp .And [a] pos) tA := by
  intro wh pins s σ H Q I h
  refine isTrue_and (thn (ha pins s σ H Q I h) fun c s1 e => ?_)
  cases c with
  | true => exact isTrue_and_nil e
  | false => exact e
theorem pw_or1 (ha : PT X a tA) : PW X (.BoolOp .Or [a] pos) tA := by
  intro wh pins s σ H Q I h
  refine isTrue_or (thn (ha pins s σ H Q I h) fun c s1 e => ?_)
  cases c with
  | false => exact isTrue_or_nil e
  | true => exact e
theorem pw_and (ha : PT X a tA) (hb : PW X (.BoolOp .And (b :: rest) pos) tB') : PW X (.BoolOp .And (a :: b :: rest) pos) (tAnd tA tB') := by
  intro wh pins s σ H Q I h
  refine isTrue_and (thn (ha pins s σ H _ I h) fun c s1 ⟨H1, I1, q1⟩ => ?_)
  cases c with
  | true => exact hb wh pins s1 σ H1 Q I1 q1
  | false => exact ⟨H1, I1, q1⟩
theorem pw_or (ha : PT X a tA) (hb : PW X (.BoolOp .Or (b :: rest) pos) tB') : PW X (.BoolOp .Or (a :: b :: rest) pos) (tOr tA tB') := by
  intro wh pins s σ H Q I h
  refine isTrue_or (thn (ha pins s σ H _ I h) fun c s1 ⟨H1, I1, q1⟩ => ?_)
  cases c with
  | true => exact ⟨H1, I1, q1⟩
  | false => exact hb wh pins s1 σ H1 Q I1 q1
theorem pt_not (ha : PT X a tA) : PT X (.UnaryOp .Not a pos) (tNot tA) := by
  intro pins s σ H Q I h
  exact isTrue_not (ha pins s σ H (fun c H1 => Q (!c) H1) I h)
def tNotV (ta : TE) : TE := fun σ H Q => ta σ H fun x H1 => ∃ c, x = .bl c ∧ Q (.bl (!c)) H1
theorem pe_not (ha : PE X a ta) : PE X (.UnaryOp .Not a pos) (tNotV ta) := by
  intro pins s σ H Q I h
  refine UnaryOp_ (thn (ha pins s σ H _ I h) fun v s1 ⟨x, H1, I1, r1, q1⟩ => ?_)
  obtain ⟨c, rfl, q1⟩ := q1
  cases r1
  exact not_of (wpAny_truthy_bool ⟨.bl (!c), H1, I1, rfl, q1⟩)
def tIf (t : TT) (ta tb : TE) : TE := fun σ H Q => t σ H fun c H1 => if c = true then ta σ H1 Q else tb σ H1 Q
theorem pe_ifExp {c : Expr} (hc : PT X c tA) (ha : PE X a ta) (hb : PE X b tb) : PE X (.IfExp c a b pos) (tIf tA ta tb) := by
  intro pins s σ H Q I h
  refine wpAny_IfExp (thn (hc pins s σ H _ I h) fun d s1 ⟨H1, I1, q1⟩ => ?_)
  cases d with
  | true => exact ha pins s1 σ H1 Q I1 q1
  | false => exact hb pins s1 σ H1 Q I1 q1
end
end L2
namespace L2
open PySem PySem.Spec PyProof.Rows
def SqL (K : PySem.W.Frag) (H : Hp) (a : Addr) (xs : List V) : Prop :=
  Rd H a (.lst xs) ∨
    ∃ (o : Obj) (its : Array Value) (n : Nat), K.lookup a = some o ∧ o.cls = .type "list" ∧ o.dict = none ∧ o.data = .seq its n ∧ its.size ≤ sizeLine ∧ Vals xs its.toList
def SqT (K : PySem.W.Frag) (H : Hp) (a : Addr) (xs : List V) : Prop :=
  Rd H a (.tup xs) ∨
    ∃ (o : Obj) (its : Array Value) (n : Nat), K.lookup a = some o ∧ o.cls = .type "tuple" ∧ o.data = .seq its n ∧ its.size ≤ sizeLine ∧ Vals xs its.toList
def absV : Value → Option V
  | .none => some .non
  | .bool b => some (.bl b)
  | .int i _ => some (.int i)
  | .str x _ => some (.str x)
  | .bytes b _ => some (.byt b)
  | .float b _ => some (.flt b)
  | .ref a => some (.ref a)
  | .type n => some (.ty n)
  | _ => none
theorem RelV.abs {x : V} {u : Value} (r : RelV x u) : absV u = some x := by
  cases x with
  | non => cases r; rfl
  | bl _ => cases r; rfl
  | int _ => obtain ⟨t, rfl⟩ := r; rfl
  | str _ => obtain ⟨t, rfl⟩ := r; rfl
  | byt _ => obtain ⟨t, rfl⟩ := r; rfl
  | flt _ => obtain ⟨t, rfl⟩ := r; rfl
  | ref _ => cases r; rfl
  | ty _ => cases r; rfl
theorem RelV.inj {x y : V} {u : Value} (r : RelV x u) (q : RelV y u) : x = y := Option.some.inj (r.abs.symm.trans q.abs)
theorem Vals.inj : ∀ {xs ys : List V} {us : List Value}, Vals xs us → Vals ys us → xs = ys
  | _, _, _, .nil, .nil => rfl
  | _, _, _, .cons r t, .cons r' t' => by rw [r.inj r', Vals.inj t t']
section
variable {X : Cx} {pins : List (Addr × Obj)} {σ : St} {H : Hp} {s : Shared} {a : Addr} {xs ys : List V}
theorem SqL.of {K : PySem.W.Frag} (h : H a = some (.lst xs)) : SqL K H a xs := .inl (.inl h)
theorem SqT.of {K : PySem.W.Frag} (h : H a = some (.tup xs)) : SqT K H a xs := .inl (.inl h)
theorem Inv.list (I : Inv X pins σ H s) (h : SqL X.K H a xs) : ∃ its : List Value, Vals xs its ∧ PlainL s.heap a its.toArray ∧ xs.length ≤ sizeLine := by
  rcases h with h | ⟨o, its, n, hk, hc, hd, hs, hz, r⟩
  · obtain ⟨z, its, n, r, e⟩ := h.ok I.hok
    exact ⟨its, r, ⟨_, n, e, rfl, rfl, rfl⟩, z⟩
  · refine ⟨its.toList, r, ⟨o, n, I.kIn a o hk, hc, hd, by simpa using hs⟩, ?_⟩
    have e := r.length
    simp only [Array.length_toList] at e
    omega
theorem Inv.tuple (I : Inv X pins σ H s) (h : SqT X.K H a xs) : ∃ its : List Value, Vals xs its ∧ IsTup s.heap a its.toArray ∧ xs.length ≤ sizeLine := by
  rcases h with h | ⟨o, its, n, hk, hc, hs, hz, r⟩
  · obtain ⟨z, its, r, p⟩ := h.ok I.hok
    exact ⟨its, r, p, z⟩
  · refine ⟨its.toList, r, ⟨o, I.kIn a o hk, hc, n, by simpa using hs⟩, ?_⟩
    have e := r.length
    simp only [Array.length_toList] at e
    omega
theorem Inv.list_inj (I : Inv X pins σ H s) (h : SqL X.K H a xs) (h' : SqL X.K H a ys) : xs = ys := by
  obtain ⟨its, r, ⟨o, n, e, _, _, d⟩, _⟩ := I.list h
  obtain ⟨its', r', ⟨o', n', e', _, _, d'⟩, _⟩ := I.list h'
  rw [e] at e'; cases e'
  rw [d] at d'
  injection d' with d1 _
  have : its = its' := by simpa using congrArg Array.toList d1
  subst this
  exact r.inj r'
theorem Inv.tuple_inj (I : Inv X pins σ H s) (h : SqT X.K H a xs) (h' : SqT X.K H a ys) : xs = ys := by
  obtain ⟨its, r, ⟨o, e, _, n, d⟩, _⟩ := I.tuple h
  obtain ⟨its', r', ⟨o', e', _, n', d'⟩, _⟩ := I.tuple h'
  rw [e] at e'; cases e'
  rw [d] at d'
  injection d' with d1 _
  have : its = its' := by simpa using congrArg Array.toList d1
  subst this
  exact r.inj r'
end
abbrev Cx.wish (X : Cx) (E : Value → Shared → Prop) : Cx := { X with xe := E }
abbrev Cx.nox (X : Cx) : Cx := X.wish fun _ _ => False
theorem Cx.Ok.wish {X : Cx} (ok : X.Ok) (E : Value → Shared → Prop) : (X.wish E).Ok :=
  ⟨ok.mod, ok.kind, ok.glob, ok.blt, ok.above, ok.inj, ok.has, ok.cab, ok.hd, ok.frames, ok.stk, ok.exf, ok.bs, ok.bsz, ok.noex, ok.exfs, ok.funs, ok.frf⟩
theorem Cx.Ok.unwish {X : Cx} {E : Value → Shared → Prop} (ok : (X.wish E).Ok) : X.Ok :=
  ⟨ok.mod, ok.kind, ok.glob, ok.blt, ok.above, ok.inj, ok.has, ok.cab, ok.hd, ok.frames, ok.stk, ok.exf, ok.bs, ok.bsz, ok.noex, ok.exfs, ok.funs, ok.frf⟩
section
variable {X : Cx} {pins : List (Addr × Obj)} {σ : St} {H : Hp} {s : Shared} {E : Value → Shared → Prop}
theorem Inv.wish (I : Inv X pins σ H s) (E : Value → Shared → Prop) : Inv (X.wish E) pins σ H s := ⟨I.ok.wish E, I.os, I.bare, I.base, I.loc, I.cell, I.free, I.freeC, I.pin, I.hok, I.len⟩
theorem Inv.unwish (I : Inv (X.wish E) pins σ H s) : Inv X pins σ H s := ⟨I.ok.unwish, I.os, I.bare, I.base, I.loc, I.cell, I.free, I.freeC, I.pin, I.hok, I.len⟩
theorem SP.unwish {D : Ends} {f : Flow} {s' : Shared} (h : SP (X.wish E) pins D f s') : SP X pins D f s' := by
  cases f with
  | next => obtain ⟨σ', H', I, q⟩ := h; exact ⟨σ', H', I.unwish, q⟩
  | brk => obtain ⟨σ', H', I, q⟩ := h; exact ⟨σ', H', I.unwish, q⟩
  | cont => obtain ⟨σ', H', I, q⟩ := h; exact ⟨σ', H', I.unwish, q⟩
  | ret u => obtain ⟨v, σ', H', I, r, q⟩ := h; exact ⟨v, σ', H', I.unwish, r, q⟩
theorem PE.nox {e : Expr} {t : TE} (h : PE X.nox e t) : PE X e t := fun pins s σ H Q I hw =>
  wpAny_mono (h pins s σ H Q (I.wish _) hw) (fun _ _ ⟨v, H', I', r, q⟩ => ⟨v, H', I'.unwish, r, q⟩) fun _ _ z => False.elim z
theorem PT.nox {e : Expr} {t : TT} (h : PT X.nox e t) : PT X e t := fun pins s σ H Q I hw =>
  wpAny_mono (h pins s σ H Q (I.wish _) hw) (fun _ _ ⟨H', I', q⟩ => ⟨H', I'.unwish, q⟩) fun _ _ z => False.elim z
theorem PSs.nox {st : List Stmt} {t : TS} (h : PSs X.nox st t) : PSs X st t := fun pins s σ H D I hw =>
  wpAny_mono (h pins s σ H D (I.wish _) hw) (fun _ _ q => q.unwish) fun _ _ z => False.elim z
end
section
variable {X : Cx} {st : Stmt} {rest : List Stmt} {t u : TS} {e : Expr} {te : TE} {pos : Pos}
def tNext : TS := fun D σ H => D.nx σ H
def tSeq (t u : TS) : TS := fun D σ H => t { D with nx := u D } σ H
theorem pss_nil : PSs X [] tNext := fun _ _ σ H _ I h => wpAny_execs_nil ⟨σ, H, I, h⟩
theorem pss_cons (h1 : PS X st t) (h2 : PSs X rest u) : PSs X (st :: rest) (tSeq t u) := by
  intro pins s σ H D I h
  refine wpAny_execs_cons (thn (h1 pins s σ H { D with nx := u D } I h) fun f s1 q => ?_)
  cases f with
  | next =>
    obtain ⟨σ', H', I', q⟩ := q
    exact h2 pins s1 σ' H' D I' q
  | ret v => exact q
  | brk => exact q
  | cont => exact q
theorem pss_one (h1 : PS X st t) : PSs X [st] t := by
  intro pins s σ H D I h
  refine wpAny_execs_cons (thn (h1 pins s σ H D I h) fun f s1 q => ?_)
  cases f with
  | next => exact wpAny_execs_nil q
  | ret v => exact q
  | brk => exact q
  | cont => exact q
def tCont : TS := fun D σ H => D.ct σ H
theorem ps_continue : PS X (.Continue pos) tCont := fun _ _ σ H _ I h => wpAny_Continue ⟨σ, H, I, h⟩
theorem Inv.quiet {pins : List (Addr × Obj)} {σ : St} {H : Hp} {s : Shared} (I : Inv X pins σ H s) : interactive X.env = false := by simp [interactive, I.ok.kind]
def tDrop (te : TE) : TS := fun D σ H => te σ H fun _ H1 => D.nx σ H1
theorem ps_expr (he : PE X e te) (hs : swapsWith e none pos.line X.env = pure false := by rfl) : PS X (.Expr e pos) (tDrop te) := by
  intro pins s σ H D I h
  exact wpAny_Expr_any (thn (he pins s σ H _ I h) fun v s1 ⟨x, H1, I1, r1, q1⟩ => ⟨σ, H1, I1, q1⟩) I.quiet hs
def tRet (te : TE) : TS := fun D σ H => te σ H D.rt
theorem ps_ret (he : PE X e te) : PS X (.Return (some e) pos) (tRet te) := by
  intro pins s σ H D I h
  exact wpAny_Return_some (thn (he pins s σ H _ I h) fun v s1 ⟨x, H1, I1, r1, q1⟩ => ⟨x, σ, H1, I1, r1, q1⟩)
def tIfS (c : TT) (t u : TS) : TS := fun D σ H => c σ H fun b H1 => if b = true then t D σ H1 else u D σ H1
theorem ps_if {c : Expr} {a b : List Stmt} {tc : TT} (hc : PT X c tc) (ha : PSs X a t) (hb : PSs X b u) : PS X (.If c a b pos) (tIfS tc t u) := by
  intro pins s σ H D I h
  refine wpAny_If (thn (hc pins s σ H _ I h) fun d s1 ⟨H1, I1, q1⟩ => ?_)
  cases d with
  | true => exact ha pins s1 σ H1 D I1 q1
  | false => exact hb pins s1 σ H1 D I1 q1
end
abbrev TG := V → St → Hp → (St → Hp → Prop) → Prop
abbrev TGs := List V → St → Hp → (St → Hp → Prop) → Prop
def PG (X : Cx) (target : Expr) (t : TG) : Prop :=
  ∀ (pins : List (Addr × Obj)) (s : Shared) (σ : St) (H : Hp) (v : V) (u : Value) (Q : St → Hp → Prop), Inv X pins σ H s → RelV v u → t v σ H Q →
    wpAny (model X.prog X.w) X.A (assign target X.env u) (fun _ s' => ∃ σ' H', Inv X pins σ' H' s' ∧ Q σ' H') X.xe s
def PGs (X : Cx) (ts : List Expr) (t : TGs) : Prop :=
  ∀ (pins : List (Addr × Obj)) (s : Shared) (σ : St) (H : Hp) (vs : List V) (us : List Value) (Q : St → Hp → Prop), Inv X pins σ H s → Vals vs us → t vs σ H Q →
    wpAny (model X.prog X.w) X.A (assignInOrder ((assignEach ts X.env).map (·.2)) us) (fun _ s' => ∃ σ' H', Inv X pins σ' H' s' ∧ Q σ' H') X.xe s
abbrev TSet := V → V → V → Hp → (Hp → Prop) → Prop
def PSet (X : Cx) (t : TSet) : Prop :=
  ∀ (pins : List (Addr × Obj)) (s : Shared) (σ : St) (H : Hp) (o i v : V) (ov iv u : Value) (Q : Hp → Prop), Inv X pins σ H s → RelV o ov → RelV i iv → RelV v u → t o i v H Q →
    wpAny (model X.prog X.w) X.A (setItem ov iv u) (fun _ s' => ∃ H', Inv X pins σ H' s' ∧ Q H') X.xe s
section
variable {X : Cx} {pos : Pos}
def gName (i : Nat) : TG := fun v σ H Q => Q (σ.set i (some v)) H
theorem pg_name {i : Nat} {x : Str} (hN : X.N.Nodup) (hi : X.N[i]? = some x) (hx : Loc X.env.scope x) (hf : X.fn x = true ∨ X.env.scope.names.lookup x = some .local := by first | exact .inl rfl | exact .inr rfl | assumption) : PG X (.Name x pos) (gName i) := by
  intro pins s σ H v u Q I r h
  exact wpAny_assign_Name (store_ok I hN hi hx r (fun s' I' => ⟨_, H, I', h⟩) hf)
def gNil : TGs := fun vs σ H Q => vs = [] ∧ Q σ H
def gCons (t : TG) (u : TGs) : TGs := fun vs σ H Q => ∃ v r, vs = v :: r ∧ t v σ H fun σ' H' => u r σ' H' Q
theorem pgs_nil : PGs X [] gNil := by
  intro pins s σ H vs us Q I r h
  obtain ⟨e, h⟩ := h
  subst e
  cases r
  exact assignInOrder_nil ⟨σ, H, I, h⟩
theorem pgs_cons {e : Expr} {es : List Expr} {t : TG} {u : TGs} (h1 : PG X e t) (h2 : PGs X es u)
    (hs : (assignEach (e :: es) X.env).map (·.2) = assign e X.env :: (assignEach es X.env).map (·.2) := by rfl) : PGs X (e :: es) (gCons t u) := by
  intro pins s σ H vs us Q I r h
  obtain ⟨v, vr, e1, h⟩ := h
  subst e1
  cases r with
  | cons r rr =>
    rw [hs]
    refine assignInOrder_cons (thn (h1 pins s σ H _ _ _ I r h) fun _ s1 ⟨σ1, H1, I1, q1⟩ => ?_)
    exact h2 pins s1 σ1 H1 _ _ Q I1 rr q1
def gTup (K : PySem.W.Frag) (n : Nat) (t : TGs) : TG := fun v σ H Q => ∃ a xs, v = .ref a ∧ SqT K H a xs ∧ xs.length = n ∧ t xs σ H Q
theorem pg_tup {es : List Expr} {k : Nat} {t : TGs} {n : Nat} (hc : X.calm = true) (h : PGs X es t)
    (hn : (assignEach es X.env).length = n := by rfl) (hst : (assignEach es X.env).findIdx? (·.1) = none := by rfl) : PG X (.Tuple es k pos) (gTup X.K n t) := by
  intro pins s σ H v u Q I r hw
  obtain ⟨a, xs, e1, hq, hl, hw⟩ := hw
  subst e1
  cases r
  obtain ⟨its, rv, ht, hz⟩ := I.tuple hq
  refine assign_Tuple_tuple (I.ok.hd hc) ht (by simp [hn, ← hl, rv.length]) hst fun h' hx => ?_
  have I1 : Inv X pins σ H { s with heap := h' } := I.kept (t' := s.toks) fun b o e => hx b o (Nat.ne_of_lt (Heap.lt_size e)) e
  exact h pins _ σ H xs _ Q I1 (by simpa using rv) hw
def gSub (to ti : TE) (t : TSet) : TG := fun v σ H Q => to σ H fun o H1 => ti σ H1 fun i H2 => t o i v H2 fun H3 => Q σ H3
theorem pg_sub {o i : Expr} {to ti : TE} {t : TSet} (ho : PE X o to) (hi : PE X i ti) (hs : PSet X t)
    (ha : ∀ v, assign (.Subscript o i pos) X.env v = (do
      let ov ← holding [v] (eval o X.env)
      let iv ← holding [v, ov] (eval i X.env)
      standAt pos
      holding [v, ov, iv] (setItem ov iv v)
      release [v, ov, iv] []) := by intro _; rfl) : PG X (.Subscript o i pos) (gSub to ti t) := by
  intro pins s σ H v u Q I r h
  rw [ha]
  refine wpAny_bind (wpAny_holding (thn (ho pins s σ H _ I h) fun ov s1 ⟨x, H1, I1, r1, q1⟩ => ?_))
  refine wpAny_bind (wpAny_holding (thn (hi pins s1 σ H1 _ I1 q1) fun iv s2 ⟨y, H2, I2, r2, q2⟩ => ?_))
  refine wpAny_bind (wpAny_standAt (wpAny_bind (wpAny_holding (thn (hs pins s2 σ H2 x y v ov iv u _ I2 r1 r2 r q2) fun _ s3 ⟨H3, I3, q3⟩ => ?_))))
  exact wpAny_release ⟨σ, H3, I3, q3⟩
def tAsg (te : TE) (g : TG) : TS := fun D σ H => te σ H fun x H1 => g x σ H1 D.nx
theorem ps_asg {tg e : Expr} {te : TE} {g : TG} (he : PE X e te) (hg : PG X tg g) (hs : swapsWithSole [tg] e pos.line X.env = pure false := by rfl) (hw : swappedStores [tg] e X.env = pure none := by rfl)
    (h1 : (assignEach [tg] X.env).map (·.2) = [assign tg X.env] := by rfl) : PS X (.Assign [tg] e pos) (tAsg te g) := by
  intro pins s σ H D I h
  refine wpAny_Assign_stores (thn (he pins s σ H _ I h) fun v s1 ⟨x, H1, I1, r1, q1⟩ => ?_) hs hw
  rw [h1]
  exact thn (hg pins s1 σ H1 x v _ I1 r1 q1) fun _ s2 q => q
theorem ps_set {i : Nat} {x : Str} {e : Expr} {te : TE} {pos' : Pos} (hN : X.N.Nodup) (hi : X.N[i]? = some x) (hx : Loc X.env.scope x) (he : PE X e te) (hs : swapsWith e (some (.Name x pos')) pos.line X.env = pure false := by rfl) (hf : X.fn x = true ∨ X.env.scope.names.lookup x = some .local := by first | exact .inl rfl | exact .inr rfl | assumption) :
    PS X (.Assign [.Name x pos'] e pos) (tAsg te (gName i)) := by
  intro pins s σ H D I h
  refine wpAny_Assign_Name (thn (he pins s σ H _ I h) fun v s1 ⟨y, H1, I1, r1, q1⟩ => ?_) hs
  exact store_ok I1 hN hi hx r1 (fun s2 I2 => ⟨_, H1, I2, q1⟩) hf
end
section
variable {X : Cx} {pos : Pos}
def tWhile (c : TT) (tb : TS) : TS := fun D σ H => ∃ W : Nat → St → Hp → Prop, (∃ m, W m σ H) ∧ ∀ m σ H, W m σ H →
  c σ H fun b H1 => if b = true then ∃ N : St → Hp → Prop, (∀ σ' H', N σ' H' → ∃ m', m' < m ∧ W m' σ' H') ∧ tb { D with nx := N, ct := N, bk := D.nx } σ H1 else D.nx σ H1
theorem ps_while {c : Expr} {body : List Stmt} {tc : TT} {tb : TS} (hp : PassesOwn (model X.prog X.w) X.A X.env X.xe) (hc : PT X c tc) (hb : PSs X body tb) : PS X (.While c body [] pos) (tWhile tc tb) := by
  intro pins s σ H D I h
  obtain ⟨W, ⟨m0, w0⟩, turn⟩ := h
  refine wpAny_While (codeAny_whileLoop (fun n s' => ∃ σ' H', Inv X pins σ' H' s' ∧ W n σ' H') ?_ m0 ⟨σ, H, I, w0⟩)
  rintro n s1 ⟨σ1, H1, I1, w1⟩
  refine wpAny_passesOwn hp (thn (hc pins s1 σ1 H1 _ I1 (turn n σ1 H1 w1)) fun b s2 ⟨H2, I2, q2⟩ => ?_)
  cases b with
  | true =>
    obtain ⟨N, hN, q2⟩ := q2
    rw [if_pos rfl]
    refine wpAny_passesOwn hp (thn (hb pins s2 σ1 H2 _ I2 q2) fun f s3 q3 => ?_)
    cases f with
    | next =>
      obtain ⟨σ3, H3, I3, n3⟩ := q3
      obtain ⟨m', hm, w3⟩ := hN σ3 H3 n3
      exact ⟨m', hm, σ3, H3, I3, w3⟩
    | cont =>
      obtain ⟨σ3, H3, I3, n3⟩ := q3
      obtain ⟨m', hm, w3⟩ := hN σ3 H3 n3
      exact ⟨m', hm, σ3, H3, I3, w3⟩
    | brk => exact q3
    | ret v => exact q3
  | false =>
    rw [if_neg Bool.false_ne_true]
    exact wpAny_execs_nil ⟨σ1, H2, I2, q2⟩
end
structure It where
  go : Nat → Hp → Prop
  yld : Nat → Hp → V → Hp → Prop
  stop : Nat → Hp → Prop
def FpOk (X : Cx) (pins : List (Addr × Obj)) (H : Hp) (b : Addr) : Prop :=
  H b = none ∧ b ≠ X.env.locals ∧ b ∉ X.fs ∧ (b ∈ X.ex ∨ X.s₀.heap.objs.size ≤ b) ∧ (∀ x c, X.env.cells.lookup x = some c → c ≠ b) ∧ ∀ p ∈ X.pn ++ pins, p.1 ≠ b
theorem Inv.fpOk {X : Cx} {pins : List (Addr × Obj)} {σ : St} {H H' : Hp} {s : Shared} {b : Addr} (I : Inv X pins σ H s) (hb : s.heap.objs.size ≤ b) (hn : H' b = none) : FpOk X pins H' b := by
  refine ⟨hn, Nat.ne_of_gt (Nat.lt_of_lt_of_le I.lt hb), I.nofs hb, .inr (Nat.le_trans I.sz hb), fun x c e z => ?_, fun p hp z => ?_⟩
  · obtain ⟨v, q⟩ := I.cell x c e
    exact absurd (Nat.lt_of_lt_of_le q.lt (by rw [z]; exact hb)) (Nat.lt_irrefl _)
  · exact absurd (Nat.lt_of_lt_of_le (Heap.lt_size (I.pin p hp).1) (by rw [z]; exact hb)) (Nat.lt_irrefl _)
structure Turn (P : Program) (w : World) (K : PySem.W.Frag) (tg : Expr) (J : It) (fp : List Addr) (it : Addr) (tn : Nat → Heap → Prop) : Prop where
  mem : it ∈ fp
  obj : ∀ i h, tn i h → ∀ b ∈ fp, ∃ o, h.get? b = some o ∧ ∀ v, o.data ≠ .cell v
  keep : ∀ i h h', tn i h → (∀ b ∈ fp, ∀ o, h.get? b = some o → h'.get? b = some o) → tn i h'
  item : ∀ (X : Cx), X.prog = P → X.w = w → X.K = K → X.calm = true → ∀ (i : Nat) (pins : List (Addr × Obj)) (s : Shared) (σ : St) (H : Hp) (E : Value → Shared → Prop), Inv X pins σ H s → (∀ b ∈ fp, FpOk X pins H b) → tn i s.heap → J.go i H →
    wpAny (model P w) X.A (pyNext (.ref it)) (fun r s1 => ∃ u, r = some u ∧
      wpAny (model P w) X.A (letOwnedTupleGo tg (.ref it) u) (fun _ s2 => ∃ x H', Inv X pins σ H' s2 ∧ RelV x u ∧ J.yld i H x H' ∧ tn (i + 1) s2.heap ∧ ∀ b ∈ fp, H' b = none) E s1) E s
  done : ∀ (X : Cx), X.prog = P → X.w = w → X.K = K → X.calm = true → ∀ (i : Nat) (pins : List (Addr × Obj)) (s : Shared) (σ : St) (H : Hp) (E : Value → Shared → Prop), Inv X pins σ H s → (∀ b ∈ fp, FpOk X pins H b) → tn i s.heap → J.stop i H →
    wpAny (model P w) X.A (pyNext (.ref it)) (fun r s1 => r = none ∧ Inv X pins σ H s1) E s
  self : ∀ (A : Around) (i : Nat) (s : Shared) (Q : Value → Shared → Prop) (E : Value → Shared → Prop), tn i s.heap → Q (.ref it) s → wpAny (model P w) A (pyIter (.ref it)) Q E s
abbrev TI := St → Hp → (It → Hp → Prop) → Prop
def PIE (X : Cx) (pins : List (Addr × Obj)) (σ : St) (tg : Expr) (R : It → Hp → Prop) (itv : Value) (s2 : Shared) : Prop :=
  ∃ (it : Addr) (fp : List Addr) (tn : Nat → Heap → Prop) (J : It) (H' : Hp), itv = .ref it ∧ Inv X pins σ H' s2 ∧ Turn X.prog X.w X.K tg J fp it tn ∧ tn 0 s2.heap ∧ (∀ b ∈ fp, FpOk X pins H' b) ∧ R J H'
def PI (X : Cx) (tg iter : Expr) (wi : TI) : Prop :=
  ∀ (pins : List (Addr × Obj)) (s : Shared) (σ : St) (H : Hp) (R : It → Hp → Prop), Inv X pins σ H s → wi σ H R →
    wpAny (model X.prog X.w) X.A (eval iter X.env) (fun v s1 => wpAny (model X.prog X.w) X.A (pyIter v) (PIE X pins σ tg R) X.xe s1) X.xe s
theorem go_of {M : Model} {A : Around} {E : Value → Shared → Prop} {s : Shared} {tg : Expr} {it : Addr} {u : Value} {o : Obj} {n : String} {vs : Array Value} {Q : Unit → Shared → Prop} (ho : s.heap.get? it = some o) (hc : o.cls = .type n) (hd : o.data = .fields vs)
    (hn : ["enumerate", "zip", "dict_itemiterator", "dict_reverseitemiterator", "odict_iterator", "itertools.zip_longest", "itertools.pairwise"].contains n = false) (hQ : Q () s) : wpAny M A (letOwnedTupleGo tg (.ref it) u) Q E s := by
  unfold letOwnedTupleGo
  cases tg <;> first
    | exact wpAny_pure hQ
    | (cases u <;> first
        | exact wpAny_pure hQ
        | (refine wpAny_bind (wpAny_load ho ?_)
           rw [hc, hd]
           show wpAny M A (if (["enumerate", "zip", "dict_itemiterator", "dict_reverseitemiterator", "odict_iterator", "itertools.zip_longest", "itertools.pairwise"].contains n && vs[0]? == some (rawInt _)) = true then _ else _) Q E s
           rw [if_neg (by intro h; rw [hn, Bool.false_and] at h; cases h)]
           exact wpAny_pure hQ))
def Itl (K : PySem.W.Frag) (a : Addr) : It :=
  ⟨fun i H => ∃ xs x, SqL K H a xs ∧ xs[i]? = some x, fun i H x H' => H' = H ∧ ∀ xs, SqL K H a xs → xs[i]? = some x, fun i H => ∃ xs, SqL K H a xs ∧ xs.length ≤ i⟩
def Itt (K : PySem.W.Frag) (a : Addr) : It :=
  ⟨fun i H => ∃ xs x, SqT K H a xs ∧ xs[i]? = some x, fun i H x H' => H' = H ∧ ∀ xs, SqT K H a xs → xs[i]? = some x, fun i H => ∃ xs, SqT K H a xs ∧ xs.length ≤ i⟩
def Itr (lo : Int) (n : Nat) : It := ⟨fun i _ => i < n, fun i H x H' => H' = H ∧ x = .int (lo + i), fun i _ => n ≤ i⟩
theorem turn_list {P : Program} {w : World} {K : PySem.W.Frag} {tg : Expr} (a it : Addr) : Turn P w K tg (Itl K a) [it] it (fun i h => h.IsListIter it a i) where
  mem := by simp
  obj := fun i h st b hb => by
    have e : b = it := by simpa using hb
    subst e
    obtain ⟨o, e, c, d⟩ := st
    exact ⟨o, e, fun v z => by rw [d] at z; cases z⟩
  keep := fun i h h' st k => st.at fun o e => k it (by simp) o e
  item := by
    intro X hP hw hK hc i pins s σ H E I hf st hg
    subst hP hw hK
    obtain ⟨xs, x, hq, hx⟩ := hg
    obtain ⟨its, rv, p, hz⟩ := I.list hq
    obtain ⟨u, hu, ru⟩ := rv.get hx
    obtain ⟨f0, f1, f2, f3, f4, f5⟩ := hf it (by simp)
    refine wpAny_pyNext_list_item st p.isList (x := u) (by simpa using hu) fun h' st' sb => ?_
    have I1 : Inv X pins σ H { s with heap := h' } := I.turned (t' := s.toks) (fun b o hb e => (sb.2 b hb).trans e) f0 f1 f3 f4 f5
    obtain ⟨o, e, c, d⟩ := id st'
    exact ⟨u, rfl, go_of (s := { s with heap := h' }) e c d (by decide) ⟨x, H, I1, ru, ⟨rfl, fun ys hy => by rw [I.list_inj hy hq]; exact hx⟩, st', fun b hb => (hf b hb).1⟩⟩
  done := by
    intro X hP hw hK hc i pins s σ H E I hf st hg
    subst hP hw hK
    obtain ⟨xs, hq, hx⟩ := hg
    obtain ⟨its, rv, p, hz⟩ := I.list hq
    obtain ⟨f0, f1, f2, f3, f4, f5⟩ := hf it (by simp)
    have hl := rv.length
    exact wpAny_pyNext_list_end (I.ok.hd hc) st p.isList (by simp; omega) fun h' eb => ⟨rfl, I.turned (t' := s.toks) (fun b o hb e => eb b o hb e) f0 f1 f3 f4 f5⟩
  self := fun _ _ _ _ _ st h => wpAny_pyIter_listiter st h
theorem turn_tuple {P : Program} {w : World} {K : PySem.W.Frag} {tg : Expr} (a it : Addr) : Turn P w K tg (Itt K a) [it] it (fun i h => h.IsTupleIter it a i) where
  mem := by simp
  obj := fun i h st b hb => by
    have e : b = it := by simpa using hb
    subst e
    obtain ⟨o, e, c, d⟩ := st
    exact ⟨o, e, fun v z => by rw [d] at z; cases z⟩
  keep := fun i h h' st k => st.at fun o e => k it (by simp) o e
  item := by
    intro X hP hw hK hc i pins s σ H E I hf st hg
    subst hP hw hK
    obtain ⟨xs, x, hq, hx⟩ := hg
    obtain ⟨its, rv, p, hz⟩ := I.tuple hq
    obtain ⟨u, hu, ru⟩ := rv.get hx
    obtain ⟨f0, f1, f2, f3, f4, f5⟩ := hf it (by simp)
    refine wpAny_pyNext_tuple_item st (show s.heap.IsTuple a its.toArray from p) (x := u) (by simpa using hu) fun h' st' sb => ?_
    have I1 : Inv X pins σ H { s with heap := h' } := I.turned (t' := s.toks) (fun b o hb e => (sb.2 b hb).trans e) f0 f1 f3 f4 f5
    obtain ⟨o, e, c, d⟩ := id st'
    exact ⟨u, rfl, go_of (s := { s with heap := h' }) e c d (by decide) ⟨x, H, I1, ru, ⟨rfl, fun ys hy => by rw [I.tuple_inj hy hq]; exact hx⟩, st', fun b hb => (hf b hb).1⟩⟩
  done := by
    intro X hP hw hK hc i pins s σ H E I hf st hg
    subst hP hw hK
    obtain ⟨xs, hq, hx⟩ := hg
    obtain ⟨its, rv, p, hz⟩ := I.tuple hq
    obtain ⟨f0, f1, f2, f3, f4, f5⟩ := hf it (by simp)
    have hl := rv.length
    exact wpAny_pyNext_tuple_end (I.ok.hd hc) st (show s.heap.IsTuple a its.toArray from p) (by simp; omega) fun h' eb => ⟨rfl, I.turned (t' := s.toks) (fun b o hb e => eb b o hb e) f0 f1 f3 f4 f5⟩
  self := fun _ _ _ _ _ st h => wpAny_pyIter_tupleiter st h
theorem turn_range {P : Program} {w : World} {K : PySem.W.Frag} {tg : Expr} (it : Addr) (lo : Int) (n : Nat) : Turn P w K tg (Itr lo n) [it] it (fun i h => IsRangeIter h it (lo + (i : Nat) * 1) ((n : Int) - (i : Nat)) 1) where
  mem := by simp
  obj := fun i h st b hb => by
    have e : b = it := by simpa using hb
    subst e
    exact ⟨_, st, fun v z => by
      have z' : Data.fields _ = Data.cell v := z
      cases z'⟩
  keep := fun i h h' st k => k it (by simp) _ st
  item := by
    intro X hP hw hK hc i pins s σ H E I hf st hg
    subst hP hw hK
    obtain ⟨f0, f1, f2, f3, f4, f5⟩ := hf it (by simp)
    have W := Walks.range (prog := X.prog) (w := X.w) (I.ok.hd hc) it lo 1 n
    refine W.item i s _ _ hg st fun v h' tk hv st' kk => ?_
    obtain ⟨t, rfl⟩ := hv
    have I1 : Inv X pins σ H { s with heap := h', toks := tk } := I.turned (fun b o hb e => kk b o (by simpa using hb) e) f0 f1 f3 f4 f5
    refine ⟨_, rfl, go_of (s := { s with heap := h', toks := tk }) (n := "range_iterator") st' rfl rfl (by decide) ⟨.int (lo + i), H, I1, ⟨t, ?_⟩, ⟨rfl, rfl⟩, st', fun b hb => (hf b hb).1⟩⟩
    rw [Int.mul_one]
  done := by
    intro X hP hw hK hc i pins s σ H E I hf st hg
    subst hP hw hK
    obtain ⟨f0, f1, f2, f3, f4, f5⟩ := hf it (by simp)
    exact wpAny_pyNext_range_end (I.ok.hd hc) st (by have : n ≤ i := hg; omega) fun h' eb => ⟨rfl, I.turned (t' := s.toks) (fun b o hb e => eb b o hb e) f0 f1 f3 f4 f5⟩
  self := fun _ _ _ _ _ st h => wpAny_pyIter_rangeiter st h
end L2
namespace L2
open PySem PySem.Spec PyProof.Rows
section
variable {X : Cx} {tg : Expr}
theorem range_it {pins : List (Addr × Obj)} {σ : St} {H : Hp} {s : Shared} {R : It → Hp → Prop} {E : Value → Shared → Prop} {lo hi : Int} {t u v : Tok} {tk : Nat} (I : Inv X pins σ H s) (h1 : -(2 ^ 62) ≤ lo) (h2 : lo < 2 ^ 62) (h3 : -(2 ^ 62) ≤ hi) (h4 : hi < 2 ^ 62)
    (q : R (Itr lo (hi - lo).toNat) H) : wpAny (model X.prog X.w) X.A (pyIter (.ref s.heap.objs.size)) (PIE X pins σ tg R) E { s with heap := s.heap.push { cls := .type "range", data := .fields #[.int lo t, .int hi u, .int 1 v] }, toks := tk } := by
  refine wpAny_pyIter_range (IsRange.new ..) (small_one h1 h2 h3 h4) ?_
  have I1 : Inv X pins σ H { s with heap := s.heap.push { cls := .type "range", data := .fields #[.int lo t, .int hi u, .int 1 v] }, toks := tk } := I.kept fun b o e => Heap.get?_push_of_some _ e
  refine ⟨(s.heap.push { cls := .type "range", data := .fields #[.int lo t, .int hi u, .int 1 v] }).objs.size, [(s.heap.push { cls := .type "range", data := .fields #[.int lo t, .int hi u, .int 1 v] }).objs.size], _, _, H, rfl,
    I1.kept (t' := tk) fun b o e => Heap.get?_push_of_some _ e, turn_range _ lo (hi - lo).toNat, ?_, fun b hb => ?_, q⟩
  · have e1 : lo + ((0 : Nat) : Int) * 1 = lo := by simp
    have e2 : (((hi - lo).toNat : Nat) : Int) - ((0 : Nat) : Int) = Builtin.Range.rangeSize lo hi 1 := by rw [rangeSize_one]; split <;> omega
    show IsRangeIter _ _ (lo + ((0 : Nat) : Int) * 1) ((((hi - lo).toNat : Nat) : Int) - ((0 : Nat) : Int)) 1
    rw [e1, e2]
    exact Heap.get?_push_size _ rfl
  · have e : b = (s.heap.push { cls := .type "range", data := .fields #[.int lo t, .int hi u, .int 1 v] }).objs.size := by simpa using hb
    subst e
    exact I1.fpOk (Nat.le_refl _) (I1.hok.fresh (Nat.le_refl _))
def iRng1 (ta : TA) : TI := fun σ H R => ta σ H fun vs H1 => ∃ j : Int, vs = [.int j] ∧ -(2 ^ 62) ≤ j ∧ j < 2 ^ 62 ∧ R (Itr 0 j.toNat) H1
def iRng2 (ta : TA) : TI := fun σ H R => ta σ H fun vs H1 => ∃ i j : Int, vs = [.int i, .int j] ∧ (-(2 ^ 62) ≤ i ∧ i < 2 ^ 62 ∧ -(2 ^ 62) ≤ j ∧ j < 2 ^ 62) ∧ R (Itr i (j - i).toNat) H1
theorem pi_range1 {a : Expr} {ta : TA} {p pos : Pos} (hg : Gl X "range") (hm : X.mg "range" = none) (ha : PA X [a] ta) (hs : starEach [a] X.env = [(false, eval a X.env)] := by rfl) : PI X tg (.Call (.Name "range" p) [a] [] pos) (iRng1 ta) := by
  intro pins s σ H R I h
  refine Call_ (ld_blt I hg hm boot_range (PyProof.Rows.callWith_type1 (thn (ha pos pins s σ H _ I h) fun us s1 ⟨vs, H1, I1, r1, q1⟩ => ?_) hs rfl))
  obtain ⟨j, e, q1, q2, q⟩ := q1
  subst e
  cases r1 with
  | cons r rr =>
    cases rr
    obtain ⟨t, rfl⟩ := r
    exact call_range_1 (range_it I1 (by omega) (by omega) q1 q2 (by simpa using q))
theorem pi_range2 {a b : Expr} {ta : TA} {p pos : Pos} (hg : Gl X "range") (hm : X.mg "range" = none) (ha : PA X [a, b] ta) (hs : starEach [a, b] X.env = [(false, eval a X.env), (false, eval b X.env)] := by rfl) (hs2 : starEach [b] X.env = [(false, eval b X.env)] := by rfl) :
    PI X tg (.Call (.Name "range" p) [a, b] [] pos) (iRng2 ta) := by
  intro pins s σ H R I h
  refine Call_ (ld_blt I hg hm boot_range (PyProof.Rows.callWith_type1 (thn (ha pos pins s σ H _ I h) fun us s1 ⟨vs, H1, I1, r1, q1⟩ => ?_) (by rw [hs, hs2]) (by rw [hs2]; rfl)))
  obtain ⟨i, j, e, ⟨q1, q2, q3, q4⟩, q⟩ := q1
  subst e
  cases r1 with
  | cons r rr =>
    cases rr with
    | cons r' rr =>
      cases rr
      obtain ⟨t, rfl⟩ := r
      obtain ⟨t', rfl⟩ := r'
      exact call_range_2 (range_it I1 q1 q2 q3 q4 q)
def tFor (wi : TI) (g : TG) (tb : TS) : TS := fun D σ H => wi σ H fun J H1 => ∃ W : Nat → Nat → St → Hp → Prop, (∃ m, W 0 m σ H1) ∧ ∀ i m σ H, W i m σ H →
  (J.stop i H ∧ D.nx σ H) ∨ (J.go i H ∧ ∃ N : St → Hp → Prop, (∀ σ' H', N σ' H' → ∃ m', m' < m ∧ W (i + 1) m' σ' H') ∧ ∀ x H', J.yld i H x H' → g x σ H' fun σ2 H2 => tb { D with nx := N, ct := N, bk := D.nx } σ2 H2)
def pinsAt (fp : List Addr) (h : Heap) : List (Addr × Obj) := fp.filterMap fun b => (h.get? b).map fun o => (b, o)
theorem mem_pinsAt {fp : List Addr} {h : Heap} {b : Addr} {o : Obj} (hb : b ∈ fp) (e : h.get? b = some o) : (b, o) ∈ pinsAt fp h := List.mem_filterMap.mpr ⟨b, hb, by rw [e]; rfl⟩
theorem of_pinsAt {fp : List Addr} {h : Heap} {p : Addr × Obj} (hp : p ∈ pinsAt fp h) : p.1 ∈ fp ∧ h.get? p.1 = some p.2 := by
  obtain ⟨b, hb, e⟩ := List.mem_filterMap.mp hp
  cases q : h.get? b with
  | none => rw [q] at e; cases e
  | some o =>
    rw [q] at e
    have e' : (b, o) = p := Option.some.inj e
    subst e'
    exact ⟨hb, q⟩
theorem Inv.pinned {pins : List (Addr × Obj)} {σ : St} {H : Hp} {s : Shared} {fp : List Addr} (I : Inv X pins σ H s) (hf : ∀ b ∈ fp, FpOk X pins H b) (ho : ∀ b ∈ fp, ∃ o, s.heap.get? b = some o ∧ ∀ v, o.data ≠ .cell v) : Inv X (pins ++ pinsAt fp s.heap) σ H s :=
  I.pins_of fun p hp => (List.mem_append.mp hp).elim (fun z => I.pin p (List.mem_append_right _ z)) fun z => by
    obtain ⟨hb, e⟩ := of_pinsAt z
    obtain ⟨f0, f1, f2, _⟩ := hf p.1 hb
    obtain ⟨o, e', d⟩ := ho p.1 hb
    rw [e] at e'; cases e'
    exact ⟨e, f0, f1, f2, d⟩
theorem Inv.unpinned {pins pl : List (Addr × Obj)} {σ : St} {H : Hp} {s : Shared} (I : Inv X (pins ++ pl) σ H s) : Inv X pins σ H s := I.pins_of fun p hp => I.pin p (List.mem_append_right _ (List.mem_append_left _ hp))
theorem ps_for {iter : Expr} {body : List Stmt} {wi : TI} {g : TG} {tb : TS} {pos : Pos} (hp : PassesOwn (model X.prog X.w) X.A X.env X.xe) (hc : X.calm = true) (hi : PI X tg iter wi) (hg : PG X tg g) (hb : PSs X body tb)
    (hs : ∀ x, foldedSetIterable iter X.env x = pure x := by intro _; rfl) : PS X (.For tg iter body [] pos) (tFor wi g tb) := by
  intro pins s σ H D I h
  refine wpAny_For (thn (hi pins s σ H _ I h) fun v s1 h1 => thn h1 fun itv s2 h2 => ?_) hs
  obtain ⟨it, fp, tn, J, H2, e, I2, T, st2, f2, W, ⟨m0, w0⟩, turn⟩ := h2
  subst e
  -- what stays true of the iterator's objects through the loop
  have stat : ∀ {H' : Hp}, (∀ b ∈ fp, H' b = none) → ∀ b ∈ fp, FpOk X pins H' b := fun hn b hb => ⟨hn b hb, (f2 b hb).2⟩
  refine codeAny_forLoop_any (fun n s' => ∃ i σ' H', Inv X pins σ' H' s' ∧ tn i s'.heap ∧ (∀ b ∈ fp, H' b = none) ∧ W i n σ' H') ?_ m0 ⟨0, σ, H2, I2, st2, fun b hb => (f2 b hb).1, w0⟩
  rintro n s3 ⟨i, σ3, H3, I3, st3, fr3, w3⟩
  rcases turn i n σ3 H3 w3 with ⟨stop, qn⟩ | ⟨go, N, hN, step⟩
  · refine wpAny_passesOwn hp (thn (T.done X rfl rfl rfl hc i pins s3 σ3 H3 X.xe I3 (stat fr3) st3 stop) fun r s4 ⟨hr, I4⟩ => ?_)
    subst hr
    exact wpAny_execs_nil ⟨σ3, H3, I4, qn⟩
  · refine wpAny_passesOwn hp (thn (T.item X rfl rfl rfl hc i pins s3 σ3 H3 X.xe I3 (stat fr3) st3 go) fun r s4 ⟨u, hr, h4⟩ => ?_)
    subst hr
    refine wpAny_passesOwn hp (thn h4 fun _ s5 ⟨x, H5, I5, r5, y5, st5, fr5⟩ => ?_)
    have I5' := I5.pinned (stat fr5) (T.obj _ _ st5)
    refine wpAny_passesOwn hp (thn (hg _ s5 σ3 H5 x u _ I5' r5 (step x H5 y5)) fun _ s6 ⟨σ6, H6, I6, q6⟩ => ?_)
    refine wpAny_passesOwn hp (thn (hb _ s6 σ6 H6 _ I6 q6) fun f s7 q7 => ?_)
    have again : ∀ {σ7 : St} {H7 : Hp}, Inv X (pins ++ pinsAt fp s5.heap) σ7 H7 s7 → N σ7 H7 → ∃ m, m < n ∧ ∃ i σ' H', Inv X pins σ' H' s7 ∧ tn i s7.heap ∧ (∀ b ∈ fp, H' b = none) ∧ W i m σ' H' := fun {σ7 H7} I7 n7 => by
      obtain ⟨m', hm, w7⟩ := hN σ7 H7 n7
      refine ⟨m', hm, i + 1, σ7, H7, I7.unpinned, T.keep _ _ _ st5 fun b hb o e => (I7.pin (b, o) (List.mem_append_right _ (List.mem_append_right _ (mem_pinsAt hb e)))).1, fun b hb => ?_, w7⟩
      obtain ⟨o, e, d⟩ := T.obj _ _ st5 b hb
      exact (I7.pin (b, o) (List.mem_append_right _ (List.mem_append_right _ (mem_pinsAt hb e)))).2.1
    cases f with
    | next => obtain ⟨σ7, H7, I7, n7⟩ := q7; exact again I7 n7
    | cont => obtain ⟨σ7, H7, I7, n7⟩ := q7; exact again I7 n7
    | brk => obtain ⟨σ7, H7, I7, q7⟩ := q7; exact ⟨σ7, H7, I7.unpinned, q7⟩
    | ret v => obtain ⟨x7, σ7, H7, I7, r7, q7⟩ := q7; exact ⟨x7, σ7, H7, I7.unpinned, r7, q7⟩
end
theorem for_range {lo : Int} {n : Nat} {g : TG} {tb : TS} {D : Ends} {σ : St} {H : Hp} (Pv : Nat → St → Hp → Prop) (h0 : Pv 0 σ H)
    (hs : ∀ i σ H, i < n → Pv i σ H → g (.int (lo + i)) σ H fun σ2 H2 => tb { D with nx := Pv (i + 1), ct := Pv (i + 1), bk := D.nx } σ2 H2) (hd : ∀ σ H, Pv n σ H → D.nx σ H) :
    ∃ W : Nat → Nat → St → Hp → Prop, (∃ m, W 0 m σ H) ∧ ∀ i m σ H, W i m σ H →
      ((Itr lo n).stop i H ∧ D.nx σ H) ∨ ((Itr lo n).go i H ∧ ∃ N : St → Hp → Prop, (∀ σ' H', N σ' H' → ∃ m', m' < m ∧ W (i + 1) m' σ' H') ∧ ∀ x H', (Itr lo n).yld i H x H' → g x σ H' fun σ2 H2 => tb { D with nx := N, ct := N, bk := D.nx } σ2 H2) := by
  refine ⟨fun i m σ H => m = n - i ∧ i ≤ n ∧ Pv i σ H, ⟨n, by simp, Nat.zero_le _, h0⟩, ?_⟩
  rintro i m σ H ⟨rfl, hi, p⟩
  by_cases hlt : i < n
  · refine .inr ⟨hlt, Pv (i + 1), fun σ' H' p' => ⟨n - (i + 1), by omega, rfl, hlt, p'⟩, fun x H' y => ?_⟩
    obtain ⟨e, y⟩ := y
    subst e y
    exact hs i σ _ hlt p
  · have e : i = n := by omega
    subst e
    exact .inl ⟨Nat.le_refl _, hd σ H p⟩
end L2
namespace L2
open PySem PySem.Spec PyProof.Rows
abbrev R2 := V → V → Hp → VK → Prop
def OpR (X : Cx) (f : Value → Value → Sem Value) (r : R2) : Prop :=
  ∀ (pins : List (Addr × Obj)) (s : Shared) (σ : St) (H : Hp) (x y : V) (v u : Value) (Q : VK), Inv X pins σ H s → RelV x v → RelV y u → r x y H Q →
    wpAny (model X.prog X.w) X.A (f v u) (EP X pins σ Q) X.xe s
def UnR (X : Cx) (f : Value → Sem Value) (r : V → Hp → VK → Prop) : Prop :=
  ∀ (pins : List (Addr × Obj)) (s : Shared) (σ : St) (H : Hp) (x : V) (v : Value) (Q : VK), Inv X pins σ H s → RelV x v → r x H Q →
    wpAny (model X.prog X.w) X.A (f v) (EP X pins σ Q) X.xe s
def CallR (X : Cx) (f : Value) (r : List V → Hp → VK → Prop) : Prop :=
  ∀ (pins : List (Addr × Obj)) (s : Shared) (σ : St) (H : Hp) (xs : List V) (us : List Value) (Q : VK), Inv X pins σ H s → Vals xs us → r xs H Q →
    wpAny (model X.prog X.w) X.A (call f us) (EP X pins σ Q) X.xe s
def tOp (r : R2) (ta tb : TE) : TE := fun σ H Q => ta σ H fun x H1 => tb σ H1 fun y H2 => r x y H2 Q
def tUn (r : V → Hp → VK → Prop) (ta : TE) : TE := fun σ H Q => ta σ H fun x H1 => r x H1 Q
def rI (C : Int → Int → Prop) (g : Int → Int → V) : R2 := fun x y H Q => ∃ i j, x = .int i ∧ y = .int j ∧ C i j ∧ Q (g i j) H
def rI0 (g : Int → Int → V) : R2 := fun x y H Q => ∃ i j, x = .int i ∧ y = .int j ∧ Q (g i j) H
def rU (g : Int → V) : V → Hp → VK → Prop := fun x H Q => ∃ i, x = .int i ∧ Q (g i) H
section
variable {X : Cx} {a b c : Expr} {ta tb tc : TE} {pos : Pos}
theorem binT (ha : PE X a ta) (hb : PE X b tb) {pins : List (Addr × Obj)} {s : Shared} {σ : St} {H : Hp} {R : V → V → Hp → Prop} (I : Inv X pins σ H s)
    (h : ta σ H fun x H1 => tb σ H1 fun y H2 => R x y H2) {Q : Value → Shared → Prop} {f : Value → Value → Sem Value}
    (hf : ∀ v u s2 x y H2, Inv X pins σ H2 s2 → RelV x v → RelV y u → R x y H2 → wpAny (model X.prog X.w) X.A (f v u) Q X.xe s2) :
    wpAny (model X.prog X.w) X.A (eval a X.env) (fun v s₁ => wpAny (model X.prog X.w) X.A (eval b X.env) (fun u s₂ => wpAny (model X.prog X.w) X.A (f v u) Q X.xe s₂) X.xe s₁) X.xe s := by
  refine thn (ha pins s σ H _ I h) fun v s1 ⟨x, H1, I1, r1, q1⟩ => ?_
  refine thn (hb pins s1 σ H1 _ I1 q1) fun u s2 ⟨y, H2, I2, r2, q2⟩ => ?_
  exact hf v u s2 x y H2 I2 r1 r2 q2
theorem pe_op {op : Operator} {r : R2} (ho : OpR X (binaryOp op) r) (ha : PE X a ta) (hb : PE X b tb) : PE X (.BinOp a op b pos) (tOp r ta tb) := by
  intro pins s σ H Q I h
  exact wpAny_BinOp (binT ha hb I h fun v u s2 x y H2 I2 rx ry q => ho pins s2 σ H2 x y v u Q I2 rx ry q)
theorem pe_un {op : UnaryOp} {r : V → Hp → VK → Prop} (ho : UnR X (unaryOp op) r) (ha : PE X a ta) : PE X (.UnaryOp op a pos) (tUn r ta) := by
  intro pins s σ H Q I h
  exact UnaryOp_ (thn (ha pins s σ H _ I h) fun v s1 ⟨x, H1, I1, r1, q1⟩ => ho pins s1 σ H1 x v Q I1 r1 q1)
theorem opI {f : Value → Value → Sem Value} {C : Int → Int → Prop} {g : Int → Int → Int}
    (rule : ∀ (i j : Int) (t u : Tok) (s : Shared) (Q : Value → Shared → Prop) (E : Value → Shared → Prop), C i j → Q (.int (g i j) s.toks) { s with toks := s.toks + 1 } → wpAny (model X.prog X.w) X.A (f (.int i t) (.int j u)) Q E s) :
    OpR X f (rI C fun i j => .int (g i j)) := by
  intro pins s σ H x y v u Q I rx ry h
  obtain ⟨i, j, rfl, rfl, hc, q⟩ := h
  obtain ⟨t, rfl⟩ := rx
  obtain ⟨t', rfl⟩ := ry
  exact rule i j t t' s _ _ hc ⟨.int (g i j), H, I.tok _, ⟨_, rfl⟩, q⟩
theorem opI0 {f : Value → Value → Sem Value} {g : Int → Int → Int}
    (rule : ∀ (i j : Int) (t u : Tok) (s : Shared) (Q : Value → Shared → Prop) (E : Value → Shared → Prop), Q (.int (g i j) s.toks) { s with toks := s.toks + 1 } → wpAny (model X.prog X.w) X.A (f (.int i t) (.int j u)) Q E s) :
    OpR X f (rI0 fun i j => .int (g i j)) := by
  intro pins s σ H x y v u Q I rx ry h
  obtain ⟨i, j, rfl, rfl, q⟩ := h
  obtain ⟨t, rfl⟩ := rx
  obtain ⟨t', rfl⟩ := ry
  exact rule i j t t' s _ _ ⟨.int (g i j), H, I.tok _, ⟨_, rfl⟩, q⟩
theorem opB0 {f : Value → Value → Sem Value} {g : Int → Int → Bool}
    (rule : ∀ (i j : Int) (t u : Tok) (s : Shared) (Q : Value → Shared → Prop) (E : Value → Shared → Prop), Q (.bool (g i j)) s → wpAny (model X.prog X.w) X.A (f (.int i t) (.int j u)) Q E s) :
    OpR X f (rI0 fun i j => .bl (g i j)) := by
  intro pins s σ H x y v u Q I rx ry h
  obtain ⟨i, j, rfl, rfl, q⟩ := h
  obtain ⟨t, rfl⟩ := rx
  obtain ⟨t', rfl⟩ := ry
  exact rule i j t t' s _ _ ⟨.bl (g i j), H, I, rfl, q⟩
def CPow (i j : Int) : Prop := 0 ≤ j ∧ j ≤ 1000000 ∧ i.natAbs < 2 ^ 64
def CMul (i j : Int) : Prop := (-(2 ^ 64) < i ∧ i < 2 ^ 64) ∨ (-(2 ^ 64) < j ∧ j < 2 ^ 64)
theorem CMul.ok {i j : Int} (h : CMul i j) : IntMulOk i j := by
  rcases h with ⟨h1, h2⟩ | ⟨h1, h2⟩
  · exact .of_left (intBits_le_64 h1 h2)
  · exact .of_right (intBits_le_64 h1 h2)
theorem op_add : OpR X (binaryOp .Add) (rI0 fun i j => .int (i + j)) := opI0 fun _ _ _ _ _ _ _ q => add_int q
theorem op_sub : OpR X (binaryOp .Sub) (rI0 fun i j => .int (i - j)) := opI0 fun _ _ _ _ _ _ _ q => sub_int q
theorem op_modN : OpR X (binaryOp .Mod) (rI (fun _ j => j ≠ 0) fun i j => .int (i.fmod j)) := opI fun _ _ _ _ _ _ _ hc q => mod_int' hc q
theorem op_pow : OpR X (binaryOp .Pow) (rI CPow fun i j => .int (i ^ j.toNat)) := opI fun _ _ _ _ _ _ _ hc q => pow_int_small hc.1 hc.2.1 hc.2.2 q
theorem unI {f : Value → Sem Value} {g : Int → Int}
    (rule : ∀ (i : Int) (t : Tok) (s : Shared) (Q : Value → Shared → Prop) (E : Value → Shared → Prop), Q (.int (g i) s.toks) { s with toks := s.toks + 1 } → wpAny (model X.prog X.w) X.A (f (.int i t)) Q E s) :
    UnR X f (rU fun i => .int (g i)) := by
  intro pins s σ H x v Q I rx h
  obtain ⟨i, rfl, q⟩ := h
  obtain ⟨t, rfl⟩ := rx
  exact rule i t s _ _ ⟨.int (g i), H, I.tok _, ⟨_, rfl⟩, q⟩
theorem un_neg : UnR X (unaryOp .USub) (rU fun i => .int (-i)) := unI fun _ _ _ _ _ q => neg_int q
end
def scal : V → V → Bool
  | .non, .non => true | .non, .int _ => true | .int _, .non => true | .non, .bl _ => true | .bl _, .non => true | .non, .str _ => true | .str _, .non => true
  | .int _, .int _ => true | .bl _, .bl _ => true | .str _, .str _ => true | .byt _, .byt _ => true
  | .int _, .str _ => true | .str _, .int _ => true | .bl _, .str _ => true | .str _, .bl _ => true
  | _, _ => false
def rNe : R2 := fun x y H Q => scal x y = true ∧ Q (.bl (!decide (x = y))) H
theorem dec_int {i j : Int} : decide (V.int i = V.int j) = (i == j) := by
  rw [Bool.eq_iff_iff]
  simp
theorem dec_bl {i j : Bool} : decide (V.bl i = V.bl j) = (i == j) := by
  rw [Bool.eq_iff_iff]
  simp
theorem dec_str {i j : Str} : decide (V.str i = V.str j) = (i == j) := by
  rw [Bool.eq_iff_iff]
  simp
theorem dec_byt {i j : Array UInt8} : decide (V.byt i = V.byt j) = (i.toList == j.toList) := by
  rw [Bool.eq_iff_iff]
  cases i
  cases j
  simp
section
variable {X : Cx} {a b c : Expr} {ta tb tc : TE} {pos : Pos}
theorem fin_bl {pins : List (Addr × Obj)} {σ : St} {H : Hp} {s : Shared} {Q : VK} {k k' : Bool} (I : Inv X pins σ H s) (q : Q (.bl k) H) (e : k = k') : EP X pins σ Q (.bool k') s := by
  subst e
  exact ⟨.bl k, H, I, rfl, q⟩
theorem op_ne : OpR X (compareOp .NotEq) rNe := by
  intro pins s σ H x y v u Q I rx ry h
  obtain ⟨hs, q⟩ := h
  cases x with
  | non =>
    cases rx
    cases y with
    | non => cases ry; exact PySem.EqNone.ne_none_none (fin_bl I q (by simp))
    | bl j => cases ry; exact PySem.EqNone.ne_none_bool (fin_bl I q (by simp))
    | int j => obtain ⟨t', rfl⟩ := ry; exact PySem.EqNone.ne_none_int (fin_bl I q (by simp))
    | str j => obtain ⟨t', rfl⟩ := ry; exact PySem.EqNone.ne_none_str (fin_bl I q (by simp))
    | _ => exact absurd (show false = true from hs) Bool.false_ne_true
  | bl i =>
    cases rx
    cases y with
    | non => cases ry; exact PySem.EqNone.ne_bool_none (fin_bl I q (by simp))
    | bl j => cases ry; exact ne_bool (fin_bl I q (congrArg not dec_bl))
    | str j => obtain ⟨t', rfl⟩ := ry; exact PySem.EqMixed.ne_bool_str (fin_bl I q (by simp))
    | _ => exact absurd (show false = true from hs) Bool.false_ne_true
  | int i =>
    obtain ⟨t, rfl⟩ := rx
    cases y with
    | non => cases ry; exact PySem.EqNone.ne_int_none (fin_bl I q (by simp))
    | int j => obtain ⟨t', rfl⟩ := ry; exact ne_int (fin_bl I q (congrArg not dec_int))
    | str j => obtain ⟨t', rfl⟩ := ry; exact PySem.EqMixed.ne_int_str (fin_bl I q (by simp))
    | _ => exact absurd (show false = true from hs) Bool.false_ne_true
  | str i =>
    obtain ⟨t, rfl⟩ := rx
    cases y with
    | non => cases ry; exact PySem.EqNone.ne_str_none (fin_bl I q (by simp))
    | bl j => cases ry; exact PySem.EqMixed.ne_str_bool (fin_bl I q (by simp))
    | int j => obtain ⟨t', rfl⟩ := ry; exact PySem.EqMixed.ne_str_int (fin_bl I q (by simp))
    | str j => obtain ⟨t', rfl⟩ := ry; exact ne_str (fin_bl I q (congrArg not dec_str))
    | _ => exact absurd (show false = true from hs) Bool.false_ne_true
  | byt i =>
    obtain ⟨t, rfl⟩ := rx
    cases y with
    | byt j => obtain ⟨t', rfl⟩ := ry; exact PySem.W.ne_bytes (fin_bl I q (congrArg not dec_byt))
    | _ => exact absurd (show false = true from hs) Bool.false_ne_true
  | _ => cases y <;> exact absurd (show false = true from hs) Bool.false_ne_true
theorem op_lt : OpR X (compareOp .Lt) (rI0 fun i j => .bl (decide (i < j))) := opB0 fun _ _ _ _ _ _ _ q => lt_int q
theorem op_le : OpR X (compareOp .LtE) (rI0 fun i j => .bl (decide (i ≤ j))) := opB0 fun _ _ _ _ _ _ _ q => le_int q
theorem op_gt : OpR X (compareOp .Gt) (rI0 fun i j => .bl (decide (j < i))) := opB0 fun _ _ _ _ _ _ _ q => gt_int q
theorem op_ge : OpR X (compareOp .GtE) (rI0 fun i j => .bl (decide (j ≤ i))) := opB0 fun _ _ _ _ _ _ _ q => ge_int q
theorem op_isN : OpR X (compareOp .Is) (fun x y H Q => y = .non ∧ Q (.bl (decide (x = .non))) H) := by
  intro pins s σ H x y v u Q I rx ry h
  obtain ⟨rfl, q⟩ := h
  cases ry
  refine is_none_gen (fin_bl I q ?_)
  cases x <;> first
    | (cases rx; rfl)
    | (obtain ⟨t, rfl⟩ := rx; rfl)
theorem OpR.or {f : Value → Value → Sem Value} {r r' : R2} (h : OpR X f r) (h' : OpR X f r') : OpR X f (fun x y H Q => r x y H Q ∨ r' x y H Q) := by
  intro pins s σ H x y v u Q I rx ry q
  rcases q with q | q
  · exact h pins s σ H x y v u Q I rx ry q
  · exact h' pins s σ H x y v u Q I rx ry q
theorem nomark (b : Expr) {op : CmpOp} (h : op ≠ .In := by decide) (h2 : op ≠ .NotIn := by decide) : behindInMarks op b = false := by
  have e1 : (op == CmpOp.In) = false := by cases op <;> first | rfl | exact absurd rfl h
  have e2 : (op == CmpOp.NotIn) = false := by cases op <;> first | rfl | exact absurd rfl h2
  cases b <;> simp [behindInMarks, e1, e2]
theorem pe_cmpR {op : CmpOp} {r : R2} (ho : OpR X (compareOp op) r) (ha : PE X a ta) (hb : PE X b tb) (hm : behindInMarks op b = false) : PE X (.Compare a [op] [b] pos) (tOp r ta tb) := by
  intro pins s σ H Q I h
  exact wpAny_Compare1 (binT ha hb I h fun v u s2 x y H2 I2 rx ry q => ho pins s2 σ H2 x y v u Q I2 rx ry q) hm
def tTest (t : TE) : TT := fun σ H Q => t σ H fun x H' => ∃ k, x = .bl k ∧ Q k H'
theorem pt_cmpR {op : CmpOp} {r : R2} (ho : OpR X (compareOp op) r) (ha : PE X a ta) (hb : PE X b tb) (hm : behindInMarks op b = false) : PT X (.Compare a [op] [b] pos) (tTest (tOp r ta tb)) := by
  intro pins s σ H Q I h
  refine wpAny_isTrue_Compare1 (thn (ha pins s σ H _ I h) fun v s1 ⟨x, H1, I1, r1, q1⟩ => thn (hb pins s1 σ H1 _ I1 q1) fun u s2 ⟨y, H2, I2, r2, q2⟩ =>
    thn (ho pins s2 σ H2 x y v u _ I2 r1 r2 q2) fun c s3 ⟨z, H3, I3, r3, k, e, q3⟩ => ?_) hm
  subst e
  cases r3
  exact wpAny_truthy_bool ⟨H3, I3, q3⟩
theorem line63 : (sizeLine : Nat) < 2 ^ 63 := by rw [sizeLine_eq]; decide
theorem op_add_str : OpR X (binaryOp .Add) (fun x y H Q => ∃ i j, x = .str i ∧ y = .str j ∧ i.length + j.length ≤ sizeLine ∧ Q (.str (i ++ j)) H) := by
  intro pins s σ H x y v u Q I rx ry h
  obtain ⟨i, j, rfl, rfl, hz, q⟩ := h
  obtain ⟨t, rfl⟩ := rx
  obtain ⟨t', rfl⟩ := ry
  exact add_str (fun t' tk => ⟨.str (i ++ j), H, I.tok _, ⟨_, rfl⟩, q⟩) hz
theorem vals1 {x : V} {us : List Value} (r : Vals [x] us) : ∃ u, us = [u] ∧ RelV x u := by
  cases r with
  | cons r1 r2 => cases r2; exact ⟨_, rfl, r1⟩
theorem vals2 {x y : V} {us : List Value} (r : Vals [x, y] us) : ∃ u w', us = [u, w'] ∧ RelV x u ∧ RelV y w' := by
  cases r with
  | cons r1 r2 =>
    cases r2 with
    | cons r3 r4 => cases r4; exact ⟨_, _, rfl, r1, r3⟩
theorem call_abs : CallR X (.builtin "abs") (fun xs H Q => ∃ i, xs = [.int i] ∧ Q (.int (if i < 0 then -i else i)) H) := by
  intro pins s σ H xs us Q I r h
  obtain ⟨i, rfl, q⟩ := h
  obtain ⟨u, rfl, t, rfl⟩ := vals1 r
  exact call_abs_int fun u tk => ⟨.int (if i < 0 then -i else i), H, I.tok _, ⟨_, rfl⟩, q⟩
end
end L2
namespace L2
open PySem PySem.Spec PyProof.Rows
structure ObjM (h : Heap) (x dx C : Addr) (mA : Str → Option Value) : Prop where
  obj : h.get? x = some (PySem.W.instObj C dx)
  ns : h.Ns1 dx mA
  ne : dx ≠ x
theorem lookIn_ns {h : Heap} {dx : Addr} {mA : Str → Option Value} (n : h.Ns1 dx mA) : ∃ od, h.get? dx = some od ∧ ∀ name, PySem.W.lookIn name od = some (mA name) := by
  obtain ⟨o, es, ep, ho, hd, hk, _, hm⟩ := n
  refine ⟨o, ho, fun name => ?_⟩
  have e := hm name
  unfold nsFind findBy at e
  rw [← Array.find?_toList] at e
  unfold PySem.W.lookIn
  rw [hd]
  dsimp only
  split
  · rename_i y q
    rw [q] at e
    exact congrArg some e
  · rename_i q
    rw [q] at e
    have a : es.toList.any (·.refKey) = false := by
      rw [List.any_eq_false]
      intro y hy
      obtain ⟨z, t, hkey⟩ := hk y (Array.mem_toList_iff.mp hy)
      simp [DictEntry.refKey, hkey]
    have a' : ¬ es.toList.any (·.refKey) = true := by rw [a]; exact Bool.false_ne_true
    rw [if_neg a']
    exact congrArg some e
theorem ObjM.look {h : Heap} {x dx C : Addr} {mA : Str → Option Value} (I : ObjM h x dx C mA) : ∃ od, PySem.W.InstAt h x (PySem.W.instObj C dx) C (some od) ∧ ∀ name, PySem.W.lookIn name od = some (mA name) :=
  let ⟨od, ho, hl⟩ := lookIn_ns I.ns
  ⟨od, ⟨I.obj, rfl, rfl, ho⟩, hl⟩
section
variable {prog : Program} {w : World} {A : Around} {E : Value → Shared → Prop} {s : Shared} {K : PySem.W.Frag} {x dx C f : Addr} {mA : Str → Option Value} {name : Str} {v : Value}
end
section
variable {P : Program} {w : World} {H H' : Hp} {h h' : Heap} {a C dx : Addr} {fs fs' : List (Str × V)}
theorem ins_get (hok : HOk P w H h) (e : H a = some (.ins C dx fs)) : ∃ mA, ObjM h a dx C mA ∧ (∀ f, RelO (fs.lookup f) (mA f)) ∧ PySem.Within mA (fs.map (·.1)) ∧ fs.length ≤ 1000 ∧ H dx = some (.own a) := by
  obtain ⟨d, z, ne, ob, mA, n, r, q⟩ := (show ObjOk P w H h a (.ins C dx fs) from hok a _ e)
  exact ⟨mA, ⟨ob, n, ne⟩, r, q, z, d⟩
end
structure Cls (K : PySem.W.Frag) (C : Addr) : Prop where
  pg : PySem.W.plainGet K C Str.empty = true
  hd : PySem.W.hasDictIn K C = true
  po : PySem.W.plainOver K C = true
  sa : PySem.W.findIn K (.ref C) "__setattr__" = some (some (.builtin "object.__setattr__"))
theorem Cls.get {K : PySem.W.Frag} {C : Addr} (c : Cls K C) (f : Str) : PySem.W.plainGet K C f = true := c.pg
section
variable {X : Cx} {pins : List (Addr × Obj)} {σ : St} {H : Hp} {s : Shared} {a C dx : Addr} {fs : List (Str × V)} {f : Str} {v : V} {A : Around} {E : Value → Shared → Prop}
theorem Inv.made (I : Inv X pins σ H s) : Inv X pins σ (upd (upd H s.heap.objs.size (.own (s.heap.objs.size + 1))) (s.heap.objs.size + 1) (.ins C s.heap.objs.size []))
    { s with heap := (s.heap.push PySem.W.emptyDict).push (PySem.W.instObj C s.heap.objs.size) } := by
  have e1 : (s.heap.push PySem.W.emptyDict).get? s.heap.objs.size = some PySem.W.emptyDict := Heap.get?_push_size s.heap rfl
  have e2 : ((s.heap.push PySem.W.emptyDict).push (PySem.W.instObj C s.heap.objs.size)).get? (s.heap.objs.size + 1) = some (PySem.W.instObj C s.heap.objs.size) := by
    have := Heap.get?_push_size (s.heap.push PySem.W.emptyDict) (o := PySem.W.instObj C s.heap.objs.size) rfl
    rwa [Heap.size_push] at this
  have e3 : (s.heap.push PySem.W.emptyDict).Ns s.heap.objs.size (fun _ => none) := ⟨PySem.W.emptyDict, #[], _, e1, rfl, (fun e he => absurd he (by simp)), fun _ => rfl⟩
  have I1 := I.laid (a := s.heap.objs.size) (o := .own (s.heap.objs.size + 1)) (h' := s.heap.push PySem.W.emptyDict) (t' := s.toks) (fun b u q => Heap.get?_push_of_some _ q) (Nat.le_refl _) ⟨_, e1⟩
  refine I1.laid (a := s.heap.objs.size + 1) (o := .ins C s.heap.objs.size []) (t' := s.toks) (fun b u q => Heap.get?_push_of_some _ q) (Nat.le_of_eq (Heap.size_push _ _)) ?_
  have ne : s.heap.objs.size ≠ s.heap.objs.size + 1 := Nat.ne_of_lt (Nat.lt_succ_self _)
  refine ⟨by rw [upd_ne ne, upd_same], Nat.zero_le _, ne, e2, fun _ => none, (Heap.Ns1.of_empty e3).at fun o q => Heap.get?_push_of_some _ q, fun _ => True.intro, fun y hy => absurd rfl hy⟩
end
section
variable {X : Cx} {o e value : Expr} {f : Str} {pos pos' tpos : Pos} {ta tv : TE}
end
section
variable {X : Cx} {pins : List (Addr × Obj)} {σ : St} {H : Hp} {s : Shared} {A : Around} {E : Value → Shared → Prop} {Q : Value → Shared → Prop} {c : Value} {b : Bool}
inductive TyOf (K : PySem.W.Frag) (H : Hp) : V → Value → Prop where
  | non : TyOf K H .non (.type "NoneType")
  | bl (x : Bool) : TyOf K H (.bl x) (.type "bool")
  | int (i : Int) : TyOf K H (.int i) (.type "int")
  | str (x : Str) : TyOf K H (.str x) (.type "str")
  | flt (x : UInt64) : TyOf K H (.flt x) (.type "float")
  | lst {a : Addr} {xs : List V} (e : H a = some (.lst xs)) : TyOf K H (.ref a) (.type "list")
  | frz {a : Addr} {o : Obj} {xs : List V} (e : H a = some (.frz o (.lst xs))) : TyOf K H (.ref a) (.type "list")
  | tup {a : Addr} {xs : List V} (e : H a = some (.tup xs)) : TyOf K H (.ref a) (.type "tuple")
  | dK {a : Addr} {kvs : List (Key × V)} (e : H a = some (.dK kvs)) : TyOf K H (.ref a) (.type "dict")
  | dT {a : Addr} {kvs : List (List Key × V)} (e : H a = some (.dT kvs)) : TyOf K H (.ref a) (.type "dict")
  | ins {a C dx : Addr} {fs : List (Str × V)} (e : H a = some (.ins C dx fs)) (cl : Cls K C) (ha : PySem.W.findIn K (.ref C) "__class__" = some (some (.builtin "object.__class__")))
      (hn : PySem.W.specialIn K (.builtin "object.__class__") "__get__" = some (some (.builtin "getset_descriptor.__get__"))) (htk : PySem.W.takesIn K (.builtin "object.__class__") = some true)
      (hm : PySem.W.mroIn K C (.type "object") = some true) : TyOf K H (.ref a) (.ref C)
theorem isinst_ok {x : V} {u t : Value} (I : Inv X pins σ H s) (rx : RelV x u) (ty : TyOf X.K H x t) (e : PySem.W.kitOne X.K t c = some b) (h : ∀ tk, Q (.bool b) { s with toks := tk }) :
    wpAny (model X.prog X.w) A (call (.builtin "isinstance") [u, c]) Q E s := by
  cases ty with
  | non => cases (show u = Value.none from rx); exact PySem.W.kia_one PySem.W.kitx_none I.kIn True.intro e (fun z => nomatch z) h
  | bl y => cases (show u = Value.bool y from rx); exact PySem.W.kia_one PySem.W.kitx_bool I.kIn True.intro e (fun z => nomatch z) h
  | int i => obtain ⟨t, q⟩ := (show ∃ t, u = Value.int i t from rx); cases q; exact PySem.W.kia_one PySem.W.kitx_int I.kIn True.intro e (fun z => nomatch z) h
  | str y => obtain ⟨t, q⟩ := (show ∃ t, u = Value.str y t from rx); cases q; exact PySem.W.kia_one PySem.W.kitx_str I.kIn True.intro e (fun z => nomatch z) h
  | flt y => obtain ⟨t, q⟩ := (show ∃ t, u = Value.float y t from rx); cases q; exact PySem.W.kia_one PySem.W.kitx_float I.kIn True.intro e (fun z => nomatch z) h
  | @lst a xs ea =>
    cases (show u = Value.ref a from rx)
    obtain ⟨_, _, n, _, h1⟩ := (show ObjOk X.prog X.w H s.heap a (.lst xs) from I.hok a _ ea)
    exact PySem.W.kia_one PySem.W.kitx_list I.kIn ⟨_, h1, rfl⟩ e (fun z => nomatch z) h
  | @frz a ob xs ea =>
    cases (show u = Value.ref a from rx)
    obtain ⟨_, _, _, n, _, h1⟩ := (show ObjOk X.prog X.w H s.heap a (.frz ob (.lst xs)) from I.hok a _ ea)
    exact PySem.W.kia_one PySem.W.kitx_list I.kIn ⟨_, h1, rfl⟩ e (fun z => nomatch z) h
  | @tup a xs ea =>
    cases (show u = Value.ref a from rx)
    obtain ⟨_, _, _, p⟩ := (show ObjOk X.prog X.w H s.heap a (.tup xs) from I.hok a _ ea)
    obtain ⟨o, h1, h2, _⟩ := p
    exact PySem.W.kia_one PySem.W.kitx_tuple I.kIn ⟨o, h1, h2⟩ e (fun z => nomatch z) h
  | @dK a kvs ea =>
    cases (show u = Value.ref a from rx)
    obtain ⟨_, _, vs, _, p⟩ := (show ObjOk X.prog X.w H s.heap a (.dK kvs) from I.hok a _ ea)
    obtain ⟨o, es, ep, h1, h2, _⟩ := p
    exact PySem.W.kia_one PySem.W.kitx_dict I.kIn ⟨o, h1, h2.1⟩ e (fun z => nomatch z) h
  | @dT a kvs ea =>
    cases (show u = Value.ref a from rx)
    obtain ⟨_, _, xs, _, o, es, ep, h1, h2, _⟩ := (show ObjOk X.prog X.w H s.heap a (.dT kvs) from I.hok a _ ea)
    exact PySem.W.kia_one PySem.W.kitx_dict I.kIn ⟨o, h1, h2.1⟩ e (fun z => nomatch z) h
  | @ins a C dx fs ea cl ha hn htk hm =>
    cases (show u = Value.ref a from rx)
    obtain ⟨mA, O, _⟩ := ins_get I.hok ea
    obtain ⟨od, J, _⟩ := O.look
    exact PySem.W.kia_one (PySem.W.kitx_own (cl.get _) cl.hd ha hn htk hm) I.kIn J e (fun z => nomatch z) h
end
end L2
namespace L2
open PySem PySem.Spec PyProof.Rows
structure Room (k : Nat) (A : Around) : Prop where
  hd : A.handled = none
  dp : A.depth + 3 * k + 5 < recursionLimit
  un : A.units + 16 * k + 200 < cLine
theorem Room.mono {j k : Nat} {A : Around} (r : Room k A) (h : j ≤ k) : Room j A := ⟨r.hd, by have := r.dp; omega, by have := r.un; omega⟩
theorem Room.deeper {k : Nat} {A : Around} (r : Room (k + 1) A) (env : Env) : Room k (A.deeper env) :=
  ⟨r.hd, by have := r.dp; show A.depth + 1 + 3 * k + 5 < _; omega, by have := r.un; show A.units + 3 + 16 * k + 200 < _; omega⟩
theorem Room.in1 {k : Nat} {A : Around} (r : Room (k + 1) A) : Room k A.in1 :=
  ⟨r.hd, by have := r.dp; show A.depth + 3 * k + 5 < _; omega, by have := r.un; show A.units + 1 + 16 * k + 200 < _; omega⟩
theorem Room.depth {k : Nat} {A : Around} (r : Room k A) : A.depth < recursionLimit := by have := r.dp; omega
theorem Room.units {k : Nat} {A : Around} (r : Room k A) : A.units + 64 < cLine := by have := r.un; omega
def tNil : TA := fun _ H Q => Q [] H
def tCons (ta : TE) (tr : TA) : TA := fun σ H Q => ta σ H fun x H1 => tr σ H1 fun xs H2 => Q (x :: xs) H2
section
variable {X : Cx} {e : Expr} {es : List Expr} {te : TE} {t : TA} {pos : Pos}
theorem pa_nil : PA X [] tNil := fun _ _ _ _ H Q I h => Calls.spliced_nil ⟨[], H, I, .nil, h⟩
theorem pa_cons (ha : PE X e te) (hr : PA X es t) (hs : starEach (e :: es) X.env = (false, eval e X.env) :: starEach es X.env := by rfl) : PA X (e :: es) (tCons te t) := by
  intro pos pins s σ H Q I h
  rw [hs]
  show wpAny _ _ (spliced ((false, eval e X.env) :: backTo pos (starEach es X.env))) _ _ s
  refine Calls.spliced_cons (thn (ha pins s σ H _ I h) fun u s1 ⟨x, H1, I1, r1, q1⟩ => ?_)
  exact thn (hr pos pins s1 σ H1 _ I1 q1) fun us s2 ⟨xs, H2, I2, r2, q2⟩ => ⟨x :: xs, H2, I2, .cons r1 r2, q2⟩
def tTup (t : TA) : TE := fun σ H Q => t σ H fun xs H1 => xs.length ≤ sizeLine ∧ ∀ p, H1 p = none → Q (.ref p) (upd H1 p (.tup xs))
def tLst (t : TA) : TE := fun σ H Q => t σ H fun xs H1 => xs.length ≤ sizeLine ∧ ∀ p, H1 p = none → Q (.ref p) (upd H1 p (.lst xs))
theorem pe_tup {x1} (h : PA X es t) : PE X (.Tuple es x1 pos) (tTup t) := by
  intro pins s σ H Q I hq
  refine wpAny_Tuple_spliced (thn (h pos pins s σ H _ I hq) fun us s1 ⟨xs, H1, I1, r, z, q⟩ => ⟨by rw [← r.length]; exact z, ?_⟩)
  have hf : H1 s1.heap.objs.size = none := I1.hok.fresh (Nat.le_refl _)
  refine ⟨.ref s1.heap.objs.size, upd H1 s1.heap.objs.size (.tup xs), I1.laid (t' := s1.toks) (fun b u e => Heap.get?_push_of_some _ e) (Nat.le_refl _) ?_, rfl, q _ hf⟩
  exact ⟨z, us, r, ⟨_, Heap.get?_push_size _ rfl, rfl, _, rfl⟩⟩
theorem pe_lst (h : PA X es t) : PE X (.List es pos) (tLst t) := by
  intro pins s σ H Q I hq
  refine wpAny_List_spliced (thn (h pos pins s σ H _ I hq) fun us s1 ⟨xs, H1, I1, r, z, q⟩ => ⟨by rw [← r.length]; exact z, ?_⟩)
  have hf : H1 s1.heap.objs.size = none := I1.hok.fresh (Nat.le_refl _)
  refine ⟨.ref s1.heap.objs.size, upd H1 s1.heap.objs.size (.lst xs), I1.laid (t' := s1.toks) (fun b u e => Heap.get?_push_of_some _ e) (Nat.le_refl _) ?_, rfl, q _ hf⟩
  exact ⟨z, us, 0, r, Heap.get?_push_size _ rfl⟩
end
abbrev Sp := List V → Hp → VK → XK → Prop
abbrev CXT := List Env → Hp → Shared → XK → Value → Shared → Prop
structure Env0 (P : Program) (w : World) (K : PySem.W.Frag) (mg : Str → Option Value) (base : Heap) (A : Around) (outer : List Env) (s : Shared) (H : Hp) : Prop where
  frames : A.frames = some outer
  mod : Mod K mg base
  bs : ∀ b o, base.get? b = some o → s.heap.get? b = some o ∧ H b = none
  bsz : base.objs.size ≤ s.heap.objs.size
  funs : s.heap.FunFrames base outer
  frf : ∀ b ∈ frs outer, H b = none
  hok : HOk P w H s.heap
  bare : AllBare s.gens
def CE (outer : List Env) (P : Program) (w : World) (H : Hp) (s : Shared) (Q : VK) (u : Value) (s' : Shared) : Prop :=
  ∃ v H', s'.os = s.os ∧ AllBare s'.gens ∧ Un (frs outer) [] H H' s.heap s'.heap ∧ HOk P w H' s'.heap ∧ RelV v u ∧ Q v H'
def CR (CX : CXT) (outer : List Env) (P : Program) (w : World) (H : Hp) (s : Shared) (Q : VK) (E : XK) (r : Result) (s' : Shared) : Prop :=
  match r with
  | .ok (.ret u) => CE outer P w H s Q u s'
  | .ok _ => False
  | .error e => CX outer H s E e s'
structure FnOk (P : Program) (w : World) (K : PySem.W.Frag) (mg : Str → Option Value) (base : Heap) (CX : CXT) (k : Nat) (f : Addr) (fd : FuncData) (ps : List Str) (sp : Sp) : Prop where
  len : ∀ vs H Q E, sp vs H Q E → vs.length = ps.length
  run : ∀ (A : Around) (outer : List Env) (s : Shared) (H : Hp) (args : Args) (us : List Value) (vs : List V) (Q : VK) (E : XK), Room k A → Env0 P w K mg base A outer s H → BindsTo s fd args (ps.zip us) → Vals vs us → sp vs H Q E →
    codeAny (model P w) A (.call (.ref f) args) (CR CX outer P w H s Q E) s
theorem FnOk.mono {P : Program} {w : World} {K : PySem.W.Frag} {mg : Str → Option Value} {base : Heap} {CX : CXT} {j k : Nat} {f : Addr} {fd : FuncData} {ps : List Str} {sp : Sp} (F : FnOk P w K mg base CX j f fd ps sp) (h : j ≤ k) :
    FnOk P w K mg base CX k f fd ps sp := ⟨F.len, fun A outer s H args us vs Q E hr => F.run A outer s H args us vs Q E (hr.mono h)⟩
theorem FnOk.imp {P : Program} {w : World} {K : PySem.W.Frag} {mg : Str → Option Value} {base : Heap} {CX : CXT} {k : Nat} {f : Addr} {fd : FuncData} {ps : List Str} {sp sp' : Sp} (F : FnOk P w K mg base CX k f fd ps sp)
    (h : ∀ vs H Q E, sp' vs H Q E → sp vs H Q E) : FnOk P w K mg base CX k f fd ps sp' :=
  ⟨fun vs H Q E q => F.len vs H Q E (h _ _ _ _ q), fun A outer s H args us vs Q E hr he hb hv hs => F.run A outer s H args us vs Q E hr he hb hv (h _ _ _ _ hs)⟩
theorem Env0.in1 {P : Program} {w : World} {K : PySem.W.Frag} {mg : Str → Option Value} {base : Heap} {A : Around} {outer : List Env} {s : Shared} {H : Hp} (e : Env0 P w K mg base A outer s H) :
    Env0 P w K mg base A.in1 outer s H := ⟨e.frames, e.mod, e.bs, e.bsz, e.funs, e.frf, e.hok, e.bare⟩
section
variable {X : Cx} {pins : List (Addr × Obj)} {σ : St} {H : Hp} {s s' : Shared}
theorem Inv.env0 (I : Inv X pins σ H s) : Env0 X.prog X.w X.K X.mg X.base X.A X.stack s H :=
  ⟨I.ok.frames, I.ok.mod, I.bs, Nat.le_trans I.ok.bsz I.sz, I.stack, I.stkFree, I.hok, I.bare⟩
theorem Inv.after {Q : VK} {u : Value} (I : Inv X pins σ H s) (h : CE X.stack X.prog X.w H s Q u s') : EP X pins σ Q u s' := by
  obtain ⟨v, H', os, bare, un, hok, r, q⟩ := h
  obtain ⟨hh, g, d, t, os'⟩ := s'
  obtain rfl : os' = s.os := os
  exact ⟨v, H', I.call (h' := hh) (g' := g) (d' := d) (t' := t) (ch := []) un hok bare (fun b z => absurd z (by simp)), r, q⟩
end
def tCall (sp : Sp) (dvs : List V) (E : XK) (t : TA) : TE := fun σ H Q => t σ H fun vs H1 => sp (vs ++ dvs) H1 Q E
def Binds (K : PySem.W.Frag) (fd : FuncData) (ps : List Str) (ds : List Value) : Prop :=
  ∀ (s : Shared) (us : List Value), K.In s.heap → (us ++ ds).length = ps.length → BindsTo s fd ⟨us, []⟩ (ps.zip (us ++ ds))
theorem Binds.all {K : PySem.W.Frag} {fd : FuncData} {ps : List Str} (h : ∀ us : List Value, us.length = ps.length → bindArgs fd ⟨us, []⟩ = pure (ps.zip us)) : Binds K fd ps [] := fun s us _ hl => by
  rw [List.append_nil] at hl ⊢
  exact .of_eq (h us hl)
def Passes (CX : CXT) (X : Cx) (E : XK) : Prop := ∀ (pins : List (Addr × Obj)) (σ : St) (H : Hp) (s : Shared) (e : Value) (s' : Shared), Inv X pins σ H s → CX X.stack H s E e s' → X.xe e s'
section
variable {X : Cx} {CX : CXT} {k : Nat} {f C : Addr} {fd : FuncData} {ps : List Str} {sp : Sp} {dvs : List V} {ds : List Value} {E : XK} {x m : Str} {p pos apos : Pos} {e o : Expr} {es : List Expr} {ta : TE} {t : TA}
theorem run_fn {pins : List (Addr × Obj)} {σ : St} {H : Hp} {s : Shared} {Q : VK} {us : List Value} {vs : List V} (F : FnOk X.prog X.w X.K X.mg X.base CX k f fd ps sp) (hr : Room k X.A) (hb : Binds X.K fd ps ds) (hd : Vals dvs ds) (hx : Passes CX X E)
    (I : Inv X pins σ H s) (r : Vals vs us) (h : sp (vs ++ dvs) H Q E) : wpAny (model X.prog X.w) X.A (call (.ref f) us) (EP X pins σ Q) X.xe s := by
  have r2 : Vals (vs ++ dvs) (us ++ ds) := r.append hd
  have hl : (us ++ ds).length = ps.length := by rw [← r2.length]; exact F.len _ _ _ _ h
  refine wpAny_call (codeAny_mono (F.run X.A X.stack s H ⟨us, []⟩ (us ++ ds) (vs ++ dvs) Q E hr I.env0 (hb s us I.kIn hl) r2 h) fun r s' hq => ?_)
  cases r with
  | error e => exact hx pins σ H s e s' I hq
  | ok fl =>
    cases fl with
    | ret u => exact I.after hq
    | next => exact False.elim hq
    | brk => exact False.elim hq
    | cont => exact False.elim hq
theorem pe_call (F : FnOk X.prog X.w X.K X.mg X.base CX k f fd ps sp) (hr : Room k X.A) (hg : Gl X x) (hm : X.mg x = some (.ref f)) (hk : PySem.W.keepIn X.K (.ref f) = true) (hb : Binds X.K fd ps ds) (hd : Vals dvs ds) (hx : Passes CX X E)
    (ha : PA X (e :: es) t) (hdb : (x == ("__debug__" : Str)) = false := by decide) (he : starEach (e :: es) X.env = (false, eval e X.env) :: starEach es X.env := by rfl) (hpl : (backTo pos (starEach es X.env)).any (·.1) = false := by rfl) :
    PE X (.Call (.Name x p) (e :: es) [] pos) (tCall sp dvs E t) := by
  intro pins s σ H Q I h
  refine wpAny_Call_Name_kw (ld_glob I hg hm ?_ hdb)
  refine PySem.W.callWith_K (h₀ := X.base) I.ok.mod.kin hk (thn (ha pos pins s σ H _ I h) fun us s1 ⟨vs, H1, I1, r, q⟩ => ⟨I1.kIn, ?_⟩) he hpl
  exact run_fn F hr hb hd hx I1 r q
end
section
variable {X : Cx} {CX : CXT} {k : Nat} {f C : Addr} {fd : FuncData} {ps ks : List Str} {sp : Sp} {E : XK} {x m : Str} {p pos apos kpos : Pos} {e o : Expr} {es : List Expr} {kws : List Keyword} {te ta : TE} {t tk : TA} {nm : Option Str}
variable {g : List Value → List Value → List Value} {gV : List V → List V → List V}
end
structure FnScope (N P : List Str) (sc : Scope) : Prop where
  kind : sc.kind = .function
  co : sc.isCoroutine = false
  gen : sc.isGenerator = false
  nd : N.Nodup
  pre : N.take P.length = P
  par : ∀ x ∈ P, sc.names.lookup x = some .local ∨ sc.names.lookup x = some .cell
  nofree : ∀ y ∈ sc.names, y.2 ≠ .free
theorem bindL_out {kindOf : Str → Option NameKind} {x : Str} : ∀ {binds : List (Str × Value)} {m : Str → Option Value}, (∀ v, (x, v) ∉ binds) → bindL kindOf binds m x = m x
  | [], _, _ => rfl
  | (n, v) :: r, m, h => by
    unfold bindL
    rw [bindL_out fun w hw => h w (List.mem_cons_of_mem _ hw)]
    split
    · have : x ≠ n := by rintro rfl; exact h v List.mem_cons_self
      simp [this]
    · rfl
theorem bindC_out {kindOf : Str → Option NameKind} {x : Str} : ∀ {binds : List (Str × Value)} {m : Str → Option Value}, (∀ v, (x, v) ∉ binds) → bindC kindOf binds m x = m x
  | [], _, _ => rfl
  | (n, v) :: r, m, h => by
    unfold bindC
    rw [bindC_out fun w hw => h w (List.mem_cons_of_mem _ hw)]
    split
    · rfl
    · have : x ≠ n := by rintro rfl; exact h v List.mem_cons_self
      simp [this]
theorem bindL_get {kindOf : Str → Option NameKind} {x : Str} {v : Value} : ∀ {P : List Str} {vs : List Value} {i : Nat} {m : Str → Option Value}, P.Nodup → P[i]? = some x → vs[i]? = some v → kindOf x = some .local →
    bindL kindOf (P.zip vs) m x = some v
  | [], _, _, _, _, h, _, _ => by simp at h
  | _ :: _, [], _, _, _, _, h, _ => by simp at h
  | p :: P, w :: vs, 0, m, nd, h1, h2, hk => by
    simp at h1 h2; subst h1; subst h2
    show bindL kindOf ((p, w) :: P.zip vs) m p = _
    unfold bindL
    rw [bindL_out fun v hv => (List.nodup_cons.mp nd).1 (List.of_mem_zip hv).1, if_pos hk]
    simp
  | p :: P, w :: vs, i + 1, m, nd, h1, h2, hk => by
    show bindL kindOf ((p, w) :: P.zip vs) m x = _
    unfold bindL
    exact bindL_get (i := i) (List.nodup_cons.mp nd).2 (by simpa using h1) (by simpa using h2) hk
theorem bindC_get {kindOf : Str → Option NameKind} {x : Str} {v : Value} : ∀ {P : List Str} {vs : List Value} {i : Nat} {m : Str → Option Value}, P.Nodup → P[i]? = some x → vs[i]? = some v → kindOf x ≠ some .local →
    bindC kindOf (P.zip vs) m x = some v
  | [], _, _, _, _, h, _, _ => by simp at h
  | _ :: _, [], _, _, _, _, h, _ => by simp at h
  | p :: P, w :: vs, 0, m, nd, h1, h2, hk => by
    simp at h1 h2; subst h1; subst h2
    show bindC kindOf ((p, w) :: P.zip vs) m p = _
    unfold bindC
    rw [bindC_out fun v hv => (List.nodup_cons.mp nd).1 (List.of_mem_zip hv).1, if_neg hk]
    simp
  | p :: P, w :: vs, i + 1, m, nd, h1, h2, hk => by
    show bindC kindOf ((p, w) :: P.zip vs) m x = _
    unfold bindC
    exact bindC_get (i := i) (List.nodup_cons.mp nd).2 (by simpa using h1) (by simpa using h2) hk
def start (N : List Str) (vs : List V) : St := vs.map some ++ List.replicate (N.length - vs.length) none
def cxOf (CX : CXT) (P : Program) (w : World) (K : PySem.W.Frag) (mg : Str → Option Value) (base : Heap) (N : List Str) (qual : Str) (scope : Scope) (f : Addr) (cd : Value) (A : Around) (outer : List Env) (s : Shared) (H : Hp) (E : XK) : Cx where
  prog := P
  w := w
  K := K
  mg := mg
  base := base
  A := A.deeper (envOfC qual scope s.heap.objs.size f cd)
  N := N
  s₀ := s
  H₀ := H
  env := envOfC qual scope s.heap.objs.size f cd
  outer := outer
  stack := envOfC qual scope s.heap.objs.size f cd :: outer
  ex := []
  calm := true
  fn := fun _ => true
  pn := []
  xe := fun e s' => wpAny (model P w) (A.deeper (envOfC qual scope s.heap.objs.size f cd)) (leaving (envOfC qual scope s.heap.objs.size f cd) e) (fun _ s'' => CX outer H s E e s'') (fun e' s'' => CX outer H s E e' s'') s'
theorem cell_has {sc : Scope} {n : Nat} {x : Str} (h : sc.names.lookup x = some .cell) : ∃ c, (cellsFrom n sc.names []).lookup x = some c := by
  have q := PySem.W.cellsFrom_some sc.names n [] (.inl h)
  exact Option.isSome_iff_exists.mp q
theorem inv_start {CX : CXT} {P : Program} {w : World} {K : PySem.W.Frag} {mg : Str → Option Value} {base : Heap} {N ps : List Str} {qual : Str} {scope : Scope} {f : Addr} {cd : Value} {A : Around} {outer : List Env} {s s1 : Shared} {H : Hp} {E : XK} {us : List Value} {vs : List V}
    (S : FnScope N ps scope) (hd : A.handled = none) (e0 : Env0 P w K mg base A outer s H) (hl : vs.length = ps.length) (r : Vals vs us)
    (x : InCallC s s.heap.objs.size (bindL (envOfC qual scope s.heap.objs.size f cd).kindOf (ps.zip us) fun _ => none) (cellsFrom (s.heap.objs.size + 1) scope.names []) (bindC (envOfC qual scope s.heap.objs.size f cd).kindOf (ps.zip us) fun _ => none) s1) :
    Inv (cxOf CX P w K mg base N qual scope f cd A outer s H E) [] (start N vs) H s1 := by
  have hpl : ps.length ≤ N.length := by have := congrArg List.length S.pre; rw [List.length_take] at this; omega
  obtain ⟨h1, tk, rfl, hk⟩ := x.done
  have noA : ∀ b : Addr, b ∉ (cxOf CX P w K mg base N qual scope f cd A outer s H E).ex := fun b z => absurd (show b ∈ ([] : List Addr) from z) (by simp)
  refine ⟨⟨e0.mod, S.kind, rfl, rfl, Nat.le_refl _, fun y z c h1 h2 => ?_, fun y hy => ?_, fun y c _ h => ?_, fun _ => hd, Around.frames_deeper e0.frames, .inr ⟨rfl, rfl⟩, fun b z => absurd z (noA b), e0.bs, e0.bsz, fun b _ _ => noA b, fun b z => absurd z (noA b), e0.funs, e0.frf⟩,
    rfl, e0.bare, Un.kept hk, ⟨_, x.toInCall.ns, fun i y v h1 h2 h3 => ?_⟩, fun y c h => ⟨_, x.cell y c h⟩, e0.hok.fresh (Nat.le_refl _), fun y c h => ?_, fun p hp => absurd (show p ∈ ([] : List (Addr × Obj)) from hp) (by simp), e0.hok.kept hk, ?_⟩
  · exact name_of_addr x.apart (PySem.mem_of_lookup h1) (PySem.mem_of_lookup h2)
  · have hy : scope.names.lookup y = some .cell ∨ scope.names.lookup y = some .free := hy
    rcases hy with hy | hy
    · exact cell_has hy
    · exact absurd rfl (S.nofree _ (PySem.mem_of_lookup hy))
  · exact Nat.le_of_lt (x.above y c (PySem.mem_of_lookup h))
  · have hi : i < vs.length := by
      unfold start at h2
      by_cases hi : i < vs.length
      · exact hi
      · rw [List.getElem?_append_right (by simpa using hi)] at h2
        rw [List.getElem?_replicate] at h2
        split at h2 <;> cases h2
    have ha : vs[i]? = some v := by
      unfold start at h2
      rw [List.getElem?_append_left (by simpa using hi), List.getElem?_map] at h2
      cases e : vs[i]? with
      | none => rw [e] at h2; cases h2
      | some a => rw [e] at h2; cases h2; rfl
    obtain ⟨u, hu, rv⟩ := r.get ha
    have hp : ps[i]? = some y := by
      rw [← S.pre, List.getElem?_take_of_lt (by omega)]; exact h1
    have ndP : ps.Nodup := by rw [← S.pre]; exact S.nd.sublist (List.take_sublist _ _)
    refine ⟨u, rv, ?_⟩
    rcases S.par y (List.mem_of_getElem? hp) with k | k
    · exact .inl ⟨k, bindL_get ndP hp hu k⟩
    · obtain ⟨c, e⟩ := cell_has (n := s.heap.objs.size + 1) k
      refine .inr ⟨.inl k, c, e, ?_⟩
      have q := x.cell y c e
      rw [bindC_get ndP hp hu (by show scope.names.lookup y ≠ _; rw [k]; decide)] at q
      exact q
  · exact e0.hok.fresh (Nat.le_of_lt (x.above y c (PySem.mem_of_lookup h)))
  · unfold start
    show _ = N.length
    rw [List.length_append, List.length_map, List.length_replicate]
    omega
theorem fn_of {CX : CXT} {P : Program} {w : World} {K : PySem.W.Frag} {mg : Str → Option Value} {base : Heap} {k : Nat} {f : Addr} {name qual : Str} {params : Arguments} {body : List Stmt} {scope : Scope} {dV kV doc pm cdv ct oc : Value} {an od : Option Addr}
    {osl : Array (Option Value)} {N ps : List Str} {sp : Sp} (lk : K.lookup f = some ⟨oc, od, .func (PySem.W.fnOf name qual params body scope dV kV doc pm an cdv ct), osl⟩) (hcd : PySem.W.codeIn K cdv qual = true) (S : FnScope N ps scope)
    (len : ∀ vs H Q E, sp vs H Q E → vs.length = ps.length)
    (hbody : ∀ (A : Around) (outer : List Env) (s : Shared) (H : Hp) (vs : List V) (Q : VK) (E : XK), Room k (A.deeper (envOfC qual scope s.heap.objs.size f cdv)) → sp vs H Q E →
      ∃ t, PSs (cxOf CX P w K mg base N qual scope f cdv A outer s H E) body t ∧ t { nx := fun _ H' => Q .non H', rt := Q } (start N vs) H) :
    FnOk P w K mg base CX (k + 1) f (PySem.W.fnOf name qual params body scope dV kV doc pm an cdv ct) ps sp := by
  refine ⟨len, fun A outer s H args us vs Q E hr e0 hb r hsp => ?_⟩
  have hl := len _ _ _ _ hsp
  have KX : K.In s.heap := e0.mod.kin.keeps fun b o e => (e0.bs b o e).1
  have lim : s.heap.NoLimit := e0.mod.nolimit.keeps fun b o e => (e0.bs b o e).1
  have hkind : ∀ y ∈ ps.zip us, scope.names.lookup y.1 = some .local ∨ (scope.names.lookup y.1 = some .cell ∧ ((cellsFrom (s.heap.objs.size + 1) scope.names []).lookup y.1).isSome = true) := fun ⟨n, v⟩ hy => by
    rcases S.par n (List.of_mem_zip hy).1 with q | q
    · exact .inl q
    · exact .inr ⟨q, PySem.W.cellsFrom_some _ _ _ (.inl q)⟩
  refine codeAny_call_function hr.depth (KX _ _ lk) rfl S.co S.gen rfl (PySem.W.codeRec_of KX hcd) (hb _ _ _ _ ?_)
  refine wpAny_newFunctionEnv_cells S.kind hkind fun env he s1 x => ?_
  subst he
  refine ⟨lim.keeps x.toInCall.keep, codeAny_func ?_⟩
  obtain ⟨t, ht, hq⟩ := hbody A outer s H vs Q E (hr.deeper _) hsp
  have I : Inv (cxOf CX P w K mg base N qual scope f cdv A outer s H E) [] (start N vs) H s1 := inv_start S hr.hd e0 hl r x
  refine wpAny_mono (ht [] s1 (start N vs) H _ I hq) (fun fl s' hs => ?_) fun e s' hs => hs
  have fin : ∀ {σ' : St} {H' : Hp} {v : V} {u : Value}, Inv (cxOf CX P w K mg base N qual scope f cdv A outer s H E) [] σ' H' s' → RelV v u → Q v H' → CE outer P w H s Q u s' :=
    fun {σ' H' v u} J rv q => ⟨v, H', J.os, J.bare, J.base, J.hok, rv, q⟩
  cases fl with
  | ret u =>
    obtain ⟨v, σ', H', J, rv, q⟩ := hs
    exact fin J rv q
  | next =>
    obtain ⟨σ', H', J, q⟩ := hs
    exact fin (v := V.non) (u := Value.none) J rfl q
  | brk =>
    obtain ⟨_, _, _, q⟩ := hs
    exact False.elim q
  | cont =>
    obtain ⟨_, _, _, q⟩ := hs
    exact False.elim q
end L2
namespace L2
open PySem PySem.Spec PyProof.Rows
section
variable {X : Cx} {x : Str} {p pos : Pos} {e : Expr} {es : List Expr} {t : TA} {id T : String} {r : List V → Hp → VK → Prop}
def tCB (r : List V → Hp → VK → Prop) (t : TA) : TE := fun σ H Q => t σ H fun vs H1 => r vs H1 Q
theorem pe_callB (hc : CallR X (.builtin id) r) (hg : Gl X x) (hm : X.mg x = none) (hv : bootBuiltins x = some (.builtin id)) (ha : PA X (e :: es) t) (hn : x ≠ "__name__" := by decide) (hdb : (x == ("__debug__" : Str)) = false := by decide)
    (he : starEach (e :: es) X.env = (false, eval e X.env) :: starEach es X.env := by rfl) (hpl : (backTo pos (starEach es X.env)).any (·.1) = false := by rfl) : PE X (.Call (.Name x p) (e :: es) [] pos) (tCB r t) := by
  intro pins s σ H Q I h
  refine wpAny_Call_Name_kw (ld_blt I hg hm hv ?_ hn hdb)
  exact PyProof.Rows.callWith_builtin1 (thn (ha pos pins s σ H _ I h) fun us s1 ⟨vs, H1, I1, r1, q1⟩ => hc pins s1 σ H1 vs us Q I1 r1 q1) he hpl
theorem pe_callTy (hc : CallR X (.type T) r) (hg : Gl X x) (hm : X.mg x = none) (hv : bootBuiltins x = some (.type T)) (ha : PA X (e :: es) t) (hn : x ≠ "__name__" := by decide) (hdb : (x == ("__debug__" : Str)) = false := by decide)
    (he : starEach (e :: es) X.env = (false, eval e X.env) :: starEach es X.env := by rfl) (hpl : (backTo pos (starEach es X.env)).any (·.1) = false := by rfl) : PE X (.Call (.Name x p) (e :: es) [] pos) (tCB r t) := by
  intro pins s σ H Q I h
  refine wpAny_Call_Name_kw (ld_blt I hg hm hv ?_ hn hdb)
  exact PyProof.Rows.callWith_type1 (thn (ha pos pins s σ H _ I h) fun us s1 ⟨vs, H1, I1, r1, q1⟩ => hc pins s1 σ H1 vs us Q I1 r1 q1) he hpl
end
end L2
namespace HT
open PySem PyProof.Rows
section
open PySem.SeqAt
open PySem.AutoSeq1 (wpAny_loadPart')
open PySem.MeetsSeq PySem.MeetsSeq2 PySem.MeetsSeq3
end
section
variable {prog : Program} {w : World} {A : Around} {E : Value → Shared → Prop} {s : Shared}
theorem cat_tup {t b : Addr} {vs ws : List Value} {Q : Value → Shared → Prop} (ht : IsTup s.heap t vs.toArray) (hb : IsTup s.heap b ws.toArray) (hv : vs ≠ [])
    (h1 : ws = [] → Q (.ref t) s) (h2 : ws ≠ [] → Q (.ref s.heap.objs.size) { s with heap := s.heap.push { cls := .type "tuple", data := .seq (vs ++ ws).toArray } })
    (hsz : vs.length + ws.length ≤ sizeLine) : wpAny (model prog w) A (binaryOp .Add (.ref t) (.ref b)) Q E s := by
  obtain ⟨⟨cls, dd, data, sl⟩, ho, hc, n, hd⟩ := id ht
  obtain ⟨⟨cls2, dd2, data2, sl2⟩, ho2, hc2, n2, hd2⟩ := id hb
  simp only at hc hd hc2 hd2
  subst hc hd hc2 hd2
  have e : vs.toArray ++ ws.toArray = (vs ++ ws).toArray := by simp
  by_cases hw : ws = []
  · exact concat_meets ⟨_, ho, rfl⟩ ⟨_, ho2, rfl⟩ noFill_tuple_add seq_tuple_add PySem.F.slot_tuple_add PySem.F.entry_tuple_add (PySem.F.args_tuple_add_2 _ _)
      (tuple_addW1 t b vs.toArray ws.toArray n n2 dd dd2 sl sl2 (by simpa using hv) (by simp [hw])) ⟨ho, ho2, h1 hw⟩
  · refine concat_meets ⟨_, ho, rfl⟩ ⟨_, ho2, rfl⟩ noFill_tuple_add seq_tuple_add PySem.F.slot_tuple_add PySem.F.entry_tuple_add (PySem.F.args_tuple_add_2 _ _)
      (tuple_addW2 t b vs.toArray ws.toArray n n2 dd dd2 sl sl2 (by simpa using hv) (by simpa using hw) (by rw [List.size_toArray, List.size_toArray]; exact hsz)) ⟨ho, ho2, ?_⟩
    rw [e]
    exact h2 hw
def sIx (n d : Nat) : Option Int → Nat
  | none => d
  | some v => if v < 0 then (v + (n : Int)).toNat else min v.toNat n
theorem sIx_none (n d : Nat) : sIx n d none = d := rfl
theorem sIx_nat (n d k : Nat) : sIx n d (some (k : Int)) = min k n := by
  show (if (k : Int) < 0 then ((k : Int) + (n : Int)).toNat else min (k : Int).toNat n) = min k n
  rw [if_neg (by omega), Int.toNat_natCast]
theorem sIx_le (n d : Nat) (hd : d ≤ n) (o : Option Int) : sIx n d o ≤ n := by
  cases o with
  | none => exact hd
  | some v =>
    show (if v < 0 then (v + (n : Int)).toNat else min v.toNat n) ≤ n
    by_cases hv : v < 0
    · rw [if_pos hv]; omega
    · rw [if_neg hv]; exact Nat.min_le_right _ _
theorem clip_eq (v : Int) (n d : Nat) : (if v < 0 then max (v + (n : Int)) 0 else min v (n : Int)) = ((sIx n d (some v) : Nat) : Int) := by
  show (if v < 0 then max (v + (n : Int)) 0 else min v (n : Int)) = (((if v < 0 then (v + (n : Int)).toNat else min v.toNat n) : Nat) : Int)
  by_cases hv : v < 0
  · simp only [if_pos hv]; omega
  · simp only [if_neg hv]; omega
theorem adjust_gen (lo hi : Option Int) (n : Nat) : Builtin.Slice.sliceAdjust lo hi 1 (n : Int) = (((sIx n 0 lo : Nat) : Int), ((sIx n n hi : Nat) : Int)) := by
  have h1 : ¬ ((1 : Int) < 0) := by omega
  unfold Builtin.Slice.sliceAdjust
  simp only [h1, if_false]
  refine Prod.ext ?_ ?_
  · cases lo with
    | none => rfl
    | some v => exact clip_eq v n 0
  · cases hi with
    | none => rfl
    | some v => exact clip_eq v n n
theorem places_gen (i j : Nat) : Builtin.Slice.slicePlaces (i : Int) (j : Int) 1 = j - i := by
  unfold Builtin.Slice.slicePlaces
  have h1 : (1 : Int) > 0 := by omega
  simp only [h1, if_true, Int.ediv_one]
  split <;> omega
theorem slicePart_ {v : Value} {o : Option Int} {Q : Option Int → Shared → Prop} (p : IsPart v o) (h : Q o s) : wpAny (model prog w) A (Builtin.Slice.slicePartIndex v) Q E s := by
  cases p with
  | none => exact slicePart_none h
  | int i t => exact slicePart_int h
theorem sliceApplied_gen {sl : Addr} {vl vu : Value} {lo hi : Option Int} {n : Nat} {Q : Int × Int × Nat → Shared → Prop} (hs : s.heap.IsSliceOf sl vl vu .none) (pl : IsPart vl lo) (pu : IsPart vu hi)
    (h : Q (((sIx n 0 lo : Nat) : Int), 1, sIx n n hi - sIx n 0 lo) s) : wpAny (model prog w) A (Builtin.Slice.sliceApplied (.ref sl) (pure (n : Int))) Q E s := by
  obtain ⟨os, hos, hcs, hds⟩ := id hs
  unfold Builtin.Slice.sliceApplied Builtin.Slice.sliceFields
  refine wpAny_bind (wpAny_bind (wpAny_field hos hds (x := vl) rfl (wpAny_bind (wpAny_field hos hds (x := vu) rfl (wpAny_bind (wpAny_field hos hds (x := .none) rfl (wpAny_pure ?_)))))))
  refine wpAny_bind (slicePart_none ?_)
  show wpAny _ _ (if ((1 : Int) == 0) = true then _ else _) _ _ s
  rw [if_neg (by decide)]
  refine wpAny_bind (slicePart_ pl (wpAny_bind (slicePart_ pu (wpAny_bind (wpAny_pure ?_)))))
  show wpAny _ _ (match Builtin.Slice.sliceAdjust lo hi 1 (n : Int) with | (lo, hi) => pure (lo, (1 : Int), Builtin.Slice.slicePlaces lo hi 1)) _ _ s
  rw [adjust_gen lo hi n]
  show wpAny _ _ (pure (((sIx n 0 lo : Nat) : Int), (1 : Int), Builtin.Slice.slicePlaces ((sIx n 0 lo : Nat) : Int) ((sIx n n hi : Nat) : Int) 1)) _ _ s
  rw [places_gen]
  exact wpAny_pure h
theorem pick_gen (xs : Array Value) (i k : Nat) : ((List.range k).filterMap fun (m : Nat) => xs[((i : Int) + (m : Int) * 1).toNat]?).toArray = ((xs.toList.drop i).take k).toArray := by
  have e : (fun (m : Nat) => xs[((i : Int) + (m : Int) * 1).toNat]?) = fun m => xs[i + m]? := by
    funext m
    have : ((i : Int) + (m : Int) * 1).toNat = i + m := by omega
    rw [this]
  rw [e]
  have := pick_run xs i k
  rw [List.filterMap_map] at this
  have e2 : ((fun x => xs[x]?) ∘ fun x => i + x) = fun m => xs[i + m]? := rfl
  rw [e2] at this
  rw [this]
theorem getItem_tuple_cut {t sl : Addr} {items : Array Value} {vl vu : Value} {lo hi : Option Int} {Q : Value → Shared → Prop} (ht : IsTup s.heap t items) (hs : s.heap.IsSliceOf sl vl vu .none) (pl : IsPart vl lo) (pu : IsPart vu hi)
    (hw : ¬ (sIx items.size 0 lo = 0 ∧ sIx items.size items.size hi = items.size))
    (h : Q (.ref s.heap.objs.size) { s with heap := s.heap.push { cls := .type "tuple", data := .seq ((items.toList.drop (sIx items.size 0 lo)).take (sIx items.size items.size hi - sIx items.size 0 lo)).toArray } })
    (hsz : items.size ≤ sizeLine) : wpAny (model prog w) A (getItem (.ref t) (.ref sl)) Q E s := by
  have htake : sizeOk (.seq ((items.toList.drop (sIx items.size 0 lo)).take (sIx items.size items.size hi - sIx items.size 0 lo)).toArray) := by
    show ((items.toList.drop (sIx items.size 0 lo)).take (sIx items.size items.size hi - sIx items.size 0 lo)).toArray.size ≤ sizeLine
    rw [List.size_toArray, List.length_take, List.length_drop, Array.length_toList]
    omega
  have hj : sIx items.size items.size hi ≤ items.size := sIx_le _ _ (Nat.le_refl _) hi
  obtain ⟨os, hos, hcs, hds⟩ := id hs
  have hTs : s.TypeIs (.ref sl) "slice" := ⟨os, hos, hcs⟩
  unfold getItem
  try with_reducible refine wpAny_holding ?_
  first | refine wpAny_bind (wpAny_pure ?_) | skip
  refine wpAny_bind (wpAny_sequenceKey ht.typeIs (by decide) ?_)
  refine wpAny_bind (wpAny_callSpecial?_slot (name := Str.ofString "__getitem__") ht.typeIs PyProof.Rows.slot_tuple_getitem
    (wpAny_call_entry PyProof.Rows.slot_tuple_getitem ht.typeIs entry_tuple_getitem ?_ (args_tuple_getitem _ _)))
  show wpAny _ _ (Builtin.Tuple.tupleItemsOf (.ref t) >>= _) _ _ s
  refine wpAny_bind (tupleItemsOf_ ht ?_)
  refine wpAny_bind (wpAny_typeOf hTs ?_)
  rw [if_pos (by decide)]
  refine wpAny_bind (sliceApplied_gen hs pl pu ?_)
  have hno : ¬ ((((sIx items.size 0 lo : Nat) : Int) == 0 && (1 : Int) == 1 && (sIx items.size items.size hi - sIx items.size 0 lo) == items.size) = true) := by
    intro q
    rw [Bool.and_eq_true, Bool.and_eq_true] at q
    have q1 : ((sIx items.size 0 lo : Nat) : Int) = 0 := eq_of_beq q.1.1
    have q2 : sIx items.size items.size hi - sIx items.size 0 lo = items.size := eq_of_beq q.2
    exact hw ⟨by omega, by omega⟩
  show wpAny _ _ (if (((sIx items.size 0 lo : Nat) : Int) == 0 && (1 : Int) == 1 && (sIx items.size items.size hi - sIx items.size 0 lo) == items.size) = true then _ else _) _ _ s
  rw [if_neg hno, pick_gen]
  first
    | exact wpAny_bind (m := Builtin.Tuple.tupleExact _) (wpAny_newObj_type (wpAny_pure ⟨_, rfl, wpAny_pure h⟩) htake)
    | exact wpAny_bind (m := Builtin.Tuple.tupleExact _) (wpAny_newObj_type (wpAny_bind (wpAny_pure (wpAny_pure ⟨_, rfl, wpAny_pure h⟩))) htake)
    | exact wpAny_bind (wpAny_bind (m := Builtin.Tuple.tupleExact _) (wpAny_newObj_type (wpAny_pure (wpAny_pure ⟨_, rfl, wpAny_pure h⟩)) htake))
    | exact wpAny_bind (wpAny_bind (m := Builtin.Tuple.tupleExact _) (wpAny_newObj_type (wpAny_pure ⟨_, rfl, wpAny_pure h⟩) htake))
end
end HT
namespace L2
open PySem PySem.Spec PyProof.Rows
abbrev TO := St → Hp → (Option Int → Hp → Prop) → Prop
def PO (X : Cx) (e : Option Expr) (t : TO) : Prop :=
  ∀ (pins : List (Addr × Obj)) (s : Shared) (σ : St) (H : Hp) (Q : Option Int → Hp → Prop), Inv X pins σ H s → t σ H Q →
    wpAny (model X.prog X.w) X.A (evalPart e X.env) (fun u s' => ∃ o H', Inv X pins σ H' s' ∧ IsPart u o ∧ Q o H') X.xe s
def tNoPart : TO := fun _ H Q => Q none H
def tPart (t : TE) : TO := fun σ H Q => t σ H fun x H1 => ∃ i, x = .int i ∧ Q (some i) H1
section
variable {X : Cx} {e : Expr} {te : TE} {lo hi : Option Expr} {tl th : TO} {pos p2 : Pos}
theorem po_none : PO X none tNoPart := by
  intro pins s σ H Q I h
  rw [evalPart_none]
  exact wpAny_pure ⟨none, H, I, .none, h⟩
theorem po_some (h : PE X e te) : PO X (some e) (tPart te) := by
  intro pins s σ H Q I hw
  rw [evalPart_some]
  refine thn (h pins s σ H _ I hw) fun u s1 ⟨x, H1, I1, r1, q1⟩ => ?_
  obtain ⟨i, rfl, q⟩ := q1
  obtain ⟨t, rfl⟩ := r1
  exact ⟨some i, H1, I1, .int i t, q⟩
def SlR (X : Cx) (r : V → Option Int → Option Int → Hp → VK → Prop) : Prop :=
  ∀ (pins : List (Addr × Obj)) (s : Shared) (σ : St) (H : Hp) (x : V) (v vl vu : Value) (lo hi : Option Int) (sl : Addr) (Q : VK), Inv X pins σ H s → RelV x v → s.heap.IsSliceOf sl vl vu .none → IsPart vl lo → IsPart vu hi → r x lo hi H Q →
    ∃ T id, typeLookup (.type T) "__getitem__" = pure (some (.builtin id)) ∧ s.TypeIs v T ∧ wpAny (model X.prog X.w) X.A (getItem v (.ref sl)) (EP X pins σ Q) X.xe s
theorem SlR.or {r r' : V → Option Int → Option Int → Hp → VK → Prop} (h : SlR X r) (h' : SlR X r') : SlR X (fun x lo hi H Q => r x lo hi H Q ∨ r' x lo hi H Q) := by
  intro pins s σ H x v vl vu lo hi sl Q I rx hs pl pu q
  rcases q with q | q
  · exact h pins s σ H x v vl vu lo hi sl Q I rx hs pl pu q
  · exact h' pins s σ H x v vl vu lo hi sl Q I rx hs pl pu q
def tSl (r : V → Option Int → Option Int → Hp → VK → Prop) (te : TE) (tl th : TO) : TE := fun σ H Q => te σ H fun x H1 => tl σ H1 fun l H2 => th σ H2 fun u H3 => r x l u H3 Q
theorem pe_slice {r : V → Option Int → Option Int → Hp → VK → Prop} (hr : SlR X r) (he : PE X e te) (hl : PO X lo tl) (hu : PO X hi th) : PE X (.Subscript e (.Slice lo hi none p2) pos) (tSl r te tl th) := by
  intro pins s σ H Q I h
  refine Subscript_ (thn (he pins s σ H _ I h) fun v s1 ⟨x, H1, I1, r1, q1⟩ => ?_)
  refine wpAny_Slice (thn (hl pins s1 σ H1 _ I1 q1) fun vl s2 ⟨l, H2, I2, pl, q2⟩ => thn (hu pins s2 σ H2 _ I2 q2) fun vu s3 ⟨u, H3, I3, pu, q3⟩ => ?_)
  rw [evalPart_none]
  refine wpAny_pure ?_
  have I4 : Inv X pins σ H3 { s3 with heap := s3.heap.push { cls := .type "slice", data := .fields #[vl, vu, .none] } } := I3.kept (t' := s3.toks) fun b ob q => Heap.get?_push_of_some _ q
  obtain ⟨T, id, hT, ht, hg⟩ := hr pins { s3 with heap := s3.heap.push { cls := .type "slice", data := .fields #[vl, vu, .none] } } σ H3 x v vl vu l u s3.heap.objs.size Q I4 r1 (Heap.IsSliceOf.new ..) pl pu q3
  show wpAny (model X.prog X.w) X.A (subscriptTail e (.Slice lo hi none p2) v (.ref s3.heap.objs.size)) (EP X pins σ Q) X.xe { s3 with heap := s3.heap.push { cls := .type "slice", data := .fields #[vl, vu, .none] } }
  exact tail_any (ops := [.ref s3.heap.objs.size, v]) ht hT hg (by with_unfolding_all rfl)
def cutV (xs : List V) (lo hi : Option Int) : List V := (xs.drop (HT.sIx xs.length 0 lo)).take (HT.sIx xs.length xs.length hi - HT.sIx xs.length 0 lo)
theorem cutV_length (xs : List V) (lo hi : Option Int) : (cutV xs lo hi).length ≤ xs.length := by
  unfold cutV
  rw [List.length_take, List.length_drop]
  omega
def rSlT (K : PySem.W.Frag) : V → Option Int → Option Int → Hp → VK → Prop := fun x lo hi H Q => ∃ a xs, x = .ref a ∧ SqT K H a xs ∧
  ¬ (HT.sIx xs.length 0 lo = 0 ∧ HT.sIx xs.length xs.length hi = xs.length) ∧ ∀ p, H p = none → Q (.ref p) (upd H p (.tup (cutV xs lo hi)))
theorem sl_tup : SlR X (rSlT X.K) := by
  intro pins s σ H x v vl vu lo hi sl Q I rx hs pl pu h
  obtain ⟨a, xs, rfl, hx, hw, q⟩ := h
  cases rx
  obtain ⟨its, r, ht, hz⟩ := I.tuple hx
  have hlen : its.toArray.size = xs.length := by rw [List.size_toArray]; exact r.length.symm
  refine ⟨"tuple", _, PyProof.Rows.slot_tuple_getitem.lookup, ht.typeIs, ?_⟩
  refine HT.getItem_tuple_cut ht hs pl pu (by rw [hlen]; exact hw) ?_ (by rw [hlen]; exact hz)
  rw [hlen]
  refine ⟨.ref s.heap.objs.size, _, I.laid (t' := s.toks) (o := .tup (cutV xs lo hi)) (fun b ob q => Heap.get?_push_of_some _ q) (Nat.le_refl _) ?_, rfl, q _ (I.hok.fresh (Nat.le_refl _))⟩
  exact ⟨Nat.le_trans (cutV_length xs lo hi) hz, _, (r.drop (HT.sIx xs.length 0 lo)).take (HT.sIx xs.length xs.length hi - HT.sIx xs.length 0 lo), IsTup.new _ _⟩
def rCatT (K : PySem.W.Frag) : R2 := fun x y H Q => ∃ a b xs ys, x = .ref a ∧ y = .ref b ∧ SqT K H a xs ∧ SqT K H b ys ∧ xs ≠ [] ∧ xs.length + ys.length ≤ sizeLine ∧
  (ys = [] → Q (.ref a) H) ∧ (ys ≠ [] → ∀ p, H p = none → Q (.ref p) (upd H p (.tup (xs ++ ys))))
theorem Vals.nil_iff {xs : List V} {us : List Value} (r : Vals xs us) : us = [] ↔ xs = [] := by
  cases r with
  | nil => simp
  | cons _ _ => simp
theorem op_catT : OpR X (binaryOp .Add) (rCatT X.K) := by
  intro pins s σ H x y v u Q I rx ry h
  obtain ⟨a, b, xs, ys, rfl, rfl, ha, hb, hx, hz, q1, q2⟩ := h
  cases rx
  cases ry
  obtain ⟨its, r1, p1, _⟩ := I.tuple ha
  obtain ⟨its2, r2, p2, _⟩ := I.tuple hb
  refine HT.cat_tup p1 p2 (fun z => hx (r1.nil_iff.mp z)) (fun z => ⟨.ref a, H, I, rfl, q1 (r2.nil_iff.mp z)⟩) (fun z => ?_) (by rw [← r1.length, ← r2.length]; exact hz)
  refine ⟨.ref s.heap.objs.size, _, I.laid (t' := s.toks) (o := .tup (xs ++ ys)) (fun b ob q => Heap.get?_push_of_some _ q) (Nat.le_refl _) ?_, rfl, q2 (fun w => z (r2.nil_iff.mpr w)) _ (I.hok.fresh (Nat.le_refl _))⟩
  exact ⟨by rw [List.length_append]; exact hz, _, r1.append r2, IsTup.new _ _⟩
end
end L2
namespace L2
open PySem PySem.Spec PyProof.Rows
def ixN (n : Nat) (i : Int) : Option Nat := if 0 ≤ i then (if i < n then some i.toNat else none) else if -(n : Int) ≤ i then some (i + n).toNat else none
def atI {α : Type} (xs : List α) (i : Int) : Option α := (ixN xs.length i).bind fun j => xs[j]?
theorem ixN_seq {n : Nat} {i : Int} {j : Nat} (h : ixN n i = some j) : seqIndex? i n = some j ∧ j < n ∧ -(n : Int) ≤ i ∧ i < n := by
  unfold ixN at h
  by_cases h0 : 0 ≤ i
  · rw [if_pos h0] at h
    by_cases h1 : i < n
    · rw [if_pos h1] at h
      have e : i.toNat = j := Option.some.inj h
      exact ⟨by rw [seqIndex_of h0 h1, e], by omega, by omega, h1⟩
    · rw [if_neg h1] at h; cases h
  · rw [if_neg h0] at h
    by_cases h1 : -(n : Int) ≤ i
    · rw [if_pos h1] at h
      have e : (i + n).toNat = j := Option.some.inj h
      exact ⟨by rw [seqIndex_neg (by omega) h1, e], by omega, h1, by omega⟩
    · rw [if_neg h1] at h; cases h
theorem atI_get {α : Type} {xs : List α} {i : Int} {v : α} (h : atI xs i = some v) : ∃ j, seqIndex? i xs.length = some j ∧ xs[j]? = some v ∧ j < xs.length ∧ -(xs.length : Int) ≤ i ∧ i < xs.length := by
  unfold atI at h
  cases e : ixN xs.length i with
  | none => rw [e] at h; cases h
  | some j =>
    rw [e] at h
    obtain ⟨h1, h2, h3, h4⟩ := ixN_seq e
    exact ⟨j, h1, h, h2, h3, h4⟩
theorem atI_nat {α : Type} {xs : List α} {j : Nat} {v : α} (h : xs[j]? = some v) : atI xs (j : Int) = some v := by
  have hj : j < xs.length := (List.getElem?_eq_some_iff.mp h).1
  have e : ixN xs.length (j : Int) = some j := by
    unfold ixN
    rw [if_pos (by omega), if_pos (by omega)]; simp
  unfold atI; rw [e]; exact h
theorem atI_last {α : Type} (xs : List α) (v : α) : atI (xs ++ [v]) (-1) = some v := by
  have hl : (xs ++ [v]).length = xs.length + 1 := by simp
  have e : ixN (xs ++ [v]).length (-1) = some xs.length := by
    unfold ixN
    rw [hl, if_neg (by decide), if_pos (by omega)]
    congr 1
    omega
  unfold atI
  rw [e]
  show (xs ++ [v])[xs.length]? = some v
  simp
def PlainIx (b : Expr) : Prop := ∀ o i, subscripted b false o i = operate [o, i] (getItem o i)
def IxR (X : Cx) (r : R2) : Prop :=
  ∀ (value slice : Expr) (pins : List (Addr × Obj)) (s : Shared) (σ : St) (H : Hp) (x y : V) (v u : Value) (Q : VK), Inv X pins σ H s → RelV x v → RelV y u → r x y H Q →
    subscripted slice false v u = operate [v, u] (getItem v u) → wpAny (model X.prog X.w) X.A (subscriptTail value slice v u) (EP X pins σ Q) X.xe s
def MtR (X : Cx) (id : String) (r : V → List V → Hp → VK → Prop) : Prop :=
  ∀ (pins : List (Addr × Obj)) (s : Shared) (σ : St) (H : Hp) (x : V) (xs : List V) (v : Value) (us : List Value) (Q : VK), Inv X pins σ H s → RelV x v → Vals xs us → r x xs H Q →
    wpAny (model X.prog X.w) X.A (call (.builtin id) (v :: us)) (EP X pins σ Q) X.xe s
section
variable {X : Cx} {a b : Expr} {ta tb : TE} {pos : Pos}
theorem IxR.or {r r' : R2} (h : IxR X r) (h' : IxR X r') : IxR X (fun x y H Q => r x y H Q ∨ r' x y H Q) := by
  intro value slice pins s σ H x y v u Q I rx ry q hs
  rcases q with q | q
  · exact h value slice pins s σ H x y v u Q I rx ry q hs
  · exact h' value slice pins s σ H x y v u Q I rx ry q hs
theorem MtR.or {id : String} {r r' : V → List V → Hp → VK → Prop} (h : MtR X id r) (h' : MtR X id r') : MtR X id (fun x xs H Q => r x xs H Q ∨ r' x xs H Q) := by
  intro pins s σ H x xs v us Q I rx rs q
  rcases q with q | q
  · exact h pins s σ H x xs v us Q I rx rs q
  · exact h' pins s σ H x xs v us Q I rx rs q
theorem pe_ix {r : R2} (hr : IxR X r) (ha : PE X a ta) (hb : PE X b tb) (hs : PlainIx b) : PE X (.Subscript a b pos) (tOp r ta tb) := by
  intro pins s σ H Q I h
  exact Subscript_ (binT ha hb I h fun v u s2 x y H2 I2 rx ry q => hr a b pins s2 σ H2 x y v u Q I2 rx ry q (hs _ _))
def rIxL (K : PySem.W.Frag) : R2 := fun x y H Q => ∃ p xs i v, x = .ref p ∧ y = .int i ∧ SqL K H p xs ∧ atI xs i = some v ∧ Q v H
def rIxT (K : PySem.W.Frag) : R2 := fun x y H Q => ∃ p xs i v, x = .ref p ∧ y = .int i ∧ SqT K H p xs ∧ atI xs i = some v ∧ Q v H
theorem ix_list : IxR X (rIxL X.K) := by
  intro value slice pins s σ H x y v u Q I rx ry h hs
  obtain ⟨p, xs, i, z, rfl, rfl, hq, he, q⟩ := h
  cases rx
  obtain ⟨t, rfl⟩ := ry
  obtain ⟨its, r, pl, hz⟩ := I.list hq
  obtain ⟨j, h1, h2, h3, h4, h5⟩ := atI_get he
  obtain ⟨w, ew, rw'⟩ := r.get h2
  have hl := r.length
  have hn := line63
  have fin : EP X pins σ Q w s := ⟨z, H, I, rw', q⟩
  by_cases h0 : 0 ≤ i
  · have hj : i.toNat = j := by
      rw [seqIndex_of h0 h5] at h1
      exact Option.some.inj h1
    exact item_listR pl.isList h0 (by omega) (by rw [hj]; simpa using ew) fin hs
  · have hj : (i + (its.toArray.size : Int)).toNat = j := by
      rw [seqIndex_neg (by omega) h4] at h1
      rw [List.size_toArray, ← hl]
      exact Option.some.inj h1
    exact subscriptTail_builtinR (x := w) pl.isList.typeIs slot_list_getitem.lookup
      (wpAny_getItem_list_neg (Q := fun r s' => r = w ∧ EP X pins σ Q r s') pl.isList (by omega) (by rw [List.size_toArray] <;> omega) (by omega) (by rw [hj]; simpa using ew) ⟨rfl, fin⟩) hs
theorem ix_tup : IxR X (rIxT X.K) := by
  intro value slice pins s σ H x y v u Q I rx ry h hs
  obtain ⟨p, xs, i, z, rfl, rfl, hq, he, q⟩ := h
  cases rx
  obtain ⟨t, rfl⟩ := ry
  obtain ⟨its, r, pl, hz⟩ := I.tuple hq
  obtain ⟨j, h1, h2, h3, h4, h5⟩ := atI_get he
  obtain ⟨w, ew, rw'⟩ := r.get h2
  have hl := r.length
  have hn := line63
  have fin : EP X pins σ Q w s := ⟨z, H, I, rw', q⟩
  exact subscriptTail_builtinR (x := w) pl.typeIs slot_tuple_getitem.lookup
    (getItem_tuple (j := j) (Q := fun r s' => r = w ∧ EP X pins σ Q r s') pl (by omega) (by omega) (by rw [List.size_toArray, ← hl]; exact h1) (by simpa using ew) ⟨rfl, fin⟩) hs
theorem mapSeq_set (its : List Value) (n j : Nat) (u : Value) : Obj.mapSeq (·.setIfInBounds j u) { cls := .type "list", data := .seq its.toArray n } = { cls := .type "list", data := .seq (its.set j u).toArray n } := by
  simp [Obj.mapSeq]
theorem Inv.lst {pins : List (Addr × Obj)} {σ : St} {H : Hp} {s : Shared} {p : Addr} {xs : List V} (I : Inv X pins σ H s) (h : H p = some (.lst xs)) :
    ∃ (its : List Value) (n : Nat), Vals xs its ∧ s.heap.get? p = some { cls := .type "list", data := .seq its.toArray n } ∧ xs.length ≤ sizeLine := by
  obtain ⟨z, its, n, r, e⟩ := I.hok p _ h
  exact ⟨its, n, r, e, z⟩
theorem Inv.lstUpd {pins : List (Addr × Obj)} {σ : St} {H : Hp} {s : Shared} {p : Addr} {xs ys : List V} {its its' : List Value} {n n' : Nat} {f : Obj → Obj} (I : Inv X pins σ H s) (h : H p = some (.lst xs))
    (ho : s.heap.get? p = some { cls := .type "list", data := .seq its.toArray n }) (hf : f { cls := .type "list", data := .seq its.toArray n } = { cls := .type "list", data := .seq its'.toArray n' }) (r : Vals ys its') (hz : ys.length ≤ sizeLine) (t : Nat) :
    Inv X pins σ (upd H p (.lst ys)) { s with heap := s.heap.update p f, toks := t } := by
  have e : (s.heap.update p f).get? p = some { cls := .type "list", data := .seq its'.toArray n' } := by
    rw [Heap.get?_update_self f ho (by rw [hf] <;> rfl), hf]
  refine I.write (x := p) (e := p) (by rw [h]; trivial) (.inl rfl) (fun b u hb q => (Heap.get?_update_other _ _ (Ne.symm hb)).trans q) ⟨_, e⟩ ?_
  exact ⟨hz, its', n', r, e⟩
def rSetL : V → V → V → Hp → (Hp → Prop) → Prop := fun o i v H Q => ∃ p xs k j, o = .ref p ∧ i = .int k ∧ H p = some (.lst xs) ∧ ixN xs.length k = some j ∧ Q (upd H p (.lst (xs.set j v)))
theorem set_list : PSet X rSetL := by
  intro pins s σ H o i v ov iv u Q I ro ri rv h
  obtain ⟨p, xs, k, j, rfl, rfl, hp, hj, q⟩ := h
  cases ro
  obtain ⟨t, rfl⟩ := ri
  obtain ⟨its, n, r, ho, hz⟩ := I.lst hp
  obtain ⟨h1, h2, h3, h4⟩ := ixN_seq hj
  have hl := r.length
  have hn := line63
  have I' : Inv X pins σ (upd H p (.lst (xs.set j v))) { s with heap := s.heap.update p (Obj.mapSeq (·.setIfInBounds j u)) } :=
    I.lstUpd hp ho (mapSeq_set its n j u) (r.set rv j) (by rw [List.length_set]; exact hz) s.toks
  by_cases h0 : 0 ≤ k
  · have hk : k.toNat = j := by
      rw [seqIndex_of h0 h4] at h1
      exact Option.some.inj h1
    exact PySem.W.ki_setAt ho h0 (by omega) (by rw [List.size_toArray, ← hl]; exact h4) (by rw [hk]; exact ⟨_, I', q⟩)
  · have hk : (k + (its.toArray.size : Int)).toNat = j := by
      rw [seqIndex_neg (by omega) h3] at h1
      rw [List.size_toArray, ← hl]
      exact Option.some.inj h1
    exact PySem.W.ki_setBack ho (by omega) (by rw [List.size_toArray, ← hl]; exact h3) (by omega) (by rw [hk]; exact ⟨_, I', q⟩)
theorem slice_bounds (lo hi : Option Int) (n : Nat) : (sliceBounds lo hi none n).1 = ((HT.sIx n 0 lo : Nat) : Int) ∧ (sliceBounds lo hi none n).2.1 = ((HT.sIx n n hi : Nat) : Int) ∧ (sliceBounds lo hi none n).2.2 = 1 := by
  refine ⟨?_, ?_, rfl⟩
  · cases lo with
    | none => simp [sliceBounds, HT.sIx]
    | some i =>
      simp only [sliceBounds, HT.sIx, Option.getD_none, show (1 : Int) > 0 by decide, if_true]
      by_cases h : i < 0
      · simp only [h, if_true] <;> omega
      · simp only [h, if_false] <;> omega
  · cases hi with
    | none => simp [sliceBounds, HT.sIx]
    | some i =>
      simp only [sliceBounds, HT.sIx, Option.getD_none, show (1 : Int) > 0 by decide, if_true]
      by_cases h : i < 0
      · simp only [h, if_true] <;> omega
      · simp only [h, if_false] <;> omega
theorem slicePick_cut (its : List Value) (lo hi : Option Int) : slicePick its.toArray lo hi none = ((its.drop (HT.sIx its.length 0 lo)).take (HT.sIx its.length its.length hi - HT.sIx its.length 0 lo)).toArray := by
  obtain ⟨h1, h2, h3⟩ := slice_bounds lo hi its.toArray.size
  unfold slicePick
  rw [h1, h2, h3]
  simp only [sliceRange_one, pick_run, List.size_toArray] <;> rfl
def rSlL (K : PySem.W.Frag) : V → Option Int → Option Int → Hp → VK → Prop := fun x lo hi H Q => ∃ a xs, x = .ref a ∧ SqL K H a xs ∧ ∀ p, H p = none → Q (.ref p) (upd H p (.lst (cutV xs lo hi)))
theorem sl_list : SlR X (rSlL X.K) := by
  intro pins s σ H x v vl vu lo hi sl Q I rx hs pl pu h
  obtain ⟨a, xs, rfl, hx, q⟩ := h
  cases rx
  obtain ⟨its, r, ht, hz⟩ := I.list hx
  have hlen := r.length
  refine ⟨"list", _, slot_list_getitem.lookup, ht.isList.typeIs, ?_⟩
  refine wpAny_getItem_list_slice ht.isList hs pl pu .none (by simp) ?_ (by rw [List.size_toArray] <;> omega)
  rw [slicePick_cut, ← hlen]
  refine ⟨.ref s.heap.objs.size, _, I.laid (t' := s.toks) (o := .lst (cutV xs lo hi)) (fun b ob q => Heap.get?_push_of_some _ q) (Nat.le_refl _) ?_, rfl, q _ (I.hok.fresh (Nat.le_refl _))⟩
  exact ⟨Nat.le_trans (cutV_length xs lo hi) hz, _, 0, (r.drop (HT.sIx xs.length 0 lo)).take (HT.sIx xs.length xs.length hi - HT.sIx xs.length 0 lo), Heap.get?_push_size _ rfl⟩
theorem call_len_seq : CallR X (.builtin "len") (fun xs H Q => ∃ p ys, xs = [.ref p] ∧ (SqL X.K H p ys ∨ SqT X.K H p ys) ∧ Q (.int ys.length) H) := by
  intro pins s σ H xs us Q I r h
  obtain ⟨p, ys, rfl, hq, q⟩ := h
  obtain ⟨u, rfl, rx⟩ := vals1 r
  cases rx
  have hn := line63
  rcases hq with hq | hq
  · obtain ⟨its, r', pl, hz⟩ := I.list hq
    have hlen := r'.length
    exact Calls.call_len_list pl.isList (by simp only [List.size_toArray] <;> omega) ⟨.int ys.length, H, I.tok _, ⟨s.toks + 1, by rw [List.size_toArray, hlen]⟩, q⟩
  · obtain ⟨its, r', pl, hz⟩ := I.tuple hq
    have hlen := r'.length
    exact len_tuple pl (by simp only [List.size_toArray] <;> omega) ⟨.int ys.length, H, I.tok _, ⟨s.toks + 1, by rw [List.size_toArray, hlen]⟩, q⟩
theorem call_len_str : CallR X (.builtin "len") (fun xs H Q => ∃ z, xs = [.str z] ∧ z.length ≤ sizeLine ∧ Q (.int z.length) H) := by
  intro pins s σ H xs us Q I r h
  obtain ⟨z, rfl, hz, q⟩ := h
  obtain ⟨u, rfl, t, rfl⟩ := vals1 r
  have hn := line63
  exact len_str (by omega) ⟨.int z.length, H, I.tok _, ⟨_, rfl⟩, q⟩
theorem CallR.or {f : Value} {r r' : List V → Hp → VK → Prop} (h : CallR X f r) (h' : CallR X f r') : CallR X f (fun xs H Q => r xs H Q ∨ r' xs H Q) := by
  intro pins s σ H xs us Q I rs q
  rcases q with q | q
  · exact h pins s σ H xs us Q I rs q
  · exact h' pins s σ H xs us Q I rs q
theorem call_list_of : CallR X (.type "list") (fun xs H Q => ∃ p ys, xs = [.ref p] ∧ (SqL X.K H p ys ∨ SqT X.K H p ys) ∧ ∀ l, H l = none → Q (.ref l) (upd H l (.lst ys))) := by
  intro pins s σ H xs us Q I r h
  obtain ⟨p, ys, rfl, hq, q⟩ := h
  obtain ⟨u, rfl, rx⟩ := vals1 r
  cases rx
  have fin : ∀ (its : List Value), Vals ys its → ys.length ≤ sizeLine → ∀ (h' : Heap) (c' : Nat), (∀ b o', s.heap.get? b = some o' → h'.get? b = some o') →
      h'.get? s.heap.objs.size = some { cls := .type "list", dict := none, data := .seq its.toArray c', slots := #[] } → EP X pins σ Q (.ref s.heap.objs.size) { s with heap := h' } := fun its r' hz h' c' kp e =>
    ⟨.ref s.heap.objs.size, _, I.laid (t' := s.toks) kp (Nat.le_refl _) (show ObjOk X.prog X.w _ h' _ (.lst ys) from ⟨hz, its, c', r', e⟩), rfl, q _ (I.hok.fresh (Nat.le_refl _))⟩
  rcases hq with hq | hq
  · obtain ⟨its, r', pl, hz⟩ := I.list hq
    have hlen := r'.length
    obtain ⟨o, ho, hc, n, hd⟩ := pl.isList
    exact call_list_seq p (.inl rfl) ho hc hd (fun h' c' kp e => fin its r' hz h' c' kp e) (by simp only [List.size_toArray] <;> omega)
  · obtain ⟨its, r', pl, hz⟩ := I.tuple hq
    have hlen := r'.length
    obtain ⟨o, ho, hc, n, hd⟩ := pl
    exact call_list_seq p (.inr rfl) ho hc hd (fun h' c' kp e => fin its r' hz h' c' kp e) (by simp only [List.size_toArray] <;> omega)
theorem call_tuple_of : CallR X (.type "tuple") (fun xs H Q => ∃ p ys, xs = [.ref p] ∧ ((SqL X.K H p ys ∧ ∀ l, H l = none → Q (.ref l) (upd H l (.tup ys))) ∨ (SqT X.K H p ys ∧ Q (.ref p) H))) := by
  intro pins s σ H xs us Q I r h
  obtain ⟨p, ys, rfl, h⟩ := h
  obtain ⟨u, rfl, rx⟩ := vals1 r
  cases rx
  rcases h with ⟨hq, q⟩ | ⟨hq, q⟩
  · obtain ⟨its, r', pl, hz⟩ := I.list hq
    have hlen := r'.length
    refine call_tuple_list pl.isList (fun h' kp => ?_) (by simp only [List.size_toArray] <;> omega)
    have I1 : Inv X pins σ H { s with heap := h' } := I.kept (t' := s.toks) kp
    have I2 : Inv X pins σ (upd H h'.objs.size (.tup ys)) { s with heap := h'.push { cls := .type "tuple", data := .seq its.toArray } } :=
      I1.laid (t' := s.toks) (fun b o e => Heap.get?_push_of_some _ e) (Nat.le_refl _) (show ObjOk X.prog X.w _ _ _ (.tup ys) from ⟨hz, its, r', IsTup.new _ _⟩)
    exact ⟨.ref h'.objs.size, _, I2, rfl, q _ (I1.hok.fresh (Nat.le_refl _))⟩
  · obtain ⟨its, r', pl, hz⟩ := I.tuple hq
    exact call_tuple_same pl ⟨.ref p, H, I, rfl, q⟩
def tyV (K : PySem.W.Frag) (T : String) (x : V) (H : Hp) : Prop := match x with
  | .str _ => T = "str"
  | .int _ => T = "int"
  | .ref p => (T = "list" ∧ ∃ xs, SqL K H p xs) ∨ (T = "tuple" ∧ ∃ o, K.lookup p = some o ∧ o.cls = .type "tuple" ∧ o.dict = none) ∨
      (T = "dict" ∧ ((∃ kvs, H p = some (.dK kvs)) ∨ ∃ kvs, H p = some (.dT kvs))) ∨ (T = "set" ∧ ∃ S n, H p = some (.set S n))
  | _ => False
theorem tyV_is {pins : List (Addr × Obj)} {σ : St} {H : Hp} {s : Shared} {T : String} {x : V} {v : Value} (I : Inv X pins σ H s) (r : RelV x v) (ty : tyV X.K T x H) :
    s.TypeIs v T ∧ ∀ a, v = .ref a → ∃ ob, s.heap.get? a = some ob ∧ ob.dict = none := by
  cases x with
  | str z =>
    obtain ⟨t, rfl⟩ := r
    cases (show T = "str" from ty)
    exact ⟨typeIs_str s z t, fun _ e => nomatch e⟩
  | int i =>
    obtain ⟨t, rfl⟩ := r
    cases (show T = "int" from ty)
    exact ⟨typeIs_int s i t, fun _ e => nomatch e⟩
  | ref p =>
    cases r
    rcases ty with ⟨rfl, xs, hq⟩ | ⟨rfl, o, hk, hc, hd⟩ | ⟨rfl, hk⟩ | ⟨rfl, S, n, hk⟩
    · obtain ⟨its, _, pl, _⟩ := I.list hq
      refine ⟨pl.isList.typeIs, fun a e => ?_⟩
      cases e
      obtain ⟨o, n, e, c, hd, _⟩ := pl
      exact ⟨o, e, hd⟩
    · refine ⟨⟨o, I.kIn p o hk, hc⟩, fun a e => ?_⟩
      cases e
      exact ⟨o, I.kIn _ o hk, hd⟩
    · have z : ∃ o, s.heap.get? p = some o ∧ o.ExactDict := by
        rcases hk with ⟨kvs, hk⟩ | ⟨kvs, hk⟩
        · obtain ⟨_, _, _, _, o, _, _, e, ex, _⟩ := I.hok p _ hk
          exact ⟨o, e, ex⟩
        · obtain ⟨_, _, _, _, o, _, _, e, ex, _⟩ := I.hok p _ hk
          exact ⟨o, e, ex⟩
      obtain ⟨o, e, ex⟩ := z
      refine ⟨⟨o, e, ex.1⟩, fun a e2 => ?_⟩
      cases e2
      exact ⟨o, e, ex.2.1⟩
    · obtain ⟨o, _, _, _, e, ex, _⟩ := I.hok p _ hk
      refine ⟨⟨o, e, ex.1⟩, fun a e2 => ?_⟩
      cases e2
      exact ⟨o, e, ex.2.1⟩
  | _ => exact False.elim ty
def tBM (K : PySem.W.Frag) (T : String) (r : V → List V → Hp → VK → Prop) (to : TE) (t : TA) : TE := fun σ H Q => to σ H fun x H1 => tyV K T x H1 ∧ t σ H1 fun xs H2 => r x xs H2 Q
variable {o e : Expr} {es : List Expr} {to : TE} {t : TA} {name : Str} {apos cpos : Pos} {T id : String} {r : V → List V → Hp → VK → Prop}
theorem pe_bm (pa : PlainAttrs T) (slot : Slot T name id) (hty : typeOf (.builtin id) = pure (.type "method_descriptor")) (hm : MtR X id r) (ho : PE X o to) (ha : PA X (e :: es) t)
    (hbase : attributeBase o name X.env (eval o X.env) = eval o X.env := by rfl)
    (hfew : ((backTo cpos (starEach (e :: es) X.env)).all (fun x => !x.1) && (backToKw cpos (keywordEach [] X.env)).all (fun x => x.1.isSome)
      && decide ((e :: es).length + ([] : List Keyword).length + (if ([] : List Keyword).isEmpty then 0 else 1) < 30)) = true := by rfl)
    (hline : (apos.endLine == cpos.line) = true := by rfl) (hs : starEach (e :: es) X.env = (false, eval e X.env) :: starEach es X.env := by rfl) (hplain : (backTo cpos (starEach es X.env)).any (·.1) = false := by rfl) :
    PE X (.Call (.Attribute o name apos) (e :: es) [] cpos) (tBM X.K T r to t) := by
  intro pins s σ H Q I h
  refine wpAny_Call_method_late hbase hfew hline rfl (thn (ho pins s σ H _ I h) fun v s1 ⟨x, H1, I1, r1, ty, q1⟩ => ?_)
  obtain ⟨h1, h2⟩ := tyV_is I1 r1 ty
  refine ⟨T, id, pa, slot, hty, h1, h2, ?_⟩
  have hA := ha cpos pins s1 σ H1 _ I1 q1
  rw [hs] at hA ⊢
  refine Calls.callWith_builtin (by show (false || (backTo cpos (starEach es X.env)).any (·.1)) = false; rw [hplain] <;> rfl) (Calls.evalArgs_plain ?_)
  exact thn hA fun us s2 ⟨vs, H2, I2, r2, q2⟩ => hm pins s2 σ H2 x vs v us Q I2 r1 r2 q2
/- xs.append(e), list.index on a module's tuple .. are MtR facts of 06m -/
end
end L2
namespace L2
open PySem PySem.Spec PyProof.Rows
def MtM (X : Cx) (id : String) (r : V → List V → Hp → VK → Prop) : Prop :=
  ∀ (pins : List (Addr × Obj)) (s : Shared) (σ : St) (H : Hp) (x : V) (xs : List V) (v : Value) (us : List Value) (Q : VK), Inv X pins σ H s → RelV x v → Vals xs us → r x xs H Q →
    wpAny (model X.prog X.w) X.A (call (.builtin id) (v :: us)) (EP X pins σ Q) X.xe s
theorem Vals.one : ∀ {x : V} {us : List Value}, Vals [x] us → ∃ u, us = [u] ∧ RelV x u
  | _, _, .cons r .nil => ⟨_, rfl, r⟩
theorem Vals.two : ∀ {x y : V} {us : List Value}, Vals [x, y] us → ∃ u v, us = [u, v] ∧ RelV x u ∧ RelV y v
  | _, _, _, .cons r (.cons q .nil) => ⟨_, _, rfl, r, q⟩
theorem Vals.zero : ∀ {us : List Value}, Vals [] us → us = []
  | _, .nil => rfl
theorem Vals.rep {xs : List V} {us : List Value} (h : Vals xs us) : ∀ k : Nat, Vals (List.replicate k xs).flatten (List.replicate k us).flatten
  | 0 => .nil
  | k + 1 => by
    rw [List.replicate_succ, List.replicate_succ, List.flatten_cons, List.flatten_cons]
    exact Vals.append h (Vals.rep h k)
theorem foldl_rep (its : List Value) : ∀ (k : Nat) (acc : List Value),
    List.foldl (fun x1 x2 => x1 ++ x2) acc.toArray (List.replicate k its.toArray) = (acc ++ (List.replicate k its).flatten).toArray
  | 0, acc => by simp
  | k + 1, acc => by
    have e : acc.toArray ++ its.toArray = (acc ++ its).toArray := by simp
    have e2 : (acc ++ its) ++ (List.replicate k its).flatten = acc ++ (List.replicate (k + 1) its).flatten := by
      rw [List.replicate_succ, List.flatten_cons, List.append_assoc]
    rw [← e2, ← foldl_rep its k (acc ++ its), ← e, List.replicate_succ, List.foldl_cons]
section
variable {X : Cx} {pins : List (Addr × Obj)} {σ : St} {H : Hp} {s : Shared} {l b : Addr} {xs ys zs : List V}
theorem Inv.lset {its its' : List Value} {n : Nat} {f : Array Value → Array Value} {t' : Nat} (I : Inv X pins σ H s) (hH : H l = some (.lst xs))
    (e : s.heap.get? l = some { cls := .type "list", data := .seq its.toArray n }) (hf : f its.toArray = its'.toArray) (hv : Vals ys its') (hz : ys.length ≤ sizeLine) :
    Inv X pins σ (upd H l (.lst ys)) { s with heap := s.heap.update l (Obj.mapSeq f), toks := t' } := by
  have q := PySem.IsL.update e f
  rw [hf] at q
  refine I.write (x := l) (e := l) (by rw [hH]; exact trivial) (.inl rfl) (fun b' u hb hu => (Heap.get?_update_other s.heap (Obj.mapSeq f) (Ne.symm hb)).trans hu) ⟨_, q⟩ ?_
  exact ⟨hz, its', _, hv, q⟩
theorem Inv.lnew {its : List Value} {t' : Nat} (I : Inv X pins σ H s) (hv : Vals ys its) (hz : ys.length ≤ sizeLine) :
    Inv X pins σ (upd H s.heap.objs.size (.lst ys)) { s with heap := s.heap.push { cls := .type "list", data := .seq its.toArray }, toks := t' } :=
  I.laid (fun _ _ q => Heap.get?_push_of_some _ q) (Nat.le_refl _) ⟨hz, its, 0, hv, Heap.get?_push_size _ rfl⟩
theorem Inv.fresh (I : Inv X pins σ H s) : H s.heap.objs.size = none := I.hok.fresh (Nat.le_refl _)
theorem Inv.lstM (I : Inv X pins σ H s) (hH : H l = some (.lst xs)) : xs.length ≤ sizeLine ∧ ∃ (its : List Value) (n : Nat), Vals xs its ∧ xs.length = its.length ∧ s.heap.get? l = some { cls := .type "list", data := .seq its.toArray n } := by
  obtain ⟨z, its, n, r, e⟩ := I.hok l _ hH
  exact ⟨z, its, n, r, r.length, e⟩
theorem notLongL {n : Nat} (h : n ≤ sizeLine) : Builtin.List.listTooLong n = false := by
  unfold Builtin.List.listTooLong
  exact decide_eq_false (by omega)
end
section
variable {X : Cx}
def rAppend : V → List V → Hp → VK → Prop := fun x vs H Q => ∃ l xs y, x = .ref l ∧ vs = [y] ∧ H l = some (.lst xs) ∧ xs.length < sizeLine ∧ Q .non (upd H l (.lst (xs ++ [y])))
theorem mt_append : MtM X "list.append" rAppend := by
  intro pins s σ H x vs v us Q I rx rv h
  obtain ⟨l, xs, y, rfl, rfl, hH, hz, q⟩ := h
  cases rx
  obtain ⟨u, rfl, ru⟩ := rv.one
  obtain ⟨z, its, n, r, hl, e⟩ := I.lstM hH
  refine call_meets F.slot_list_append ⟨_, e, rfl⟩ F.entry_list_append (F.args_list_append_2 _ _) (PySem.list_append l its.toArray n u (by rw [List.size_toArray]; omega)) ⟨e, ?_⟩
  refine ⟨.non, _, I.lset (its' := its ++ [u]) hH e (by simp) (r.append (.cons ru .nil)) ?_, rfl, q⟩
  rw [List.length_append, List.length_singleton]
  omega
theorem len_rep {α : Type} (xs : List α) (k : Nat) : (List.replicate k xs).flatten.length = k * xs.length := by
  induction k with
  | zero => simp
  | succ k ih => rw [List.replicate_succ, List.flatten_cons, List.length_append, ih, Nat.succ_mul, Nat.add_comm]
end
section
variable {prog : Program} {w : World} {A : Around} {E : Value → Shared → Prop} {s : Shared}
set_option maxRecDepth 100000 in
end
section
variable {X : Cx}
end
end L2
namespace Att
open PySem PySem.W PySem.Calls PyProof.Rows
theorem ints_of_wellAll {P : Params} {h : Heap} : ∀ (ns : List Int) (vs : List Value), WellAll P h vs (ns.map WData.int) → IntsAre vs ns := by
  intro ns
  induction ns with
  | nil =>
    intro vs w
    rw [List.map_nil] at w
    cases w
    exact .nil
  | cons n ns ih =>
    intro vs w
    rw [List.map_cons] at w
    cases w with
    | cons a b =>
      cases a
      exact .cons _ _ (ih _ b)
theorem script_of {l : OpenLaw} {n : Nat} (hn : l.most = some n) {P : Params} {h : Heap} {args : List WData} {vals : List Value}
    (hpre : l.row.toRowW.claim.pre args = true) (hwl : WellAll P h vals args) :
    ∃ a vs ns, vals = [Value.ref a] ∧ args = [WData.list (ns.map WData.int)] ∧ h.get? a = some { cls := .type "list", data := .seq vs.toArray } ∧ IntsAre vs ns ∧ ns.length ≤ n := by
  have hsh : WShape.hasAll [] args [.list .int] = true := (pre_splitW hpre).1
  have hc : l.pre.holds [] { args := args } = true := (pre_splitW hpre).2
  obtain ⟨d, r, rfl, h1, h2⟩ := hasAllW_cons hsh
  obtain rfl := hasAllW_nil h2
  obtain ⟨xs, rfl, h3⟩ := hasW_list h1
  obtain ⟨ns, rfl⟩ := items_int h3
  have hlen : ns.length ≤ n := by
    unfold OpenLaw.pre at hc
    have h4 : (WTm.not (.lt (.lit (.int (n : Int))) (.len (.arg 0)))).holds [] { args := [.list (ns.map .int)] } = true := by
      have h4 := (holds_andW hc).1
      rw [hn] at h4
      exact h4
    have h5 := condW_of h4 (w_not (w_lt w_lit (w_len_list (w_arg rfl))))
    rw [List.length_map] at h5
    refine Nat.le_of_not_lt fun q => ?_
    have q' : (n : Int) < ((ns.length : Nat) : Int) := by omega
    first
      | (rw [decide_eq_true q'] at h5; exact absurd h5 (by decide))
      | (simp at h5; omega)
  cases hwl with
  | cons w1 w2 =>
    cases w2
    cases w1 with
    | list ho hall => exact ⟨_, _, ns, rfl, rfl, ho, ints_of_wellAll ns _ hall, hlen⟩
theorem post_true (l : OpenLaw) (args : List WData) : l.row.toRowW.claim.post args (.bool true) args = true :=
  postW_of (r := l.row.toRowW) (X := (true == true))
    (show WShape.has [] (.bool true) .bool = true by first | rfl | decide | simp [WShape.has, WShape.arms, WShape.armsAll])
    (show (WTm.eq .res (.lit (.bool true))).value [] { args := args, res := some (.bool true), after := args } = some (.bool (true == true)) from w_eq_bool (w_res rfl) w_lit) rfl
theorem attach_call {l : OpenLaw} {n : Nat} {q : Program} {loose : List Str} {XP : (Str → Option Value) → Heap → Prop} {YP : World → Heap → Prop} {d : DefRec}
    (hn : l.most = some n) (hdf : d.params.defaults = [])
    (call : ∀ (w : World) (s₀ s₁ : Shared) (mg mb : Str → Option Value) (fa : Addr) (o : Obj) (pm cd doc : Value) (a : Addr) (vs : List Value) (ns : List Int),
      Ground q loose [] XP w s₀ mg mb s₁.heap → YP w s₁.heap →
      s₁.heap.get? fa = some o → o.data = .func (docDef d.name d.params d.body d.scope pm cd doc) → s₁.heap.CodeRec cd d.name → mg d.name = some (.ref fa) →
      s₁.heap.get? a = some { cls := .type "list", data := .seq vs.toArray } → IntsAre vs ns → ns.length ≤ n → s₁.gens = #[] →
      codeAny (model l.prog w) callerA (.call (.ref fa) ⟨[.ref a], []⟩) (fun r s' => r = .ok (.ret (.bool true)) ∧ OldK s₁.heap s'.heap ∧ s'.os = s₁.os ∧ AllBare s'.gens) s₁) :
    WalkO q loose XP YP l.row.toRowW d [] (fun f vs => PySem.call f vs) := by
  intro w s₀ s₁ mg mb G Y fa o pm cd doc dV kV ho hd hcd hD hmg hg args vals as hpre hlay hrd hwl hlo
  obtain rfl : dV = .none := Dflts.none hD hdf
  obtain rfl : kV = .none := Dflts.noKw hD
  obtain ⟨a, vs, ns, rfl, rfl, hobj, hints, hlen⟩ := script_of hn hpre hwl
  refine enter_call (codeAny_mono (call w s₀ s₁ mg mb fa o pm cd doc a vs ns G Y ho (fd_plain hd) hcd hmg hobj hints hlen hg) fun r s' hq => ?_)
  obtain ⟨rfl, h2, h3, h4⟩ := hq
  exact ⟨.inl ⟨.bool true, .bool true, [], rfl, fun _ => rfl, .bool true, post_true l _, fun _ => ⟨List.Pairwise.nil, fun _ hm => (nomatch hm)⟩⟩, h2, h3, h4⟩
section
variable {prog : Program} {w : World} {A : Around} {E : Value → Shared → Prop} {s : Shared} {K : Frag}
end
end Att
namespace L2
open PySem PySem.Spec PyProof.Rows
theorem vals_ints : ∀ {vs : List Value} {ns : List Int}, IntsAre vs ns → Vals (ns.map V.int) vs
  | _, _, .nil => .nil
  | _, _, .cons n t h => .cons ⟨t, rfl⟩ (vals_ints h)
def Only (H : Hp) : Prop := ∀ b, H b = none ∨ ∃ o xs, H b = some (.frz o (.lst xs))
theorem law_call {P : Program} {w : World} {K : PySem.W.Frag} {mg mb : Str → Option Value} {CX : CXT} {k : Nat} {fa a : Addr} {fd : FuncData} {x : Str} {sp : Sp} {s₁ : Shared} {vs : List Value} {ns : List Int}
    (KX : K.In s₁.heap) (hns : s₁.heap.Ns mainGlobals mg) (hb : s₁.heap.Ns builtinsNs mb) (hbb : ∀ x : Str, x ≠ "__name__" → mb x = bootBuiltins x) (hlim : s₁.heap.NoLimit) (hg : s₁.gens = #[])
    (ha : s₁.heap.get? a = some { cls := .type "list", data := .seq vs.toArray }) (hi : IntsAre vs ns) (hl : ns.length ≤ sizeLine) (hr : Room k callerA)
    (F : ∀ base : Heap, K.In base → base.Ns mainGlobals mg → FnOk P w K mg base CX k fa fd [x] sp) (hbind : ∀ (s : Shared) (u : Value), BindsTo s fd ⟨[u], []⟩ [(x, u)])
    (hsp : ∀ H : Hp, Only H → SqL K H a (ns.map V.int) → sp [.ref a] H (fun v _ => v = .bl true) fun _ _ _ => False)
    (hCX : ∀ H e s', CX [] H s₁ (fun _ _ _ => False) e s' → False) :
    codeAny (model P w) callerA (.call (.ref fa) ⟨[.ref a], []⟩) (fun r s' => r = .ok (.ret (.bool true)) ∧ OldK s₁.heap s'.heap ∧ s'.os = s₁.os ∧ AllBare s'.gens) s₁ := by
  have rv := vals_ints hi
  have lenV := hi.length
  -- from an abstract heap in which nothing but the script may be tracked
  have core : ∀ H : Hp, Only H → SqL K H a (ns.map V.int) → HOk P w H s₁.heap → (∀ b, H b ≠ none → b = a) → (H a ≠ none → K.lookup a = none) →
      codeAny (model P w) callerA (.call (.ref fa) ⟨[.ref a], []⟩) (fun r s' => r = .ok (.ret (.bool true)) ∧ OldK s₁.heap s'.heap ∧ s'.os = s₁.os ∧ AllBare s'.gens) s₁ := by
    intro H hO hS hok hA hK
    have base_of : ∀ {b : Addr} {o : Obj}, s₁.heap.get? b = some o → H b = none → (hidT s₁.heap H).get? b = some o := fun e n => hidT_get e n
    have noA : ∀ {b : Addr} {o : Obj} {es : Array DictEntry} {ep : Nat}, s₁.heap.get? b = some o → o.data = .dict es ep → H b = none := fun {b o es ep} e d => by
      cases q : H b with
      | none => rfl
      | some u =>
        have e' : b = a := hA b (by rw [q]; simp)
        subst e'
        rw [ha] at e; cases e
        have d' : Data.seq vs.toArray _ = Data.dict es ep := d
        cases d'
    have nsK : ∀ {b : Addr} {m : Str → Option Value}, s₁.heap.Ns b m → (hidT s₁.heap H).Ns b m := fun {b m} ⟨o, es, ep, e, d, r⟩ => ⟨o, es, ep, base_of e (noA e d), d, r⟩
    have hKb : K.In (hidT s₁.heap H) := fun b o e => base_of (KX b o e) (by
      cases q : H b with
      | none => rfl
      | some u =>
        have e' : b = a := hA b (by rw [q]; simp)
        subst e'
        rw [hK (by rw [q]; simp)] at e; cases e)
    have hM : Mod K mg (hidT s₁.heap H) := ⟨hKb, nsK hns, ⟨mb, nsK hb, hbb⟩, let ⟨mc, h1, h2⟩ := hlim; ⟨mc, nsK h1, h2⟩⟩
    have e0 : Env0 P w K mg (hidT s₁.heap H) callerA [] s₁ H := ⟨rfl, hM, fun b o e => of_hidT e, Nat.le_of_eq (hidT_size _ _), trivial, fun b hb => absurd (show b ∈ ([] : List Addr) from hb) (by simp), hok, .of_eq hg⟩
    refine codeAny_mono ((F _ hKb (nsK hns)).run callerA [] s₁ H ⟨[.ref a], []⟩ [.ref a] [.ref a] _ _ hr e0 (hbind s₁ (.ref a)) (.cons rfl .nil) (hsp H hO hS)) fun r s' h => ?_
    cases r with
    | error e => exact (hCX H e s' h).elim
    | ok fl =>
      cases fl with
      | next => exact False.elim h
      | brk => exact False.elim h
      | cont => exact False.elim h
      | ret u =>
        obtain ⟨v, H', os, bare, un, hok', r', q⟩ := h
        have q' : v = .bl true := q
        subst q'
        obtain rfl : u = Value.bool true := r'
        refine ⟨rfl, OldK.of_keep fun b o e => ?_, os, bare⟩
        cases q : H b with
        | none => exact un.keep b o e q (by intro z; exact absurd (show b ∈ ([] : List Addr) from z) (by simp)) (by simp)
        | some u =>
          rcases hO b with z | ⟨ob, xs, z⟩
          · rw [q] at z; cases z
          · have z2 := un.frzs b ob _ z
            obtain ⟨e1, _⟩ := hok b _ z
            obtain ⟨e2, _⟩ := hok' b _ z2
            rw [e] at e1; cases e1
            exact e2
  cases hk : K.lookup a with
  | some o =>
    -- the script is one of the module's own objects
    have e := KX a o hk
    rw [ha] at e
    cases e
    refine core (fun _ => none) (fun _ => .inl rfl) (.inr ⟨_, vs.toArray, _, hk, rfl, rfl, rfl, by rw [List.size_toArray, lenV]; exact hl, by simpa using rv⟩) (fun b u z => by have z' : (none : Option HO) = some u := z; cases z') (fun b z => absurd rfl z) fun z => absurd rfl z
  | none =>
    refine core (fun b => if b = a then some (.frz { cls := .type "list", data := .seq vs.toArray } (.lst (ns.map V.int))) else none) (fun b => ?_) (.inl (.inr ⟨{ cls := .type "list", data := .seq vs.toArray }, if_pos rfl⟩)) (fun b u z => ?_) (fun b z => ?_) fun _ => hk
    · by_cases hb : b = a
      · exact .inr ⟨_, _, if_pos hb⟩
      · exact .inl (if_neg hb)
    · by_cases hb : b = a
      · have z' := (if_pos hb).symm.trans z
        cases z'
        subst hb
        exact ⟨ha, by rw [List.length_map]; exact hl, vs, _, rv, ha⟩
      · have z' := (if_neg hb).symm.trans z
        cases z'
    · by_cases hb : b = a
      · exact hb
      · exact absurd (if_neg hb) z
end L2
namespace L2
open PySem PySem.Spec PyProof.Rows
theorem walk_of {l : PySem.W.OpenLaw} {n k : Nat} {q : Program} {loose : List Str} {XP : (Str → Option Value) → Heap → Prop} {YP : World → Heap → Prop} {d : DefRec} {K : Params → PySem.W.Frag} {CX : World → CXT} {sp : World → Sp} {x : Str}
    (hn : l.most = some n) (hn2 : n ≤ sizeLine) (hdf : d.params.defaults = []) (hr : Room k callerA)
    (hY : ∀ (w : World) (h : Heap), YP w h → (K w.params).In h)
    (F : ∀ (w : World) (mg : Str → Option Value) (fa : Addr) (h : Heap), (K w.params).In h → h.Ns mainGlobals mg → mg d.name = some (.ref fa) →
      ∃ fd : FuncData, (∀ (s : Shared) (u : Value), BindsTo s fd ⟨[u], []⟩ [(x, u)]) ∧
        ∀ base : Heap, (K w.params).In base → base.Ns mainGlobals mg → FnOk l.prog w (K w.params) mg base (CX w) k fa fd [x] (sp w))
    (hsp : ∀ (w : World) (H : Hp) (a : Addr) (ns : List Int), ns.length ≤ n → Only H → SqL (K w.params) H a (ns.map V.int) → sp w [.ref a] H (fun v _ => v = .bl true) fun _ _ _ => False)
    (hCX : ∀ (w : World) (H : Hp) (s : Shared) (e : Value) (s' : Shared), CX w [] H s (fun _ _ _ => False) e s' → False) :
    PySem.W.WalkO q loose XP YP l.row.toRowW d [] (fun f vs => PySem.call f vs) := by
  refine Att.attach_call hn hdf fun w s₀ s₁ mg mb fa o pm cd doc a vs ns G Y ho hd hcd hmg hobj hints hlen hg => ?_
  have KX := hY w _ Y
  obtain ⟨fd, hb, hF⟩ := F w mg fa _ KX G.T.g hmg
  exact law_call KX G.T.g G.T.b G.T.builtins G.T.nolimit hg hobj hints (Nat.le_trans hlen hn2) hr hF hb (fun H hO hS => hsp w H a ns hlen hO hS) fun H e s' => hCX w H s₁ e s'
end L2
/- THE LAST THEOREM (shape; LID, My.* are yours):
   My.Adr: a structure of the addresses that your layer names (classes, functions); My.Txt K t: a structure (Prop) of the equations over K;
   My.txt_mk : {K} {implicit addresses ..} (e1 : nsIn K mainGlobals "law" = some (some (.ref f))) (e2 : K.lookup f = some ⟨oc, od, .func (fnOf "law" "law" params body scope dV kV doc pm an cdv ct), sl⟩) (e3 : codeIn K cdv "law" = true) .. : ∃ t, My.Txt K t
set_option maxRecDepth 100000 in
set_option maxHeartbeats 0 in
(the tactic k_is has no namespace: write k_is) -/
namespace L2
open PySem PySem.Spec PyProof.Rows
def defArgs (s : Stmt) : Arguments := match s with
  | .FunctionDef _ a _ _ _ _ _ _ _ _ => a
  | _ => { posonlyargs := [], args := [], vararg := none, kwonlyargs := [], kw_defaults := [], kwarg := none, defaults := [] }
def defBody (s : Stmt) : List Stmt := match s with
  | .FunctionDef _ _ b _ _ _ _ _ _ _ => b
  | _ => []
def defScope (s : Stmt) : Scope := match s with
  | .FunctionDef _ _ _ _ _ _ sc _ _ _ => sc
  | _ => { kind := .function, names := [], isGenerator := false, isCoroutine := false }
abbrev CX0 : CXT := fun _ _ _ _ _ _ => False
abbrev E0 : XK := fun _ _ _ => False
theorem pass0 {X : Cx} : Passes CX0 X E0 := fun _ _ _ _ _ _ _ h => h.elim
structure Fun (K : PySem.W.Frag) (x qual : Str) (st : Stmt) (f : Addr) (fd : FuncData) : Prop where
  ex : ∃ (oc : Value) (od : Option Addr) (kV doc pm : Value) (an : Option Addr) (cdv ct : Value) (osl : Array (Option Value)),
    fd = PySem.W.fnOf x qual (defArgs st) (defBody st) (defScope st) .none kV doc pm an cdv ct ∧ K.lookup f = some ⟨oc, od, .func fd, osl⟩ ∧ PySem.W.codeIn K cdv qual = true
  kp : PySem.W.keepIn K (.ref f) = true
section
variable {P : Program} {w : World} {K : PySem.W.Frag} {mg : Str → Option Value} {base : Heap}
theorem Fun.ok {x qual : Str} {st : Stmt} {f : Addr} {fd : FuncData} {N ps : List Str} {k : Nat} {sp : Sp} (F : Fun K x qual st f fd) (S : FnScope N ps (defScope st)) (len : ∀ vs H Q E, sp vs H Q E → vs.length = ps.length)
    (hbody : ∀ (cdv : Value) (A : Around) (outer : List Env) (s : Shared) (H : Hp) (vs : List V) (Q : VK) (E : XK), Room k (A.deeper (envOfC qual (defScope st) s.heap.objs.size f cdv)) → sp vs H Q E →
      ∃ t, PSs (cxOf CX0 P w K mg base N qual (defScope st) f cdv A outer s H E).nox (defBody st) t ∧ t { nx := fun _ H' => Q .non H', rt := Q } (start N vs) H) : FnOk P w K mg base CX0 (k + 1) f fd ps sp := by
  obtain ⟨oc, od, kV, doc, pm, an, cdv, ct, osl, rfl, lk, hcd⟩ := F.ex
  refine fn_of lk hcd S len fun A outer s H vs Q E hr hsp => ?_
  obtain ⟨t, h, q⟩ := hbody cdv A outer s H vs Q E hr hsp
  exact ⟨t, h.nox, q⟩
theorem Fun.binds {x qual : Str} {st : Stmt} {f : Addr} {fd : FuncData} {ps : List Str} (F : Fun K x qual st f fd)
    (h : ∀ (kV doc pm : Value) (an : Option Addr) (cdv ct : Value) (us : List Value), us.length = ps.length → bindArgs (PySem.W.fnOf x qual (defArgs st) (defBody st) (defScope st) .none kV doc pm an cdv ct) ⟨us, []⟩ = pure (ps.zip us)) : Binds K fd ps [] := by
  obtain ⟨oc, od, kV, doc, pm, an, cdv, ct, osl, rfl, lk, hcd⟩ := F.ex
  exact .all (h kV doc pm an cdv ct)
theorem fun_mk {x qual : Str} {st : Stmt} {f : Addr} {oc : Value} {od an : Option Addr} {osl : Array (Option Value)} {kV doc pm cdv ct : Value} (l : K.lookup f = some ⟨oc, od, .func (PySem.W.fnOf x qual (defArgs st) (defBody st) (defScope st) .none kV doc pm an cdv ct), osl⟩)
    (c : PySem.W.codeIn K cdv qual = true) (k : PySem.W.keepIn K (.ref f) = true) : Fun K x qual st f (PySem.W.fnOf x qual (defArgs st) (defBody st) (defScope st) .none kV doc pm an cdv ct) := ⟨⟨oc, od, kV, doc, pm, an, cdv, ct, osl, rfl, l, c⟩, k⟩
end
section
variable {X : Cx}
end
theorem iteF {A B : Prop} (h : B) : if false = true then A else B := by
  rw [if_neg Bool.false_ne_true]
  exact h
theorem iteT {A B : Prop} (h : A) : if true = true then A else B := by
  rw [if_pos rfl]
  exact h
def Same (H H' : Hp) : Prop := ∀ b o, H b = some o → H' b = some o
theorem Same.refl (H : Hp) : Same H H := fun _ _ h => h
theorem Same.trans {H H1 H2 : Hp} (a : Same H H1) (b : Same H1 H2) : Same H H2 := fun c o h => b c o (a c o h)
theorem Same.free {H H' : Hp} (e : Same H H') {l : Addr} (h : H' l = Option.none) : H l = Option.none := by
  cases q : H l with
  | none => rfl
  | some o =>
    rw [e l o q] at h
    cases h
theorem Same.seq {K : PySem.W.Frag} {H H' : Hp} {a : Addr} {xs : List V} (e : Same H H') (h : SqL K H a xs) : SqL K H' a xs := by
  rcases h with (h | ⟨o, h⟩) | h
  · exact .inl (.inl (e _ _ h))
  · exact .inl (.inr ⟨o, e _ _ h⟩)
  · exact .inr h
end L2
set_option maxHeartbeats 4000000
namespace L3
open PySem PySem.Spec PyProof.Rows L2
section
variable {prog : Program} {w : World} {A : Around} {R : Result → Shared → Prop} {s : Shared}
theorem compLoop_go {elt target iter : Expr} {ifs : List Expr} {scope : Scope} {pos : Pos} {it acc : Value} {env : Env} (I : Nat → Shared → Prop)
    (turn : ∀ n s, I n s → wpAny (model prog w) A (pyNext it) (fun r s₁ => match r with
      | none => R (.ok .next) s₁
      | some v => wpAny (model prog w) A (letOwnedTupleGo target it v) (fun _ s₀ => wpAny (model prog w) A (assign target env v) (fun _ s₂ =>
          wpAny (model prog w) A (forIn ifs true fun c r => if r = true then do let ok ← isTrue c env (eval c env); pure (ForInStep.yield ok) else pure (ForInStep.yield r)) (fun ok s₃ =>
            if ok = true then wpAny (model prog w) A (eval elt env) (fun x s₄ =>
              wpAny (model prog w) A (call (.builtin "list.append") [acc, x]) (fun _ s₅ => ∃ m, m < n ∧ I m s₅) (fun _ _ => False) s₄) (fun _ _ => False) s₃
            else ∃ m, m < n ∧ I m s₃) (fun _ _ => False) s₂) (fun _ _ => False) s₀) (fun _ _ => False) s₁) (fun _ _ => False) s)
    (n : Nat) (h : I n s) :
    codeAny (model prog w) A (.compLoop (.ListComp elt [⟨target, iter, ifs, 0⟩] scope pos) 0 it acc env) R s := by
  refine codeAny_loop rfl I (fun n s hI => ?_) n h
  show wpAny _ A ((compTurn (.ListComp elt [⟨target, iter, ifs, 0⟩] scope pos) 0 it acc env).onRaise (fun x => do noteFrame x env; theTreesLotGoes x)) _ _ s
  refine wpAny_noted ?_
  rw [compTurn_list]
  refine wpAny_bind (wpAny_standAt (wpAny_bind (wpAny_mono (turn n s hI) (fun r s₁ h₁ => ?_) fun _ _ h' => h'.elim)))
  cases r with
  | none => exact wpAny_pure h₁
  | some v =>
    refine wpAny_bind (wpAny_mono h₁ (fun _ s₀ h₀ => ?_) fun _ _ h' => h'.elim)
    refine wpAny_bind (wpAny_mono h₀ (fun _ s₂ h₂ => wpAny_bind (wpAny_mono h₂ (fun ok s₃ h₃ => ?_) fun _ _ h' => h'.elim)) fun _ _ h' => h'.elim)
    cases ok with
    | false => exact wpAny_pure ⟨rfl, h₃⟩
    | true =>
      exact wpAny_bind (wpAny_bind (wpAny_mono h₃ (fun x s₄ h₄ => wpAny_bind (wpAny_mono h₄ (fun _ s₅ h₅ => wpAny_pure (wpAny_pure ⟨rfl, h₅⟩)) fun _ _ h' => h'.elim)) fun _ _ h' => h'.elim))
end
def closL (cells : List (Str × Addr)) : List (Str × NameKind) → List (Str × Addr) → List (Str × Addr)
  | [], acc => acc
  | (n, k) :: r, acc => if k == .free then (match cells.lookup n with | some c => closL cells r ((n, c) :: acc) | none => closL cells r acc) else closL cells r acc
theorem closL_spec {cells : List (Str × Addr)} : ∀ (names : List (Str × NameKind)) (acc : List (Str × Addr)), (∀ x c, acc.lookup x = some c → cells.lookup x = some c) →
    ∀ x c, (closL cells names acc).lookup x = some c → cells.lookup x = some c
  | [], acc, h, x, c, e => h x c e
  | (n, k) :: r, acc, h, x, c, e => by
    unfold closL at e
    split at e
    · split at e
      · rename_i d q
        refine closL_spec r _ (fun y b e' => ?_) x c e
        rw [List.lookup_cons] at e'
        split at e'
        · rename_i z
          cases e'
          have z' : y = n := by simpa using z
          rw [z']; exact q
        · exact h y b e'
      · exact closL_spec r _ h x c e
    · exact closL_spec r _ h x c e
theorem closL_has {cells : List (Str × Addr)} {x : Str} : ∀ (names : List (Str × NameKind)) (acc : List (Str × Addr)), (∃ c, cells.lookup x = some c) → ((x, NameKind.free) ∈ names ∨ ∃ c, acc.lookup x = some c) →
    ∃ c, (closL cells names acc).lookup x = some c
  | [], acc, _, h => by
    rcases h with h | h
    · simp at h
    · exact h
  | (n, k) :: r, acc, hc, h => by
    unfold closL
    split
    · rename_i hk
      split
      · rename_i d q
        refine closL_has r _ hc ?_
        rcases h with h | ⟨c, h⟩
        · rcases List.mem_cons.mp h with e | e
          · cases e
            exact .inr ⟨d, by simp [List.lookup_cons]⟩
          · exact .inl e
        · refine .inr ?_
          rw [List.lookup_cons]
          split
          · exact ⟨_, rfl⟩
          · exact ⟨c, h⟩
      · rename_i q
        refine closL_has r _ hc ?_
        rcases h with h | h
        · rcases List.mem_cons.mp h with e | e
          · cases e
            obtain ⟨c, hc⟩ := hc
            rw [hc] at q; cases q
          · exact .inl e
        · exact .inr h
    · rename_i hk
      refine closL_has r _ hc ?_
      rcases h with h | h
      · rcases List.mem_cons.mp h with e | e
        · cases e
          exact absurd rfl hk
        · exact .inl e
      · exact .inr h
theorem closureFor_eq {scope : Scope} {env : Env} (h : ∀ x ∈ scope.names, x.2 = .free → ∃ c, env.cells.lookup x.1 = some c) : closureFor scope env = pure (closL env.cells scope.names []) := by
  have key : ∀ (names : List (Str × NameKind)) (acc : List (Str × Addr)), (∀ x ∈ names, x.2 = .free → ∃ c, env.cells.lookup x.1 = some c) →
      (forIn names acc (fun (x : Str × NameKind) (cs : List (Str × Addr)) => if (x.2 == NameKind.free) = true then (do let a ← cellOf env x.1; pure (ForInStep.yield ((x.1, a) :: cs)) : Sem (ForInStep (List (Str × Addr)))) else pure (ForInStep.yield cs))) = (pure (closL env.cells names acc) : Sem (List (Str × Addr))) := by
    intro names
    induction names with
    | nil => intro acc _; rfl
    | cons p r ih =>
      intro acc hh
      obtain ⟨n, k⟩ := p
      rw [List.forIn_cons]
      have ih' := ih
      by_cases hk : (k == NameKind.free) = true
      · obtain ⟨c, e⟩ := hh (n, k) List.mem_cons_self (by simpa using hk)
        simp only [hk, if_true]
        have e1 : cellOf env n = pure c := by
          unfold cellOf
          rw [e]
        rw [e1]
        simp only [pure_bind]
        rw [ih _ fun x hx => hh x (List.mem_cons_of_mem _ hx)]
        conv => rhs; unfold closL
        simp only [hk, if_true]
        rw [show env.cells.lookup n = some c from e]
      · have hk' : (k == NameKind.free) = false := by simpa using hk
        simp only [hk', Bool.false_eq_true, if_false, pure_bind]
        rw [ih _ fun x hx => hh x (List.mem_cons_of_mem _ hx)]
        conv => rhs; unfold closL
        simp only [hk', Bool.false_eq_true, if_false]
  unfold closureFor
  have := key scope.names [] h
  rw [bind_pure]
  first
    | exact this
    | (simp only [bind_pure] at this ⊢; exact this)
end L3
namespace L3
open PySem PySem.Spec L2
open PyProof.Rows hiding St
theorem relabel_lookup (env : Env) : ∀ (names : List (Str × NameKind)) (x : Str),
    (names.map fun (n, k) => if (k == NameKind.free && env.scope.kind == .function && env.kindOf n == some .cell) then (n, NameKind.cell) else (n, k)).lookup x =
      (names.lookup x).map fun k => if (k == NameKind.free && env.scope.kind == .function && env.kindOf x == some .cell) then NameKind.cell else k
  | [], _ => rfl
  | (n, k) :: r, x => by
    show List.lookup x ((if (k == NameKind.free && env.scope.kind == .function && env.kindOf n == some .cell) = true then (n, NameKind.cell) else (n, k)) :: _) = _
    cases hx : x == n with
    | true =>
      have e : x = n := by simpa using hx
      subst e
      by_cases hc : (k == NameKind.free && env.scope.kind == .function && env.kindOf x == some .cell) = true
      · rw [if_pos hc]; simp only [List.lookup_cons, beq_self_eq_true, Option.map_some]; rw [if_pos hc]
      · rw [if_neg hc]; simp only [List.lookup_cons, beq_self_eq_true, Option.map_some]; rw [if_neg hc]
    | false =>
      by_cases hc : (k == NameKind.free && env.scope.kind == .function && env.kindOf n == some .cell) = true
      · rw [if_pos hc]; simp only [List.lookup_cons, hx]; exact relabel_lookup env r x
      · rw [if_neg hc]; simp only [List.lookup_cons, hx]; exact relabel_lookup env r x
theorem relabel_free {env : Env} {scope : Scope} {x : Str} (h : scope.names.lookup x = some .free) : (relabel scope env).names.lookup x = some .cell ∨ (relabel scope env).names.lookup x = some .free := by
  have e : (relabel scope env).names.lookup x = _ := relabel_lookup env scope.names x
  rw [e, h]
  simp only [Option.map_some]
  split
  · exact .inl rfl
  · exact .inr rfl
theorem relabel_cell {env : Env} {scope : Scope} {x : Str} (h : (relabel scope env).names.lookup x = some .cell ∨ (relabel scope env).names.lookup x = some .free) : (x, NameKind.free) ∈ scope.names ∨ scope.names.lookup x = some .cell := by
  have e : (relabel scope env).names.lookup x = _ := relabel_lookup env scope.names x
  rw [e] at h
  cases q : scope.names.lookup x with
  | none => rw [q] at h; rcases h with h | h <;> cases h
  | some k =>
    rw [q] at h
    simp only [Option.map_some] at h
    have m := PySem.mem_of_lookup q
    by_cases hc : (k == NameKind.free && env.scope.kind == .function && env.kindOf x == some .cell) = true
    · have : k = .free := by
        simp only [Bool.and_eq_true] at hc
        simpa using hc.1.1
      subst this; exact .inl m
    · rw [if_neg hc] at h
      rcases h with h | h
      · cases h; exact .inr rfl
      · cases h; exact .inl m
theorem cells_app : ∀ (names : List (Str × NameKind)) (L : Nat) (acc : List (Str × Addr)), cellsFrom L names acc = cellsFrom L names [] ++ acc
  | [], _, _ => rfl
  | (n, k) :: r, L, acc => by
    unfold cellsFrom
    by_cases hk : (k == NameKind.cell) = true
    · rw [if_pos hk, if_pos hk, cells_app r (L + 1) ((n, L) :: acc), cells_app r (L + 1) [(n, L)], List.append_assoc]; rfl
    · rw [if_neg hk, if_neg hk]; exact cells_app r L acc
theorem cells_mem : ∀ {names : List (Str × NameKind)} {L : Nat} {x : Str} {c : Addr}, (x, c) ∈ cellsFrom L names [] → (x, NameKind.cell) ∈ names
  | [], _, _, _, h => by unfold cellsFrom at h; cases h
  | (n, k) :: r, L, x, c, h => by
    unfold cellsFrom at h
    by_cases hk : (k == NameKind.cell) = true
    · rw [if_pos hk, cells_app] at h
      have hk' : k = .cell := by simpa using hk
      subst hk'
      rcases List.mem_append.mp h with h | h
      · exact List.mem_cons_of_mem _ (cells_mem h)
      · have : (x, c) = (n, L) := by simpa using h
        cases this
        exact List.mem_cons_self
    · rw [if_neg hk] at h
      exact List.mem_cons_of_mem _ (cells_mem h)
theorem lookup_app : ∀ {l1 l2 : List (Str × Addr)} {x : Str} {c : Addr}, (l1 ++ l2).lookup x = some c → l1.lookup x = some c ∨ (l1.lookup x = none ∧ l2.lookup x = some c)
  | [], _, _, _, h => .inr ⟨rfl, h⟩
  | (n, d) :: l1, l2, x, c, h => by
    rw [List.cons_append, List.lookup_cons] at h
    rw [List.lookup_cons]
    cases hx : x == n with
    | true => rw [hx] at h; exact .inl h
    | false => rw [hx] at h; exact lookup_app h
theorem lookup_appR : ∀ {l1 l2 : List (Str × Addr)} {x : Str}, l1.lookup x = none → (l1 ++ l2).lookup x = l2.lookup x
  | [], _, _, _ => rfl
  | (n, d) :: l1, l2, x, h => by
    rw [List.lookup_cons] at h
    rw [List.cons_append, List.lookup_cons]
    cases hx : x == n with
    | true => rw [hx] at h; cases h
    | false => rw [hx] at h; exact lookup_appR h
def ccells (scope : Scope) (C : Addr) (cl : List (Str × Addr)) : List (Str × Addr) := cellsFrom (C + 1) scope.names cl
theorem ccells_split {scope : Scope} {C : Addr} {cl : List (Str × Addr)} {x : Str} {c : Addr} (h : (ccells scope C cl).lookup x = some c) : (x, c) ∈ cellsFrom (C + 1) scope.names [] ∨ cl.lookup x = some c := by
  unfold ccells at h
  rw [cells_app] at h
  rcases lookup_app h with h | h
  · exact .inl (PySem.mem_of_lookup h)
  · exact .inr h.2
theorem own_ok (names : List (Str × NameKind)) (h : Heap) {C : Addr} (e : h.objs.size = C + 1) : CellsOk (pushCells h names) (C + 1) (cellsFrom (C + 1) names []) := by
  have := cellsFrom_ok names h (C + 1) [] ⟨fun _ _ hm => (nomatch hm), List.Pairwise.nil⟩ (by rw [e]; exact Nat.le_refl _)
  rw [e] at this
  exact this
theorem own_ge {names : List (Str × NameKind)} {C : Addr} {x : Str} {c : Addr} : ∀ {L : Nat}, C ≤ L → (x, c) ∈ cellsFrom L names [] → C ≤ c := by
  induction names with
  | nil => intro L _ h; unfold cellsFrom at h; cases h
  | cons p r ih =>
    obtain ⟨n, k⟩ := p
    intro L hL h
    unfold cellsFrom at h
    by_cases hk : (k == NameKind.cell) = true
    · rw [if_pos hk, cells_app] at h
      rcases List.mem_append.mp h with h | h
      · exact ih (Nat.le_trans hL (Nat.le_succ L)) h
      · have : (x, c) = (n, L) := by simpa using h
        cases this
        exact hL
    · rw [if_neg hk] at h
      exact ih hL h
theorem own_apart {names : List (Str × NameKind)} {x y : Str} {c : Addr} : ∀ {L : Nat}, (x, c) ∈ cellsFrom L names [] → (y, c) ∈ cellsFrom L names [] → x = y := by
  induction names with
  | nil => intro L h; unfold cellsFrom at h; cases h
  | cons p r ih =>
    obtain ⟨n, k⟩ := p
    intro L h1 h2
    unfold cellsFrom at h1 h2
    by_cases hk : (k == NameKind.cell) = true
    · rw [if_pos hk, cells_app] at h1 h2
      rcases List.mem_append.mp h1 with g1 | g1 <;> rcases List.mem_append.mp h2 with g2 | g2
      · exact ih g1 g2
      · have e2 : (y, c) = (n, L) := by simpa using g2
        have ec : c = L := (Prod.mk.inj e2).2
        have := own_ge (C := L + 1) (Nat.le_refl _) g1
        rw [ec] at this
        exact absurd this (Nat.not_succ_le_self _)
      · have e1 : (x, c) = (n, L) := by simpa using g1
        have ec : c = L := (Prod.mk.inj e1).2
        have := own_ge (C := L + 1) (Nat.le_refl _) g2
        rw [ec] at this
        exact absurd this (Nat.not_succ_le_self _)
      · have e1 : (x, c) = (n, L) := by simpa using g1
        have e2 : (y, c) = (n, L) := by simpa using g2
        exact (Prod.mk.inj e1).1.trans (Prod.mk.inj e2).1.symm
    · rw [if_neg hk] at h1 h2
      exact ih h1 h2
theorem wpAny_newCompEnv {M : Model} {A : Around} {E : Value → Shared → Prop} {s : Shared} {scope : Scope} {globals : Addr} {cl : List (Str × Addr)} {qual : Str} {env : Env} {Q : Env → Shared → Prop}
    (hQ : Q (newEnv scope s.heap.objs.size globals (ccells scope s.heap.objs.size cl) qual none .none (some env) builtinsNs) { s with heap := pushCells (s.heap.push { cls := .type "dict", data := .dict #[] }) scope.names }) :
    wpAny M A (newFunctionEnv scope globals cl [] qual none .none (some env)) Q E s := by
  simp only [newFunctionEnv, Option.isSome_some, if_true]
  refine wpAny_bind (wpAny_alloc ?_)
  refine wpAny_bind (wpAny_layCells _ (fun name kind cells => by cases hkc : kind == NameKind.cell <;> simp [hkc]) _ _ _ _ ?_)
  rw [show ({ s with heap := s.heap.push { cls := .type "dict", data := .dict #[] } } : Shared).heap.objs.size = s.heap.objs.size + 1 from Heap.size_push ..]
  rw [List.forIn_nil]
  exact wpAny_bind (wpAny_pure (wpAny_pure hQ))
structure CompSc (X : Cx) (scope : Scope) (Nc : List Str) (fr : List (Option Nat)) : Prop where
  kind : scope.kind = .function
  cells : ∀ x ∈ scope.names, x.2 = .cell → scope.names.lookup x.1 = some .cell
  names : ∀ x ∈ scope.names, x.2 = .local → scope.names.lookup x.1 = some .local
  free : ∀ x ∈ scope.names, x.2 = .free → X.env.kindOf x.1 = some .cell ∨ X.env.kindOf x.1 = some .free
  len : fr.length = Nc.length
  map : ∀ (i j : Nat) (x : Str), Nc[i]? = some x → fr[i]? = some (some j) → X.N[j]? = some x ∧ scope.names.lookup x = some .free ∧ (X.env.kindOf x = some .cell ∨ X.env.kindOf x = some .free)
def σC (fr : List (Option Nat)) (σ : St) : St := fr.map fun o => o.bind fun j => (σ[j]?).join
def cxC (X : Cx) (scope : Scope) (Nc : List Str) (C : Addr) (s : Shared) (H : Hp) (ex : List Addr) : Cx :=
  { X with N := Nc, s₀ := s, H₀ := H, env := compEnvC scope (ccells scope C (closL X.env.cells scope.names [])) C X.env, outer := X.stack, stack := X.stack, ex := ex, fn := fun x => scope.names.lookup x == some .cell, pn := [], xe := fun _ _ => False }
def tComp (wi : TI) (fr : List (Option Nat)) (g : TG) (c : TT) (te : TE) : TE := fun σ H Q => wi σ H fun J H1 => ∀ l, H1 l = none →
  ∃ W : Nat → Nat → L2.St → Hp → Prop, (∃ m, W 0 m (σC fr σ) (upd H1 l (.lst []))) ∧ ∀ i m σ H, W i m σ H →
    (J.stop i H ∧ Q (.ref l) H) ∨ (J.go i H ∧ ∃ N : L2.St → Hp → Prop, (∀ σ' H', N σ' H' → ∃ m', m' < m ∧ W (i + 1) m' σ' H') ∧ ∀ x H', J.yld i H x H' →
      g x σ H' fun σ2 H2 => c σ2 H2 fun b H3 => if b = true then te σ2 H3 fun y H4 => ∃ ys, H4 l = some (.lst ys) ∧ ys.length < sizeLine ∧ N σ2 (upd H4 l (.lst (ys ++ [y]))) else N σ2 H3)
def PTs (X : Cx) (ifs : List Expr) (t : TT) : Prop :=
  ∀ (pins : List (Addr × Obj)) (s : Shared) (σ : St) (H : Hp) (Q : Bool → Hp → Prop), Inv X pins σ H s → t σ H Q →
    wpAny (model X.prog X.w) X.A (forIn ifs true fun c r => if r = true then do let ok ← isTrue c X.env (eval c X.env); pure (ForInStep.yield ok) else pure (ForInStep.yield r)) (TP X pins σ Q) X.xe s
def tTrue : TT := fun _ H Q => Q true H
theorem pts_nil {X : Cx} : PTs X [] tTrue := fun _ _ _ H _ I h => wpAny_tests_nil ⟨H, I, h⟩
section
variable {X : Cx} {scope : Scope} {Nc : List Str} {fr : List (Option Nat)} {pins : List (Addr × Obj)} {σ : St} {H : Hp} {s : Shared}
theorem cxC_ok {C : Addr} {fp : List Addr} (S : CompSc X scope Nc fr) (I : Inv X pins σ H s) (hC : C = s.heap.objs.size) (hf : ∀ b ∈ fp, FpOk X pins H b) (hlt : ∀ b ∈ fp, b < s.heap.objs.size) (hnc : ∀ b ∈ fp, ∀ x c, X.env.cells.lookup x = some c → c ≠ b) :
    (cxC X scope Nc C s H fp).Ok where
  mod := I.ok.mod
  kind := S.kind
  glob := I.ok.glob
  blt := I.ok.blt
  above := Nat.le_of_eq hC.symm
  inj := fun x y c h1 h2 => by
    have low : ∀ {z}, (closL X.env.cells scope.names []).lookup z = some c → c < s.heap.objs.size := fun {z} hz => by
      obtain ⟨v, q⟩ := I.cell z c (closL_spec _ [] (fun _ _ e => by cases e) z c hz)
      exact q.lt
    rcases ccells_split h1 with h1 | h1 <;> rcases ccells_split h2 with h2 | h2
    · exact own_apart h1 h2
    · have a := own_ge (C := C + 1) (Nat.le_refl _) h1
      have b : c < C := by rw [hC]; exact low h2
      exact absurd a (Nat.not_le_of_gt (Nat.lt_succ_of_lt b))
    · have a := own_ge (C := C + 1) (Nat.le_refl _) h2
      have b : c < C := by rw [hC]; exact low h1
      exact absurd a (Nat.not_le_of_gt (Nat.lt_succ_of_lt b))
    · exact I.ok.inj x y c (closL_spec _ [] (fun _ _ e => by cases e) x c h1) (closL_spec _ [] (fun _ _ e => by cases e) y c h2)
  has := fun x hx => by
    rcases relabel_cell hx with m | m
    · obtain ⟨c, e⟩ := closL_has scope.names [] (I.ok.has x (S.free _ m rfl)) (.inl m)
      exact Option.isSome_iff_exists.mp (PySem.W.cellsFrom_some _ _ _ (.inr (by rw [e]; rfl)))
    · exact Option.isSome_iff_exists.mp (PySem.W.cellsFrom_some _ _ _ (.inl m))
  cab := fun x c hf h => by
    have hl : scope.names.lookup x = some .cell := by
      have : (scope.names.lookup x == some .cell) = true := hf
      simpa using this
    obtain ⟨c', e⟩ := Option.isSome_iff_exists.mp (PySem.W.cellsFrom_some (x := x) scope.names (C + 1) [] (.inl hl))
    have h' : (cellsFrom (C + 1) scope.names [] ++ closL X.env.cells scope.names []).lookup x = some c := by
      rw [← cells_app]; exact h
    rcases lookup_app h' with q | q
    · have := own_ge (C := C + 1) (Nat.le_refl _) (PySem.mem_of_lookup q)
      show s.heap.objs.size ≤ c
      rw [← hC]; exact Nat.le_of_succ_le this
    · rw [q.1] at e; cases e
  hd := I.ok.hd
  frames := I.ok.frames
  stk := .inl rfl
  exf := fun b hb => ⟨by rw [show (cxC X scope Nc C s H fp).env.locals = s.heap.objs.size from hC]; exact Nat.ne_of_lt (hlt b hb), fun x c h => by
    rcases ccells_split h with h | h
    · have a := own_ge (C := C + 1) (Nat.le_refl _) h
      have b' : b < C := by rw [hC]; exact hlt b hb
      exact Nat.ne_of_gt (Nat.lt_of_lt_of_le b' (Nat.le_of_succ_le a))
    · exact hnc b hb x c (closL_spec _ [] (fun _ _ e => by cases e) x c h)⟩
  bs := I.bs
  bsz := Nat.le_trans I.ok.bsz I.sz
  noex := fun b o e hb => by
    have hn := (hf b hb).2.2.2.1
    rcases hn with hn | hn
    · exact I.ok.noex b o e hn
    · exact absurd (Heap.lt_size (I.ok.bs b o e).1) (Nat.not_lt.mpr hn)
  exfs := fun b hb z => by
    have q := I.stkSub b z
    rcases List.mem_cons.mp q with q | q
    · exact (hf b hb).2.1 q
    · exact (hf b hb).2.2.1 q
  funs := I.stack
  frf := fun b hb => I.stkFree b hb
theorem σC_get {i : Nat} {v : V} (h : (σC fr σ)[i]? = some (some v)) : ∃ j, fr[i]? = some (some j) ∧ σ[j]? = some (some v) := by
  unfold σC at h
  rw [List.getElem?_map] at h
  cases q : fr[i]? with
  | none => rw [q] at h; cases h
  | some o =>
    rw [q] at h
    cases o with
    | none => simp at h
    | some j =>
      simp only [Option.map_some, Option.some.injEq, Option.bind_some] at h
      refine ⟨j, rfl, ?_⟩
      cases r : σ[j]? with
      | none => rw [r] at h; cases h
      | some u => rw [r] at h; simp at h; rw [h]
theorem inv_comp {s' : Shared} {h' : Heap} {C : Addr} {fp : List Addr} {t' : Nat} (S : CompSc X scope Nc fr) (I : Inv X pins σ H s) (hC : C = s.heap.objs.size) (ok : (cxC X scope Nc C s H fp).Ok) (hfr : ∀ b ∈ fp, H b = none)
    (k : ∀ b o, s.heap.get? b = some o → h'.get? b = some o) (hn : h'.Ns C (fun _ => none)) (hcs : ∀ x c, (x, c) ∈ cellsFrom (C + 1) scope.names [] → h'.IsCell c none) : Inv (cxC X scope Nc C s H fp) [] (σC fr σ) H { s with heap := h', toks := t' } where
  ok := ok
  os := rfl
  bare := I.bare
  base := Un.kept k
  loc := ⟨_, hn, fun i x v h1 h2 h3 => by
    obtain ⟨j, q1, q2⟩ := σC_get h2
    obtain ⟨n1, n2, n3⟩ := S.map i j x h1 q1
    obtain ⟨m, hm, hl⟩ := I.loc
    have vis : Vis X.env.scope x := by
      rcases n3 with z | z
      · exact .inr (.inl z)
      · exact .inr (.inr z)
    obtain ⟨u, r, lk⟩ := hl j x v n1 q2 vis
    refine ⟨u, r, ?_⟩
    rcases lk with ⟨z, _⟩ | ⟨z, c, e, ic⟩
    · rcases n3 with y | y
      · rw [y] at z; cases z
      · rw [y] at z; cases z
    · refine .inr ⟨relabel_free n2, ?_⟩
      obtain ⟨c', e'⟩ := closL_has scope.names [] ⟨c, e⟩ (.inl (PySem.mem_of_lookup n2))
      have e2 := closL_spec _ [] (fun _ _ e => by cases e) x c' e'
      rw [e] at e2; cases e2
      refine ⟨c, ?_, ic.keeps k⟩
      show (ccells scope C (closL X.env.cells scope.names [])).lookup x = some c
      unfold ccells
      rw [cells_app, lookup_appR ?_]
      · exact e'
      · cases q : (cellsFrom (C + 1) scope.names []).lookup x with
        | none => rfl
        | some c2 =>
          have := S.cells _ (cells_mem (PySem.mem_of_lookup q)) rfl
          rw [n2] at this; cases this⟩
  cell := fun x c h => by
    rcases ccells_split h with h | h
    · exact ⟨_, hcs x c h⟩
    obtain ⟨v, q⟩ := I.cell x c (closL_spec _ [] (fun _ _ e => by cases e) x c h)
    exact ⟨v, q.keeps k⟩
  free := by show H C = none; rw [hC]; exact I.hok.fresh (Nat.le_refl _)
  freeC := fun x c h => by
    rcases ccells_split h with h | h
    · have a := own_ge (C := C + 1) (Nat.le_refl _) h
      exact I.hok.fresh (by rw [← hC]; exact Nat.le_of_succ_le a)
    · exact I.freeC x c (closL_spec _ [] (fun _ _ e => by cases e) x c h)
  pin := fun p hp => by cases hp
  hok := I.hok.kept k
  len := by unfold σC; rw [List.length_map]; exact S.len
theorem Inv.forget {C : Addr} {h' : Heap} (I : Inv X pins σ H s) (f : FpOk X pins H C) (hs : Heap.SameBut C s.heap h') : Inv X pins σ H { s with heap := h' } := by
  refine I.call' (s' := { s with heap := h' }) (ch := [C]) rfl ?_ ?_ I.bare fun b hb => ?_
  · have ne : ∀ b, b ∉ [C] → b ≠ C := fun b hb z => hb (by simp [z])
    exact { keep := fun b o q _ _ hx => (hs.2 b (ne b hx)).trans q, slot := fun b o q _ _ hx => ⟨o.slots, (hs.2 b (ne b hx)).trans q⟩, free := fun b o q n _ => n, there := fun b o q hx => ⟨o, (hs.2 b (ne b hx)).trans q⟩, tups := fun _ _ e => e, frzs := fun _ _ _ e => e, tbls := fun b ps e => ⟨#[], by rw [e]; simp⟩ }
  · intro a o q
    have na : ∀ b u, H b = some u → b ≠ C := fun b u q z => by rw [z, f.1] at q; cases q
    refine (I.hok a o q).stay (fun b u hb e => ?_) (fun _ q => q) fun _ _ q => q
    rw [hs.2 b ?_]
    · exact e
    · rcases hb with rfl | hb
      · exact na _ _ q
      · exact na _ _ hb
  · have : b = C := by simpa using hb
    subst this
    exact ⟨f.2.2.2.1, f.2.1, f.2.2.2.2.1, f.2.2.2.2.2⟩
theorem comp_block {elt tg iter : Expr} {ifs : List Expr} {wi : TI} {g : TG} {c : TT} {te : TE} {pos : Pos} {Q : VK} {RR : Value → Addr → Result → Shared → Prop} (hx : X.xe = fun _ _ => False) (hc : X.calm = true) (S : CompSc X scope Nc fr) (hi : PI X tg iter wi)
    (hg : ∀ C s H ex, PG (cxC X scope Nc C s H ex) tg g) (ht : ∀ C s H ex, PTs (cxC X scope Nc C s H ex) ifs c) (he : ∀ C s H ex, PE (cxC X scope Nc C s H ex) elt te) (I : Inv X pins σ H s) (h : tComp wi fr g c te σ H Q)
    (fin : ∀ (l C : Addr) (s6 : Shared) (H5 : Hp) (m : Str → Option Value), s6.heap.Ns C m → FpOk X pins H5 C → Inv X pins σ H5 s6 → Q (.ref l) H5 → RR (.ref l) C (.ok .next) s6) :
    wpAny (model X.prog X.w) X.A (eval iter X.env) (fun x s₁ => wpAny (model X.prog X.w) X.A (pyIter x) (fun it s₂ => wpAny (model X.prog X.w) X.A (newList []) (fun acc s₃ =>
      wpAny (model X.prog X.w) X.A (newFunctionEnv scope X.env.globals (closL X.env.cells scope.names []) [] X.env.qual none .none (some X.env)) (fun cenv s₄ =>
        codeAny (model X.prog X.w) X.A (.compStart (.ListComp elt [⟨tg, iter, ifs, 0⟩] scope pos) 0 it acc { cenv with scope := relabel scope X.env }) (RR acc cenv.locals) s₄) X.xe s₃) X.xe s₂) X.xe s₁) X.xe s := by
  refine thn (hi pins s σ H _ I h) fun v s1 h1 => thn h1 fun itv s2 h2 => ?_
  obtain ⟨it, fp, tn, J, H2, e, I2, T, st2, f2, hR⟩ := h2
  subst e
  refine wpAny_newList ?_ (Nat.zero_le _)
  have I3 := I2.lnew (t' := s2.toks) (its := []) (ys := []) .nil (Nat.zero_le _)
  generalize e3 : ({ s2 with heap := s2.heap.push { cls := .type "list", data := .seq ([] : List Value).toArray } } : Shared) = s3
  have I3 : Inv X pins σ (upd H2 s2.heap.objs.size (.lst [])) s3 := by rw [← e3]; exact I3
  have ml : s2.heap.objs.size < s3.heap.objs.size := by rw [← e3]; show _ < (s2.heap.push _).objs.size; rw [Heap.size_push]; omega
  have k3 : ∀ b o, s2.heap.get? b = some o → s3.heap.get? b = some o := fun b o q => by rw [← e3]; exact Heap.get?_push_of_some _ q
  obtain ⟨W, ⟨m0, w0⟩, turn⟩ := hR s2.heap.objs.size (I2.hok.fresh (Nat.le_refl _))
  refine wpAny_newCompEnv ?_
  have hn : (pushCells (s3.heap.push { cls := .type "dict", data := .dict #[] }) scope.names).Ns s3.heap.objs.size (fun _ => none) := (Heap.Ns.new s3.heap (.type "dict")).keeps (pushCells_keeps _ _)
  have hcs : ∀ x c, (x, c) ∈ cellsFrom (s3.heap.objs.size + 1) scope.names [] → (pushCells (s3.heap.push { cls := .type "dict", data := .dict #[] }) scope.names).IsCell c none := fun x c h => ((own_ok scope.names _ (Heap.size_push ..)).empty x c h).1
  have k4 : ∀ b o, s3.heap.get? b = some o → (pushCells (s3.heap.push { cls := .type "dict", data := .dict #[] }) scope.names).get? b = some o := fun b o q => pushCells_keeps _ _ b o (Heap.get?_push_of_some _ q)
  generalize (pushCells (s3.heap.push { cls := .type "dict", data := .dict #[] }) scope.names) = h' at hn hcs k4 ⊢
  have hobj : ∀ b ∈ fp, ∃ o, s2.heap.get? b = some o ∧ ∀ v, o.data ≠ .cell v := T.obj _ _ st2
  have hlt2 : ∀ b ∈ fp, b < s3.heap.objs.size := fun b hb => let ⟨o, q, _⟩ := hobj b hb; Heap.lt_size (k3 b o q)
  have hnl : ∀ b ∈ fp, b ≠ s2.heap.objs.size := fun b hb => by
    obtain ⟨o, q, _⟩ := hobj b hb
    exact Nat.ne_of_lt (Heap.lt_size q)
  have f3 : ∀ b ∈ fp, FpOk X pins (upd H2 s2.heap.objs.size (.lst [])) b := fun b hb => ⟨by rw [upd_ne (hnl b hb)]; exact (f2 b hb).1, (f2 b hb).2⟩
  have ok := cxC_ok (C := s3.heap.objs.size) (fp := fp) S I3 rfl f3 hlt2 fun b hb => (f2 b hb).2.2.2.2.1
  have I4 : Inv (cxC X scope Nc s3.heap.objs.size s3 (upd H2 s2.heap.objs.size (.lst [])) fp) [] (σC fr σ) (upd H2 s2.heap.objs.size (.lst [])) { s3 with heap := h', toks := s3.toks } :=
    inv_comp (s' := s3) S I3 rfl ok (fun b hb => (f3 b hb).1) k4 hn hcs
  have st4 : tn 0 h' := T.keep _ _ _ st2 fun b _ o q => k4 b o (k3 b o q)
  generalize hXc : cxC X scope Nc s3.heap.objs.size s3 (upd H2 s2.heap.objs.size (.lst [])) fp = Xc at I4
  have hgc : PG Xc tg g := by rw [← hXc]; exact hg _ _ _ _
  have htc : PTs Xc ifs c := by rw [← hXc]; exact ht _ _ _ _
  have hec : PE Xc elt te := by rw [← hXc]; exact he _ _ _ _
  have xP : Xc.prog = X.prog := by rw [← hXc]; rfl
  have xW : Xc.w = X.w := by rw [← hXc]; rfl
  have xK : Xc.K = X.K := by rw [← hXc]; rfl
  have xc : Xc.calm = true := by rw [← hXc]; exact hc
  have xA : Xc.A = X.A := by rw [← hXc]; rfl
  have xE : Xc.env = compEnvC scope (ccells scope s3.heap.objs.size (closL X.env.cells scope.names [])) s3.heap.objs.size X.env := by rw [← hXc]; rfl
  have xx : Xc.xe = fun _ _ => False := by rw [← hXc]; rfl
  have fpc : ∀ {H' : Hp}, (∀ b ∈ fp, H' b = none) → ∀ b ∈ fp, FpOk Xc [] H' b := fun {H'} hn b hb => by
    rw [← hXc]
    refine ⟨hn b hb, Nat.ne_of_lt (hlt2 b hb), ok.exfs b hb, .inl hb, (ok.exf b hb).2, fun p hp => by cases hp⟩
  have loop : codeAny (model X.prog X.w) X.A (.compLoop (.ListComp elt [⟨tg, iter, ifs, 0⟩] scope pos) 0 (.ref it) (.ref s2.heap.objs.size) (compEnvC scope (ccells scope s3.heap.objs.size (closL X.env.cells scope.names [])) s3.heap.objs.size X.env))
      (RR (.ref s2.heap.objs.size) s3.heap.objs.size) { s3 with heap := h', toks := s3.toks } := by
    refine compLoop_go (fun n s' => ∃ i σ' H', Inv Xc [] σ' H' s' ∧ tn i s'.heap ∧ (∀ b ∈ fp, H' b = none) ∧ W i n σ' H') ?_ m0 ⟨0, _, _, I4, st4, fun b hb => (f3 b hb).1, w0⟩
    rintro n s5 ⟨i, σ5, H5, I5, st5, fr5, w5⟩
    rcases turn i n σ5 H5 w5 with ⟨stop, qn⟩ | ⟨go, N, hN, step⟩
    · have q := T.done Xc xP xW xK xc i [] s5 σ5 H5 (fun _ _ => False) I5 (fpc fr5) st5 stop
      rw [xA] at q
      refine thn q fun r s6 ⟨hr, I6⟩ => ?_
      subst hr
      obtain ⟨m, hm, _⟩ := I6.loc
      rw [xE] at hm
      have free6 : H5 s3.heap.objs.size = none := by have := I6.free; rw [xE] at this; exact this
      have un6 : Un (frs X.stack) fp (upd H2 s2.heap.objs.size (.lst [])) H5 s3.heap s6.heap := by have := I6.base; rw [← hXc] at this; exact this
      have os6 : s6.os = s3.os := by have := I6.os; rw [← hXc] at this; exact this
      have hok6 : HOk X.prog X.w H5 s6.heap := by have := I6.hok; rw [xP, xW] at this; exact this
      have J := I3.call' (s' := s6) (ch := fp) os6 un6 hok6 I6.bare fun b hb => ⟨(f3 b hb).2.2.2.1, (f3 b hb).2.1, (f3 b hb).2.2.2.2.1, (f3 b hb).2.2.2.2.2⟩
      exact fin _ _ s6 H5 m hm (I3.fpOk (Nat.le_refl _) free6) J qn
    · have q := T.item Xc xP xW xK xc i [] s5 σ5 H5 (fun _ _ => False) I5 (fpc fr5) st5 go
      rw [xA] at q
      refine thn q fun r s6 ⟨u, hr, h6⟩ => ?_
      subst hr
      refine thn h6 fun _ s7 ⟨x, H7, I7, r7, y7, st7, fr7⟩ => ?_
      have I7' := I7.pinned (fpc fr7) (T.obj _ _ st7)
      have q8 := hgc _ s7 σ5 H7 x u _ I7' r7 (step x H7 y7)
      rw [xP, xW, xA, xE, xx] at q8
      refine thn q8 fun _ s8 ⟨σ8, H8, I8, q8⟩ => ?_
      have q9 := htc _ s8 σ8 H8 _ I8 q8
      rw [xP, xW, xA, xE, xx] at q9
      refine thn q9 fun b s9 ⟨H9, I9, q9⟩ => ?_
      have again : ∀ {H' : Hp} {s' : Shared}, Inv Xc ([] ++ pinsAt fp s7.heap) σ8 H' s' → N σ8 H' → ∃ m, m < n ∧ ∃ i σ' H', Inv Xc [] σ' H' s' ∧ tn i s'.heap ∧ (∀ b ∈ fp, H' b = none) ∧ W i m σ' H' := fun {H' s'} J nn => by
        obtain ⟨m', hm, w7⟩ := hN σ8 H' nn
        refine ⟨m', hm, i + 1, σ8, H', J.unpinned, T.keep _ _ _ st7 fun b hb o e => (J.pin (b, o) (List.mem_append_right _ (List.mem_append_right _ (mem_pinsAt hb e)))).1, fun b hb => ?_, w7⟩
        obtain ⟨o, e, d⟩ := T.obj _ _ st7 b hb
        exact (J.pin (b, o) (List.mem_append_right _ (List.mem_append_right _ (mem_pinsAt hb e)))).2.1
      cases b with
      | false => exact again I9 q9
      | true =>
        have qe := hec _ s9 σ8 H9 _ I9 q9
        rw [xP, xW, xA, xE, xx] at qe
        refine thn qe fun y s10 ⟨vy, H10, I10, ry, ys, hy, hlt, qN⟩ => ?_
        have qa := mt_append (X := Xc) _ s10 σ8 H10 (.ref s2.heap.objs.size) [vy] (.ref s2.heap.objs.size) [y] (fun _ H' => N σ8 H') I10 rfl (.cons ry .nil) ⟨_, ys, vy, rfl, rfl, hy, hlt, qN⟩
        rw [xP, xW, xA, xx] at qa
        exact thn qa fun _ s11 ⟨_, H11, I11, _, q11⟩ => again I11 q11
  refine codeAny_compStart_list ?_ ?_
  · exact loop
  · exact T.self _ 0 _ _ _ st4 loop
theorem pe_comp {elt tg iter : Expr} {ifs : List Expr} {wi : TI} {g : TG} {c : TT} {te : TE} {pos : Pos} (hx : X.xe = fun _ _ => False) (hc : X.calm = true) (S : CompSc X scope Nc fr) (hi : PI X tg iter wi)
    (hg : ∀ C s H ex, PG (cxC X scope Nc C s H ex) tg g) (ht : ∀ C s H ex, PTs (cxC X scope Nc C s H ex) ifs c) (he : ∀ C s H ex, PE (cxC X scope Nc C s H ex) elt te)
    (hs : ∀ x, foldedSetIterable iter X.env x = pure x := by intro _; rfl) : PE X (.ListComp elt [⟨tg, iter, ifs, 0⟩] scope pos) (tComp wi fr g c te) := by
  intro pins s σ H Q I h
  rw [eval_ListComp]
  have hcl : closureFor scope X.env = pure (closL X.env.cells scope.names []) := closureFor_eq fun x hx hk => I.ok.has x.1 (S.free x hx hk)
  refine wpAny_comprehension_free rfl hs hcl S.kind S.names ?_
  exact comp_block (RR := fun acc C => compPost (model X.prog X.w) X.A X.xe none (EP X pins σ Q) acc C) hx hc S hi hg ht he I h fun l C s6 H5 m hm f J q => ⟨m, hm, fun h'' hs'' => ⟨.ref l, H5, Inv.forget J f hs'', rfl, q⟩⟩
theorem ps_setC {elt tg iter : Expr} {ifs : List Expr} {wi : TI} {g : TG} {c : TT} {te : TE} {pos pos' spos : Pos} {i : Nat} {x : Str} (hx : X.xe = fun _ _ => False) (hc : X.calm = true) (S : CompSc X scope Nc fr) (hi : PI X tg iter wi)
    (hg : ∀ C s H ex, PG (cxC X scope Nc C s H ex) tg g) (ht : ∀ C s H ex, PTs (cxC X scope Nc C s H ex) ifs c) (he : ∀ C s H ex, PE (cxC X scope Nc C s H ex) elt te) (hN : X.N.Nodup) (hni : X.N[i]? = some x) (hl : Loc X.env.scope x) (hf : X.fn x = true ∨ X.env.scope.names.lookup x = some .local)
    (hsw : swapsWith (.ListComp elt [⟨tg, iter, ifs, 0⟩] scope pos) (some (.Name x pos')) spos.line X.env = pure true)
    (hs : ∀ x, foldedSetIterable iter X.env x = pure x := by intro _; rfl) : PS X (.Assign [.Name x pos'] (.ListComp elt [⟨tg, iter, ifs, 0⟩] scope pos) spos) (tAsg (tComp wi fr g c te) (gName i)) := by
  intro pins s σ H D I h
  have hcl : closureFor scope X.env = pure (closL X.env.cells scope.names []) := closureFor_eq fun x hx hk => I.ok.has x.1 (S.free x hx hk)
  rw [exec_Assign_Name_used _ _ _ _ hsw]
  refine wpAny_bind (wpAny_standAt (wpAny_bind ?_))
  show wpAny _ X.A (do let _ ← comprehension (.ListComp elt [⟨tg, iter, ifs, 0⟩] scope pos) scope X.env _ (newList []) false (eval iter X.env) (some (assign (.Name x pos') X.env))) _ _ s
  refine wpAny_bind (wpAny_mono (wpAny_comprehension_free (use := some (assign (.Name x pos') X.env)) (Q := fun _ s' => SP X pins D .next s') rfl hs hcl S.kind S.names
    (comp_block (RR := fun acc C => compPost (model X.prog X.w) X.A X.xe (some (assign (.Name x pos') X.env)) (fun _ s' => SP X pins D .next s') acc C) hx hc S hi hg ht he I h fun l C s6 H5 m hm f J q => ?_)) (fun _ s' hq => wpAny_pure (wpAny_pure hq)) fun _ _ e => e)
  show wpAny _ X.A (assign (.Name x pos') X.env (.ref l)) _ _ _
  refine wpAny_assign_Name (store_ok2 J hN hni hl (show RelV (.ref l) (.ref l) from rfl) (fun s7 J7 hch => ?_) hf)
  obtain ⟨a, hsame, ha⟩ := hch
  have hCa : C ≠ a := by
    rcases ha with rfl | ha
    · exact f.2.1
    · exact fun z => f.2.2.2.2.1 x a ha z.symm
  refine ⟨m, hm.sameBut hsame hCa, fun h'' hs'' => ⟨σ.set i (some (.ref l)), H5, Inv.forget J7 f hs'', q⟩⟩
end
end L3
namespace L3
open PySem PySem.Spec L2
open PyProof.Rows hiding St
inductive D where
  | non | bl (b : Bool) | int (i : Int) | str (x : Str) | ty (n : String) | ref (n : Nat) | lst (xs : List D) | tup (xs : List D)
inductive Cell where
  | lst (xs : List D) | ins (C : Addr) (fs : List (Str × D)) | dead
abbrev Store := List Cell
abbrev DEnv := List (Option D)
mutual
def Rep (α : List (Option Addr)) (H : Hp) : D → V → Prop
  | .non, v => v = .non
  | .bl b, v => v = .bl b
  | .int i, v => v = .int i
  | .str x, v => v = .str x
  | .ty n, v => v = .ty n
  | .ref n, v => α[n]? = some none ∨ ∃ a, α[n]? = some (some a) ∧ v = .ref a
  | .lst xs, v => ∃ a vs, v = .ref a ∧ some a ∉ α ∧ Rd H a (.lst vs) ∧ Reps α H xs vs
  | .tup xs, v => ∃ a vs, v = .ref a ∧ some a ∉ α ∧ H a = some (.tup vs) ∧ Reps α H xs vs
def Reps (α : List (Option Addr)) (H : Hp) : List D → List V → Prop
  | [], vs => vs = []
  | d :: ds, vs => ∃ v r, vs = v :: r ∧ Rep α H d v ∧ Reps α H ds r
end
theorem reps_paired {α : List (Option Addr)} {H : Hp} : ∀ {ds : List D} {vs : List V}, Reps α H ds vs ↔ Paired (Rep α H) ds vs
  | [], vs => by
    unfold Reps
    constructor
    · rintro rfl; exact .nil
    · intro h; cases h; rfl
  | d :: ds, vs => by
    unfold Reps
    constructor
    · rintro ⟨v, r, rfl, h1, h2⟩; exact .cons h1 (reps_paired.mp h2)
    · intro h; cases h with | cons h1 h2 => exact ⟨_, _, rfl, h1, reps_paired.mpr h2⟩
section
variable {α : List (Option Addr)} {H : Hp}
theorem Reps.length {ds : List D} {vs : List V} (h : Reps α H ds vs) : ds.length = vs.length := Paired.length (reps_paired.mp h)
theorem paired_get {A B : Type} {F : A → B → Prop} : ∀ {xs : List A} {ys : List B} {i : Nat} {x : A}, Paired F xs ys → xs[i]? = some x → ∃ y, ys[i]? = some y ∧ F x y
  | _, _, _, _, .nil, e => by simp at e
  | _, _, 0, _, .cons r _, e => by simp at e; subst e; exact ⟨_, rfl, r⟩
  | _, _, i + 1, x, .cons _ t, e => by
    obtain ⟨u, h1, h2⟩ := paired_get (i := i) (x := x) t (by simpa using e)
    exact ⟨u, by simpa using h1, h2⟩
theorem paired_append {A B : Type} {F : A → B → Prop} : ∀ {xs xs' : List A} {ys ys' : List B}, Paired F xs ys → Paired F xs' ys' → Paired F (xs ++ xs') (ys ++ ys')
  | _, _, _, _, .nil, s => s
  | _, _, _, _, .cons r t, s => .cons r (paired_append t s)
theorem paired_take {A B : Type} {F : A → B → Prop} : ∀ {xs : List A} {ys : List B} (n : Nat), Paired F xs ys → Paired F (xs.take n) (ys.take n)
  | _, _, 0, _ => .nil
  | _, _, _ + 1, .nil => .nil
  | _, _, n + 1, .cons r t => .cons r (paired_take n t)
theorem paired_drop {A B : Type} {F : A → B → Prop} : ∀ {xs : List A} {ys : List B} (n : Nat), Paired F xs ys → Paired F (xs.drop n) (ys.drop n)
  | _, _, 0, r => r
  | _, _, _ + 1, .nil => .nil
  | _, _, n + 1, .cons _ t => paired_drop n t
theorem paired_set {A B : Type} {F : A → B → Prop} {x : A} {y : B} (r : F x y) : ∀ {xs : List A} {ys : List B} (i : Nat), Paired F xs ys → Paired F (xs.set i x) (ys.set i y)
  | _, _, _, .nil => .nil
  | _, _, 0, .cons _ t => .cons r t
  | _, _, i + 1, .cons q t => .cons q (paired_set r i t)
theorem paired_flat {A B : Type} {F : A → B → Prop} {xs : List A} {ys : List B} (h : Paired F xs ys) : ∀ k : Nat, Paired F (List.replicate k xs).flatten (List.replicate k ys).flatten
  | 0 => .nil
  | k + 1 => by
    rw [List.replicate_succ, List.replicate_succ, List.flatten_cons, List.flatten_cons]
    exact paired_append h (paired_flat h k)
theorem Reps.get {ds : List D} {vs : List V} {i : Nat} {d : D} (h : Reps α H ds vs) (e : ds[i]? = some d) : ∃ v, vs[i]? = some v ∧ Rep α H d v := paired_get (reps_paired.mp h) e
end
structure Step (α : List (Option Addr)) (H : Hp) (α' : List (Option Addr)) (H' : Hp) : Prop where
  ext : ∀ b o, some b ∉ α → H b = some o → H' b = some o
  pre : ∀ (n : Nat) (x : Option Addr), α[n]? = some x → α'[n]? = some x ∨ α'[n]? = some none
  new : ∀ b, some b ∈ α' → some b ∉ α → H b = none
theorem Step.refl {α : List (Option Addr)} {H : Hp} : Step α H α H := ⟨fun _ _ _ h => h, fun _ _ h => .inl h, fun _ h n => absurd h n⟩
theorem Step.trans {α α1 α2 : List (Option Addr)} {H H1 H2 : Hp} (a : Step α H α1 H1) (b : Step α1 H1 α2 H2) : Step α H α2 H2 where
  ext := fun c o hc e => b.ext c o (fun z => by rw [a.new c z hc] at e; cases e) (a.ext c o hc e)
  pre := fun n x e => by
    rcases a.pre n x e with h | h
    · exact b.pre n x h
    · rcases b.pre n none h with h' | h'
      · exact .inr h'
      · exact .inr h'
  new := fun c hc n => by
    by_cases h1 : some c ∈ α1
    · exact a.new c h1 n
    · have := b.new c hc h1
      cases q : H c with
      | none => rfl
      | some o => rw [a.ext c o n q] at this; cases this
theorem Step.laid {α : List (Option Addr)} {H : Hp} {p : Addr} {o : HO} (h : H p = none) : Step α H α (upd H p o) :=
  ⟨fun b u _ e => by rw [upd_ne (ne_of_none e h)]; exact e, fun _ _ h => .inl h, fun _ h n => absurd h n⟩
theorem Step.cell {α : List (Option Addr)} {H : Hp} {p : Addr} {o : HO} (h : H p = none) : Step α H (α ++ [some p]) (upd H p o) :=
  ⟨fun b u _ e => by rw [upd_ne (ne_of_none e h)]; exact e, fun n x e => .inl (by rw [List.getElem?_append_left (List.getElem?_eq_some_iff.mp e).1]; exact e), fun b hb n => by
    rcases List.mem_append.mp hb with z | z
    · exact absurd z n
    · have : b = p := by simpa using z
      subst this; exact h⟩
theorem Step.write {α : List (Option Addr)} {H : Hp} {p : Addr} {o : HO} (h : some p ∈ α) : Step α H α (upd H p o) :=
  ⟨fun b u n e => by rw [upd_ne (fun z => by subst z; exact n h)]; exact e, fun _ _ h => .inl h, fun _ h n => absurd h n⟩
theorem Step.frz {α : List (Option Addr)} {H : Hp} {n : Nat} : Step α H (α.set n none) H :=
  ⟨fun _ _ _ h => h, fun m x e => by
    by_cases hm : n = m
    · subst hm; exact .inr (List.getElem?_set_self (List.getElem?_eq_some_iff.mp e).1)
    · exact .inl (by rw [List.getElem?_set_ne hm]; exact e), fun b hb hn => by
    rcases List.mem_or_eq_of_mem_set hb with z | z
    · exact absurd z hn
    · cases z⟩
mutual
theorem Rep.step {α α' : List (Option Addr)} {H H' : Hp} (s : Step α H α' H') : ∀ {d : D} {v : V}, Rep α H d v → Rep α' H' d v
  | .non, _, h => by unfold Rep at h ⊢; exact h
  | .bl _, _, h => by unfold Rep at h ⊢; exact h
  | .int _, _, h => by unfold Rep at h ⊢; exact h
  | .str _, _, h => by unfold Rep at h ⊢; exact h
  | .ty _, _, h => by unfold Rep at h ⊢; exact h
  | .ref n, _, h => by
    unfold Rep at h ⊢
    rcases h with h | ⟨a, e, r⟩
    · rcases s.pre _ _ h with z | z <;> exact .inl z
    · rcases s.pre _ _ e with z | z
      · exact .inr ⟨a, z, r⟩
      · exact .inl z
  | .lst xs, _, h => by
    unfold Rep at h ⊢
    obtain ⟨a, vs, e, n, r, q⟩ := h
    refine ⟨a, vs, e, fun z => ?_, ?_, Reps.step s q⟩
    · have := s.new a z n
      rcases r with r | ⟨o, r⟩ <;> (rw [this] at r; cases r)
    · rcases r with r | ⟨o, r⟩
      · exact .inl (s.ext _ _ n r)
      · exact .inr ⟨o, s.ext _ _ n r⟩
  | .tup xs, _, h => by
    unfold Rep at h ⊢
    obtain ⟨a, vs, e, n, r, q⟩ := h
    exact ⟨a, vs, e, (fun z => by rw [s.new a z n] at r; exact nomatch r), s.ext _ _ n r, Reps.step s q⟩
theorem Reps.step {α α' : List (Option Addr)} {H H' : Hp} (s : Step α H α' H') : ∀ {ds : List D} {vs : List V}, Reps α H ds vs → Reps α' H' ds vs
  | [], _, h => by unfold Reps at h ⊢; exact h
  | d :: ds, _, h => by
    unfold Reps at h ⊢
    obtain ⟨v, r, e, h1, h2⟩ := h
    exact ⟨v, r, e, Rep.step s h1, Reps.step s h2⟩
end
structure Spl (G F H : Hp) : Prop where
  eq : ∀ b, H b = (G b).or (F b)
  dis : ∀ b o, G b = some o → F b = none
section
variable {G F H : Hp}
theorem Spl.get (P : Spl G F H) {b : Addr} {o : HO} (h : G b = some o) : H b = some o := by rw [P.eq b, h]; rfl
theorem Spl.same (P : Spl G F H) : Same G H := fun _ _ h => P.get h
theorem Spl.none (P : Spl G F H) {b : Addr} (h : H b = none) : G b = none ∧ F b = none := by
  have e := P.eq b
  rw [h] at e
  cases q : G b with
  | none => rw [q] at e; exact ⟨rfl, e.symm⟩
  | some o => rw [q] at e; cases e
theorem Spl.frame (P : Spl G F H) {b : Addr} {o : HO} (h : F b = some o) : H b = some o ∧ G b = Option.none := by
  have hn : G b = Option.none := by
    cases q : G b with
    | none => rfl
    | some u => rw [P.dis b u q] at h; cases h
  exact ⟨by rw [P.eq b, hn, h]; rfl, hn⟩
theorem Spl.laid (P : Spl G F H) {p : Addr} {o : HO} (h : H p = Option.none) : Spl (upd G p o) F (upd H p o) := by
  obtain ⟨h1, h2⟩ := P.none h
  refine ⟨fun b => ?_, fun b u e => ?_⟩
  · by_cases hb : b = p
    · subst hb; rw [upd_same, upd_same]; rfl
    · rw [upd_ne hb, upd_ne hb]; exact P.eq b
  · by_cases hb : b = p
    · subst hb; exact h2
    · rw [upd_ne hb] at e; exact P.dis b u e
theorem Spl.write (P : Spl G F H) {p : Addr} {o o' : HO} (h : G p = some o) : Spl (upd G p o') F (upd H p o') := by
  refine ⟨fun b => ?_, fun b u e => ?_⟩
  · by_cases hb : b = p
    · subst hb; rw [upd_same, upd_same]; rfl
    · rw [upd_ne hb, upd_ne hb]; exact P.eq b
  · by_cases hb : b = p
    · subst hb; exact P.dis b o h
    · rw [upd_ne hb] at e; exact P.dis b u e
theorem Spl.hide (P : Spl G F H) {p : Addr} {o : HO} (h : H p = Option.none) : Spl G (upd F p o) (upd H p o) := by
  obtain ⟨h1, h2⟩ := P.none h
  refine ⟨fun b => ?_, fun b u e => ?_⟩
  · by_cases hb : b = p
    · subst hb; rw [upd_same, upd_same, h1]; rfl
    · rw [upd_ne hb, upd_ne hb]; exact P.eq b
  · by_cases hb : b = p
    · subst hb; rw [h1] at e; cases e
    · rw [upd_ne hb]; exact P.dis b u e
theorem Spl.hid (P : Spl G F H) {p : Addr} {o o' : HO} (h : F p = some o) : Spl G (upd F p o') (upd H p o') := by
  have h1 := (P.frame h).2
  refine ⟨fun b => ?_, fun b u e => ?_⟩
  · by_cases hb : b = p
    · subst hb; rw [upd_same, upd_same, h1]; rfl
    · rw [upd_ne hb, upd_ne hb]; exact P.eq b
  · by_cases hb : b = p
    · subst hb; rw [h1] at e; cases e
    · rw [upd_ne hb]; exact P.dis b u e
theorem Spl.show {p : Addr} {o : HO} (P : Spl G (upd F p o) H) (h : F p = Option.none) : Spl (upd G p o) F H := by
  have h1 := (P.frame (b := p) upd_same)
  refine ⟨fun b => ?_, fun b u e => ?_⟩
  · by_cases hb : b = p
    · subst hb; rw [upd_same, h1.1]; rfl
    · rw [upd_ne hb, P.eq b, upd_ne hb]
  · by_cases hb : b = p
    · subst hb; exact h
    · rw [upd_ne hb] at e
      have := P.dis b u e
      rw [upd_ne hb] at this; exact this
end
mutual
theorem Rep.mono {α : List (Option Addr)} {G H : Hp} (s : Same G H) : ∀ {d : D} {v : V}, Rep α G d v → Rep α H d v
  | .non, _, h => by unfold Rep at h ⊢; exact h
  | .bl _, _, h => by unfold Rep at h ⊢; exact h
  | .int _, _, h => by unfold Rep at h ⊢; exact h
  | .str _, _, h => by unfold Rep at h ⊢; exact h
  | .ty _, _, h => by unfold Rep at h ⊢; exact h
  | .ref n, _, h => by unfold Rep at h ⊢; exact h
  | .lst xs, _, h => by
    unfold Rep at h ⊢
    obtain ⟨a, vs, e, n, r, q⟩ := h
    refine ⟨a, vs, e, n, ?_, Reps.mono s q⟩
    rcases r with r | ⟨o, r⟩
    · exact .inl (s _ _ r)
    · exact .inr ⟨o, s _ _ r⟩
  | .tup xs, _, h => by
    unfold Rep at h ⊢
    obtain ⟨a, vs, e, n, r, q⟩ := h
    exact ⟨a, vs, e, n, s _ _ r, Reps.mono s q⟩
theorem Reps.mono {α : List (Option Addr)} {G H : Hp} (s : Same G H) : ∀ {ds : List D} {vs : List V}, Reps α G ds vs → Reps α H ds vs
  | [], _, h => by unfold Reps at h ⊢; exact h
  | d :: ds, _, h => by
    unfold Reps at h ⊢
    obtain ⟨v, r, e, h1, h2⟩ := h
    exact ⟨v, r, e, Rep.mono s h1, Reps.mono s h2⟩
end
def RepF (α : List (Option Addr)) (H : Hp) : List (Str × D) → List (Str × V) → Prop := Paired fun p q => p.1 = q.1 ∧ Rep α H p.2 q.2
def CellAt (α : List (Option Addr)) (H : Hp) (a : Addr) : Cell → Prop
  | .lst xs => ∃ vs, H a = some (.lst vs) ∧ Reps α H xs vs
  | .ins C fs => ∃ dx vs, H a = some (.ins C dx vs) ∧ RepF α H fs vs
  | .dead => False
structure StRel (α : List (Option Addr)) (st : Store) (H : Hp) : Prop where
  len : α.length = st.length
  nd : ∀ (i j : Nat) (a : Addr), α[i]? = some (some a) → α[j]? = some (some a) → i = j
  at' : ∀ (n : Nat) (c : Cell), st[n]? = some c → (c = .dead ∧ α[n]? = some none) ∨ ∃ a, α[n]? = some (some a) ∧ CellAt α H a c
theorem RepF.step {α α' : List (Option Addr)} {H H' : Hp} (s : Step α H α' H') {ds : List (Str × D)} {vs : List (Str × V)} (h : RepF α H ds vs) : RepF α' H' ds vs := Paired.mapP h fun _ _ z => ⟨z.1, z.2.step s⟩
theorem CellAt.same {α α' : List (Option Addr)} {H H' : Hp} {a : Addr} {c : Cell} (s : Step α H α' H') (e : H' a = H a) (h : CellAt α H a c) : CellAt α' H' a c := by
  cases c with
  | lst xs => obtain ⟨vs, h1, h2⟩ := h; exact ⟨vs, e.trans h1, h2.step s⟩
  | ins C fs => obtain ⟨dx, vs, h1, h2⟩ := h; exact ⟨dx, vs, e.trans h1, h2.step s⟩
  | dead => exact h.elim
theorem CellAt.some {α : List (Option Addr)} {H : Hp} {a : Addr} {c : Cell} (h : CellAt α H a c) : ∃ o, H a = some o := by
  cases c with
  | lst xs => obtain ⟨vs, h1, h2⟩ := h; exact ⟨_, h1⟩
  | ins C fs => obtain ⟨dx, vs, h1, h2⟩ := h; exact ⟨_, h1⟩
  | dead => exact h.elim
theorem rep_at {α : List (Option Addr)} {H : Hp} {n : Nat} {v : V} {a : Addr} (e : α[n]? = Option.some (Option.some a)) (r : Rep α H (.ref n) v) : v = .ref a := by
  unfold Rep at r
  rcases r with r | ⟨b, eb, rfl⟩
  · rw [e] at r; cases r
  · rw [e] at eb; cases eb; rfl
section
variable {α : List (Option Addr)} {st : Store} {H : Hp}
theorem StRel.lstAt (S : StRel α st H) {n : Nat} {xs : List D} (e : st[n]? = Option.some (.lst xs)) : ∃ a, α[n]? = Option.some (Option.some a) ∧ ∃ vs, H a = Option.some (.lst vs) ∧ Reps α H xs vs := by
  rcases S.at' n _ e with ⟨z, _⟩ | z
  · cases z
  · exact z
theorem StRel.insAt (S : StRel α st H) {n : Nat} {C : Addr} {fs : List (Str × D)} (e : st[n]? = Option.some (.ins C fs)) : ∃ a, α[n]? = Option.some (Option.some a) ∧ ∃ dx vs, H a = Option.some (.ins C dx vs) ∧ RepF α H fs vs := by
  rcases S.at' n _ e with ⟨z, _⟩ | z
  · cases z
  · exact z
theorem StRel.mem (S : StRel α st H) {a : Addr} (h : Option.some a ∈ α) : ∃ (n : Nat) (c : Cell), α[n]? = Option.some (Option.some a) ∧ st[n]? = Option.some c ∧ CellAt α H a c := by
  obtain ⟨n, hn, e⟩ := List.mem_iff_getElem.mp h
  have hl : n < st.length := by rw [← S.len]; exact hn
  have e' : α[n]? = Option.some (Option.some a) := by rw [List.getElem?_eq_getElem hn, e]
  rcases S.at' n st[n] (by simp [hl]) with ⟨_, q⟩ | ⟨a', q, ca⟩
  · rw [e'] at q; cases q
  · rw [e'] at q; cases q
    exact ⟨n, _, e', by simp [hl], ca⟩
theorem StRel.notin (S : StRel α st H) {p : Addr} (h : H p = none) : Option.some p ∉ α := fun z => by
  obtain ⟨n, c, _, _, ca⟩ := S.mem z
  obtain ⟨o, e⟩ := ca.some
  rw [h] at e; cases e
theorem StRel.laid (S : StRel α st H) {p : Addr} {o : HO} (h : H p = none) : StRel α st (upd H p o) :=
  ⟨S.len, S.nd, fun n c e => by
    rcases S.at' n c e with z | ⟨a, q, ca⟩
    · exact .inl z
    · exact .inr ⟨a, q, ca.same (Step.laid h) (upd_ne (by obtain ⟨u, z⟩ := ca.some; exact ne_of_none z h))⟩⟩
theorem StRel.cell (S : StRel α st H) {p : Addr} {o : HO} {c : Cell} (h : H p = none) (hc : CellAt (α ++ [Option.some p]) (upd H p o) p c) : StRel (α ++ [Option.some p]) (st ++ [c]) (upd H p o) where
  len := by rw [List.length_append, List.length_append, S.len]; rfl
  nd := fun i j a ei ej => by
    have key : ∀ (i : Nat) (a : Addr), (α ++ [Option.some p])[i]? = Option.some (Option.some a) → (i < α.length ∧ α[i]? = Option.some (Option.some a)) ∨ (i = α.length ∧ a = p) := by
      intro i a e
      by_cases hi : i < α.length
      · rw [List.getElem?_append_left hi] at e; exact .inl ⟨hi, e⟩
      · rw [List.getElem?_append_right (Nat.le_of_not_lt hi)] at e
        have h0 : i - α.length = 0 := by
          cases q : i - α.length with
          | zero => rfl
          | succ k => rw [q] at e; simp at e
        rw [h0] at e
        have : p = a := by simpa using e
        exact .inr ⟨by omega, this.symm⟩
    rcases key i a ei with ⟨h1, e1⟩ | ⟨h1, e1⟩ <;> rcases key j a ej with ⟨h2, e2⟩ | ⟨h2, e2⟩
    · exact S.nd i j a e1 e2
    · subst e2; exact absurd (List.mem_of_getElem? e1) (S.notin h)
    · subst e1; exact absurd (List.mem_of_getElem? e2) (S.notin h)
    · omega
  at' := fun n d e => by
    by_cases hn : n < st.length
    · rw [List.getElem?_append_left hn] at e
      have hl : n < α.length := by rw [S.len]; exact hn
      rcases S.at' n d e with ⟨z, q⟩ | ⟨a, q, ca⟩
      · exact .inl ⟨z, by rw [List.getElem?_append_left hl]; exact q⟩
      · exact .inr ⟨a, by rw [List.getElem?_append_left hl]; exact q, ca.same (Step.cell h) (upd_ne (by obtain ⟨u, z⟩ := ca.some; exact ne_of_none z h))⟩
    · rw [List.getElem?_append_right (Nat.le_of_not_lt hn)] at e
      have h0 : n - st.length = 0 := by
        cases q : n - st.length with
        | zero => rfl
        | succ k => rw [q] at e; simp at e
      rw [h0] at e
      have hd : c = d := by simpa using e
      subst hd
      refine .inr ⟨p, ?_, hc⟩
      rw [List.getElem?_append_right (by rw [S.len]; exact Nat.le_of_not_lt hn), S.len, h0]
      rfl
theorem StRel.write (S : StRel α st H) {p : Addr} {o : HO} {c : Cell} {n : Nat} (e : α[n]? = Option.some (Option.some p)) (hc : CellAt α (upd H p o) p c) : StRel α (st.set n c) (upd H p o) where
  len := by rw [List.length_set]; exact S.len
  nd := S.nd
  at' := fun m d q => by
    have hp : Option.some p ∈ α := List.mem_of_getElem? e
    by_cases hm : m = n
    · subst hm
      have hl : m < st.length := by
        have := (List.getElem?_eq_some_iff.mp q).1
        rw [List.length_set] at this; exact this
      rw [List.getElem?_set_self hl] at q
      cases q
      exact .inr ⟨p, e, hc⟩
    · rw [List.getElem?_set_ne (Ne.symm hm)] at q
      rcases S.at' m d q with z | ⟨a, r, ca⟩
      · exact .inl z
      · refine .inr ⟨a, r, ca.same (Step.write hp) (upd_ne fun z => ?_)⟩
        subst z
        exact hm (S.nd m n _ r e)
theorem StRel.frz (S : StRel α st H) {n : Nat} (hn : n < st.length) : StRel (α.set n none) (st.set n .dead) H where
  len := by rw [List.length_set, List.length_set]; exact S.len
  nd := fun i j a ei ej => by
    have key : ∀ (i : Nat), (α.set n none)[i]? = Option.some (Option.some a) → α[i]? = Option.some (Option.some a) := by
      intro i e
      by_cases hi : n = i
      · subst hi; rw [List.getElem?_set_self (by rw [S.len]; exact hn)] at e; cases e
      · rw [List.getElem?_set_ne hi] at e; exact e
    exact S.nd i j a (key i ei) (key j ej)
  at' := fun m d q => by
    by_cases hm : n = m
    · subst hm
      rw [List.getElem?_set_self hn] at q
      cases q
      exact .inl ⟨rfl, List.getElem?_set_self (by rw [S.len]; exact hn)⟩
    · rw [List.getElem?_set_ne hm] at q
      rcases S.at' m d q with ⟨z, r⟩ | ⟨a, r, ca⟩
      · exact .inl ⟨z, by rw [List.getElem?_set_ne hm]; exact r⟩
      · exact .inr ⟨a, by rw [List.getElem?_set_ne hm]; exact r, ca.same Step.frz rfl⟩
theorem StRel.frz_lst (S : StRel α st H) {n : Nat} {xs : List D} {v : V} (e : st[n]? = Option.some (.lst xs)) (r : Rep α H (.ref n) v) : Rep (α.set n none) H (.lst xs) v := by
  obtain ⟨a, ea, vs, h1, h2⟩ := S.lstAt e
  have := rep_at ea r
  subst this
  unfold Rep
  refine ⟨a, vs, rfl, fun z => ?_, .inl h1, h2.step Step.frz⟩
  obtain ⟨m, hm, em⟩ := List.mem_iff_getElem.mp z
  have em' : (α.set n none)[m]? = Option.some (Option.some a) := by rw [List.getElem?_eq_getElem hm, em]
  by_cases hx : n = m
  · subst hx; rw [List.getElem?_set_self (List.getElem?_eq_some_iff.mp ea).1] at em'; cases em'
  · rw [List.getElem?_set_ne hx] at em'
    exact hx (S.nd n m a ea em')
end
end L3
namespace L3
open PySem PySem.Spec L2
open PyProof.Rows hiding St
abbrev DK := D → Store → Prop
abbrev DE := DEnv → Store → DK → Prop
abbrev DT := DEnv → Store → (Bool → Store → Prop) → Prop
abbrev DA := DEnv → Store → (List D → Store → Prop) → Prop
structure DEnds where
  nx : DEnv → Store → Prop
  rt : DK
  bk : DEnv → Store → Prop := fun _ _ => False
  ct : DEnv → Store → Prop := fun _ _ => False
abbrev DS := DEnds → DEnv → Store → Prop
structure RelS (α : List (Option Addr)) (H : Hp) (σd : DEnv) (σ : L2.St) : Prop where
  len : σd.length = σ.length
  at' : ∀ (i : Nat) (d : D), σd[i]? = some (some d) → ∃ v, σ[i]? = some (some v) ∧ Rep α H d v
theorem RelS.step {α α' : List (Option Addr)} {H H' : Hp} {σd : DEnv} {σ : L2.St} (s : Step α H α' H') (h : RelS α H σd σ) : RelS α' H' σd σ :=
  ⟨h.len, fun i d e => let ⟨v, q, r⟩ := h.at' i d e; ⟨v, q, r.step s⟩⟩
theorem RelS.set {α : List (Option Addr)} {H : Hp} {σd : DEnv} {σ : L2.St} (h : RelS α H σd σ) (i : Nat) {d : D} {v : V} (r : Rep α H d v) : RelS α H (σd.set i (some d)) (σ.set i (some v)) := by
  refine ⟨by rw [List.length_set, List.length_set, h.len], fun j e q => ?_⟩
  have hl := h.len
  by_cases hj : j = i
  · subst hj
    have hlt : j < σd.length := by
      have := (List.getElem?_eq_some_iff.mp q).1
      rw [List.length_set] at this; exact this
    rw [List.getElem?_set_self hlt] at q
    cases q
    exact ⟨v, List.getElem?_set_self (by omega), r⟩
  · rw [List.getElem?_set_ne (Ne.symm hj)] at q
    rw [List.getElem?_set_ne (Ne.symm hj)]
    exact h.at' j e q
def LK (α : List (Option Addr)) (G F : Hp) (K : DK) (Q : VK) : Prop := ∀ d st', K d st' → ∀ α' G' H' v, Step α G α' G' → Spl G' F H' → StRel α' st' G' → Rep α' G' d v → Q v H'
def LKB (α : List (Option Addr)) (G F : Hp) (K : Bool → Store → Prop) (Q : Bool → Hp → Prop) : Prop := ∀ b st', K b st' → ∀ α' G' H', Step α G α' G' → Spl G' F H' → StRel α' st' G' → Q b H'
def LKA (α : List (Option Addr)) (G F : Hp) (K : List D → Store → Prop) (Q : List V → Hp → Prop) : Prop := ∀ ds st', K ds st' → ∀ α' G' H' vs, Step α G α' G' → Spl G' F H' → StRel α' st' G' → Reps α' G' ds vs → Q vs H'
def LE (t : DE) : TE := fun σ H Q => ∃ α σd st K G F, Spl G F H ∧ RelS α G σd σ ∧ StRel α st G ∧ t σd st K ∧ LK α G F K Q
def LT (t : DT) : TT := fun σ H Q => ∃ α σd st K G F, Spl G F H ∧ RelS α G σd σ ∧ StRel α st G ∧ t σd st K ∧ LKB α G F K Q
def LA (t : DA) : TA := fun σ H Q => ∃ α σd st K G F, Spl G F H ∧ RelS α G σd σ ∧ StRel α st G ∧ t σd st K ∧ LKA α G F K Q
theorem LK.here {α : List (Option Addr)} {G F H : Hp} {K : DK} {Q : VK} (h : LK α G F K Q) (P : Spl G F H) {d : D} {st : Store} {v : V} (k : K d st) (S : StRel α st G) (r : Rep α G d v) : Q v H := h d st k α G H v Step.refl P S r
theorem LK.at {α α1 : List (Option Addr)} {G F G1 : Hp} {K : DK} {Q : VK} (h : LK α G F K Q) (s : Step α G α1 G1) : LK α1 G1 F K Q := fun d st' k α' G' H' v s' P S r => h d st' k α' G' H' v (s.trans s') P S r
theorem LKB.at {α α1 : List (Option Addr)} {G F G1 : Hp} {K : Bool → Store → Prop} {Q : Bool → Hp → Prop} (h : LKB α G F K Q) (s : Step α G α1 G1) : LKB α1 G1 F K Q := fun d st' k α' G' H' s' P S => h d st' k α' G' H' (s.trans s') P S
theorem LKA.at {α α1 : List (Option Addr)} {G F G1 : Hp} {K : List D → Store → Prop} {Q : List V → Hp → Prop} (h : LKA α G F K Q) (s : Step α G α1 G1) : LKA α1 G1 F K Q := fun d st' k α' G' H' v s' P S r => h d st' k α' G' H' v (s.trans s') P S r
section
variable {X : Cx} {a b c e : Expr} {es : List Expr} {ta tb tc te : DE} {pos : Pos}
theorem PE.imp {t t' : TE} (h : PE X e t) (f : ∀ σ H Q, t' σ H Q → t σ H Q) : PE X e t' := fun pins s σ H Q I q => h pins s σ H Q I (f σ H Q q)
theorem PT.imp {t t' : TT} (h : PT X e t) (f : ∀ σ H Q, t' σ H Q → t σ H Q) : PT X e t' := fun pins s σ H Q I q => h pins s σ H Q I (f σ H Q q)
theorem PW.imp {t t' : TT} (h : PW X e t) (f : ∀ σ H Q, t' σ H Q → t σ H Q) : PW X e t' := fun w pins s σ H Q I q => h w pins s σ H Q I (f σ H Q q)
theorem PA.imp {t t' : TA} (h : PA X es t) (f : ∀ σ H Q, t' σ H Q → t σ H Q) : PA X es t' := fun p pins s σ H Q I q => h p pins s σ H Q I (f σ H Q q)
def dVar (i : Nat) : DE := fun σ st K => match σ[i]? with | some (some d) => K d st | _ => False
def dC (d : D) : DE := fun _ st K => K d st
theorem d_var {i : Nat} {x : Str} (h : PE X (.Name x pos) (tVar i)) : PE X (.Name x pos) (LE (dVar i)) := PE.imp h fun σ H Q ⟨α, σd, st, K, G, F, P, R, S, t, k⟩ => by
  unfold dVar at t
  split at t
  · rename_i d q
    obtain ⟨v, e, r⟩ := R.at' i d q
    exact ⟨v, e, k.here P t S r⟩
  · exact t.elim
theorem d_const {v : V} {d : D} (h : PE X e (tC v)) (r : ∀ α H, Rep α H d v) : PE X e (LE (dC d)) := PE.imp h fun σ H Q ⟨α, σd, st, K, G, F, P, R, S, t, k⟩ => k.here P t S (r α G)
theorem d_int {i : Int} {j : Nat} : PE X (.Constant (.int i) j pos) (LE (dC (.int i))) := d_const pe_int fun _ _ => by unfold Rep; rfl
theorem d_bl {i : Bool} {j : Nat} : PE X (.Constant (.bool i) j pos) (LE (dC (.bl i))) := d_const pe_bl fun _ _ => by unfold Rep; rfl
theorem d_non {j : Nat} : PE X (.Constant .none j pos) (LE (dC .non)) := d_const pe_non fun _ _ => by unfold Rep; rfl
abbrev DR2 := D → D → Store → DK → Prop
abbrev DR1 := D → Store → DK → Prop
abbrev DRA := List D → Store → DK → Prop
def LR (r : DR2) : R2 := fun x y H Q => ∃ α d e st K G F, Spl G F H ∧ Rep α G d x ∧ Rep α G e y ∧ StRel α st G ∧ r d e st K ∧ LK α G F K Q
def LR1 (r : DR1) : V → Hp → VK → Prop := fun x H Q => ∃ α d st K G F, Spl G F H ∧ Rep α G d x ∧ StRel α st G ∧ r d st K ∧ LK α G F K Q
def LRA (r : DRA) : List V → Hp → VK → Prop := fun xs H Q => ∃ α ds st K G F, Spl G F H ∧ Reps α G ds xs ∧ StRel α st G ∧ r ds st K ∧ LK α G F K Q
def dOp (r : DR2) (ta tb : DE) : DE := fun σ st K => ta σ st fun x st1 => tb σ st1 fun y st2 => r x y st2 K
def dUn (r : DR1) (ta : DE) : DE := fun σ st K => ta σ st fun x st1 => r x st1 K
theorem LE.op {r : DR2} {σ : L2.St} {H : Hp} {Q : VK} (h : LE (dOp r ta tb) σ H Q) : tOp (LR r) (LE ta) (LE tb) σ H Q := by
  obtain ⟨α, σd, st, K, G, F, P, R, S, t, k⟩ := h
  refine ⟨α, σd, st, _, G, F, P, R, S, t, fun d st1 q α1 G1 H1 v s1 P1 S1 r1 => ?_⟩
  refine ⟨α1, σd, st1, _, G1, F, P1, R.step s1, S1, q, fun d2 st2 q2 α2 G2 H2 v2 s2 P2 S2 r2 => ?_⟩
  exact ⟨α2, d, d2, st2, K, G2, F, P2, r1.step s2, r2, S2, q2, (k.at s1).at s2⟩
theorem LE.un {r : DR1} {σ : L2.St} {H : Hp} {Q : VK} (h : LE (dUn r ta) σ H Q) : tUn (LR1 r) (LE ta) σ H Q := by
  obtain ⟨α, σd, st, K, G, F, P, R, S, t, k⟩ := h
  refine ⟨α, σd, st, _, G, F, P, R, S, t, fun d st1 q α1 G1 H1 v s1 P1 S1 r1 => ?_⟩
  exact ⟨α1, d, st1, K, G1, F, P1, r1, S1, q, k.at s1⟩
theorem d_op {op : Operator} {r : DR2} (ho : OpR X (binaryOp op) (LR r)) (ha : PE X a (LE ta)) (hb : PE X b (LE tb)) : PE X (.BinOp a op b pos) (LE (dOp r ta tb)) := PE.imp (pe_op ho ha hb) fun _ _ _ h => LE.op h
theorem d_un {op : UnaryOp} {r : DR1} (ho : UnR X (unaryOp op) (LR1 r)) (ha : PE X a (LE ta)) : PE X (.UnaryOp op a pos) (LE (dUn r ta)) := PE.imp (pe_un ho ha) fun _ _ _ h => LE.un h
theorem d_cmp {op : CmpOp} {r : DR2} (ho : OpR X (compareOp op) (LR r)) (ha : PE X a (LE ta)) (hb : PE X b (LE tb)) (hm : behindInMarks op b = false := by first | exact nomark _ | rfl) : PE X (.Compare a [op] [b] pos) (LE (dOp r ta tb)) := PE.imp (pe_cmpR ho ha hb hm) fun _ _ _ h => LE.op h
def dTest (t : DE) : DT := fun σ st K => t σ st fun d st1 => match d with | .bl b => K b st1 | _ => False
theorem LT.test {σ : L2.St} {H : Hp} {Q : Bool → Hp → Prop} (h : LT (dTest te) σ H Q) : LE te σ H fun x H' => ∃ k, x = .bl k ∧ Q k H' := by
  obtain ⟨α, σd, st, K, G, F, P, R, S, t, k⟩ := h
  refine ⟨α, σd, st, _, G, F, P, R, S, t, fun d st1 q α1 G1 H1 v s1 P1 S1 r1 => ?_⟩
  cases d with
  | bl b =>
    unfold Rep at r1
    exact ⟨b, r1, k b st1 q α1 G1 H1 s1 P1 S1⟩
  | _ => exact q.elim
theorem d_tcmp {op : CmpOp} {r : DR2} (ho : OpR X (compareOp op) (LR r)) (ha : PE X a (LE ta)) (hb : PE X b (LE tb)) (hm : behindInMarks op b = false := by first | exact nomark _ | rfl) : PT X (.Compare a [op] [b] pos) (LT (dTest (dOp r ta tb))) := PT.imp (pt_cmpR ho ha hb hm) fun σ H Q h => by
  have q := LT.test h
  exact LE.op (Q := fun x H' => ∃ k, x = .bl k ∧ Q k H') q
theorem d_tval (he : PE X e (LE te)) (hv : ∀ whole, isTrue e X.env whole = (do let v ← whole; standAt e.pos; holding [v] (truthy v)) := by intro _; rfl) : PT X e (LT (dTest te)) := PT.imp (pt_val he hv) fun σ H Q h => LT.test h
def dNotT (t : DT) : DT := fun σ st K => t σ st fun b st1 => K (!b) st1
def dAndT (t u : DT) : DT := fun σ st K => t σ st fun b st1 => if b = true then u σ st1 K else K false st1
def dOrT (t u : DT) : DT := fun σ st K => t σ st fun b st1 => if b = true then K true st1 else u σ st1 K
theorem d_tnot {t : DT} (ha : PT X a (LT t)) : PT X (.UnaryOp .Not a pos) (LT (dNotT t)) := PT.imp (pt_not ha) fun σ H Q ⟨α, σd, st, K, G, F, P, R, S, t, k⟩ =>
  ⟨α, σd, st, _, G, F, P, R, S, t, fun b st1 q α1 G1 H1 s1 P1 S1 => k _ st1 q α1 G1 H1 s1 P1 S1⟩
theorem LT.and {t u : DT} {σ : L2.St} {H : Hp} {Q : Bool → Hp → Prop} (h : LT (dAndT t u) σ H Q) : tAnd (LT t) (LT u) σ H Q := by
  obtain ⟨α, σd, st, K, G, F, P, R, S, t, k⟩ := h
  refine ⟨α, σd, st, _, G, F, P, R, S, t, fun b st1 q α1 G1 H1 s1 P1 S1 => ?_⟩
  cases b with
  | true => exact ⟨α1, σd, st1, K, G1, F, P1, R.step s1, S1, q, k.at s1⟩
  | false => exact k _ st1 q α1 G1 H1 s1 P1 S1
theorem LT.or {t u : DT} {σ : L2.St} {H : Hp} {Q : Bool → Hp → Prop} (h : LT (dOrT t u) σ H Q) : tOr (LT t) (LT u) σ H Q := by
  obtain ⟨α, σd, st, K, G, F, P, R, S, t, k⟩ := h
  refine ⟨α, σd, st, _, G, F, P, R, S, t, fun b st1 q α1 G1 H1 s1 P1 S1 => ?_⟩
  cases b with
  | false => exact ⟨α1, σd, st1, K, G1, F, P1, R.step s1, S1, q, k.at s1⟩
  | true => exact k _ st1 q α1 G1 H1 s1 P1 S1
theorem d_wand1 {t : DT} (ha : PT X a (LT t)) : PW X (.BoolOp .And [a] pos) (LT t) := pw_and1 ha
theorem d_wor1 {t : DT} (ha : PT X a (LT t)) : PW X (.BoolOp .Or [a] pos) (LT t) := pw_or1 ha
theorem d_wand {t u : DT} (ha : PT X a (LT t)) (hb : PW X (.BoolOp .And (b :: es) pos) (LT u)) : PW X (.BoolOp .And (a :: b :: es) pos) (LT (dAndT t u)) := PW.imp (pw_and ha hb) fun _ _ _ h => LT.and h
theorem d_wor {t u : DT} (ha : PT X a (LT t)) (hb : PW X (.BoolOp .Or (b :: es) pos) (LT u)) : PW X (.BoolOp .Or (a :: b :: es) pos) (LT (dOrT t u)) := PW.imp (pw_or ha hb) fun _ _ _ h => LT.or h
def dNotV (t : DT) : DE := fun σ st K => t σ st fun b st1 => K (.bl (!b)) st1
theorem d_not (ha : PE X a (LE ta)) : PE X (.UnaryOp .Not a pos) (LE (dNotV (dTest ta))) := PE.imp (pe_not ha) fun σ H Q ⟨α, σd, st, K, G, F, P, R, S, t, k⟩ => by
  refine ⟨α, σd, st, _, G, F, P, R, S, t, fun d st1 q α1 G1 H1 v s1 P1 S1 r1 => ?_⟩
  cases d with
  | bl b =>
    unfold Rep at r1
    exact ⟨b, r1, k _ st1 q α1 G1 H1 _ s1 P1 S1 (by unfold Rep; rfl)⟩
  | _ => exact q.elim
def dIf (t : DT) (ta tb : DE) : DE := fun σ st K => t σ st fun b st1 => if b = true then ta σ st1 K else tb σ st1 K
theorem d_ifE {t : DT} (hc : PT X c (LT t)) (ha : PE X a (LE ta)) (hb : PE X b (LE tb)) : PE X (.IfExp c a b pos) (LE (dIf t ta tb)) := PE.imp (pe_ifExp hc ha hb) fun σ H Q ⟨α, σd, st, K, G, F, P, R, S, t, k⟩ => by
  refine ⟨α, σd, st, _, G, F, P, R, S, t, fun b st1 q α1 G1 H1 s1 P1 S1 => ?_⟩
  cases b with
  | true => exact ⟨α1, σd, st1, K, G1, F, P1, R.step s1, S1, q, k.at s1⟩
  | false => exact ⟨α1, σd, st1, K, G1, F, P1, R.step s1, S1, q, k.at s1⟩
def dNil : DA := fun _ st K => K [] st
def dCons (ta : DE) (tr : DA) : DA := fun σ st K => ta σ st fun x st1 => tr σ st1 fun xs st2 => K (x :: xs) st2
theorem da_nil : PA X [] (LA dNil) := PA.imp pa_nil fun σ H Q ⟨α, σd, st, K, G, F, P, R, S, t, k⟩ => k [] st t α G H [] Step.refl P S (by unfold Reps; rfl)
theorem da_cons {tr : DA} (ha : PE X e (LE te)) (hr : PA X es (LA tr)) (hs : starEach (e :: es) X.env = (false, eval e X.env) :: starEach es X.env := by rfl) : PA X (e :: es) (LA (dCons te tr)) := PA.imp (pa_cons ha hr hs) fun σ H Q ⟨α, σd, st, K, G, F, P, R, S, t, k⟩ => by
  refine ⟨α, σd, st, _, G, F, P, R, S, t, fun d st1 q α1 G1 H1 v s1 P1 S1 r1 => ?_⟩
  refine ⟨α1, σd, st1, _, G1, F, P1, R.step s1, S1, q, fun ds st2 q2 α2 G2 H2 vs s2 P2 S2 r2 => ?_⟩
  exact k _ st2 q2 α2 G2 H2 (v :: vs) (s1.trans s2) P2 S2 (by unfold Reps; exact ⟨v, vs, rfl, r1.step s2, r2⟩)
def dTup (t : DA) : DE := fun σ st K => t σ st fun ds st1 => ds.length ≤ sizeLine ∧ K (.tup ds) st1
def dLst (t : DA) : DE := fun σ st K => t σ st fun ds st1 => ds.length ≤ sizeLine ∧ K (.lst ds) st1
def dNew (t : DA) : DE := fun σ st K => t σ st fun ds st1 => ds.length ≤ sizeLine ∧ K (.ref st1.length) (st1 ++ [.lst ds])
theorem LK.tup {α : List (Option Addr)} {G F H : Hp} {K : DK} {Q : VK} {ds : List D} {vs : List V} {st : Store} {p : Addr} (k : LK α G F K Q) (P : Spl G F H) (q : K (.tup ds) st) (S : StRel α st G) (r : Reps α G ds vs) (hp : H p = none) : Q (.ref p) (upd H p (.tup vs)) :=
  have hg := (P.none hp).1
  k _ st q α _ _ _ (Step.laid hg) (P.laid hp) (S.laid hg) (by unfold Rep; exact ⟨p, vs, rfl, S.notin hg, upd_same, r.step (Step.laid hg)⟩)
theorem LK.lst {α : List (Option Addr)} {G F H : Hp} {K : DK} {Q : VK} {ds : List D} {vs : List V} {st : Store} {p : Addr} (k : LK α G F K Q) (P : Spl G F H) (q : K (.lst ds) st) (S : StRel α st G) (r : Reps α G ds vs) (hp : H p = none) : Q (.ref p) (upd H p (.lst vs)) :=
  have hg := (P.none hp).1
  k _ st q α _ _ _ (Step.laid hg) (P.laid hp) (S.laid hg) (by unfold Rep; exact ⟨p, vs, rfl, S.notin hg, .of upd_same, r.step (Step.laid hg)⟩)
theorem LK.new {α : List (Option Addr)} {G F H : Hp} {K : DK} {Q : VK} {ds : List D} {vs : List V} {st : Store} {p : Addr} (k : LK α G F K Q) (P : Spl G F H) (q : K (.ref st.length) (st ++ [.lst ds])) (S : StRel α st G) (r : Reps α G ds vs) (hp : H p = none) : Q (.ref p) (upd H p (.lst vs)) :=
  have hg := (P.none hp).1
  k _ _ q (α ++ [some p]) _ _ _ (Step.cell hg) (P.laid hp) (S.cell hg ⟨vs, upd_same, r.step (Step.cell hg)⟩) (by
    unfold Rep
    refine .inr ⟨p, ?_, rfl⟩
    rw [List.getElem?_append_right (by rw [S.len]; exact Nat.le_refl _), S.len, Nat.sub_self]
    rfl)
theorem d_tup {n : Nat} {t : DA} (h : PA X es (LA t)) : PE X (.Tuple es n pos) (LE (dTup t)) := PE.imp (pe_tup h) fun σ H Q ⟨α, σd, st, K, G, F, P, R, S, t, k⟩ =>
  ⟨α, σd, st, _, G, F, P, R, S, t, fun ds st1 q α1 G1 H1 vs s1 P1 S1 r1 => ⟨by rw [← r1.length]; exact q.1, fun p hp => (k.at s1).tup P1 q.2 S1 r1 hp⟩⟩
theorem d_lst {t : DA} (h : PA X es (LA t)) : PE X (.List es pos) (LE (dLst t)) := PE.imp (pe_lst h) fun σ H Q ⟨α, σd, st, K, G, F, P, R, S, t, k⟩ =>
  ⟨α, σd, st, _, G, F, P, R, S, t, fun ds st1 q α1 G1 H1 vs s1 P1 S1 r1 => ⟨by rw [← r1.length]; exact q.1, fun p hp => (k.at s1).lst P1 q.2 S1 r1 hp⟩⟩
theorem d_new {t : DA} (h : PA X es (LA t)) : PE X (.List es pos) (LE (dNew t)) := PE.imp (pe_lst h) fun σ H Q ⟨α, σd, st, K, G, F, P, R, S, t, k⟩ =>
  ⟨α, σd, st, _, G, F, P, R, S, t, fun ds st1 q α1 G1 H1 vs s1 P1 S1 r1 => ⟨by rw [← r1.length]; exact q.1, fun p hp => (k.at s1).new P1 q.2 S1 r1 hp⟩⟩
abbrev DSp := List D → Store → DK → Prop
def LSp (S : DSp) : Sp := fun vs H Q _ => ∃ α ds st K G F, Spl G F H ∧ Reps α G ds vs ∧ StRel α st G ∧ S ds st K ∧ LK α G F K Q
def dCall (S : DSp) (t : DA) : DE := fun σ st K => t σ st fun ds st1 => S ds st1 K
theorem LE.call {S : DSp} {t : DA} {σ : L2.St} {H : Hp} {Q : VK} (h : LE (dCall S t) σ H Q) : tCall (LSp S) [] E0 (LA t) σ H Q := by
  obtain ⟨α, σd, st, K, G, F, P, R, S, t, k⟩ := h
  refine ⟨α, σd, st, _, G, F, P, R, S, t, fun ds st1 q α1 G1 H1 vs s1 P1 S1 r1 => ?_⟩
  dsimp only
  rw [List.append_nil]
  exact ⟨α1, ds, st1, K, G1, F, P1, r1, S1, q, k.at s1⟩
theorem d_call {S : DSp} {k : Nat} {f : Addr} {fd : FuncData} {ps : List Str} {x : Str} {p : Pos} {t : DA} (F : FnOk X.prog X.w X.K X.mg X.base CX0 k f fd ps (LSp S)) (hr : Room k X.A) (hg : Gl X x) (hm : X.mg x = some (.ref f)) (hk : PySem.W.keepIn X.K (.ref f) = true) (hb : Binds X.K fd ps [])
    (ha : PA X (e :: es) (LA t)) (hdb : (x == ("__debug__" : Str)) = false := by decide) (he : starEach (e :: es) X.env = (false, eval e X.env) :: starEach es X.env := by rfl) (hpl : (backTo pos (starEach es X.env)).any (·.1) = false := by rfl) :
    PE X (.Call (.Name x p) (e :: es) [] pos) (LE (dCall S t)) := PE.imp (pe_call F hr hg hm hk hb .nil pass0 ha hdb he hpl) fun _ _ _ h => LE.call h
def dCB (r : DRA) (t : DA) : DE := fun σ st K => t σ st fun ds st1 => r ds st1 K
theorem LE.cb {r : DRA} {t : DA} {σ : L2.St} {H : Hp} {Q : VK} (h : LE (dCB r t) σ H Q) : tCB (LRA r) (LA t) σ H Q := by
  obtain ⟨α, σd, st, K, G, F, P, R, S, t, k⟩ := h
  refine ⟨α, σd, st, _, G, F, P, R, S, t, fun ds st1 q α1 G1 H1 vs s1 P1 S1 r1 => ?_⟩
  exact ⟨α1, ds, st1, K, G1, F, P1, r1, S1, q, k.at s1⟩
end
end L3
namespace L3
open PySem PySem.Spec L2
open PyProof.Rows hiding St
section
variable {X : Cx}
theorem OpR.imp {f : Value → Value → Sem Value} {r r' : R2} (h : OpR X f r) (k : ∀ x y H Q, r' x y H Q → r x y H Q) : OpR X f r' := fun pins s σ H x y v u Q I rx ry q => h pins s σ H x y v u Q I rx ry (k x y H Q q)
theorem CallR.imp {f : Value} {r r' : List V → Hp → VK → Prop} (h : CallR X f r) (k : ∀ xs H Q, r' xs H Q → r xs H Q) : CallR X f r' := fun pins s σ H xs us Q I rs q => h pins s σ H xs us Q I rs (k xs H Q q)
def dI2 (C : Int → Int → Prop) (g : Int → Int → D) : DR2 := fun x y st K => match x, y with | .int i, .int j => C i j ∧ K (g i j) st | _, _ => False
theorem opI_of {f : Value → Value → Sem Value} {C : Int → Int → Prop} {g : Int → Int → D} {g' : Int → Int → V} (hg : ∀ i j α H, Rep α H (g i j) (g' i j)) (h : OpR X f (rI C g')) : OpR X f (LR (dI2 C g)) := OpR.imp h fun x y H Q ⟨α, d, e, st, K, G, F', P, r1, r2, S, q, k⟩ => by
  cases d <;> cases e <;> first
    | exact q.elim
    | (unfold Rep at r1 r2; exact ⟨_, _, r1, r2, q.1, k.here P q.2 S (hg _ _ _ _)⟩)
abbrev T2 : Int → Int → Prop := fun _ _ => True
theorem rI_of {g : Int → Int → V} {f : Value → Value → Sem Value} (h : OpR X f (rI0 g)) : OpR X f (rI T2 g) := OpR.imp h fun x y H Q ⟨i, j, e1, e2, _, q⟩ => ⟨i, j, e1, e2, q⟩
abbrev dSubR : DR2 := dI2 T2 fun i j => .int (i - j)
abbrev dFdivR : DR2 := dI2 (fun _ j => j ≠ 0 ∧ j.natAbs.log2 < 9000) fun i j => .int (i.fdiv j)
abbrev dModR : DR2 := dI2 (fun _ j => j ≠ 0) fun i j => .int (i.fmod j)
abbrev dPowR : DR2 := dI2 CPow fun i j => .int (i ^ j.toNat)
abbrev dLtR : DR2 := dI2 T2 fun i j => .bl (decide (i < j))
abbrev dLeR : DR2 := dI2 T2 fun i j => .bl (decide (i ≤ j))
abbrev dGtR : DR2 := dI2 T2 fun i j => .bl (decide (j < i))
abbrev dGeR : DR2 := dI2 T2 fun i j => .bl (decide (j ≤ i))
theorem o_sub : OpR X (binaryOp .Sub) (LR dSubR) := opI_of (fun _ _ _ _ => by unfold Rep; rfl) (rI_of op_sub)
theorem o_fdiv : OpR X (binaryOp .FloorDiv) (LR dFdivR) := opI_of (fun _ _ _ _ => by unfold Rep; rfl) (opI fun i j _ _ _ _ _ hc q => floordiv_int hc.1 q (.inl (PyProof.noPylong_of_log2 hc.2)))
theorem o_mod : OpR X (binaryOp .Mod) (LR dModR) := opI_of (fun _ _ _ _ => by unfold Rep; rfl) op_modN
theorem o_pow : OpR X (binaryOp .Pow) (LR dPowR) := opI_of (fun _ _ _ _ => by unfold Rep; rfl) op_pow
theorem o_lt : OpR X (compareOp .Lt) (LR dLtR) := opI_of (fun _ _ _ _ => by unfold Rep; rfl) (rI_of op_lt)
theorem o_le : OpR X (compareOp .LtE) (LR dLeR) := opI_of (fun _ _ _ _ => by unfold Rep; rfl) (rI_of op_le)
theorem o_gt : OpR X (compareOp .Gt) (LR dGtR) := opI_of (fun _ _ _ _ => by unfold Rep; rfl) (rI_of op_gt)
theorem o_ge : OpR X (compareOp .GtE) (LR dGeR) := opI_of (fun _ _ _ _ => by unfold Rep; rfl) (rI_of op_ge)
def dNegR : DR1 := fun x st K => match x with | .int i => K (.int (-i)) st | _ => False
theorem o_neg : UnR X (unaryOp .USub) (LR1 dNegR) := fun pins s σ H x v Q I rx ⟨α, d, st, K, G, F', P, r, S, q, k⟩ => by
  cases d <;> first
    | exact q.elim
    | (unfold Rep at r; exact un_neg pins s σ H x v Q I rx ⟨_, r, k.here P q S (by unfold Rep; rfl)⟩)
theorem Inv.lstR {pins : List (Addr × Obj)} {σ : L2.St} {H : Hp} {s : Shared} {l : Addr} {xs : List V} (I : Inv X pins σ H s) (h : Rd H l (.lst xs)) :
    xs.length ≤ sizeLine ∧ ∃ (its : List Value) (n : Nat), Vals xs its ∧ xs.length = its.length ∧ s.heap.get? l = some { cls := .type "list", data := .seq its.toArray n } := by
  obtain ⟨z, its, n, r, e⟩ := h.ok I.hok
  exact ⟨z, its, n, r, r.length, e⟩
theorem rd_up {G F H : Hp} (P : Spl G F H) {a : Addr} {u : HO} (h : Rd G a u) : Rd H a u := by
  rcases h with h | ⟨o, h⟩
  · exact .inl (P.get h)
  · exact .inr ⟨o, P.get h⟩
theorem op_catR : OpR X (binaryOp .Add) (fun x y H Q => ∃ l b xs zs, x = .ref l ∧ y = .ref b ∧ Rd H l (.lst xs) ∧ Rd H b (.lst zs) ∧ xs.length + zs.length ≤ sizeLine ∧ ∀ p, H p = none → Q (.ref p) (upd H p (.lst (xs ++ zs)))) := by
  intro pins s σ H x y v u Q I rx ry h
  obtain ⟨l, b, xs, zs, rfl, rfl, hH, hB, hz, q⟩ := h
  cases rx
  cases ry
  obtain ⟨z, its, n, r, hl, e⟩ := Inv.lstR I hH
  obtain ⟨z2, its2, n2, r2, hl2, e2⟩ := Inv.lstR I hB
  refine PySem.P.add_list e e2 ?_ (by rw [List.size_toArray, List.size_toArray]; omega)
  have ea : its.toArray ++ its2.toArray = (its ++ its2).toArray := by simp
  rw [ea]
  exact ⟨.ref _, _, I.lnew (t' := s.toks) (r.append r2) (by rw [List.length_append]; omega), rfl, q _ I.fresh⟩
theorem op_repR : OpR X (binaryOp .Mult) (fun x y H Q => ∃ l k xs, x = .ref l ∧ y = .int k ∧ Rd H l (.lst xs) ∧ -(2 ^ 63) ≤ k ∧ k < 2 ^ 63 ∧ xs.length * k.toNat ≤ sizeLine ∧
    ∀ p, H p = none → Q (.ref p) (upd H p (.lst (List.replicate k.toNat xs).flatten))) := by
  intro pins s σ H x y v u Q I rx ry h
  obtain ⟨l, k, xs, rfl, rfl, hH, h1, h2, hz, q⟩ := h
  cases rx
  obtain ⟨t, rfl⟩ := ry
  obtain ⟨z, its, n, r, hl, e⟩ := Inv.lstR I hH
  have hlen : its.toArray.size * k.toNat ≤ sizeLine := by rw [List.size_toArray, ← hl]; exact hz
  have hcap : ¬ its.toArray.size * k.toNat > (2 ^ 63 - 1) / 8 := by
    have : (sizeLine : Nat) ≤ (2 ^ 63 - 1) / 8 := by decide
    omega
  have hfit : ¬ (!Builtin.List.listFitsIndex k) = true := by
    rw [fitsIndex_both h1 h2]
    exact Bool.false_ne_true
  have hlong : ¬ Builtin.List.listTooLong (its.toArray.size * k.toNat) = true := by
    rw [notLongL hlen]
    exact Bool.false_ne_true
  have hnew : List.foldl (fun x1 x2 => x1 ++ x2) #[] (List.replicate (if its.toArray.isEmpty = true then 0 else k.toNat) its.toArray) = (List.replicate k.toNat its).flatten.toArray := by
    have f0 : ∀ m : Nat, List.foldl (fun x1 x2 => x1 ++ x2) #[] (List.replicate m its.toArray) = (List.replicate m its).flatten.toArray := fun m => by
      have := foldl_rep its m []
      rw [List.nil_append] at this
      exact this
    rw [f0]
    cases its with
    | nil => simp
    | cons a r' => rw [if_neg (by simp)]
  refine wpAny_binaryOp_repeat_ref (T := "list") (U := "int") (by decide) ⟨_, e, rfl⟩ (fun s' => typeIs_int s' k t) noFill_list_mul F.fills_int_mul F.slot_int_rmul repeat_list F.slot_int_index.lookup
    (call_meets F.slot_int_rmul (typeIs_int s k t) F.entry_int_rmul (F.args_int_rmul_2 _ _) (int___rmul___int_list k t l its.toArray n)
      ⟨e, rfl, ⟨_, e, rfl⟩, call_meets F.slot_list_mul ⟨_, e, rfl⟩ F.entry_list_mul (F.args_list_mul_2 _ _) (AutoListH.list___mul___list_int_3 l its.toArray n k t hfit hcap hlong) ⟨e, ?_⟩⟩)
  rw [hnew]
  exact ⟨.ref _, _, I.lnew (t' := s.toks) (r.rep k.toNat) (by rw [len_rep, Nat.mul_comm]; exact hz), rfl, q _ I.fresh⟩
theorem op_catTE : OpR X (binaryOp .Add) (fun x y H Q => ∃ a b xs ys, x = .ref a ∧ y = .ref b ∧ H a = some (.tup xs) ∧ H b = some (.tup ys) ∧ xs.length + ys.length ≤ sizeLine ∧
    (xs = [] → Q (.ref b) H) ∧ (xs ≠ [] → ys = [] → Q (.ref a) H) ∧ (xs ≠ [] → ys ≠ [] → ∀ p, H p = none → Q (.ref p) (upd H p (.tup (xs ++ ys))))) := by
  intro pins s σ H x y v u Q I rx ry h
  obtain ⟨a, b, xs, ys, rfl, rfl, ha, hb, hz, q0, q1, q2⟩ := h
  by_cases hx : xs = []
  · cases rx
    cases ry
    obtain ⟨its, r1, p1, _⟩ := I.tuple (.of ha)
    obtain ⟨its2, r2, p2, _⟩ := I.tuple (.of hb)
    obtain ⟨⟨cls, dd, data, sl⟩, ho, hc, n, hd⟩ := id p1
    obtain ⟨⟨cls2, dd2, data2, sl2⟩, ho2, hc2, n2, hd2⟩ := id p2
    simp only at hc hd hc2 hd2
    subst hc hd hc2 hd2
    have hi : its = [] := (L2.Vals.nil_iff r1).mpr hx
    exact concat_meets ⟨_, ho, rfl⟩ ⟨_, ho2, rfl⟩ noFill_tuple_add seq_tuple_add PySem.F.slot_tuple_add PySem.F.entry_tuple_add (PySem.F.args_tuple_add_2 _ _)
      (tuple_addW0 a b its.toArray its2.toArray n n2 dd dd2 sl sl2 (by simp [hi])) ⟨ho, ho2, ⟨.ref b, H, I, rfl, q0 hx⟩⟩
  · exact op_catT pins s σ H _ _ v u Q I rx ry ⟨a, b, xs, ys, rfl, rfl, .of ha, .of hb, hx, hz, q1 hx, q2 hx⟩
theorem noFill_tup_mul : fillsNumberSlot (.type "tuple") "mul" = pure false :=
  PySem.fillsNumberSlot_seq (id := "tuple.__mul__") (r := some (.builtin "tuple.__rmul__")) F.slot_tuple_mul.lookup (by decide +kernel) F.slot_tuple_rmul.lookup (by decide +kernel)
theorem repeat_tup : seqRepeat? (.type "tuple") = pure (some (.builtin "tuple.__mul__")) := by
  unfold seqRepeat?
  rw [PySem.seqSlot_of (T := "tuple") (name := "__mul__") (id := "tuple.__mul__") F.slot_tuple_mul.lookup (by decide +kernel), PySem.seqSlot_of (T := "tuple") (name := "__rmul__") (id := "tuple.__rmul__") F.slot_tuple_rmul.lookup (by decide +kernel)]
  rfl
theorem rmul_int_tup (a : Int) (t : Tok) (l : Addr) (its : Array Value) (n : Nat) (dd : Option Addr) (sl : Array (Option Value)) : Meets (Builtin.«int.__rmul__» ⟨[.int a t, .ref l], []⟩) (fun _ R s => s.heap.get? l = some { cls := .type "tuple", dict := dd, data := .seq its n, slots := sl } ∧ R (.ok (.ret Value.notImplemented)) s) :=
  .of_wp fun P w A R s h => by
    obtain ⟨hp, g, d, tk, os⟩ := s
    obtain ⟨hl, h⟩ := h
    wp_walk
    exact ⟨_, rfl, h⟩
theorem tup_mul_same (l : Addr) (its : Array Value) (n : Nat) (dd : Option Addr) (sl : Array (Option Value)) (x : Int) (u : Tok) (h0 : (decide (x < -(2 ^ 63)) || decide (x ≥ 2 ^ 63)) = false) (h1 : (its.isEmpty || x == 1) = true) :
    Meets (Builtin.«tuple.__mul__» ⟨[.ref l, .int x u], []⟩) (fun _ R s => s.heap.get? l = some { cls := .type "tuple", dict := dd, data := .seq its n, slots := sl } ∧ R (.ok (.ret (.ref l))) s) :=
  .of_wp fun P w A R s h => by
    obtain ⟨hp, g, d, tk, os⟩ := s
    obtain ⟨hl, h⟩ := h
    wp_walk
    refine wpAny_ite_false (by rw [h0]; rfl) ?_
    wp_walk
    exact ⟨_, rfl, h⟩
theorem tup_mul_none (l : Addr) (its : Array Value) (n : Nat) (dd : Option Addr) (sl : Array (Option Value)) (x : Int) (u : Tok) (h0 : (decide (x < -(2 ^ 63)) || decide (x ≥ 2 ^ 63)) = false) (h1 : (its.isEmpty || x == 1) = false) (h2 : (decide (x ≤ 0) || its.isEmpty) = true) :
    Meets (Builtin.«tuple.__mul__» ⟨[.ref l, .int x u], []⟩) (fun _ R s => s.heap.get? l = some { cls := .type "tuple", dict := dd, data := .seq its n, slots := sl } ∧ R (.ok (.ret (.ref s.heap.objs.size))) { s with heap := s.heap.push { cls := .type "tuple", data := .seq #[] } }) :=
  .of_wp fun P w A R s h => by
    obtain ⟨hp, g, d, tk, os⟩ := s
    obtain ⟨hl, h⟩ := h
    wp_walk
    refine wpAny_ite_false (by rw [h0]; rfl) ?_
    wp_walk
    exact ⟨_, rfl, h⟩
theorem tup_mul_many (l : Addr) (its : Array Value) (n : Nat) (dd : Option Addr) (sl : Array (Option Value)) (x : Int) (u : Tok) (h0 : (decide (x < -(2 ^ 63)) || decide (x ≥ 2 ^ 63)) = false) (h1 : (its.isEmpty || x == 1) = false) (h2 : (decide (x ≤ 0) || its.isEmpty) = false) (h3 : ¬ ((its.size : Int) * x > (2 ^ 63 - 1) / 8)) (h4 : Builtin.Tuple.tupleTooMany (its.size * x) = false)
    (hz : (List.foldl (fun x1 x2 => x1 ++ x2) #[] (List.replicate x.toNat its)).size ≤ sizeLine) :
    Meets (Builtin.«tuple.__mul__» ⟨[.ref l, .int x u], []⟩) (fun _ R s => s.heap.get? l = some { cls := .type "tuple", dict := dd, data := .seq its n, slots := sl } ∧ R (.ok (.ret (.ref s.heap.objs.size))) { s with heap := s.heap.push { cls := .type "tuple", data := .seq (List.foldl (fun x1 x2 => x1 ++ x2) #[] (List.replicate x.toNat its)) } }) :=
  .of_wp fun P w A R s h => by
    obtain ⟨hp, g, d, tk, os⟩ := s
    obtain ⟨hl, h⟩ := h
    wp_walk
    refine wpAny_ite_false (by rw [h0]; rfl) ?_
    wp_walk
    refine wpAny_ite_false (decide_eq_false h3) ?_
    wp_walk
    exact ⟨_, rfl, h⟩
theorem op_repT : OpR X (binaryOp .Mult) (fun x y H Q => ∃ l k xs, x = .ref l ∧ y = .int k ∧ H l = some (.tup xs) ∧ -(2 ^ 63) ≤ k ∧ k < 2 ^ 63 ∧ xs.length * k.toNat ≤ sizeLine ∧
    ((xs = [] ∨ k = 1) → Q (.ref l) H) ∧ (¬ (xs = [] ∨ k = 1) → ∀ p, H p = none → Q (.ref p) (upd H p (.tup (List.replicate k.toNat xs).flatten)))) := by
  intro pins s σ H x y v u Q I rx ry h
  obtain ⟨l, k, xs, rfl, rfl, hH, h1, h2, hz, q1, q2⟩ := h
  cases rx
  obtain ⟨t, rfl⟩ := ry
  obtain ⟨its, r, p1, _⟩ := I.tuple (.of hH)
  obtain ⟨⟨cls, dd, data, sl⟩, ho, hc, n, hd⟩ := id p1
  simp only at hc hd
  subst hc hd
  have hl : xs.length = its.length := r.length
  have f0 : (decide (k < -(2 ^ 63)) || decide (k ≥ 2 ^ 63)) = false := by
    rw [decide_eq_false (by omega), decide_eq_false (by omega)]; rfl
  refine wpAny_binaryOp_repeat_ref (T := "tuple") (U := "int") (by decide) ⟨_, ho, rfl⟩ (fun s' => typeIs_int s' k t) noFill_tup_mul F.fills_int_mul F.slot_int_rmul repeat_tup F.slot_int_index.lookup
    (call_meets F.slot_int_rmul (typeIs_int s k t) F.entry_int_rmul (F.args_int_rmul_2 _ _) (rmul_int_tup k t l its.toArray n dd sl) ⟨ho, rfl, ⟨_, ho, rfl⟩, ?_⟩)
  by_cases hs : xs = [] ∨ k = 1
  · have f1 : (its.toArray.isEmpty || k == 1) = true := by
      rcases hs with z | z
      · have : its = [] := List.length_eq_zero_iff.mp (by rw [← hl, z]; rfl)
        rw [this]; rfl
      · rw [z]; simp
    exact call_meets F.slot_tuple_mul ⟨_, ho, rfl⟩ F.entry_tuple_mul (F.args_tuple_mul_2 _ _) (tup_mul_same l its.toArray n dd sl k t f0 f1) ⟨ho, ⟨.ref l, H, I, rfl, q1 hs⟩⟩
  · have hne : its ≠ [] := fun z => hs (.inl (List.length_eq_zero_iff.mp (by rw [hl, z]; rfl)))
    have hk1 : k ≠ 1 := fun z => hs (.inr z)
    have e1 : its.toArray.isEmpty = false := by simpa using hne
    have f1 : (its.toArray.isEmpty || k == 1) = false := by rw [e1]; simpa using hk1
    have new : ∀ (us : List Value) (ys : List V), Vals ys us → ys.length ≤ sizeLine → Inv X pins σ (upd H s.heap.objs.size (.tup ys)) { s with heap := s.heap.push { cls := .type "tuple", data := .seq us.toArray } } := fun us ys hv hy =>
      I.laid (t' := s.toks) (fun _ _ q => Heap.get?_push_of_some _ q) (Nat.le_refl _) ⟨hy, us, hv, ⟨_, Heap.get?_push_size _ rfl, rfl, _, rfl⟩⟩
    by_cases h0 : k ≤ 0
    · have f2 : (decide (k ≤ 0) || its.toArray.isEmpty) = true := by rw [decide_eq_true h0]; rfl
      refine call_meets F.slot_tuple_mul ⟨_, ho, rfl⟩ F.entry_tuple_mul (F.args_tuple_mul_2 _ _) (tup_mul_none l its.toArray n dd sl k t f0 f1 f2) ⟨ho, ?_⟩
      have ez : k.toNat = 0 := by omega
      rw [ez] at q2
      exact ⟨.ref _, _, new [] [] .nil (Nat.zero_le _), rfl, q2 hs _ I.fresh⟩
    · have f2 : (decide (k ≤ 0) || its.toArray.isEmpty) = false := by rw [decide_eq_false h0, e1]; rfl
      have hk : (k.toNat : Int) = k := by omega
      have hlen : its.toArray.size * k.toNat ≤ sizeLine := by rw [List.size_toArray, ← hl]; exact hz
      have hsz : ((its.toArray.size : Nat) : Int) * k ≤ (sizeLine : Int) := by
        rw [← hk]
        exact_mod_cast hlen
      have f3 : ¬ (((its.toArray.size : Nat) : Int) * k > (2 ^ 63 - 1) / 8) := by
        have : ((sizeLine : Nat) : Int) ≤ (2 ^ 63 - 1) / 8 := by decide
        omega
      have f4 : Builtin.Tuple.tupleTooMany (((its.toArray.size : Nat) : Int) * k) = false := by
        unfold Builtin.Tuple.tupleTooMany
        exact decide_eq_false (by omega)
      have hnew : List.foldl (fun x1 x2 => x1 ++ x2) #[] (List.replicate k.toNat its.toArray) = (List.replicate k.toNat its).flatten.toArray := by
        have := foldl_rep its k.toNat []
        rw [List.nil_append] at this
        exact this
      have hfl : (List.replicate k.toNat its).flatten.length = its.length * k.toNat := by rw [len_rep, Nat.mul_comm]
      refine call_meets F.slot_tuple_mul ⟨_, ho, rfl⟩ F.entry_tuple_mul (F.args_tuple_mul_2 _ _) (tup_mul_many l its.toArray n dd sl k t f0 f1 f2 f3 f4 (by rw [hnew, List.size_toArray, hfl]; exact hlen)) ⟨ho, ?_⟩
      rw [hnew]
      exact ⟨.ref _, _, new _ _ (r.rep k.toNat) (by rw [len_rep, Nat.mul_comm]; exact hz), rfl, q2 hs _ I.fresh⟩
def dAddR : DR2 := fun x y st K => match x, y with
  | .int i, .int j => K (.int (i + j)) st
  | .tup xs, .tup ys => xs.length + ys.length ≤ sizeLine ∧ K (.tup (xs ++ ys)) st
  | .lst xs, .lst ys => xs.length + ys.length ≤ sizeLine ∧ K (.lst (xs ++ ys)) st
  | .str x, .str y => x.length + y.length ≤ sizeLine ∧ K (.str (x ++ y)) st
  | _, _ => False
theorem o_add : OpR X (binaryOp .Add) (LR dAddR) := fun pins s σ H x y v u Q I rx ry ⟨α, d, e, st, K, G, F', P, r1, r2, S, q, k⟩ => by
  cases d <;> cases e <;> try exact q.elim
  · unfold Rep at r1 r2
    exact op_add pins s σ H x y v u Q I rx ry ⟨_, _, r1, r2, k.here P q S (by unfold Rep; rfl)⟩
  · unfold Rep at r1 r2
    exact op_add_str pins s σ H x y v u Q I rx ry ⟨_, _, r1, r2, q.1, k.here P q.2 S (by unfold Rep; rfl)⟩
  · unfold Rep at r1 r2
    obtain ⟨a, vs, rfl, na, ha, ra⟩ := r1
    obtain ⟨b, ws, rfl, nb, hb, rb⟩ := r2
    refine op_catR pins s σ H _ _ v u Q I rx ry ⟨a, b, vs, ws, rfl, rfl, rd_up P ha, rd_up P hb, by rw [← ra.length, ← rb.length]; exact q.1, fun p hp => ?_⟩
    exact k.lst P q.2 S (reps_paired.mpr (paired_append (reps_paired.mp ra) (reps_paired.mp rb))) hp
  · rename_i xs ys
    unfold Rep at r1 r2
    obtain ⟨a, vs, rfl, na, ha, ra⟩ := r1
    obtain ⟨b, ws, rfl, nb, hb, rb⟩ := r2
    have hl1 := ra.length
    have hl2 := rb.length
    refine op_catTE pins s σ H _ _ v u Q I rx ry ⟨a, b, vs, ws, rfl, rfl, P.get ha, P.get hb, by rw [← hl1, ← hl2]; exact q.1, fun z => ?_, fun _ z => ?_, fun _ _ p hp => ?_⟩
    · refine k.here P q.2 S ?_
      unfold Rep
      have : xs = [] := by rw [z] at hl1; exact List.length_eq_zero_iff.mp hl1
      subst this
      exact ⟨b, ws, rfl, nb, hb, rb⟩
    · refine k.here P q.2 S ?_
      unfold Rep
      have : ys = [] := by rw [z] at hl2; exact List.length_eq_zero_iff.mp hl2
      subst this
      rw [List.append_nil]
      exact ⟨a, vs, rfl, na, ha, ra⟩
    · exact k.tup P q.2 S (reps_paired.mpr (paired_append (reps_paired.mp ra) (reps_paired.mp rb))) hp
def dMulR : DR2 := fun x y st K => match x, y with
  | .int i, .int j => IntMulOk i j ∧ K (.int (i * j)) st
  | .lst xs, .int k => (-(2 ^ 63) ≤ k ∧ k < 2 ^ 63 ∧ xs.length * k.toNat ≤ sizeLine) ∧ K (.lst (List.replicate k.toNat xs).flatten) st
  | .tup xs, .int k => (-(2 ^ 63) ≤ k ∧ k < 2 ^ 63 ∧ xs.length * k.toNat ≤ sizeLine) ∧ K (.tup (List.replicate k.toNat xs).flatten) st
  | _, _ => False
theorem o_mul : OpR X (binaryOp .Mult) (LR dMulR) := fun pins s σ H x y v u Q I rx ry ⟨α, d, e, st, K, G, F', P, r1, r2, S, q, k⟩ => by
  cases d <;> cases e <;> try exact q.elim
  · unfold Rep at r1 r2
    have h : OpR X (binaryOp .Mult) (rI IntMulOk fun i j => .int (i * j)) := opI fun _ _ _ _ _ _ _ hc q => mul_int q hc
    exact h pins s σ H x y v u Q I rx ry ⟨_, _, r1, r2, q.1, k.here P q.2 S (by unfold Rep; rfl)⟩
  · unfold Rep at r1 r2
    obtain ⟨a, vs, rfl, na, ha, ra⟩ := r1
    refine op_repR pins s σ H _ _ v u Q I rx ry ⟨a, _, vs, rfl, r2, rd_up P ha, q.1.1, q.1.2.1, by rw [← ra.length]; exact q.1.2.2, fun p hp => ?_⟩
    exact k.lst P q.2 S (reps_paired.mpr (paired_flat (reps_paired.mp ra) _)) hp
  · rename_i xs m
    have r1' := r1
    unfold Rep at r1 r2
    obtain ⟨a, vs, rfl, na, ha, ra⟩ := r1
    refine op_repT pins s σ H _ _ v u Q I rx ry ⟨a, _, vs, rfl, r2, P.get ha, q.1.1, q.1.2.1, by rw [← ra.length]; exact q.1.2.2, fun hs => ?_, fun _ p hp => k.tup P q.2 S (reps_paired.mpr (paired_flat (reps_paired.mp ra) _)) hp⟩
    have e : (List.replicate m.toNat xs).flatten = xs := by
      rcases hs with z | z
      · have : xs = [] := List.length_eq_zero_iff.mp (by rw [ra.length, z]; rfl)
        rw [this]; simp
      · rw [z]; simp
    have q2 := q.2
    rw [e] at q2
    exact k.here P q2 S r1'
def live (st : Store) : D → Bool
  | .ref n => (match st[n]? with | some (.lst _) => true | some (.ins _ _) => true | _ => false)
  | _ => true
theorem live_ref {α : List (Option Addr)} {H : Hp} {st : Store} {n : Nat} {v : V} (S : StRel α st H) (h : live st (.ref n) = true) (r : Rep α H (.ref n) v) : ∃ a, v = .ref a := by
  unfold live at h
  simp only at h
  split at h
  · rename_i e
    obtain ⟨a, ea, _⟩ := S.lstAt e
    exact ⟨a, rep_at ea r⟩
  · rename_i e
    obtain ⟨a, ea, _⟩ := S.insAt e
    exact ⟨a, rep_at ea r⟩
  · cases h
def dIxR : DR2 := fun x y st K => match y with
  | .int i => (match x with
    | .lst xs => (match atI xs i with | some d => K d st | none => False)
    | .tup xs => (match atI xs i with | some d => K d st | none => False)
    | .ref n => (match st[n]? with | some (.lst xs) => (match atI xs i with | some d => K d st | none => False) | _ => False)
    | _ => False)
  | _ => False
theorem Reps.atI {α : List (Option Addr)} {H : Hp} {ds : List D} {vs : List V} {i : Int} {d : D} (h : Reps α H ds vs) (e : L2.atI ds i = some d) : ∃ v, L2.atI vs i = some v ∧ Rep α H d v := by
  unfold L2.atI at e ⊢
  rw [← h.length]
  cases q : ixN ds.length i with
  | none => rw [q] at e; cases e
  | some j => rw [q] at e; exact h.get e
theorem i_ix : IxR X (LR dIxR) := fun value slice pins s σ H x y v u Q I rx ry ⟨α, d, e, st, K, G, F', P, r1, r2, S, q, k⟩ hs => by
  cases e <;> try exact q.elim
  unfold Rep at r2
  cases d <;> try exact q.elim
  · rename_i i n
    unfold dIxR at q
    simp only at q
    split at q
    · split at q
      · rename_i xs e1 _ d' e2
        obtain ⟨a, ea, vs, hv, rv⟩ := S.lstAt e1
        have r1' := rep_at ea r1
        subst r1'
        obtain ⟨z, ez, rz⟩ := rv.atI e2
        exact ix_list value slice pins s σ H _ _ v u Q I rx ry ⟨a, vs, _, z, rfl, r2, .of (P.get hv), ez, k.here P q S rz⟩ hs
      · exact q.elim
    · exact q.elim
  · unfold dIxR at q
    simp only at q
    split at q
    · rename_i xs d' e2
      unfold Rep at r1
      obtain ⟨a, vs, rfl, na, ha, ra⟩ := r1
      obtain ⟨z, ez, rz⟩ := ra.atI e2
      exact ix_list value slice pins s σ H _ _ v u Q I rx ry ⟨a, vs, _, z, rfl, r2, .inl (rd_up P ha), ez, k.here P q S rz⟩ hs
    · exact q.elim
  · unfold dIxR at q
    simp only at q
    split at q
    · rename_i xs d' e2
      unfold Rep at r1
      obtain ⟨a, vs, rfl, na, ha, ra⟩ := r1
      obtain ⟨z, ez, rz⟩ := ra.atI e2
      exact ix_tup value slice pins s σ H _ _ v u Q I rx ry ⟨a, vs, _, z, rfl, r2, .of (P.get ha), ez, k.here P q S rz⟩ hs
    · exact q.elim
theorem d_ix {a b : Expr} {ta tb : DE} {pos : Pos} (ha : PE X a (LE ta)) (hb : PE X b (LE tb)) (hs : PlainIx b := by intro _ _; rfl) : PE X (.Subscript a b pos) (LE (dOp dIxR ta tb)) := PE.imp (pe_ix i_ix ha hb hs) fun _ _ _ h => LE.op h
end
end L3
namespace L3
open PySem PySem.Spec L2
open PyProof.Rows hiding St
section
variable {X : Cx}
def items? (st : Store) : D → Option (List D)
  | .lst xs => some xs
  | .tup xs => some xs
  | .ref n => (match st[n]? with | some (.lst xs) => some xs | _ => none)
  | _ => none
@[simp] theorem items_lst (st : Store) (xs : List D) : items? st (.lst xs) = some xs := rfl
@[simp] theorem items_tup (st : Store) (xs : List D) : items? st (.tup xs) = some xs := rfl
@[simp] theorem items_int (st : Store) (i : Int) : items? st (.int i) = none := rfl
@[simp] theorem items_bl (st : Store) (i : Bool) : items? st (.bl i) = none := rfl
@[simp] theorem items_str (st : Store) (i : Str) : items? st (.str i) = none := rfl
@[simp] theorem items_non (st : Store) : items? st .non = none := rfl
theorem items_ref {st : Store} {n : Nat} {xs : List D} (h : st[n]? = some (.lst xs)) : items? st (.ref n) = some xs := by unfold items?; simp only [h]
theorem items_rep {α : List (Option Addr)} {H : Hp} {st : Store} {d : D} {v : V} {xs : List D} (S : StRel α st H) (r : Rep α H d v) (e : items? st d = some xs) :
    ∃ p vs, v = .ref p ∧ Reps α H xs vs ∧ (Rd H p (.lst vs) ∨ H p = some (.tup vs)) := by
  cases d <;> try (cases e; done)
  · unfold items? at e
    simp only at e
    split at e
    · rename_i ys q
      cases e
      obtain ⟨a, ea, vs, h1, h2⟩ := S.lstAt q
      have r' := rep_at ea r
      subst r'
      exact ⟨a, vs, rfl, h2, .inl (.of h1)⟩
    · cases e
  · cases e
    unfold Rep at r
    obtain ⟨a, vs, rfl, _, h1, h2⟩ := r
    exact ⟨a, vs, rfl, h2, .inl h1⟩
  · cases e
    unfold Rep at r
    obtain ⟨a, vs, rfl, _, h1, h2⟩ := r
    exact ⟨a, vs, rfl, h2, .inr h1⟩
theorem sq_of {K : PySem.W.Frag} {G F H : Hp} (P : Spl G F H) {p : Addr} {vs : List V} (h : Rd G p (.lst vs) ∨ G p = some (.tup vs)) : SqL K H p vs ∨ SqT K H p vs := h.elim (fun z => .inl (.inl (rd_up P z))) fun z => .inr (.of (P.get z))
theorem reps1 {α : List (Option Addr)} {H : Hp} {ds : List D} {xs : List V} {d : D} (r : Reps α H ds xs) (e : ds = [d]) : ∃ v, xs = [v] ∧ Rep α H d v := by
  subst e
  unfold Reps at r
  obtain ⟨v, q, rfl, h1, h2⟩ := r
  unfold Reps at h2
  subst h2
  exact ⟨v, rfl, h1⟩
theorem reps2 {α : List (Option Addr)} {H : Hp} {ds : List D} {xs : List V} {d e : D} (r : Reps α H ds xs) (q : ds = [d, e]) : ∃ v u, xs = [v, u] ∧ Rep α H d v ∧ Rep α H e u := by
  subst q
  unfold Reps at r
  obtain ⟨v, q, rfl, h1, h2⟩ := r
  obtain ⟨u, rfl, h3⟩ := reps1 h2 rfl
  exact ⟨v, u, rfl, h1, h3⟩
def dLenR : DRA := fun ds st K => match ds with
  | [.str x] => x.length ≤ sizeLine ∧ K (.int x.length) st
  | [d] => (match items? st d with | some xs => K (.int xs.length) st | none => False)
  | _ => False
theorem c_len : CallR X (.builtin "len") (LRA dLenR) := fun pins s σ H xs us Q I rs ⟨α, ds, st, K, G, F', P, r, S, q, k⟩ => by
  unfold dLenR at q
  split at q
  · rename_i x
    obtain ⟨v, rfl, r1⟩ := reps1 r rfl
    unfold Rep at r1
    subst r1
    exact call_len_str pins s σ H _ us Q I rs ⟨x, rfl, q.1, k.here P q.2 S (by unfold Rep; rfl)⟩
  · rename_i d _
    split at q
    · rename_i ys e
      obtain ⟨v, rfl, r1⟩ := reps1 r rfl
      obtain ⟨p, vs, rfl, r2, h⟩ := items_rep S r1 e
      refine call_len_seq pins s σ H _ us Q I rs ⟨p, vs, rfl, sq_of P h, k.here P q S (by unfold Rep; rw [r2.length])⟩
    · exact q.elim
  · exact q.elim
def dI1 (g : Int → Int) : DRA := fun ds st K => match ds with | [.int i] => K (.int (g i)) st | _ => False
abbrev dAbsR : DRA := dI1 fun i => if i < 0 then -i else i
theorem c_abs : CallR X (.builtin "abs") (LRA dAbsR) := CallR.imp call_abs fun xs H Q ⟨α, ds, st, K, G, F', P, r, S, q, k⟩ => by
  unfold dAbsR dI1 at q
  split at q
  · obtain ⟨v, rfl, r1⟩ := reps1 r rfl
    unfold Rep at r1
    subst r1
    exact ⟨_, rfl, k.here P q S (by unfold Rep; rfl)⟩
  · exact q.elim
def dTupleR : DRA := fun ds st K => match ds with | [d] => (match items? st d with | some xs => K (.tup xs) st | none => False) | _ => False
theorem c_tuple : CallR X (.type "tuple") (LRA dTupleR) := CallR.imp call_tuple_of fun xs H Q ⟨α, ds, st, K, G, F', P, r, S, q, k⟩ => by
  unfold dTupleR at q
  split at q
  · rename_i d
    split at q
    · rename_i ys e
      obtain ⟨v, rfl, r1⟩ := reps1 r rfl
      cases d with
      | tup zs =>
        cases e
        have r0 := r1
        unfold Rep at r1
        obtain ⟨a, vs, rfl, na, h1, h2⟩ := r1
        exact ⟨a, vs, rfl, .inr ⟨.of (P.get h1), k.here P q S r0⟩⟩
      | _ =>
        obtain ⟨p, vs, rfl, r2, h⟩ := items_rep S r1 e
        refine ⟨p, vs, rfl, ?_⟩
        rcases h with h | h
        · exact .inl ⟨.inl (rd_up P h), fun l hl => k.tup P q S r2 hl⟩
        · first
            | (cases e; done)
            | (exfalso
               unfold items? at e
               simp only at e
               first
                 | (split at e
                    · rename_i z
                      obtain ⟨a, ea, vs', h1, h2⟩ := S.lstAt z
                      have e' := rep_at ea r1
                      cases e'
                      rw [h] at h1; cases h1
                    · cases e)
                 | (unfold Rep at r1
                    obtain ⟨a, vs', e', _, h1, _⟩ := r1
                    cases e'
                    rcases h1 with h1 | ⟨o, h1⟩ <;> (rw [h] at h1; cases h1)))
    · exact q.elim
  · exact q.elim
def dListR : DRA := fun ds st K => match ds with | [d] => (match items? st d with | some xs => K (.lst xs) st | none => False) | _ => False
theorem c_list : CallR X (.type "list") (LRA dListR) := CallR.imp call_list_of fun xs H Q ⟨α, ds, st, K, G, F', P, r, S, q, k⟩ => by
  unfold dListR at q
  split at q
  · split at q
    · rename_i ys e
      obtain ⟨v, rfl, r1⟩ := reps1 r rfl
      obtain ⟨p, vs, rfl, r2, h⟩ := items_rep S r1 e
      exact ⟨p, vs, rfl, sq_of P h, fun l hl => k.lst P q S r2 hl⟩
    · exact q.elim
  · exact q.elim
def bools? : List D → Option (List Bool)
  | [] => some []
  | .bl b :: r => (bools? r).map (b :: ·)
  | _ :: _ => none
def ints? : List D → Option (List Int)
  | [] => some []
  | .int b :: r => (ints? r).map (b :: ·)
  | _ :: _ => none
theorem bools_reps {α : List (Option Addr)} {H : Hp} : ∀ {ds : List D} {vs : List V} {bs : List Bool}, Reps α H ds vs → bools? ds = some bs → vs = bs.map V.bl
  | [], vs, bs, r, e => by
    unfold Reps at r
    cases e
    exact r
  | d :: ds, vs, bs, r, e => by
    unfold Reps at r
    obtain ⟨v, q, rfl, h1, h2⟩ := r
    cases d <;> try (cases e; done)
    unfold bools? at e
    cases z : bools? ds with
    | none => rw [z] at e; cases e
    | some cs =>
      rw [z] at e
      cases e
      unfold Rep at h1
      rw [h1, bools_reps h2 z]
      rfl
theorem ints_reps {α : List (Option Addr)} {H : Hp} : ∀ {ds : List D} {vs : List V} {bs : List Int}, Reps α H ds vs → ints? ds = some bs → vs = bs.map V.int
  | [], vs, bs, r, e => by
    unfold Reps at r
    cases e
    exact r
  | d :: ds, vs, bs, r, e => by
    unfold Reps at r
    obtain ⟨v, q, rfl, h1, h2⟩ := r
    cases d <;> try (cases e; done)
    unfold ints? at e
    cases z : ints? ds with
    | none => rw [z] at e; cases e
    | some cs =>
      rw [z] at e
      cases e
      unfold Rep at h1
      rw [h1, ints_reps h2 z]
      rfl
theorem vals_bools : ∀ {bs : List Bool} {us : List Value}, Vals (bs.map V.bl) us → us = bs.map Value.bool
  | [], _, .nil => rfl
  | b :: bs, _, .cons h t => by
    have h : _ = Value.bool b := h
    rw [h, vals_bools t]
    rfl
end
end L3
namespace L3
open PySem PySem.Spec L2
open PyProof.Rows hiding St
section
variable {X : Cx}
def dAllR : DRA := fun ds st K => match ds with | [.lst xs] => (match bools? xs with | some bs => K (.bl (bs.all id)) st | none => False) | _ => False
theorem range_all {α : Type} (l : List α) (f : α → Bool) (tr : Nat → Bool) (h : ∀ i x, l[i]? = some x → tr i = f x) : (List.range l.length).all tr = l.all f := by
  induction l generalizing tr with
  | nil => rfl
  | cons a l ih =>
    rw [List.length_cons, List.range_succ_eq_map, List.all_cons, List.all_cons, List.all_map, h 0 a rfl]
    congr 1
    exact ih (tr ∘ Nat.succ) fun i x e => h (i + 1) x (by simpa using e)
theorem c_all (hc : X.calm = true) : CallR X (.builtin "all") (LRA dAllR) := fun pins s σ H xs us Q I rs ⟨α, ds, st, K, G, F', P, r, S, q, k⟩ => by
  unfold dAllR at q
  split at q
  · rename_i ys
    split at q
    · rename_i bs e
      obtain ⟨v, rfl, r1⟩ := reps1 r rfl
      unfold Rep at r1
      obtain ⟨a, vs, rfl, na, h1, h2⟩ := r1
      obtain ⟨u, rfl, ru⟩ := vals1 rs
      cases ru
      have hv := bools_reps h2 e
      subst hv
      obtain ⟨z, its, n, rv, hl, eo⟩ := Inv.lstR I (rd_up P h1)
      have hits := vals_bools rv
      subst hits
      have isL : s.heap.IsList a (bs.map Value.bool).toArray := ⟨_, eo, rfl, n, rfl⟩
      refine call_all_walk (wpAny_pyIter_list isL ?_)
      have hne : a ≠ s.heap.objs.size := Nat.ne_of_lt (Heap.lt_size eo)
      refine ⟨s.heap.objs.size, _, _, _, _, _, fun i => (bs[i]?).getD true, rfl, Walks.list (A := X.A.in1) (I.ok.hd hc) _ a hne (bs.map Value.bool).toArray, ⟨⟨_, Heap.get?_push_size _ rfl, rfl, rfl⟩, ⟨_, Heap.get?_push_of_some _ eo, rfl, n, rfl⟩⟩, ?_, ?_⟩
      · intro i w s' Q' E' hP hQ
        rw [List.getElem?_toArray, List.getElem?_map] at hP
        cases zb : bs[i]? with
        | none => rw [zb] at hP; cases hP
        | some b =>
          rw [zb] at hP
          cases hP
          simp only [zb] at hQ
          exact wpAny_truthy_bool hQ
      · intro h' tk hk
        have kp : ∀ b o, s.heap.get? b = some o → h'.get? b = some o := fun b o q => hk b o (by
          intro hb
          have : b = s.heap.objs.size := by simpa using hb
          exact absurd (Heap.lt_size q) (by rw [this]; exact Nat.lt_irrefl _)) (Heap.get?_push_of_some _ q)
        have ea : (List.range (bs.map Value.bool).toArray.size).all (fun i => (bs[i]?).getD true) = bs.all id := by
          rw [List.size_toArray, List.length_map]
          exact range_all bs id _ fun i x e => by rw [e]; rfl
        rw [ea]
        exact ⟨.bl (bs.all id), H, I.kept (t' := tk) kp, rfl, k.here P q S (by unfold Rep; rfl)⟩
    · exact q.elim
  · exact q.elim
def tyOf? (st : Store) : D → Option String
  | .non => some "NoneType"
  | .bl _ => some "bool"
  | .int _ => some "int"
  | .str _ => some "str"
  | .lst _ => some "list"
  | .tup _ => some "tuple"
  | .ref n => (match st[n]? with | some (.lst _) => some "list" | _ => none)
  | .ty _ => none
@[simp] theorem ty_lst (st : Store) (xs : List D) : tyOf? st (.lst xs) = some "list" := rfl
@[simp] theorem ty_tup (st : Store) (xs : List D) : tyOf? st (.tup xs) = some "tuple" := rfl
@[simp] theorem ty_int (st : Store) (i : Int) : tyOf? st (.int i) = some "int" := rfl
@[simp] theorem ty_bl (st : Store) (i : Bool) : tyOf? st (.bl i) = some "bool" := rfl
@[simp] theorem ty_str (st : Store) (i : Str) : tyOf? st (.str i) = some "str" := rfl
@[simp] theorem ty_non (st : Store) : tyOf? st .non = some "NoneType" := rfl
def isTy (t c : String) : Bool := t == c || (t == "bool" && c == "int")
theorem tyOf_rep {α : List (Option Addr)} {H : Hp} {st : Store} {K : PySem.W.Frag} {d : D} {v : V} {t : String} (S : StRel α st H) (r : Rep α H d v) (e : tyOf? st d = some t) : TyOf K H v (.type t) := by
  cases d <;> unfold tyOf? at e <;> try (cases e; done)
  · unfold Rep at r; cases e; subst r; exact .non
  · unfold Rep at r; cases e; subst r; exact .bl _
  · unfold Rep at r; cases e; subst r; exact .int _
  · unfold Rep at r; cases e; subst r; exact .str _
  · simp only at e
    split at e
    · rename_i z
      cases e
      obtain ⟨a, ea, vs', h1, h2⟩ := S.lstAt z
      have r' := rep_at ea r
      subst r'
      exact .lst h1
    · cases e
  · cases e
    unfold Rep at r
    obtain ⟨a, vs, rfl, na, h1, h2⟩ := r
    rcases h1 with h1 | ⟨o, h1⟩
    · exact .lst h1
    · exact .frz h1
  · cases e
    unfold Rep at r
    obtain ⟨a, vs, rfl, na, h1, h2⟩ := r
    exact .tup h1
theorem tyOf_up {G F H : Hp} {K : PySem.W.Frag} (P : Spl G F H) {x : V} {t : Value} (h : TyOf K G x t) : TyOf K H x t := by
  cases h with
  | non => exact .non
  | bl x => exact .bl x
  | int x => exact .int x
  | str x => exact .str x
  | flt x => exact .flt x
  | lst e => exact .lst (P.get e)
  | frz e => exact .frz (P.get e)
  | tup e => exact .tup (P.get e)
  | dK e => exact .dK (P.get e)
  | dT e => exact .dT (P.get e)
  | ins e a b c d f => exact .ins (P.get e) a b c d f
def tyNames : List String := ["NoneType", "bool", "int", "str", "list", "tuple"]
def clNames : List String := ["bool", "int", "str", "list", "tuple"]
theorem kit_tab (K : PySem.W.Frag) {t c : String} (ht : t ∈ tyNames) (hc : c ∈ clNames) : PySem.W.kitOne K (.type t) (.type c) = some (isTy t c) := by
  simp only [tyNames, clNames, List.mem_cons, List.not_mem_nil, or_false] at ht hc
  rcases ht with rfl | rfl | rfl | rfl | rfl | rfl <;> rcases hc with rfl | rfl | rfl | rfl | rfl <;> with_unfolding_all rfl
theorem tyOf_mem {st : Store} {d : D} {t : String} (e : tyOf? st d = some t) : t ∈ tyNames := by
  cases d <;> unfold tyOf? at e <;> first
    | (cases e; done)
    | (cases e; decide)
    | (simp only at e; split at e <;> cases e; decide)
theorem kitx_of {pins : List (Addr × Obj)} {σ : L2.St} {H : Hp} {s : Shared} {x : V} {u : Value} {t : String} (I : Inv X pins σ H s) (rx : RelV x u) (ty : TyOf X.K H x (.type t)) :
    ∃ Hh : Heap → Prop, PySem.W.KitX X.K u (.type t) Hh ∧ Hh s.heap ∧ u ≠ .builtin "__main__.__loader__#opaque" := by
  cases ty with
  | non => cases (show u = Value.none from rx); exact ⟨_, PySem.W.kitx_none, True.intro, fun z => nomatch z⟩
  | bl y => cases (show u = Value.bool y from rx); exact ⟨_, PySem.W.kitx_bool, True.intro, fun z => nomatch z⟩
  | int i => obtain ⟨t, q⟩ := (show ∃ t, u = Value.int i t from rx); cases q; exact ⟨_, PySem.W.kitx_int, True.intro, fun z => nomatch z⟩
  | str y => obtain ⟨t, q⟩ := (show ∃ t, u = Value.str y t from rx); cases q; exact ⟨_, PySem.W.kitx_str, True.intro, fun z => nomatch z⟩
  | flt y => obtain ⟨t, q⟩ := (show ∃ t, u = Value.float y t from rx); cases q; exact ⟨_, PySem.W.kitx_float, True.intro, fun z => nomatch z⟩
  | @lst a xs ea =>
    cases (show u = Value.ref a from rx)
    obtain ⟨_, _, n, _, h1⟩ := (show ObjOk X.prog X.w H s.heap a (.lst xs) from I.hok a _ ea)
    exact ⟨_, PySem.W.kitx_list, ⟨_, h1, rfl⟩, fun z => nomatch z⟩
  | @frz a ob xs ea =>
    cases (show u = Value.ref a from rx)
    obtain ⟨_, _, _, n, _, h1⟩ := (show ObjOk X.prog X.w H s.heap a (.frz ob (.lst xs)) from I.hok a _ ea)
    exact ⟨_, PySem.W.kitx_list, ⟨_, h1, rfl⟩, fun z => nomatch z⟩
  | @tup a xs ea =>
    cases (show u = Value.ref a from rx)
    obtain ⟨_, _, _, p⟩ := (show ObjOk X.prog X.w H s.heap a (.tup xs) from I.hok a _ ea)
    obtain ⟨o, h1, h2, _⟩ := p
    exact ⟨_, PySem.W.kitx_tuple, ⟨o, h1, h2⟩, fun z => nomatch z⟩
  | @dK a kvs ea =>
    cases (show u = Value.ref a from rx)
    obtain ⟨_, _, vs, _, p⟩ := (show ObjOk X.prog X.w H s.heap a (.dK kvs) from I.hok a _ ea)
    obtain ⟨o, es, ep, h1, h2, _⟩ := p
    exact ⟨_, PySem.W.kitx_dict, ⟨o, h1, h2.1⟩, fun z => nomatch z⟩
  | @dT a kvs ea =>
    cases (show u = Value.ref a from rx)
    obtain ⟨_, _, xs, _, o, es, ep, h1, h2, _⟩ := (show ObjOk X.prog X.w H s.heap a (.dT kvs) from I.hok a _ ea)
    exact ⟨_, PySem.W.kitx_dict, ⟨o, h1, h2.1⟩, fun z => nomatch z⟩
def tyList? : List D → Option (List String)
  | [] => some []
  | .ty b :: r => (tyList? r).map (b :: ·)
  | _ :: _ => none
theorem tys_reps {α : List (Option Addr)} {H : Hp} : ∀ {ds : List D} {vs : List V} {bs : List String}, Reps α H ds vs → tyList? ds = some bs → vs = bs.map V.ty
  | [], vs, bs, r, e => by
    unfold Reps at r
    cases e
    exact r
  | d :: ds, vs, bs, r, e => by
    unfold Reps at r
    obtain ⟨v, q, rfl, h1, h2⟩ := r
    cases d <;> try (cases e; done)
    unfold tyList? at e
    cases z : tyList? ds with
    | none => rw [z] at e; cases e
    | some cs =>
      rw [z] at e
      cases e
      unfold Rep at h1
      rw [h1, tys_reps h2 z]
      rfl
theorem vals_tys : ∀ {bs : List String} {us : List Value}, Vals (bs.map V.ty) us → us = bs.map Value.type
  | [], _, .nil => rfl
  | b :: bs, _, .cons h t => by
    have h : _ = Value.type b := h
    rw [h, vals_tys t]
    rfl
theorem kit_any (K : PySem.W.Frag) {t : String} (ht : t ∈ tyNames) : ∀ cs : List String, (∀ c ∈ cs, c ∈ clNames) → PySem.W.kitAny K (.type t) (cs.map Value.type) = some (cs.any (isTy t))
  | [], _ => rfl
  | c :: cs, h => by
    show (match PySem.W.kitOne K (.type t) (.type c) with | some true => some true | some false => PySem.W.kitAny K (.type t) (cs.map Value.type) | none => none) = _
    rw [kit_tab K ht (h c List.mem_cons_self), List.any_cons]
    cases isTy t c with
    | true => rfl
    | false => exact kit_any K ht cs fun c hc => h c (List.mem_cons_of_mem _ hc)
def dIsiR : DRA := fun ds st K => match ds with
  | [d, .ty c] => (match tyOf? st d with | some t => c ∈ clNames ∧ K (.bl (isTy t c)) st | none => False)
  | [d, .tup cs] => (match tyOf? st d, tyList? cs with | some t, some cl => (∀ c ∈ cl, c ∈ clNames) ∧ K (.bl (cl.any (isTy t))) st | _, _ => False)
  | _ => False
theorem c_isi : CallR X (.builtin "isinstance") (LRA dIsiR) := fun pins s σ H xs us Q I rs ⟨α, ds, st, K, G, F', P, r, S, q, k⟩ => by
  unfold dIsiR at q
  split at q
  · rename_i d c
    split at q
    · rename_i t e
      obtain ⟨v, v2, rfl, r1, r2⟩ := reps2 r rfl
      obtain ⟨u, u2, rfl, ru, ru2⟩ := vals2 rs
      unfold Rep at r2
      subst r2
      cases (show u2 = Value.type c from ru2)
      exact isinst_ok I ru (tyOf_up P (tyOf_rep S r1 e)) (kit_tab _ (tyOf_mem e) q.1) fun tk => ⟨.bl (isTy t c), H, I.tok tk, rfl, k.here P q.2 S (by unfold Rep; rfl)⟩
    · exact q.elim
  · rename_i d cs
    split at q
    · rename_i t cl e ec
      obtain ⟨v, v2, rfl, r1, r2⟩ := reps2 r rfl
      obtain ⟨u, u2, rfl, ru, ru2⟩ := vals2 rs
      unfold Rep at r2
      obtain ⟨a, vs, rfl, na, h1, h2⟩ := r2
      cases (show u2 = Value.ref a from ru2)
      have hv := tys_reps h2 ec
      subst hv
      obtain ⟨Hh, Z, hh, hne⟩ := kitx_of I ru (tyOf_up P (tyOf_rep S r1 e))
      obtain ⟨its, r', pl, hz⟩ := I.tuple (SqT.of (P.get h1))
      have hi := vals_tys r'
      subst hi
      obtain ⟨⟨cls, dd, data, sl⟩, ho, hc, n, hd⟩ := pl
      simp only at hc hd
      subst hc hd
      exact PySem.W.kia_tup Z I.kIn hh ho (kit_any _ (tyOf_mem e) cl q.1) hne fun tk => ⟨.bl _, H, I.tok tk, rfl, k.here P q.2 S (by unfold Rep; rfl)⟩
    · exact q.elim
  · exact q.elim
end
end L3
namespace L3
open PySem PySem.Spec L2 PySem.SeqAt
open PyProof.Rows hiding St
mutual
def eqD : D → D → Bool
  | .non, .non => true
  | .bl a, .bl b => a == b
  | .bl a, .int b => (if a then 1 else 0) == b
  | .int a, .bl b => a == (if b then 1 else 0)
  | .int a, .int b => a == b
  | .str a, .str b => a == b
  | .lst xs, .lst ys => eqDs xs ys
  | .tup xs, .tup ys => eqDs xs ys
  | _, _ => false
def eqDs : List D → List D → Bool
  | [], [] => true
  | x :: xs, y :: ys => eqD x y && eqDs xs ys
  | _, _ => false
end
def pl : Nat → D → Bool
  | _, .non => true
  | _, .bl _ => true
  | _, .int _ => true
  | _, .str _ => true
  | n + 1, .lst xs => xs.all (pl n)
  | n + 1, .tup xs => xs.all (pl n)
  | _, _ => false
mutual
theorem eqD_refl : ∀ (n : Nat) (d : D), pl n d = true → eqD d d = true
  | _, .non, _ => rfl
  | _, .bl _, _ => by simp [eqD]
  | _, .int _, _ => by simp [eqD]
  | _, .str _, _ => by simp [eqD]
  | n + 1, .lst xs, h => by unfold eqD; exact eqDs_refl n xs (by unfold pl at h; exact h)
  | n + 1, .tup xs, h => by unfold eqD; exact eqDs_refl n xs (by unfold pl at h; exact h)
  | 0, .lst xs, h => by cases h
  | 0, .tup xs, h => by cases h
  | _, .ref _, h => by unfold pl at h; cases h
  | _, .ty _, h => by unfold pl at h; cases h
theorem eqDs_refl : ∀ (n : Nat) (xs : List D), xs.all (pl n) = true → eqDs xs xs = true
  | _, [], _ => by unfold eqDs; rfl
  | n, x :: xs, h => by
    rw [List.all_cons, Bool.and_eq_true] at h
    unfold eqDs
    rw [eqD_refl n x h.1, eqDs_refl n xs h.2]
    rfl
end
mutual
theorem Rep.inj {α : List (Option Addr)} {H : Hp} : ∀ {d e : D} {v : V} (n : Nat), pl n d = true → pl n e = true → Rep α H d v → Rep α H e v → d = e
  | .non, e, v, n, _, he, h1, h2 => by
    unfold Rep at h1; subst h1
    cases e <;> first | (unfold pl at he; cases he; done) | (unfold Rep at h2; cases h2; rfl) | (unfold Rep at h2; cases h2; done) | (unfold Rep at h2; obtain ⟨_, _, h2, _⟩ := h2; cases h2) | rfl | (cases h2; done) | (obtain ⟨_, _, h2, _⟩ := h2; cases h2) | (obtain ⟨_, _, h2⟩ := h2; cases h2)
  | .bl b, e, v, n, _, he, h1, h2 => by
    unfold Rep at h1; subst h1
    cases e <;> first | (unfold pl at he; cases he; done) | (unfold Rep at h2; cases h2; rfl) | (unfold Rep at h2; cases h2; done) | (unfold Rep at h2; obtain ⟨_, _, h2, _⟩ := h2; cases h2) | (cases h2; rfl) | (cases h2; done) | (obtain ⟨_, _, h2, _⟩ := h2; cases h2) | (obtain ⟨_, _, h2⟩ := h2; cases h2)
  | .int b, e, v, n, _, he, h1, h2 => by
    unfold Rep at h1; subst h1
    cases e <;> first | (unfold pl at he; cases he; done) | (unfold Rep at h2; cases h2; rfl) | (unfold Rep at h2; cases h2; done) | (unfold Rep at h2; obtain ⟨_, _, h2, _⟩ := h2; cases h2) | (cases h2; rfl) | (cases h2; done) | (obtain ⟨_, _, h2, _⟩ := h2; cases h2) | (obtain ⟨_, _, h2⟩ := h2; cases h2)
  | .str b, e, v, n, _, he, h1, h2 => by
    unfold Rep at h1; subst h1
    cases e <;> first | (unfold pl at he; cases he; done) | (unfold Rep at h2; cases h2; rfl) | (unfold Rep at h2; cases h2; done) | (unfold Rep at h2; obtain ⟨_, _, h2, _⟩ := h2; cases h2) | (cases h2; rfl) | (cases h2; done) | (obtain ⟨_, _, h2, _⟩ := h2; cases h2) | (obtain ⟨_, _, h2⟩ := h2; cases h2)
  | .ty b, e, v, n, hd, he, h1, h2 => by unfold pl at hd; cases hd
  | .ref b, e, v, n, hd, he, h1, h2 => by unfold pl at hd; cases hd
  | .lst xs, e, v, 0, hd, he, h1, h2 => by cases hd
  | .tup xs, e, v, 0, hd, he, h1, h2 => by cases hd
  | .lst xs, e, v, n + 1, hd, he, h1, h2 => by
    unfold Rep at h1
    obtain ⟨a, vs, rfl, na, ha, ra⟩ := h1
    cases e <;> unfold Rep at h2 <;> try (cases h2; done)
    · unfold pl at he; cases he
    · obtain ⟨a', vs', e', na', ha', ra'⟩ := h2
      cases e'
      have : vs = vs' := by
        rcases ha with ha | ⟨o, ha⟩ <;> rcases ha' with ha' | ⟨o', ha'⟩ <;> (rw [ha] at ha'; first | (cases ha'; rfl) | (cases ha'; done))
      subst this
      rw [Reps.inj n (by unfold pl at hd; exact hd) (by unfold pl at he; exact he) ra ra']
    · obtain ⟨a', vs', e', na', ha', ra'⟩ := h2
      cases e'
      rcases ha with ha | ⟨o, ha⟩ <;> (rw [ha] at ha'; cases ha')
  | .tup xs, e, v, n + 1, hd, he, h1, h2 => by
    unfold Rep at h1
    obtain ⟨a, vs, rfl, na, ha, ra⟩ := h1
    cases e <;> unfold Rep at h2 <;> try (cases h2; done)
    · unfold pl at he; cases he
    · obtain ⟨a', vs', e', na', ha', ra'⟩ := h2
      cases e'
      rcases ha' with ha' | ⟨o, ha'⟩ <;> (rw [ha] at ha'; cases ha')
    · obtain ⟨a', vs', e', na', ha', ra'⟩ := h2
      cases e'
      rw [ha] at ha'
      cases ha'
      rw [Reps.inj n (by unfold pl at hd; exact hd) (by unfold pl at he; exact he) ra ra']
theorem Reps.inj {α : List (Option Addr)} {H : Hp} : ∀ {ds es : List D} {vs : List V} (n : Nat), ds.all (pl n) = true → es.all (pl n) = true → Reps α H ds vs → Reps α H es vs → ds = es
  | [], es, vs, n, _, _, h1, h2 => by
    unfold Reps at h1
    subst h1
    cases es with
    | nil => rfl
    | cons e es => unfold Reps at h2; obtain ⟨_, _, h, _⟩ := h2; cases h
  | d :: ds, es, vs, n, hd, he, h1, h2 => by
    unfold Reps at h1
    obtain ⟨v, r, rfl, r1, r2⟩ := h1
    cases es with
    | nil => unfold Reps at h2; cases h2
    | cons e es =>
      unfold Reps at h2
      obtain ⟨v', r', h, q1, q2⟩ := h2
      cases h
      rw [List.all_cons, Bool.and_eq_true] at hd he
      rw [Rep.inj n hd.1 he.1 r1 q1, Reps.inj n hd.2 he.2 r2 q2]
end
theorem eqDs_len : ∀ {xs ys : List D}, xs.length ≠ ys.length → eqDs xs ys = false
  | [], [], h => absurd rfl h
  | [], _ :: _, _ => by unfold eqDs; rfl
  | _ :: _, [], _ => by unfold eqDs; rfl
  | x :: xs, y :: ys, h => by
    unfold eqDs
    rw [eqDs_len (by simpa using h), Bool.and_false]
theorem eqDs_all : ∀ {xs ys : List D}, xs.length = ys.length → eqDs xs ys = (List.range xs.length).all fun j => eqD (xs.getD j .non) (ys.getD j .non)
  | [], [], _ => by unfold eqDs; rfl
  | [], _ :: _, h => by cases h
  | _ :: _, [], h => by cases h
  | x :: xs, y :: ys, h => by
    unfold eqDs
    rw [List.length_cons, List.range_succ_eq_map, List.all_cons, List.all_map, eqDs_all (by simpa using h)]
    rfl
section
variable {X : Cx} {pins : List (Addr × Obj)} {σ : L2.St} {H : Hp} {s : Shared} {α : List (Option Addr)}
theorem rep_get {xs : List D} {vs : List V} {its : List Value} (r : Reps α H xs vs) (v : Vals vs its) (j : Nat) (hj : j < its.length) : ∃ x, xs[j]? = some (xs.getD j .non) ∧ Rep α H (xs.getD j .non) x ∧ RelV x its[j] := by
  have h1 := r.length
  have h2 := v.length
  have hx : j < xs.length := by omega
  have e : xs[j]? = some (xs.getD j .non) := by rw [List.getElem?_eq_getElem hx, List.getD_eq_getElem?_getD, List.getElem?_eq_getElem hx]; rfl
  obtain ⟨x, q, rr⟩ := r.get e
  obtain ⟨u, q2, rv⟩ := v.get q
  rw [List.getElem?_eq_getElem hj] at q2
  cases q2
  exact ⟨x, e, rr, rv⟩
theorem all_getD {xs : List D} {n : Nat} (h : xs.all (pl n) = true) (j : Nat) : pl n (xs.getD j .non) = true := by
  rw [List.getD_eq_getElem?_getD]
  cases e : xs[j]? with
  | none => cases n <;> rfl
  | some d => exact List.all_eq_true.mp h d (List.mem_of_getElem? e)
def scD : D → Bool
  | .non => true
  | .bl _ => true
  | .int _ => true
  | .str _ => true
  | _ => false
theorem eq_scal {A : Around} {d e : D} {x y : V} {u v : Value} (hd : scD d = true) (he : scD e = true) (rd : Rep α H d x) (re : Rep α H e y) (rx : RelV x u) (ry : RelV y v) : RcAt A s u v (eqD d e) ∧ EqAt A s u v (eqD d e) := by
  cases d <;> cases e <;> try (first | (cases hd; done) | (cases he; done))
  all_goals (unfold Rep at rd re; subst rd re)
  all_goals (first | (obtain ⟨t, rfl⟩ := rx; obtain ⟨t', rfl⟩ := ry) | (obtain ⟨t, rfl⟩ := rx; cases ry) | (cases rx; obtain ⟨t, rfl⟩ := ry) | (cases rx; cases ry))
  all_goals unfold eqD
  · exact ⟨RcAt.none_none, EqAt.same _⟩
  · exact ⟨RcAt.none_bool _, EqAt.none_bool _⟩
  · exact ⟨RcAt.none_int _ _, EqAt.none_int _ _⟩
  · exact ⟨RcAt.none_str _ _, EqAt.none_str _ _⟩
  · exact ⟨RcAt.bool_none _, EqAt.bool_none _⟩
  · exact ⟨RcAt.bool_bool _ _, EqAt.bool_bool _ _⟩
  · exact ⟨RcAt.bool_int _ _ _, EqAt.bool_int _ _ _⟩
  · exact ⟨RcAt.bool_str _ _ _, EqAt.bool_str _ _ _⟩
  · exact ⟨RcAt.int_none _ _, EqAt.int_none _ _⟩
  · exact ⟨RcAt.int_bool _ _ _, EqAt.int_bool _ _ _⟩
  · exact ⟨RcAt.int_int _ _ _ _, EqAt.int_int _ _ _ _⟩
  · exact ⟨RcAt.int_str _ _ _ _, EqAt.int_str _ _ _ _⟩
  · exact ⟨RcAt.str_none _ _, EqAt.str_none _ _⟩
  · exact ⟨RcAt.str_bool _ _ _, EqAt.str_bool _ _ _⟩
  · exact ⟨RcAt.str_int _ _ _ _, EqAt.str_int _ _ _ _⟩
  · exact ⟨RcAt.str_str _ _ _ _, EqAt.str_str _ _ _ _⟩
theorem lst_is (I : Inv X pins σ H s) {xs : List D} {x : V} {u : Value} (r : Rep α H (.lst xs) x) (rx : RelV x u) : ∃ a vs its, u = .ref a ∧ Reps α H xs vs ∧ Vals vs its ∧ s.heap.IsList a its.toArray := by
  unfold Rep at r
  obtain ⟨a, vs, rfl, na, ha, ra⟩ := r
  cases rx
  obtain ⟨z, its, n, rv, hl, eo⟩ := Inv.lstR I ha
  exact ⟨a, vs, its, rfl, ra, rv, ⟨_, eo, rfl, n, rfl⟩⟩
theorem tup_is (I : Inv X pins σ H s) {xs : List D} {x : V} {u : Value} (r : Rep α H (.tup xs) x) (rx : RelV x u) : ∃ a vs its, u = .ref a ∧ Reps α H xs vs ∧ Vals vs its ∧ s.heap.IsTuple a its.toArray := by
  unfold Rep at r
  obtain ⟨a, vs, rfl, na, ha, ra⟩ := r
  cases rx
  obtain ⟨its, r', p, hz⟩ := I.tuple (SqT.of ha)
  exact ⟨a, vs, its, rfl, ra, r', p⟩
theorem eq_lst_sc (I : Inv X pins σ H s) {A : Around} {xs : List D} {e : D} {x y : V} {u v : Value} (he : scD e = true) (rd : Rep α H (.lst xs) x) (re : Rep α H e y) (rx : RelV x u) (ry : RelV y v) (hu : A.units < cLine) :
    (RcAt A s u v (eqD (.lst xs) e) ∧ EqAt A s u v (eqD (.lst xs) e)) ∧ RcAt A s v u (eqD e (.lst xs)) ∧ EqAt A s v u (eqD e (.lst xs)) := by
  obtain ⟨a, vs, its, rfl, _, _, hl⟩ := lst_is I rd rx
  cases e <;> try (cases he; done)
  all_goals (unfold Rep at re; subst re)
  all_goals (first | (obtain ⟨t, rfl⟩ := ry) | (cases ry))
  all_goals unfold eqD
  · exact ⟨⟨RcAt.list_none hl hu, EqAt.list_none hl hu⟩, RcAt.none_list hl hu, EqAt.none_list hl hu⟩
  · exact ⟨⟨RcAt.list_bool _ hl hu, EqAt.list_bool _ hl hu⟩, RcAt.bool_list _ hl hu, EqAt.bool_list _ hl hu⟩
  · exact ⟨⟨RcAt.list_int _ _ hl hu, EqAt.list_int _ _ hl hu⟩, RcAt.int_list _ _ hl hu, EqAt.int_list _ _ hl hu⟩
  · exact ⟨⟨RcAt.list_str _ _ hl hu, EqAt.list_str _ _ hl hu⟩, RcAt.str_list _ _ hl hu, EqAt.str_list _ _ hl hu⟩
theorem eq_tup_sc (I : Inv X pins σ H s) {A : Around} {xs : List D} {e : D} {x y : V} {u v : Value} (he : scD e = true) (rd : Rep α H (.tup xs) x) (re : Rep α H e y) (rx : RelV x u) (ry : RelV y v) (hu : A.units < cLine) :
    (RcAt A s u v (eqD (.tup xs) e) ∧ EqAt A s u v (eqD (.tup xs) e)) ∧ RcAt A s v u (eqD e (.tup xs)) ∧ EqAt A s v u (eqD e (.tup xs)) := by
  obtain ⟨a, vs, its, rfl, _, _, hl⟩ := tup_is I rd rx
  cases e <;> try (cases he; done)
  all_goals (unfold Rep at re; subst re)
  all_goals (first | (obtain ⟨t, rfl⟩ := ry) | (cases ry))
  all_goals unfold eqD
  · exact ⟨⟨RcAt.tuple_none hl hu, EqAt.tuple_none hl hu⟩, RcAt.none_tuple hl hu, EqAt.none_tuple hl hu⟩
  · exact ⟨⟨RcAt.tuple_bool _ hl hu, EqAt.tuple_bool _ hl hu⟩, RcAt.bool_tuple _ hl hu, EqAt.bool_tuple _ hl hu⟩
  · exact ⟨⟨RcAt.tuple_int _ _ hl hu, EqAt.tuple_int _ _ hl hu⟩, RcAt.int_tuple _ _ hl hu, EqAt.int_tuple _ _ hl hu⟩
  · exact ⟨⟨RcAt.tuple_str _ _ hl hu, EqAt.tuple_str _ _ hl hu⟩, RcAt.str_tuple _ _ hl hu, EqAt.str_tuple _ _ hl hu⟩
theorem eq_both {A : Around} {n : Nat} {d e : D} {x y : V} {a b : Addr} (hd : pl n d = true) (he : pl n e = true) (rd : Rep α H d x) (re : Rep α H e y) (rx : RelV x (.ref a)) (ry : RelV y (.ref b)) (h : RcAt A s (.ref a) (.ref b) (eqD d e)) :
    RcAt A s (.ref a) (.ref b) (eqD d e) ∧ EqAt A s (.ref a) (.ref b) (eqD d e) := by
  refine ⟨h, ?_⟩
  by_cases hab : a = b
  · subst hab
    have hx : x = y := RelV.inj rx ry
    subst hx
    have := Rep.inj n hd he rd re
    subst this
    rw [eqD_refl n d hd]
    exact EqAt.same _
  · exact EqAt.of_refs hab h
theorem eq_ok (I : Inv X pins σ H s) : ∀ (n : Nat) (A : Around) (d e : D) (x y : V) (u v : Value), pl n d = true → pl n e = true → Rep α H d x → Rep α H e y → RelV x u → RelV y v → A.units + n < cLine →
    RcAt A s u v (eqD d e) ∧ EqAt A s u v (eqD d e) := by
  intro n
  induction n with
  | zero =>
    intro A d e x y u v hd he rd re rx ry hu
    refine eq_scal ?_ ?_ rd re rx ry
    · cases d <;> first | rfl | (cases hd)
    · cases e <;> first | rfl | (cases he)
  | succ n ih =>
    intro A d e x y u v hd he rd re rx ry hu
    have hu0 : A.units < cLine := by omega
    have hin : A.in1.units + n < cLine := by rw [Around.in1_units]; omega
    cases d <;> try (cases hd; done)
    case lst xs =>
      cases e <;> try (cases he; done)
      case lst ys =>
        have rd0 := rd
        have re0 := re
        have rx0 := rx
        have ry0 := ry
        obtain ⟨a, vs, its, rfl, r1, v1, l1⟩ := lst_is I rd rx
        obtain ⟨b, ws, jts, rfl, r2, v2, l2⟩ := lst_is I re ry
        have e1 := r1.length
        have e2 := v1.length
        have e3 := r2.length
        have e4 := v2.length
        refine eq_both hd he rd0 re0 rx0 ry0 ?_
        unfold eqD
        by_cases hlen : xs.length = ys.length
        · rw [eqDs_all hlen]
          have hsz : its.toArray.size = jts.toArray.size := by simp only [List.size_toArray]; omega
          have hx : xs.length = its.toArray.size := by simp only [List.size_toArray]; omega
          rw [hx]
          refine RcAt.lists l1 l2 hsz hu0 fun j h1 h2 => ?_
          have h1' : j < its.length := by simpa using h1
          have h2' : j < jts.length := by simpa using h2
          obtain ⟨p, _, q1, q2⟩ := rep_get r1 v1 j h1'
          obtain ⟨p', _, q1', q2'⟩ := rep_get r2 v2 j h2'
          exact (ih A.in1 _ _ p p' _ _ (all_getD (by unfold pl at hd; exact hd) j) (all_getD (by unfold pl at he; exact he) j) q1 q1' (by simpa using q2) (by simpa using q2') hin).2
        · rw [eqDs_len hlen]
          exact RcAt.lists_lengths l1 l2 (by simp only [List.size_toArray, bne_iff_ne, ne_eq]; omega) hu0
      case tup ys =>
        obtain ⟨a, vs, its, rfl, r1, v1, l1⟩ := lst_is I rd rx
        obtain ⟨b, ws, jts, rfl, r2, v2, l2⟩ := tup_is I re ry
        unfold eqD
        exact ⟨RcAt.list_tuple l1 l2 hu0, EqAt.list_tuple l1 l2 hu0⟩
      all_goals exact (eq_lst_sc I rfl rd re rx ry hu0).1
    case tup xs =>
      cases e <;> try (cases he; done)
      case tup ys =>
        have rd0 := rd
        have re0 := re
        have rx0 := rx
        have ry0 := ry
        obtain ⟨a, vs, its, rfl, r1, v1, l1⟩ := tup_is I rd rx
        obtain ⟨b, ws, jts, rfl, r2, v2, l2⟩ := tup_is I re ry
        have e1 := r1.length
        have e2 := v1.length
        have e3 := r2.length
        have e4 := v2.length
        refine eq_both hd he rd0 re0 rx0 ry0 ?_
        unfold eqD
        have key := RcAt.tuples (e := fun j => eqD (xs.getD j .non) (ys.getD j .non)) l1 l2 hu0 fun j h1 h2 => by
          have h1' : j < its.length := by simpa using h1
          have h2' : j < jts.length := by simpa using h2
          obtain ⟨p, _, q1, q2⟩ := rep_get r1 v1 j h1'
          obtain ⟨p', _, q1', q2'⟩ := rep_get r2 v2 j h2'
          exact (ih A.in1 _ _ p p' _ _ (all_getD (by unfold pl at hd; exact hd) j) (all_getD (by unfold pl at he; exact he) j) q1 q1' (by simpa using q2) (by simpa using q2') hin).2
        by_cases hlen : xs.length = ys.length
        · rw [eqDs_all hlen]
          have hsz : its.toArray.size = jts.toArray.size := by simp only [List.size_toArray]; omega
          have hx : xs.length = its.toArray.size := by simp only [List.size_toArray]; omega
          rw [hsz, Nat.min_self, beq_self_eq_true, Bool.and_true, ← hsz, ← hx] at key
          exact key
        · rw [eqDs_len hlen]
          have hne : (its.toArray.size == jts.toArray.size) = false := by simp only [List.size_toArray, beq_eq_false_iff_ne, ne_eq]; omega
          rw [hne, Bool.and_false] at key
          exact key
      case lst ys =>
        obtain ⟨a, vs, its, rfl, r1, v1, l1⟩ := tup_is I rd rx
        obtain ⟨b, ws, jts, rfl, r2, v2, l2⟩ := lst_is I re ry
        unfold eqD
        exact ⟨RcAt.tuple_list l1 l2 hu0, EqAt.tuple_list l1 l2 hu0⟩
      all_goals exact (eq_tup_sc I rfl rd re rx ry hu0).1
    all_goals
      cases e <;> try (cases he; done)
      case lst ys => exact (eq_lst_sc I rfl re rd ry rx hu0).2
      case tup ys => exact (eq_tup_sc I rfl re rd ry rx hu0).2
      all_goals exact eq_scal rfl rfl rd re rx ry
def dEqR : DR2 := fun x y st K => pl 40 x = true ∧ pl 40 y = true ∧ K (.bl (eqD x y)) st
theorem o_eq {k : Nat} (hr : Room k X.A) : OpR X (compareOp .Eq) (LR dEqR) := fun pins s σ H x y v u Q I rx ry ⟨α, d, e, st, K, G, F', P, r1, r2, S, q, k⟩ => by
  have hu := hr.units
  exact (eq_ok I 40 X.A d e x y v u q.1 q.2.1 (r1.mono P.same) (r2.mono P.same) rx ry (by omega)).1 _ _ _ _ ⟨.bl (eqD d e), H, I, rfl, k.here P q.2.2 S (by unfold Rep; rfl)⟩
def dNeR : DR2 := fun x y st K => match x, y with
  | .int i, .int j => K (.bl (!decide (i = j))) st
  | .bl i, .bl j => K (.bl (!decide (i = j))) st
  | .str i, .str j => K (.bl (!decide (i = j))) st
  | _, _ => False
theorem o_ne : OpR X (compareOp .NotEq) (LR dNeR) := OpR.imp op_ne fun x y H Q ⟨α, d, e, st, K, G, F', P, r1, r2, S, q, k⟩ => by
  cases d <;> cases e <;> try exact q.elim
  all_goals (unfold Rep at r1 r2; subst r1 r2)
  · exact ⟨rfl, k.here P q S (by unfold Rep; congr 2; exact decide_eq_decide.mpr ⟨fun h => by cases h; rfl, fun h => by rw [h]⟩)⟩
  · exact ⟨rfl, k.here P q S (by unfold Rep; congr 2; exact decide_eq_decide.mpr ⟨fun h => by cases h; rfl, fun h => by rw [h]⟩)⟩
  · exact ⟨rfl, k.here P q S (by unfold Rep; congr 2; exact decide_eq_decide.mpr ⟨fun h => by cases h; rfl, fun h => by rw [h]⟩)⟩
end
end L3
namespace L3
open PySem PySem.Spec L2
open PyProof.Rows hiding St
def LC (α : List (Option Addr)) (G F : Hp) (K : DEnv → Store → Prop) (Q : L2.St → Hp → Prop) : Prop := ∀ σd' st', K σd' st' → ∀ α' G' H' σ', Step α G α' G' → Spl G' F H' → RelS α' G' σd' σ' → StRel α' st' G' → Q σ' H'
structure LEnds (α : List (Option Addr)) (G F : Hp) (DD : DEnds) (D : Ends) : Prop where
  nx : LC α G F DD.nx D.nx
  rt : LK α G F DD.rt D.rt
  bk : LC α G F DD.bk D.bk
  ct : LC α G F DD.ct D.ct
def LS (t : DS) : TS := fun D σ H => ∃ α σd st DD G F, Spl G F H ∧ RelS α G σd σ ∧ StRel α st G ∧ t DD σd st ∧ LEnds α G F DD D
theorem LC.at {α α1 : List (Option Addr)} {G F G1 : Hp} {K : DEnv → Store → Prop} {Q : L2.St → Hp → Prop} (h : LC α G F K Q) (s : Step α G α1 G1) : LC α1 G1 F K Q := fun d st' k α' G' H' v s' P R S => h d st' k α' G' H' v (s.trans s') P R S
theorem LC.here {α : List (Option Addr)} {G F H : Hp} {K : DEnv → Store → Prop} {Q : L2.St → Hp → Prop} (h : LC α G F K Q) (P : Spl G F H) {σd : DEnv} {st : Store} {σ : L2.St} (k : K σd st) (R : RelS α G σd σ) (S : StRel α st G) : Q σ H := h σd st k α G H σ Step.refl P R S
theorem LEnds.at {α α1 : List (Option Addr)} {G F G1 : Hp} {DD : DEnds} {D : Ends} (h : LEnds α G F DD D) (s : Step α G α1 G1) : LEnds α1 G1 F DD D := ⟨h.nx.at s, h.rt.at s, h.bk.at s, h.ct.at s⟩
section
variable {X : Cx} {a b c e o i : Expr} {es : List Expr} {ta tb tc te : DE} {pos : Pos} {st : Stmt} {sts : List Stmt} {t u : DS}
theorem PS.imp {t t' : TS} (h : PS X st t) (f : ∀ D σ H, t' D σ H → t D σ H) : PS X st t' := fun pins s σ H D I q => h pins s σ H D I (f D σ H q)
theorem PSs.imp {t t' : TS} (h : PSs X sts t) (f : ∀ D σ H, t' D σ H → t D σ H) : PSs X sts t' := fun pins s σ H D I q => h pins s σ H D I (f D σ H q)
def dNext : DS := fun D σ st => D.nx σ st
def dSeq (t u : DS) : DS := fun D σ st => t { D with nx := u D } σ st
theorem dss_nil : PSs X [] (LS dNext) := PSs.imp pss_nil fun D σ H ⟨α, σd, st, DD, G, F, P, R, S, t, k⟩ => k.nx.here P t R S
theorem dss_one (h : PS X st (LS t)) : PSs X [st] (LS t) := pss_one h
theorem dss_cons (h : PS X st (LS t)) (h2 : PSs X sts (LS u)) : PSs X (st :: sts) (LS (dSeq t u)) := PSs.imp (pss_cons h h2) fun D σ H ⟨α, σd, st, DD, G, F, P, R, S, t, k⟩ =>
  ⟨α, σd, st, _, G, F, P, R, S, t, fun σd' st' q α' G' H' σ' s' P' R' S' => ⟨α', σd', st', DD, G', F, P', R', S', q, k.at s'⟩, k.rt, k.bk, k.ct⟩
def dCont : DS := fun D σ st => D.ct σ st
theorem ds_continue : PS X (.Continue pos) (LS dCont) := PS.imp ps_continue fun D σ H ⟨α, σd, st, DD, G, F, P, R, S, t, k⟩ => k.ct.here P t R S
def dRet (te : DE) : DS := fun D σ st => te σ st D.rt
theorem ds_ret (h : PE X e (LE te)) : PS X (.Return (some e) pos) (LS (dRet te)) := PS.imp (ps_ret h) fun D σ H ⟨α, σd, st, DD, G, F, P, R, S, t, k⟩ => ⟨α, σd, st, _, G, F, P, R, S, t, k.rt⟩
def dDrop (te : DE) : DS := fun D σ st => te σ st fun _ st1 => D.nx σ st1
theorem ds_expr (h : PE X e (LE te)) (hs : swapsWith e none pos.line X.env = pure false := by rfl) : PS X (.Expr e pos) (LS (dDrop te)) := PS.imp (ps_expr h hs) fun D σ H ⟨α, σd, st, DD, G, F, P, R, S, t, k⟩ =>
  ⟨α, σd, st, _, G, F, P, R, S, t, fun d st1 q α1 G1 H1 v s1 P1 S1 r1 => (k.nx.at s1).here P1 q (R.step s1) S1⟩
def dIfS (c : DT) (t u : DS) : DS := fun D σ st => c σ st fun b st1 => if b = true then t D σ st1 else u D σ st1
theorem ds_if {x y : List Stmt} {tc : DT} (hc : PT X c (LT tc)) (ha : PSs X x (LS t)) (hb : PSs X y (LS u)) : PS X (.If c x y pos) (LS (dIfS tc t u)) := PS.imp (ps_if hc ha hb) fun D σ H ⟨α, σd, st, DD, G, F, P, R, S, t, k⟩ => by
  refine ⟨α, σd, st, _, G, F, P, R, S, t, fun b st1 q α1 G1 H1 s1 P1 S1 => ?_⟩
  cases b with
  | true => exact ⟨α1, σd, st1, DD, G1, F, P1, R.step s1, S1, q, k.at s1⟩
  | false => exact ⟨α1, σd, st1, DD, G1, F, P1, R.step s1, S1, q, k.at s1⟩
abbrev DTg := D → DEnv → Option DEnv
def tgName (i : Nat) : DTg := fun d σ => some (σ.set i (some d))
def tgTwo (i j : Nat) : DTg := fun d σ => match d with | .tup [x, y] => some ((σ.set i (some x)).set j (some y)) | _ => none
def LG (t : DTg) : TG := fun v σ H Q => ∃ α σd st d K G F, Spl G F H ∧ RelS α G σd σ ∧ StRel α st G ∧ Rep α G d v ∧ (∃ σ', t d σd = some σ' ∧ K σ' st) ∧ LC α G F K Q
theorem PG.imp {tg : Expr} {t t' : TG} (h : PG X tg t) (f : ∀ v σ H Q, t' v σ H Q → t v σ H Q) : PG X tg t' := fun pins s σ H v u Q I r q => h pins s σ H v u Q I r (f v σ H Q q)
theorem dg_name {tg : Expr} {i : Nat} (h : PG X tg (gName i)) : PG X tg (LG (tgName i)) := PG.imp h fun v σ H Q ⟨α, σd, st, d, K, G, F, P, R, S, r, ⟨σ', e, q⟩, k⟩ => by
  cases e
  exact k.here P q (R.set i r) S
theorem dg_two {tg : Expr} {i j : Nat} (h : PG X tg (gTup X.K 2 (gCons (gName i) (gCons (gName j) gNil)))) : PG X tg (LG (tgTwo i j)) := PG.imp h fun v σ H Q ⟨α, σd, st, d, K, G, F, P, R, S, r, ⟨σ', e, q⟩, k⟩ => by
  unfold tgTwo at e
  split at e
  · rename_i x y
    cases e
    unfold Rep at r
    obtain ⟨a, vs, rfl, na, h1, h2⟩ := r
    obtain ⟨v1, v2, rfl, r1, r2⟩ := reps2 h2 rfl
    exact ⟨a, _, rfl, .of (P.get h1), rfl, v1, _, rfl, v2, _, rfl, rfl, k.here P q ((R.set i r1).set j r2) S⟩
  · cases e
def dSet (i : Nat) (te : DE) : DS := fun D σ st => te σ st fun d st1 => D.nx (σ.set i (some d)) st1
theorem ds_set {i : Nat} (h : PS X st (tAsg (LE te) (gName i))) : PS X st (LS (dSet i te)) := PS.imp h fun D σ H ⟨α, σd, st, DD, G, F, P, R, S, t, k⟩ =>
  ⟨α, σd, st, _, G, F, P, R, S, t, fun d st1 q α1 G1 H1 v s1 P1 S1 r1 => (k.nx.at s1).here P1 q ((R.step s1).set i r1) S1⟩
def dAsg (tg : DTg) (te : DE) : DS := fun D σ st => te σ st fun d st1 => ∃ σ', tg d σ = some σ' ∧ D.nx σ' st1
theorem ds_asg {tg : DTg} (h : PS X st (tAsg (LE te) (LG tg))) : PS X st (LS (dAsg tg te)) := PS.imp h fun D σ H ⟨α, σd, st, DD, G, F, P, R, S, t, k⟩ =>
  ⟨α, σd, st, _, G, F, P, R, S, t, fun d st1 q α1 G1 H1 v s1 P1 S1 r1 => ⟨α1, σd, st1, d, DD.nx, G1, F, P1, R.step s1, S1, r1, q, k.nx.at s1⟩⟩
def setR (x y d : D) (st : Store) (K : Store → Prop) : Prop := match x, y with
  | .ref n, .int k => (match st[n]? with
    | some (.lst xs) => (match ixN xs.length k with | some j => K (st.set n (.lst (xs.set j d))) | none => False)
    | _ => False)
  | _, _ => False
def dSetIx (to ti te : DE) : DS := fun D σ st => te σ st fun d st1 => to σ st1 fun x st2 => ti σ st2 fun y st3 => setR x y d st3 fun st4 => D.nx σ st4
theorem ds_setIx {to ti : DE} (h : PS X st (tAsg (LE te) (gSub (LE to) (LE ti) rSetL))) : PS X st (LS (dSetIx to ti te)) := PS.imp h fun D σ H ⟨α, σd, st, DD, G, F, P, R, S, t, k⟩ => by
  refine ⟨α, σd, st, _, G, F, P, R, S, t, fun d st1 q α1 G1 H1 v s1 P1 S1 r1 => ?_⟩
  refine ⟨α1, σd, st1, _, G1, F, P1, R.step s1, S1, q, fun x st2 q2 α2 G2 H2 v2 s2 P2 S2 r2 => ?_⟩
  refine ⟨α2, σd, st2, _, G2, F, P2, (R.step s1).step s2, S2, q2, fun y st3 q3 α3 G3 H3 v3 s3 P3 S3 r3 => ?_⟩
  cases x <;> cases y <;> try exact q3.elim
  rename_i n kk
  unfold setR at q3
  simp only at q3
  split at q3
  · rename_i xs e
    split at q3
    · rename_i j ej
      obtain ⟨p, ep, vs, hv, rv⟩ := S3.lstAt e
      have r2' := rep_at ep (r2.step s3)
      subst r2'
      unfold Rep at r3
      have hm : some p ∈ α3 := List.mem_of_getElem? ep
      have rd := (r1.step s2).step s3
      refine ⟨p, vs, kk, j, rfl, r3, P3.get hv, by rw [← rv.length]; exact ej, ?_⟩
      refine (((k.nx.at s1).at s2).at s3) σd _ q3 α3 (upd G3 p (.lst (vs.set j v))) _ σ (Step.write hm) (P3.write hv) ((((R.step s1).step s2).step s3).step (Step.write hm)) ?_
      exact S3.write ep ⟨vs.set j v, upd_same, (reps_paired.mpr (paired_set rd j (reps_paired.mp rv))).step (Step.write hm)⟩
    · exact q3.elim
  · exact q3.elim
def dWhile (c : DT) (tb : DS) : DS := fun D σ st => ∃ W : Nat → DEnv → Store → Prop, (∃ m, W m σ st) ∧ ∀ m σ st, W m σ st →
  c σ st fun b st1 => if b = true then tb { D with nx := fun σ' st' => ∃ m', m' < m ∧ W m' σ' st', ct := fun σ' st' => ∃ m', m' < m ∧ W m' σ' st', bk := D.nx } σ st1 else D.nx σ st1
theorem ds_while {tc : DT} (h : PS X st (tWhile (LT tc) (LS t))) : PS X st (LS (dWhile tc t)) := PS.imp h fun D σ H ⟨α, σd, st, DD, G, F, P, R, S, ⟨W, ⟨m0, w0⟩, turn⟩, k⟩ => by
  refine ⟨fun m σ' H' => ∃ α' σd' st' G', Step α G α' G' ∧ Spl G' F H' ∧ RelS α' G' σd' σ' ∧ StRel α' st' G' ∧ W m σd' st', ⟨m0, α, σd, st, G, Step.refl, P, R, S, w0⟩, ?_⟩
  rintro m σ1 H1 ⟨α1, σd1, st1, G1, s1, P1, R1, S1, w1⟩
  refine ⟨α1, σd1, st1, _, G1, F, P1, R1, S1, turn m σd1 st1 w1, fun b st2 q α2 G2 H2 s2 P2 S2 => ?_⟩
  cases b with
  | false => exact ((k.nx.at s1).at s2).here P2 q (R1.step s2) S2
  | true =>
    refine ⟨fun σ' H' => ∃ m', m' < m ∧ ∃ α' σd' st' G', Step α G α' G' ∧ Spl G' F H' ∧ RelS α' G' σd' σ' ∧ StRel α' st' G' ∧ W m' σd' st', fun σ' H' z => z, ?_⟩
    refine ⟨α2, σd1, st2, _, G2, F, P2, R1.step s2, S2, q, ?_⟩
    refine ⟨?_, (k.rt.at s1).at s2, (k.nx.at s1).at s2, ?_⟩
    · rintro σd3 st3 ⟨m', hm, w3⟩ α3 G3 H3 σ3 s3 P3 R3 S3
      exact ⟨m', hm, α3, σd3, st3, G3, (s1.trans s2).trans s3, P3, R3, S3, w3⟩
    · rintro σd3 st3 ⟨m', hm, w3⟩ α3 G3 H3 σ3 s3 P3 R3 S3
      exact ⟨m', hm, α3, σd3, st3, G3, (s1.trans s2).trans s3, P3, R3, S3, w3⟩
abbrev DI := DEnv → Store → (List D → (Store → Prop) → Store → Prop) → Prop
structure ItOk (J : It) (α : List (Option Addr)) (G : Hp) (ok : Store → Prop) (xs : List D) : Prop where
  stop : ∀ (n : Nat) α' G' F' H' st', Step α G α' G' → Spl G' F' H' → StRel α' st' G' → ok st' → xs.length ≤ n → J.stop n H'
  go : ∀ (n : Nat) d α' G' F' H' st', Step α G α' G' → Spl G' F' H' → StRel α' st' G' → ok st' → xs[n]? = some d → J.go n H'
  yld : ∀ (n : Nat) d α' G' F' H' st' x H'', Step α G α' G' → Spl G' F' H' → StRel α' st' G' → ok st' → xs[n]? = some d → J.yld n H' x H'' → ∃ G'', Step α' G' α' G'' ∧ Spl G'' F' H'' ∧ StRel α' st' G'' ∧ Rep α' G'' d x
def LI (t : DI) : TI := fun σ H R => ∃ α σd st K G F, Spl G F H ∧ RelS α G σd σ ∧ StRel α st G ∧ t σd st K ∧ ∀ xs ok st1, K xs ok st1 → ∀ J α1 G1 H1, Step α G α1 G1 → Spl G1 F H1 → StRel α1 st1 G1 → ItOk J α1 G1 ok xs → R J H1
def seqR (d : D) (st1 : Store) (K : List D → (Store → Prop) → Store → Prop) : Prop := match d with
  | .lst xs => K xs (fun _ => True) st1
  | .tup xs => K xs (fun _ => True) st1
  | .ref n => (match st1[n]? with | some (.lst xs) => K xs (fun st' => st'[n]? = some (.lst xs)) st1 | _ => False)
  | _ => False
def dSeqI (t : DE) : DI := fun σ st K => t σ st fun d st1 => seqR d st1 K
theorem it_list {K : PySem.W.Frag} {a : Addr} {α : List (Option Addr)} {G : Hp} {ok : Store → Prop} {xs : List D}
    (h : ∀ α' G' st', Step α G α' G' → StRel α' st' G' → ok st' → ∃ vs, Rd G' a (.lst vs) ∧ Reps α' G' xs vs) : ItOk (Itl K a) α G ok xs where
  stop := fun n α' G' F' H' st' s P S o hn => by
    obtain ⟨vs, h1, h2⟩ := h α' G' st' s S o
    exact ⟨vs, .inl (rd_up P h1), by rw [← h2.length]; exact hn⟩
  go := fun n d α' G' F' H' st' s P S o hn => by
    obtain ⟨vs, h1, h2⟩ := h α' G' st' s S o
    obtain ⟨v, e, _⟩ := h2.get hn
    exact ⟨vs, v, .inl (rd_up P h1), e⟩
  yld := fun n d α' G' F' H' st' x H'' s P S o hn y => by
    obtain ⟨vs, h1, h2⟩ := h α' G' st' s S o
    obtain ⟨v, e, r⟩ := h2.get hn
    obtain ⟨rfl, y⟩ := y
    have := y vs (.inl (rd_up P h1))
    rw [e] at this
    cases this
    exact ⟨G', Step.refl, P, S, r⟩
theorem it_tup {K : PySem.W.Frag} {a : Addr} {α : List (Option Addr)} {G : Hp} {ok : Store → Prop} {xs : List D}
    (h : ∀ α' G' st', Step α G α' G' → StRel α' st' G' → ok st' → ∃ vs, G' a = some (.tup vs) ∧ Reps α' G' xs vs) : ItOk (Itt K a) α G ok xs where
  stop := fun n α' G' F' H' st' s P S o hn => by
    obtain ⟨vs, h1, h2⟩ := h α' G' st' s S o
    exact ⟨vs, .of (P.get h1), by rw [← h2.length]; exact hn⟩
  go := fun n d α' G' F' H' st' s P S o hn => by
    obtain ⟨vs, h1, h2⟩ := h α' G' st' s S o
    obtain ⟨v, e, _⟩ := h2.get hn
    exact ⟨vs, v, .of (P.get h1), e⟩
  yld := fun n d α' G' F' H' st' x H'' s P S o hn y => by
    obtain ⟨vs, h1, h2⟩ := h α' G' st' s S o
    obtain ⟨v, e, r⟩ := h2.get hn
    obtain ⟨rfl, y⟩ := y
    have := y vs (.of (P.get h1))
    rw [e] at this
    cases this
    exact ⟨G', Step.refl, P, S, r⟩
theorem lst_step {α α' : List (Option Addr)} {G G' : Hp} {a : Addr} {vs : List V} {xs : List D} (s : Step α G α' G') (na : some a ∉ α) (h1 : Rd G a (.lst vs)) (h2 : Reps α G xs vs) : Rd G' a (.lst vs) ∧ Reps α' G' xs vs := by
  refine ⟨?_, h2.step s⟩
  rcases h1 with h | ⟨o, h⟩
  · exact .inl (s.ext _ _ na h)
  · exact .inr ⟨o, s.ext _ _ na h⟩
theorem di_seq {l tg : Expr} {tl : DE} (hl : PE X l (LE tl)) : PI X tg l (LI (dSeqI tl)) := by
  intro pins s σ H R I h
  obtain ⟨α, σd, st, K, G, F, P, RS, S, t, k⟩ := h
  refine thn (hl pins s σ H (fun x H1 => ∃ d α1 G1 st1, Step α G α1 G1 ∧ Spl G1 F H1 ∧ StRel α1 st1 G1 ∧ Rep α1 G1 d x ∧ seqR d st1 K) I ⟨α, σd, st, _, G, F, P, RS, S, t, fun d st1 q α1 G1 H1 v s1 P1 S1 r1 => ⟨d, α1, G1, st1, s1, P1, S1, r1, q⟩⟩) fun v s1 ⟨x, H1, I1, rx, d, α1, G1, st1, s1', P1, S1, r1, q⟩ => ?_
  unfold seqR at q
  have viaL : ∀ {a : Addr} {vs : List V}, x = .ref a → Rd H1 a (.lst vs) → R (Itl X.K a) H1 → wpAny (model X.prog X.w) X.A (pyIter v) (PIE X pins σ tg R) X.xe s1 := by
    intro a vs ex hr hR
    subst ex
    cases rx
    obtain ⟨its, rv, p, hz⟩ := I1.list (.inl hr)
    refine wpAny_pyIter_list p.isList ?_
    refine ⟨s1.heap.objs.size, [s1.heap.objs.size], _, _, H1, rfl, I1.kept (t' := s1.toks) fun b o e => Heap.get?_push_of_some _ e, turn_list a _, ⟨_, Heap.get?_push_size _ rfl, rfl, rfl⟩, fun b hb => ?_, hR⟩
    have e : b = s1.heap.objs.size := by simpa using hb
    subst e
    exact I1.fpOk (Nat.le_refl _) (I1.hok.fresh (Nat.le_refl _))
  have viaT : ∀ {a : Addr} {vs : List V}, x = .ref a → H1 a = some (.tup vs) → R (Itt X.K a) H1 → wpAny (model X.prog X.w) X.A (pyIter v) (PIE X pins σ tg R) X.xe s1 := by
    intro a vs ex hr hR
    subst ex
    cases rx
    obtain ⟨its, rv, p, hz⟩ := I1.tuple (SqT.of hr)
    refine wpAny_pyIter_tuple (show s1.heap.IsTuple a its.toArray from p) ?_
    refine ⟨s1.heap.objs.size, [s1.heap.objs.size], _, _, H1, rfl, I1.kept (t' := s1.toks) fun b o e => Heap.get?_push_of_some _ e, turn_tuple a _, ⟨_, Heap.get?_push_size _ rfl, rfl, rfl⟩, fun b hb => ?_, hR⟩
    have e : b = s1.heap.objs.size := by simpa using hb
    subst e
    exact I1.fpOk (Nat.le_refl _) (I1.hok.fresh (Nat.le_refl _))
  cases d <;> try exact q.elim
  · rename_i n
    simp only at q
    split at q
    · rename_i xs e
      obtain ⟨a, ea, vs, h1, h2⟩ := S1.lstAt e
      have r1' := rep_at ea r1
      subst r1'
      refine viaL rfl (rd_up P1 (.of h1)) (k _ _ st1 q _ α1 G1 H1 s1' P1 S1 (it_list fun α' G' st' s S o => ?_))
      obtain ⟨b, eb, ws, g1, g2⟩ := S.lstAt o
      have hb : b = a := by
        rcases s.pre _ _ ea with z | z <;> (rw [z] at eb; cases eb)
        rfl
      subst hb
      exact ⟨ws, .of g1, g2⟩
    · exact q.elim
  · unfold Rep at r1
    obtain ⟨a, vs, rfl, na, ha, ra⟩ := r1
    exact viaL rfl (rd_up P1 ha) (k _ _ st1 q _ α1 G1 H1 s1' P1 S1 (it_list fun α' G' st' s S o => ⟨vs, lst_step s na ha ra⟩))
  · unfold Rep at r1
    obtain ⟨a, vs, rfl, na, ha, ra⟩ := r1
    exact viaT rfl (P1.get ha) (k _ _ st1 q _ α1 G1 H1 s1' P1 S1 (it_tup fun α' G' st' s S o => ⟨vs, s.ext _ _ na ha, ra.step s⟩))
def rangeD (lo : Int) (n : Nat) : List D := (List.range n).map fun (k : Nat) => D.int (lo + (k : Int))
theorem rangeD_get {lo : Int} {n k : Nat} : (rangeD lo n)[k]? = if k < n then some (.int (lo + (k : Int))) else none := by
  unfold rangeD
  rw [List.getElem?_map]
  by_cases h : k < n
  · rw [List.getElem?_range h, if_pos h]; rfl
  · rw [List.getElem?_eq_none (by simpa using h), if_neg h]; rfl
theorem rangeD_len {lo : Int} {n : Nat} : (rangeD lo n).length = n := by unfold rangeD; simp
theorem it_range {α : List (Option Addr)} {G : Hp} {lo : Int} {n : Nat} : ItOk (Itr lo n) α G (fun _ => True) (rangeD lo n) where
  stop := fun m α' G' F' H' st' s P S o hn => by rw [rangeD_len] at hn; exact hn
  go := fun m d α' G' F' H' st' s P S o hn => by
    rw [rangeD_get] at hn
    split at hn
    · assumption
    · cases hn
  yld := fun m d α' G' F' H' st' x H'' s P S o hn y => by
    obtain ⟨rfl, rfl⟩ := y
    rw [rangeD_get] at hn
    split at hn
    · cases hn
      exact ⟨G', Step.refl, P, S, by unfold Rep; rfl⟩
    · cases hn
theorem PI.imp {tg iter : Expr} {t t' : TI} (h : PI X tg iter t) (f : ∀ σ H R, t' σ H R → t σ H R) : PI X tg iter t' := fun pins s σ H R I q => h pins s σ H R I (f σ H R q)
def rng1R (ds : List D) (st1 : Store) (K : List D → (Store → Prop) → Store → Prop) : Prop := match ds with
  | [.int j] => (-(2 ^ 62) ≤ j ∧ j < 2 ^ 62) ∧ K (rangeD 0 j.toNat) (fun _ => True) st1
  | _ => False
def rng2R (ds : List D) (st1 : Store) (K : List D → (Store → Prop) → Store → Prop) : Prop := match ds with
  | [.int i, .int j] => (-(2 ^ 62) ≤ i ∧ i < 2 ^ 62 ∧ -(2 ^ 62) ≤ j ∧ j < 2 ^ 62) ∧ K (rangeD i (j - i).toNat) (fun _ => True) st1
  | _ => False
def dRange1 (t : DA) : DI := fun σ st K => t σ st fun ds st1 => rng1R ds st1 K
def dRange2 (t : DA) : DI := fun σ st K => t σ st fun ds st1 => rng2R ds st1 K
theorem di_range1 {tg iter : Expr} {t : DA} (h : PI X tg iter (iRng1 (LA t))) : PI X tg iter (LI (dRange1 t)) := PI.imp h fun σ H R ⟨α, σd, st, K, G, F, P, RS, S, t, k⟩ => by
  refine ⟨α, σd, st, _, G, F, P, RS, S, t, fun ds st1 q α1 G1 H1 vs s1 P1 S1 r1 => ?_⟩
  match ds, q, r1 with
  | [.int j], q, r1 =>
    obtain ⟨v, rfl, r2⟩ := reps1 r1 rfl
    unfold Rep at r2
    subst r2
    exact ⟨j, rfl, q.1.1, q.1.2, k _ _ st1 q.2 _ α1 G1 H1 s1 P1 S1 it_range⟩
theorem di_range2 {tg iter : Expr} {t : DA} (h : PI X tg iter (iRng2 (LA t))) : PI X tg iter (LI (dRange2 t)) := PI.imp h fun σ H R ⟨α, σd, st, K, G, F, P, RS, S, t, k⟩ => by
  refine ⟨α, σd, st, _, G, F, P, RS, S, t, fun ds st1 q α1 G1 H1 vs s1 P1 S1 r1 => ?_⟩
  match ds, q, r1 with
  | [.int i, .int j], q, r1 =>
    obtain ⟨v, u, rfl, r2, r3⟩ := reps2 r1 rfl
    unfold Rep at r2 r3
    subst r2 r3
    exact ⟨i, j, rfl, q.1, k _ _ st1 q.2 _ α1 G1 H1 s1 P1 S1 it_range⟩
def forD (tg : DTg) (body : DS) (ok : Store → Prop) (E : DEnds) : List D → DEnv → Store → Prop
  | [], σ, st => ok st ∧ E.nx σ st
  | x :: xs, σ, st => ok st ∧ ∃ σ1, tg x σ = some σ1 ∧ body { E with nx := forD tg body ok E xs, ct := forD tg body ok E xs, bk := E.nx } σ1 st
def dFor (src : DI) (tg : DTg) (body : DS) : DS := fun D σ st => src σ st fun xs ok st1 => forD tg body ok D xs σ st1
theorem ds_for {src : DI} {tg : DTg} (h : PS X st (tFor (LI src) (LG tg) (LS t))) : PS X st (LS (dFor src tg t)) := PS.imp h fun D σ H ⟨α, σd, st, DD, G, F, P, R, S, tt, k⟩ => by
  refine ⟨α, σd, st, _, G, F, P, R, S, tt, fun xs ok st1 q J α1 G1 H1 s1 P1 S1 it => ?_⟩
  refine ⟨fun i m σ' H' => ∃ α' σd' st' G', Step α1 G1 α' G' ∧ Spl G' F H' ∧ RelS α' G' σd' σ' ∧ StRel α' st' G' ∧ forD tg t ok DD (xs.drop i) σd' st' ∧ m = xs.length - i, ⟨xs.length, α1, σd, st1, G1, Step.refl, P1, R.step s1, S1, q, rfl⟩, ?_⟩
  rintro i m σ2 H2 ⟨α2, σd2, st2, G2, s2, P2, R2, S2, q2, rfl⟩
  cases e : xs[i]? with
  | none =>
    have hl : xs.length ≤ i := List.getElem?_eq_none_iff.mp e
    rw [List.drop_eq_nil_of_le hl] at q2
    unfold forD at q2
    exact .inl ⟨it.stop i α2 G2 F H2 st2 s2 P2 S2 q2.1 hl, ((k.nx.at s1).at s2).here P2 q2.2 R2 S2⟩
  | some d =>
    have hl : i < xs.length := (List.getElem?_eq_some_iff.mp e).1
    have ed : xs.drop i = d :: xs.drop (i + 1) := by
      rw [List.drop_eq_getElem_cons hl]
      congr 1
      rw [List.getElem?_eq_getElem hl] at e
      exact Option.some.inj e
    rw [ed] at q2
    unfold forD at q2
    obtain ⟨hok, σ3, e3, q3⟩ := q2
    refine .inr ⟨it.go i d α2 G2 F H2 st2 s2 P2 S2 hok e, fun σ' H' => ∃ α' σd' st' G', Step α1 G1 α' G' ∧ Spl G' F H' ∧ RelS α' G' σd' σ' ∧ StRel α' st' G' ∧ forD tg t ok DD (xs.drop (i + 1)) σd' st', ?_, ?_⟩
    · rintro σ' H' ⟨α', σd', st', G', z1, z2, z3, z4, z5⟩
      exact ⟨xs.length - (i + 1), by omega, α', σd', st', G', z1, z2, z3, z4, z5, rfl⟩
    · intro x H' y
      obtain ⟨G3, s3, P3, S3, r3⟩ := it.yld i d α2 G2 F H2 st2 x H' s2 P2 S2 hok e y
      refine ⟨α2, σd2, st2, d, fun σ' st' => σ' = σ3 ∧ st' = st2, G3, F, P3, R2.step s3, S3, r3, ⟨σ3, e3, rfl, rfl⟩, ?_⟩
      rintro σ' st' ⟨rfl, rfl⟩ α4 G4 H4 σ4 s4 P4 R4 S4
      have s24 := (s2.trans s3).trans s4
      refine ⟨α4, σ', st', _, G4, F, P4, R4, S4, q3, ?_, ((k.rt.at s1).at s24), (k.nx.at s1).at s24, ?_⟩
      · intro σd5 st5 q5 α5 G5 H5 σ5 s5 P5 R5 S5
        exact ⟨α5, σd5, st5, G5, s24.trans s5, P5, R5, S5, q5⟩
      · intro σd5 st5 q5 α5 G5 H5 σ5 s5 P5 R5 S5
        exact ⟨α5, σd5, st5, G5, s24.trans s5, P5, R5, S5, q5⟩
end
end L3
namespace L3
open PySem PySem.Spec L2
open PyProof.Rows hiding St
def σCd (fr : List (Option Nat)) (σ : DEnv) : DEnv := fr.map fun o => o.bind fun j => (σ[j]?).join
theorem RelS.comp {α : List (Option Addr)} {G : Hp} {σd : DEnv} {σ : L2.St} {fr : List (Option Nat)} (h : RelS α G σd σ) : RelS α G (σCd fr σd) (σC fr σ) := by
  refine ⟨by unfold σCd σC; simp, fun i d e => ?_⟩
  unfold σCd at e
  rw [List.getElem?_map] at e
  cases q : fr[i]? with
  | none => rw [q] at e; cases e
  | some o =>
    rw [q] at e
    cases o with
    | none => simp at e
    | some j =>
      simp only [Option.map_some, Option.some.injEq, Option.bind_some] at e
      have ej : σd[j]? = some (some d) := by
        cases r : σd[j]? with
        | none => rw [r] at e; cases e
        | some u => rw [r] at e; simp at e; rw [e]
      obtain ⟨v, ev, rv⟩ := h.at' j d ej
      refine ⟨v, ?_, rv⟩
      unfold σC
      rw [List.getElem?_map, q]
      simp [ev]
def compD (tg : DTg) (c : DT) (te : DE) (ok : Store → Prop) (σc : DEnv) : List D → List D → Store → (List D → Store → Prop) → Prop
  | [], acc, st, K => ok st ∧ K acc st
  | x :: xs, acc, st, K => ok st ∧ ∃ σ2, tg x σc = some σ2 ∧ c σ2 st fun b st1 => if b = true then te σ2 st1 fun y st2 => compD tg c te ok σc xs (acc ++ [y]) st2 K else compD tg c te ok σc xs acc st1 K
def dComp (src : DI) (fr : List (Option Nat)) (tg : DTg) (c : DT) (te : DE) : DE := fun σ st K => src σ st fun xs ok st1 => xs.length ≤ sizeLine ∧ compD tg c te ok (σCd fr σ) xs [] st1 fun ys st2 => K (.lst ys) st2
def dCompN (src : DI) (fr : List (Option Nat)) (tg : DTg) (c : DT) (te : DE) : DE := fun σ st K => src σ st fun xs ok st1 => xs.length ≤ sizeLine ∧ compD tg c te ok (σCd fr σ) xs [] st1 fun ys st2 => K (.ref st2.length) (st2 ++ [.lst ys])
def dTrue : DT := fun _ st K => K true st
def Fit (fr : List (Option Nat)) (tg : DTg) : Prop := ∀ (σ : DEnv) (d : D) (σ2 : DEnv), tg d (σCd fr σ) = some σ2 → σ2.length = (σCd fr σ).length ∧ ∀ (i : Nat) (e : D), (σCd fr σ)[i]? = some (some e) → σ2[i]? = some (some e)
theorem σCd_none {fr : List (Option Nat)} {σ : DEnv} {k : Nat} (h : fr[k]? = some none) {e : D} (q : (σCd fr σ)[k]? = some (some e)) : False := by
  unfold σCd at q
  rw [List.getElem?_map, h] at q
  simp at q
theorem fit_name {fr : List (Option Nat)} {k : Nat} (h : fr[k]? = some none := by rfl) : Fit fr (tgName k) := fun σ d σ2 e => by
  cases e
  refine ⟨List.length_set, fun i x q => ?_⟩
  by_cases hi : i = k
  · subst hi; exact (σCd_none h q).elim
  · rw [List.getElem?_set_ne (Ne.symm hi)]; exact q
theorem fit_two {fr : List (Option Nat)} {k j : Nat} (h : fr[k]? = some none := by rfl) (h' : fr[j]? = some none := by rfl) : Fit fr (tgTwo k j) := fun σ d σ2 e => by
  unfold tgTwo at e
  split at e
  · cases e
    refine ⟨by rw [List.length_set, List.length_set], fun i x q => ?_⟩
    by_cases hi : i = k
    · subst hi; exact (σCd_none h q).elim
    · by_cases hj : i = j
      · subst hj; exact (σCd_none h' q).elim
      · rw [List.getElem?_set_ne (Ne.symm hj), List.getElem?_set_ne (Ne.symm hi)]; exact q
  · cases e
section
variable {X : Cx}
theorem pts_true : PTs X [] (LT dTrue) := fun pins s σ H Q I ⟨α, σd, st, K, G, F, P, R, S, t, k⟩ => pts_nil pins s σ H Q I (k true st t α G H Step.refl P S)
theorem LE.comp {src : DI} {fr : List (Option Nat)} {tg : DTg} {c : DT} {te : DE} (fit : Fit fr tg) {σ : L2.St} {H : Hp} {Q : VK} {α : List (Option Addr)} {σd : DEnv} {st : Store} {KE : List D → Store → Prop} {G F : Hp} (P : Spl G F H) (R : RelS α G σd σ) (S : StRel α st G)
    (t : src σd st fun xs ok st1 => xs.length ≤ sizeLine ∧ compD tg c te ok (σCd fr σd) xs [] st1 KE)
    (fin : ∀ ys st2 α2 G2 H2 l vs, KE ys st2 → Step α G α2 G2 → Spl G2 (upd F l (.lst vs)) H2 → F l = none → StRel α2 st2 G2 → Reps α2 G2 ys vs → Q (.ref l) H2) :
    tComp (LI src) fr (LG tg) (LT c) (LE te) σ H Q := by
  refine ⟨α, σd, st, _, G, F, P, R, S, t, fun xs ok st1 q J α1 G1 H1 s1 P1 S1 it l hl => ?_⟩
  obtain ⟨hsz, q⟩ := q
  obtain ⟨hG, hF⟩ := P1.none hl
  refine ⟨fun i m σ' H' => ∃ α' st' G' acc vs, Step α1 G1 α' G' ∧ Spl G' (upd F l (.lst vs)) H' ∧ RelS α' G' (σCd fr σd) σ' ∧ StRel α' st' G' ∧ Reps α' G' acc vs ∧ acc.length ≤ i ∧ i ≤ xs.length ∧ compD tg c te ok (σCd fr σd) (xs.drop i) acc st' KE ∧ m = xs.length - i,
    ⟨xs.length, α1, st1, G1, [], [], Step.refl, P1.hide hl, (R.step s1).comp, S1, by unfold Reps; rfl, Nat.le_refl _, Nat.zero_le _, q, rfl⟩, ?_⟩
  rintro i m σ2 H2 ⟨α2, st2, G2, acc, vs, s2, P2, R2, S2, ra, hacc, hi, q2, rfl⟩
  cases e : xs[i]? with
  | none =>
    have hl2 : xs.length ≤ i := List.getElem?_eq_none_iff.mp e
    rw [List.drop_eq_nil_of_le hl2] at q2
    unfold compD at q2
    exact .inl ⟨it.stop i α2 G2 _ H2 st2 s2 P2 S2 q2.1 hl2, fin acc st2 α2 G2 H2 l vs q2.2 (s1.trans s2) P2 hF S2 ra⟩
  | some d =>
    have hl2 : i < xs.length := (List.getElem?_eq_some_iff.mp e).1
    have ed : xs.drop i = d :: xs.drop (i + 1) := by
      rw [List.drop_eq_getElem_cons hl2]
      congr 1
      rw [List.getElem?_eq_getElem hl2] at e
      exact Option.some.inj e
    rw [ed] at q2
    unfold compD at q2
    obtain ⟨hok, σ3, e3, q3⟩ := q2
    refine .inr ⟨it.go i d α2 G2 _ H2 st2 s2 P2 S2 hok e, fun σ' H' => ∃ α' st' G' acc vs, Step α1 G1 α' G' ∧ Spl G' (upd F l (.lst vs)) H' ∧ RelS α' G' (σCd fr σd) σ' ∧ StRel α' st' G' ∧ Reps α' G' acc vs ∧ acc.length ≤ i + 1 ∧ compD tg c te ok (σCd fr σd) (xs.drop (i + 1)) acc st' KE, ?_, ?_⟩
    · rintro σ' H' ⟨α', st', G', acc', vs', z1, z2, z3, z4, z5, z6, z7⟩
      exact ⟨xs.length - (i + 1), by omega, α', st', G', acc', vs', z1, z2, z3, z4, z5, z6, hl2, z7, rfl⟩
    · intro x H' y
      obtain ⟨G3, s3, P3, S3, r3⟩ := it.yld i d α2 G2 _ H2 st2 x H' s2 P2 S2 hok e y
      refine ⟨α2, σCd fr σd, st2, d, fun σ' st' => σ' = σ3 ∧ st' = st2, G3, _, P3, R2.step s3, S3, r3, ⟨σ3, e3, rfl, rfl⟩, ?_⟩
      rintro σ' st' ⟨rfl, rfl⟩ α4 G4 H4 σ4 s4 P4 R4 S4
      have s24 := (s2.trans s3).trans s4
      have Rc : RelS α4 G4 (σCd fr σd) σ4 := ⟨by rw [← (fit σd d σ' e3).1]; exact R4.len, fun j z hz => R4.at' j z ((fit σd d σ' e3).2 j z hz)⟩
      refine ⟨α4, σ', st', _, G4, _, P4, R4, S4, q3, fun b st5 q5 α5 G5 H5 s5 P5 S5 => ?_⟩
      cases b with
      | false => exact ⟨α5, st5, G5, acc, vs, s24.trans s5, P5, Rc.step s5, S5, ((ra.step s3).step s4).step s5, by omega, q5⟩
      | true =>
        refine ⟨α5, σ', st5, _, G5, _, P5, R4.step s5, S5, q5, fun z st6 q6 α6 G6 H6 v6 s6 P6 S6 r6 => ?_⟩
        have hr := (((ra.step s3).step s4).step s5).step s6
        refine ⟨vs, (P6.frame upd_same).1, by rw [← hr.length]; omega, α6, st6, G6, acc ++ [z], vs ++ [v6], (s24.trans s5).trans s6, ?_, (Rc.step s5).step s6, S6, reps_paired.mpr (paired_append (reps_paired.mp hr) (.cons r6 .nil)), by rw [List.length_append, List.length_singleton]; omega, q6⟩
        have := P6.hid (p := l) (o' := .lst (vs ++ [v6])) upd_same
        rw [upd_upd] at this
        exact this
theorem d_comp {scope : Scope} {Nc : List Str} {elt tg iter : Expr} {ifs : List Expr} {pos : Pos} {src : DI} {fr : List (Option Nat)} {dtg : DTg} {c : DT} {te : DE} (S : CompSc X scope Nc fr) (hi : PI X tg iter (LI src))
    (hg : ∀ C s H ex, PG (cxC X scope Nc C s H ex) tg (LG dtg)) (ht : ∀ C s H ex, PTs (cxC X scope Nc C s H ex) ifs (LT c)) (he : ∀ C s H ex, PE (cxC X scope Nc C s H ex) elt (LE te)) (fit : Fit fr dtg)
    (hx : X.xe = fun _ _ => False := by rfl) (hc : X.calm = true := by rfl) (hs : ∀ x, foldedSetIterable iter X.env x = pure x := by intro _; rfl) : PE X (.ListComp elt [⟨tg, iter, ifs, 0⟩] scope pos) (LE (dComp src fr dtg c te)) :=
  PE.imp (pe_comp hx hc S hi hg ht he hs) fun σ H Q ⟨α, σd, st, K, G, F, P, R, S, t, k⟩ => LE.comp fit P R S t fun ys st2 α2 G2 H2 l vs q s2 P2 hl S2 r => by
    have hg : G2 l = none := (P2.frame upd_same).2
    refine k _ st2 q α2 (upd G2 l (.lst vs)) H2 (.ref l) (s2.trans (Step.laid hg)) (P2.show hl) (S2.laid hg) ?_
    unfold Rep
    exact ⟨l, vs, rfl, S2.notin hg, .of upd_same, r.step (Step.laid hg)⟩
theorem d_compN {scope : Scope} {Nc : List Str} {elt tg iter : Expr} {ifs : List Expr} {pos : Pos} {src : DI} {fr : List (Option Nat)} {dtg : DTg} {c : DT} {te : DE} (S : CompSc X scope Nc fr) (hi : PI X tg iter (LI src))
    (hg : ∀ C s H ex, PG (cxC X scope Nc C s H ex) tg (LG dtg)) (ht : ∀ C s H ex, PTs (cxC X scope Nc C s H ex) ifs (LT c)) (he : ∀ C s H ex, PE (cxC X scope Nc C s H ex) elt (LE te)) (fit : Fit fr dtg)
    (hx : X.xe = fun _ _ => False := by rfl) (hc : X.calm = true := by rfl) (hs : ∀ x, foldedSetIterable iter X.env x = pure x := by intro _; rfl) : PE X (.ListComp elt [⟨tg, iter, ifs, 0⟩] scope pos) (LE (dCompN src fr dtg c te)) :=
  PE.imp (pe_comp hx hc S hi hg ht he hs) fun σ H Q ⟨α, σd, st, K, G, F, P, R, S, t, k⟩ => LE.comp fit P R S t fun ys st2 α2 G2 H2 l vs q s2 P2 hl S2 r => by
    have hg : G2 l = none := (P2.frame upd_same).2
    refine k _ _ q (α2 ++ [some l]) (upd G2 l (.lst vs)) H2 (.ref l) (s2.trans (Step.cell hg)) (P2.show hl) (S2.cell hg ⟨vs, upd_same, r.step (Step.cell hg)⟩) ?_
    unfold Rep
    refine .inr ⟨l, ?_, rfl⟩
    rw [List.getElem?_append_right (by rw [S2.len]; exact Nat.le_refl _), S2.len, Nat.sub_self]
    rfl
theorem ds_setC {st : Stmt} {k : Nat} {src : DI} {fr : List (Option Nat)} {dtg : DTg} {c : DT} {te : DE} (fit : Fit fr dtg) (h : PS X st (tAsg (tComp (LI src) fr (LG dtg) (LT c) (LE te)) (gName k))) : PS X st (LS (dSet k (dComp src fr dtg c te))) :=
  PS.imp h fun D σ H ⟨α, σd, st, DD, G, F, P, R, S, t, q⟩ => LE.comp fit P R S t fun ys st2 α2 G2 H2 l vs qq s2 P2 hl S2 r => by
    have hg : G2 l = none := (P2.frame upd_same).2
    have s3 := s2.trans (Step.laid (o := .lst vs) hg)
    refine q.nx _ st2 qq α2 (upd G2 l (.lst vs)) H2 _ s3 (P2.show hl) ((R.step s3).set k ?_) (S2.laid hg)
    unfold Rep
    exact ⟨l, vs, rfl, S2.notin hg, .of upd_same, r.step (Step.laid hg)⟩
def startD (N : List Str) (ds : List D) : DEnv := ds.map some ++ List.replicate (N.length - ds.length) none
theorem RelS.start {α : List (Option Addr)} {G : Hp} {N : List Str} {ds : List D} {vs : List V} (r : Reps α G ds vs) : RelS α G (startD N ds) (L2.start N vs) := by
  have hl := r.length
  refine ⟨by unfold startD L2.start; simp [hl], fun i d e => ?_⟩
  unfold startD at e
  by_cases hi : i < ds.length
  · rw [List.getElem?_append_left (by simpa using hi), List.getElem?_map] at e
    cases q : ds[i]? with
    | none => rw [q] at e; cases e
    | some x =>
      rw [q] at e
      cases e
      obtain ⟨v, ev, rv⟩ := r.get q
      refine ⟨v, ?_, rv⟩
      unfold L2.start
      rw [List.getElem?_append_left (by rw [List.length_map]; omega), List.getElem?_map, ev]
      rfl
  · rw [List.getElem?_append_right (by simpa using hi), List.getElem?_replicate] at e
    split at e <;> cases e
theorem d_def {P : Program} {w : World} {K : PySem.W.Frag} {mg : Str → Option Value} {base : Heap} {x qual : Str} {st : Stmt} {f : Addr} {fd : FuncData} {N ps : List Str} {k : Nat} {sp : DSp} {t : DS} (F : Fun K x qual st f fd) (S : FnScope N ps (defScope st))
    (hbody : ∀ (cdv : Value) (A : Around) (outer : List Env) (s : Shared) (H : Hp) (E : XK), Room k (A.deeper (envOfC qual (defScope st) s.heap.objs.size f cdv)) → PSs (cxOf CX0 P w K mg base N qual (defScope st) f cdv A outer s H E).nox (defBody st) (LS t))
    (hsp : ∀ ds st K, sp ds st K → ds.length = ps.length ∧ t { nx := fun _ st' => K .non st', rt := K } (startD N ds) st) : FnOk P w K mg base CX0 (k + 1) f fd ps (LSp sp) := by
  refine F.ok S (fun vs H Q E h => ?_) fun cdv A outer s H vs Q E hr h => ⟨_, hbody cdv A outer s H E hr, ?_⟩
  · obtain ⟨α, ds, st, K, G, F, P, r, S, q, k⟩ := h
    rw [← r.length]
    exact (hsp ds st K q).1
  · obtain ⟨α, ds, st, K, G, F, P, r, S, q, k⟩ := h
    refine ⟨α, startD N ds, st, _, G, F, P, RelS.start r, S, (hsp ds st K q).2, ?_, k, ?_, ?_⟩
    · intro σd' st' kk α' G' H' σ' s' P' R' S'
      exact k .non st' kk α' G' H' .non s' P' S' (by unfold Rep; rfl)
    · intro σd' st' kk
      exact kk.elim
    · intro σd' st' kk
      exact kk.elim
def dAppend (to te : DE) : DE := fun σ st K => to σ st fun x st1 => match x with
  | .ref n => (match st1[n]? with
    | some (.lst _) => te σ st1 fun y st2 => ∃ y', [y] = [y'] ∧ (match st2[n]? with | some (.lst xs) => xs.length < sizeLine ∧ K .non (st2.set n (.lst (xs ++ [y']))) | _ => False)
    | _ => False)
  | _ => False
end
end L3
namespace L3
open PySem PySem.Spec L2
open PyProof.Rows hiding St
structure DefAt (K : PySem.W.Frag) (mg : Str → Option Value) (x qual : Str) (st : Stmt) (ps : List Str) (f : Addr) (fd : FuncData) : Prop where
  fn : Fun K x qual st f fd
  mg : mg x = some (.ref f)
  bd : Binds K fd ps []
def compOk (sc : Scope) (N : List Str) (scope : Scope) (Nc : List Str) (fr : List (Option Nat)) : Bool :=
  (scope.kind == .function) && scope.names.all (fun x => x.2 != .cell || scope.names.lookup x.1 == some .cell) && scope.names.all (fun x => x.2 != .local || scope.names.lookup x.1 == some .local) &&
  scope.names.all (fun x => x.2 != .free || sc.names.lookup x.1 == some .cell || sc.names.lookup x.1 == some .free) && (fr.length == Nc.length) &&
  (List.range fr.length).all fun i => match fr[i]?, Nc[i]? with
    | some (some j), some x => (N[j]? == some x) && (scope.names.lookup x == some .free) && (sc.names.lookup x == some .cell || sc.names.lookup x == some .free)
    | _, _ => true
theorem CompSc.look {X : Cx} {scope : Scope} {Nc : List Str} {fr : List (Option Nat)} (sc : Scope) (N : List Str) (h : compOk sc N scope Nc fr = true) (hsc : X.env.scope = sc := by rfl) (hN : X.N = N := by rfl) : CompSc X scope Nc fr := by
  unfold compOk at h
  simp only [Bool.and_eq_true] at h
  obtain ⟨⟨⟨⟨⟨h1, h2⟩, h3⟩, h4⟩, h5⟩, h6⟩ := h
  subst hsc hN
  refine ⟨by simpa using h1, fun x hx hk => ?_, fun x hx hk => ?_, fun x hx hk => ?_, by simpa using h5, fun i j x e1 e2 => ?_⟩
  · have := List.all_eq_true.mp h2 x hx
    rw [hk] at this
    simpa using this
  · have := List.all_eq_true.mp h3 x hx
    rw [hk] at this
    simpa using this
  · have := List.all_eq_true.mp h4 x hx
    rw [hk] at this
    have z : X.env.scope.names.lookup x.1 = some .cell ∨ X.env.scope.names.lookup x.1 = some .free := by simpa using this
    exact z
  · have hi : i < fr.length := (List.getElem?_eq_some_iff.mp e2).1
    have := List.all_eq_true.mp h6 i (List.mem_range.mpr hi)
    rw [e1, e2] at this
    simp only [Bool.and_eq_true, Bool.or_eq_true, beq_iff_eq] at this
    exact ⟨this.1.1, this.1.2, this.2⟩
section
variable {X : Cx}
theorem d_cb {e : Expr} {es : List Expr} {pos p : Pos} {x : Str} {id : String} {r : DRA} {t : DA} (hc : CallR X (.builtin id) (LRA r)) (ha : PA X (e :: es) (LA t)) (hm : X.mg x = none) (hv : bootBuiltins x = some (.builtin id)) (hg : Gl X x := by rfl) (hn : x ≠ "__name__" := by decide) (hdb : (x == ("__debug__" : Str)) = false := by decide)
    (he : starEach (e :: es) X.env = (false, eval e X.env) :: starEach es X.env := by rfl) (hpl : (backTo pos (starEach es X.env)).any (·.1) = false := by rfl) : PE X (.Call (.Name x p) (e :: es) [] pos) (LE (dCB r t)) := PE.imp (pe_callB hc hg hm hv ha hn hdb he hpl) fun _ _ _ h => LE.cb h
theorem d_ct {e : Expr} {es : List Expr} {pos p : Pos} {x : Str} {T : String} {r : DRA} {t : DA} (hc : CallR X (.type T) (LRA r)) (ha : PA X (e :: es) (LA t)) (hm : X.mg x = none) (hv : bootBuiltins x = some (.type T)) (hg : Gl X x := by rfl) (hn : x ≠ "__name__" := by decide) (hdb : (x == ("__debug__" : Str)) = false := by decide)
    (he : starEach (e :: es) X.env = (false, eval e X.env) :: starEach es X.env := by rfl) (hpl : (backTo pos (starEach es X.env)).any (·.1) = false := by rfl) : PE X (.Call (.Name x p) (e :: es) [] pos) (LE (dCB r t)) := PE.imp (pe_callTy hc hg hm hv ha hn hdb he hpl) fun _ _ _ h => LE.cb h
theorem d_ty {pos : Pos} {x : Str} {T : String} (hm : X.mg x = none) (hv : bootBuiltins x = some (.type T)) (hg : Gl X x := by rfl) (hn : x ≠ "__name__" := by decide) (hdb : (x == ("__debug__" : Str)) = false := by decide) : PE X (.Name x pos) (LE (dC (.ty T))) :=
  d_const (v := .ty T) (pe_bltn hg hm hv rfl hn hdb) fun _ _ => by unfold Rep; rfl
theorem d_fn {e : Expr} {es : List Expr} {pos p : Pos} {x qual : Str} {st : Stmt} {ps : List Str} {f : Addr} {fd : FuncData} {k : Nat} {S : DSp} {t : DA} (A : DefAt X.K X.mg x qual st ps f fd) (F : FnOk X.prog X.w X.K X.mg X.base CX0 k f fd ps (LSp S)) (hr : Room k X.A)
    (ha : PA X (e :: es) (LA t)) (hg : Gl X x := by rfl) (hdb : (x == ("__debug__" : Str)) = false := by decide) (he : starEach (e :: es) X.env = (false, eval e X.env) :: starEach es X.env := by rfl) (hpl : (backTo pos (starEach es X.env)).any (·.1) = false := by rfl) :
    PE X (.Call (.Name x p) (e :: es) [] pos) (LE (dCall S t)) := d_call F hr hg A.mg A.fn.kp A.bd ha hdb he hpl
theorem is_bool_gen {M : Model} {A : Around} {E : Value → Shared → Prop} {s : Shared} {Q : Value → Shared → Prop} {x : V} {v : Value} {b : Bool} (r : RelV x v) (h : Q (.bool (v == .bool b)) s) : wpAny M A (compareOp .Is v (.bool b)) Q E s := by
  cases x
  case bl c =>
    cases r
    have e : (Value.bool c == Value.bool b) = (c == b) := by cases c <;> cases b <;> rfl
    rw [e] at h
    exact is_bool h
  all_goals first
    | (cases r; exact wpAny_pure h)
    | (obtain ⟨t, rfl⟩ := r; exact wpAny_pure h)
def isB (d : D) (b : Bool) : Bool := match d with | .bl c => c == b | _ => false
def isN (d : D) : Bool := match d with | .non => true | _ => false
def dIsR' : DR2 := fun x y st K => match y with | .non => live st x = true ∧ K (.bl (isN x)) st | .bl b => live st x = true ∧ K (.bl (isB x b)) st | _ => False
theorem rel_beq {α : List (Option Addr)} {H : Hp} {st : Store} {d : D} {v : V} {u : Value} {b : Bool} (S : StRel α st H) (hl : live st d = true) (r : Rep α H d v) (ru : RelV v u) : (u == Value.bool b) = isB d b := by
  cases d
  case ref n =>
    obtain ⟨a, rfl⟩ := live_ref S hl r
    cases ru; rfl
  all_goals unfold Rep at r
  case bl c =>
    subst r
    cases ru
    cases c <;> cases b <;> rfl
  all_goals first
    | (subst r; first | (cases ru; rfl) | (obtain ⟨t, rfl⟩ := ru; rfl))
    | (obtain ⟨a, vs, rfl, _⟩ := r; cases ru; rfl)
theorem o_is' : OpR X (compareOp .Is) (LR dIsR') := fun pins s σ H x y v u Q I rx ry ⟨α, d, e, st, K, G, F', P, r1, r2, S, q, k⟩ => by
  cases e <;> try exact q.elim
  · unfold Rep at r2
    refine op_isN pins s σ H x y v u Q I rx ry ⟨r2, k.here P q.2 S ?_⟩
    unfold Rep
    cases d
    case ref n =>
      obtain ⟨a, rfl⟩ := live_ref S q.1 r1
      rfl
    all_goals (unfold Rep at r1; first | (rw [r1]; rfl) | (obtain ⟨a, vs, rfl, _⟩ := r1; rfl))
  · rename_i b
    unfold Rep at r2
    subst r2
    cases ry
    refine is_bool_gen rx ?_
    rw [rel_beq S q.1 r1 rx]
    exact ⟨.bl (isB d b), H, I, rfl, k.here P q.2 S (by unfold Rep; rfl)⟩
theorem LE.append {to te : DE} {σ : L2.St} {H : Hp} {Q : VK} (h : LE (dAppend to te) σ H Q) : tBM X.K "list" rAppend (LE to) (LA (dCons te dNil)) σ H Q := by
  obtain ⟨α, σd, st, K, G, F, P, R, S, t, k⟩ := h
  refine ⟨α, σd, st, _, G, F, P, R, S, t, fun x st1 q α1 G1 H1 v s1 P1 S1 r1 => ?_⟩
  cases x <;> try exact q.elim
  rename_i n
  simp only at q
  split at q
  · rename_i ys e
    obtain ⟨p, ep, vs, h1, h2⟩ := S1.lstAt e
    have r1' := rep_at ep r1
    subst r1'
    refine ⟨.inl ⟨rfl, vs, .inl (.of (P1.get h1))⟩, α1, σd, st1, fun ds st2 => ∃ y, ds = [y] ∧ (match st2[n]? with | some (.lst xs) => xs.length < sizeLine ∧ K .non (st2.set n (.lst (xs ++ [y]))) | _ => False), G1, F, P1, R.step s1, S1, ?_, ?_⟩
    · refine Eq.mp ?_ q
      rfl
    · rintro ds st2 ⟨y, rfl, q2⟩ α2 G2 H2 ws s2 P2 S2 r2
      obtain ⟨w, rfl, rw'⟩ := reps1 r2 rfl
      split at q2
      · rename_i xs e2
        obtain ⟨p2, ep2, us, g1, g2⟩ := S2.lstAt e2
        have : p2 = p := by
          rcases s2.pre _ _ ep with z | z <;> (rw [z] at ep2; cases ep2)
          rfl
        subst this
        have hm : some p2 ∈ α2 := List.mem_of_getElem? ep2
        refine ⟨p2, us, w, rfl, rfl, P2.get g1, by rw [← g2.length]; exact q2.1, ?_⟩
        refine ((k.at s1).at s2) _ _ q2.2 α2 (upd G2 p2 (.lst (us ++ [w]))) _ .non (Step.write hm) (P2.write g1) ?_ (by unfold Rep; rfl)
        exact S2.write ep2 ⟨us ++ [w], upd_same, (reps_paired.mpr (paired_append (reps_paired.mp g2) (.cons rw' .nil))).step (Step.write hm)⟩
      · exact q2.elim
  · exact q.elim
theorem d_append {o e : Expr} {to te : DE} {apos cpos : Pos} (ho : PE X o (LE to)) (he : PE X e (LE te)) (hbase : attributeBase o "append" X.env (eval o X.env) = eval o X.env := by rfl)
    (hfew : ((backTo cpos (starEach [e] X.env)).all (fun x => !x.1) && (backToKw cpos (keywordEach [] X.env)).all (fun x => x.1.isSome)
      && decide (([e] : List Expr).length + ([] : List Keyword).length + (if ([] : List Keyword).isEmpty then 0 else 1) < 30)) = true := by rfl)
    (hline : (apos.endLine == cpos.line) = true := by rfl) (hs : starEach [e] X.env = (false, eval e X.env) :: starEach [] X.env := by rfl) (hplain : (backTo cpos (starEach [] X.env)).any (·.1) = false := by rfl) : PE X (.Call (.Attribute o "append" apos) [e] [] cpos) (LE (dAppend to te)) :=
  PE.imp (pe_bm PySem.F.plainAttrs_list PySem.F.slot_list_append PySem.F.type_list_append mt_append ho (da_cons he da_nil hs) hbase hfew hline hs hplain) fun _ _ _ h => LE.append h
end
end L3
namespace L3
open PySem L2
open PySem.Spec hiding items?
open PyProof.Rows hiding St
section
variable {X : Cx}
@[irreducible] def xAdd : DR2 := dAddR
theorem x_add : OpR X (binaryOp .Add) (LR xAdd) := by unfold xAdd; exact o_add
@[irreducible] def xSub : DR2 := dSubR
theorem x_sub : OpR X (binaryOp .Sub) (LR xSub) := by unfold xSub; exact o_sub
@[irreducible] def xMul : DR2 := dMulR
theorem x_mul : OpR X (binaryOp .Mult) (LR xMul) := by unfold xMul; exact o_mul
@[irreducible] def xFdiv : DR2 := dFdivR
theorem x_fdiv : OpR X (binaryOp .FloorDiv) (LR xFdiv) := by unfold xFdiv; exact o_fdiv
@[irreducible] def xMod : DR2 := dModR
theorem x_mod : OpR X (binaryOp .Mod) (LR xMod) := by unfold xMod; exact o_mod
@[irreducible] def xPow : DR2 := dPowR
theorem x_pow : OpR X (binaryOp .Pow) (LR xPow) := by unfold xPow; exact o_pow
@[irreducible] def xLt : DR2 := dLtR
theorem x_lt : OpR X (compareOp .Lt) (LR xLt) := by unfold xLt; exact o_lt
@[irreducible] def xLe : DR2 := dLeR
theorem x_le : OpR X (compareOp .LtE) (LR xLe) := by unfold xLe; exact o_le
@[irreducible] def xGt : DR2 := dGtR
theorem x_gt : OpR X (compareOp .Gt) (LR xGt) := by unfold xGt; exact o_gt
@[irreducible] def xGe : DR2 := dGeR
theorem x_ge : OpR X (compareOp .GtE) (LR xGe) := by unfold xGe; exact o_ge
@[irreducible] def xNe : DR2 := dNeR
theorem x_ne : OpR X (compareOp .NotEq) (LR xNe) := by unfold xNe; exact o_ne
@[irreducible] def xIs : DR2 := dIsR'
theorem x_is : OpR X (compareOp .Is) (LR xIs) := by unfold xIs; exact o_is'
@[irreducible] def xEq : DR2 := dEqR
theorem x_eq {k : Nat} (hr : Room k X.A) : OpR X (compareOp .Eq) (LR xEq) := by unfold xEq; exact o_eq hr
@[irreducible] def xNeg : DR1 := dNegR
theorem x_neg : UnR X (unaryOp .USub) (LR1 xNeg) := by unfold xNeg; exact o_neg
@[irreducible] def xIx : DR2 := dIxR
theorem x_ix {a b : Expr} {ta tb : DE} {pos : Pos} (ha : PE X a (LE ta)) (hb : PE X b (LE tb)) (hs : PlainIx b := by intro _ _; rfl) : PE X (.Subscript a b pos) (LE (dOp xIx ta tb)) := by unfold xIx; exact d_ix ha hb hs
@[irreducible] def xLen : DRA := dLenR
theorem x_len : CallR X (.builtin "len") (LRA xLen) := by unfold xLen; exact c_len
@[irreducible] def xAbs : DRA := dAbsR
theorem x_abs : CallR X (.builtin "abs") (LRA xAbs) := by unfold xAbs; exact c_abs
@[irreducible] def xTuple : DRA := dTupleR
theorem x_tuple : CallR X (.type "tuple") (LRA xTuple) := by unfold xTuple; exact c_tuple
@[irreducible] def xList : DRA := dListR
theorem x_list : CallR X (.type "list") (LRA xList) := by unfold xList; exact c_list
@[irreducible] def xAll : DRA := dAllR
theorem x_all (hc : X.calm = true) : CallR X (.builtin "all") (LRA xAll) := by unfold xAll; exact c_all hc
@[irreducible] def xIsi : DRA := dIsiR
theorem x_isi : CallR X (.builtin "isinstance") (LRA xIsi) := by unfold xIsi; exact c_isi
@[irreducible] def xSeq : D → Store → (List D → (Store → Prop) → Store → Prop) → Prop := seqR
def xSeqI (t : DE) : DI := fun σ st K => t σ st fun d st1 => xSeq d st1 K
theorem xi_seq {l tg : Expr} {tl : DE} (hl : PE X l (LE tl)) : PI X tg l (LI (xSeqI tl)) := by unfold xSeqI xSeq; exact di_seq hl
@[irreducible] def xRng1 : List D → Store → (List D → (Store → Prop) → Store → Prop) → Prop := rng1R
@[irreducible] def xRng2 : List D → Store → (List D → (Store → Prop) → Store → Prop) → Prop := rng2R
def xRange1 (t : DA) : DI := fun σ st K => t σ st fun ds st1 => xRng1 ds st1 K
def xRange2 (t : DA) : DI := fun σ st K => t σ st fun ds st1 => xRng2 ds st1 K
theorem xi_range1 {tg iter : Expr} {t : DA} (h : PI X tg iter (iRng1 (LA t))) : PI X tg iter (LI (xRange1 t)) := by unfold xRange1 xRng1; exact di_range1 h
theorem xi_range2 {tg iter : Expr} {t : DA} (h : PI X tg iter (iRng2 (LA t))) : PI X tg iter (LI (xRange2 t)) := by unfold xRange2 xRng2; exact di_range2 h
@[irreducible] def xSet : D → D → D → Store → (Store → Prop) → Prop := setR
def xSetIx (to ti te : DE) : DS := fun D σ st => te σ st fun d st1 => to σ st1 fun x st2 => ti σ st2 fun y st3 => xSet x y d st3 fun st4 => D.nx σ st4
theorem xs_setIx {st : Stmt} {to ti te : DE} (h : PS X st (tAsg (LE te) (gSub (LE to) (LE ti) rSetL))) : PS X st (LS (xSetIx to ti te)) := by unfold xSetIx xSet; exact ds_setIx h
end
section
variable {st : Store} {K : DK} {i j : Int} {b c : Bool} {xs ys : List D} {d e : D} {n : Nat}
theorem st_add (k : K (.int (i + j)) st) : xAdd (.int i) (.int j) st K := by unfold xAdd; exact k
theorem st_addL (h : xs.length + ys.length ≤ sizeLine) (k : K (.lst (xs ++ ys)) st) : xAdd (.lst xs) (.lst ys) st K := by unfold xAdd; exact ⟨h, k⟩
theorem st_sub (k : K (.int (i - j)) st) : xSub (.int i) (.int j) st K := by unfold xSub; exact ⟨trivial, k⟩
theorem st_mul (h : IntMulOk i j) (k : K (.int (i * j)) st) : xMul (.int i) (.int j) st K := by unfold xMul; exact ⟨h, k⟩
theorem st_mulL (h : -(2 ^ 63) ≤ i ∧ i < 2 ^ 63 ∧ xs.length * i.toNat ≤ sizeLine) (k : K (.lst (List.replicate i.toNat xs).flatten) st) : xMul (.lst xs) (.int i) st K := by unfold xMul; exact ⟨h, k⟩
theorem st_fdiv (h0 : j ≠ 0) (h : j.natAbs.log2 < 9000) (k : K (.int (i.fdiv j)) st) : xFdiv (.int i) (.int j) st K := by unfold xFdiv; exact ⟨⟨h0, h⟩, k⟩
theorem st_mod (h0 : j ≠ 0) (k : K (.int (i.fmod j)) st) : xMod (.int i) (.int j) st K := by unfold xMod; exact ⟨h0, k⟩
theorem st_pow (h : CPow i j) (k : K (.int (i ^ j.toNat)) st) : xPow (.int i) (.int j) st K := by unfold xPow; exact ⟨h, k⟩
theorem st_lt (k : K (.bl (decide (i < j))) st) : xLt (.int i) (.int j) st K := by unfold xLt; exact ⟨trivial, k⟩
theorem st_le (k : K (.bl (decide (i ≤ j))) st) : xLe (.int i) (.int j) st K := by unfold xLe; exact ⟨trivial, k⟩
theorem st_gt (k : K (.bl (decide (j < i))) st) : xGt (.int i) (.int j) st K := by unfold xGt; exact ⟨trivial, k⟩
theorem st_ge (k : K (.bl (decide (j ≤ i))) st) : xGe (.int i) (.int j) st K := by unfold xGe; exact ⟨trivial, k⟩
theorem st_ne (k : K (.bl (!decide (i = j))) st) : xNe (.int i) (.int j) st K := by unfold xNe; exact k
theorem st_neB (k : K (.bl (!decide (b = c))) st) : xNe (.bl b) (.bl c) st K := by unfold xNe; exact k
theorem st_isN (h : live st d = true) (k : K (.bl (isN d)) st) : xIs d .non st K := by unfold xIs; exact ⟨h, k⟩
theorem st_eq (h1 : pl 40 d = true) (h2 : pl 40 e = true) (k : K (.bl (eqD d e)) st) : xEq d e st K := by unfold xEq; exact ⟨h1, h2, k⟩
theorem beq_dec (a b : Int) : (a == b) = decide (a = b) := by
  by_cases h : a = b
  · subst h; simp
  · simp [h]
theorem st_eqI (k : K (.bl (decide (i = j))) st) : xEq (.int i) (.int j) st K := by
  refine st_eq rfl rfl ?_
  have : eqD (.int i) (.int j) = decide (i = j) := by unfold eqD; exact beq_dec i j
  rw [this]; exact k
theorem st_neg (k : K (.int (-i)) st) : xNeg (.int i) st K := by unfold xNeg; exact k
theorem ix_items (h : items? st d = some xs) (a : atI xs i = some e) (k : K e st) : dIxR d (.int i) st K := by
  cases d <;> unfold items? at h <;> first
    | (cases h; done)
    | (cases h; simp only [dIxR, a]; exact k)
    | (simp only at h
       split at h
       · rename_i q
         cases h
         simp only [dIxR, q, a]
         exact k
       · cases h)
theorem st_ix (h : items? st d = some xs) (a : atI xs i = some e) (k : K e st) : xIx d (.int i) st K := by unfold xIx; exact ix_items h a k
theorem st_len (h : items? st d = some xs) (k : K (.int xs.length) st) : xLen [d] st K := by
  unfold xLen dLenR
  split
  · rename_i z; cases z; cases h
  · rename_i z; cases z; rw [h]; exact k
  · rename_i z1 z2; exact absurd rfl (z2 d)
theorem abs_nat (i : Int) : (if i < 0 then -i else i) = ((i.natAbs : Nat) : Int) := by split <;> omega
theorem st_abs (k : K (.int ((i.natAbs : Nat) : Int)) st) : xAbs [.int i] st K := by unfold xAbs; show K (.int (if i < 0 then -i else i)) st; rw [abs_nat]; exact k
theorem st_tuple (h : items? st d = some xs) (k : K (.tup xs) st) : xTuple [d] st K := by unfold xTuple dTupleR; simp only [h]; exact k
theorem st_list (h : items? st d = some xs) (k : K (.lst xs) st) : xList [d] st K := by unfold xList dListR; simp only [h]; exact k
theorem st_all {bs : List Bool} (h : bools? xs = some bs) (k : K (.bl (bs.all id)) st) : xAll [.lst xs] st K := by unfold xAll dAllR; simp only [h]; exact k
theorem st_isi {t c : String} (h : tyOf? st d = some t) (hc : c ∈ clNames) (k : K (.bl (isTy t c)) st) : xIsi [d, .ty c] st K := by unfold xIsi dIsiR; simp only [h]; exact ⟨hc, k⟩
theorem st_seqL {K : List D → (Store → Prop) → Store → Prop} (k : K xs (fun _ => True) st) : xSeq (.lst xs) st K := by unfold xSeq; exact k
theorem st_seqT {K : List D → (Store → Prop) → Store → Prop} (k : K xs (fun _ => True) st) : xSeq (.tup xs) st K := by unfold xSeq; exact k
theorem st_rng1 {K : List D → (Store → Prop) → Store → Prop} (h : -(2 ^ 62) ≤ j ∧ j < 2 ^ 62) (k : K (rangeD 0 j.toNat) (fun _ => True) st) : xRng1 [.int j] st K := by unfold xRng1; exact ⟨h, k⟩
theorem st_rng2 {K : List D → (Store → Prop) → Store → Prop} (h : -(2 ^ 62) ≤ i ∧ i < 2 ^ 62 ∧ -(2 ^ 62) ≤ j ∧ j < 2 ^ 62) (k : K (rangeD i (j - i).toNat) (fun _ => True) st) : xRng2 [.int i, .int j] st K := by unfold xRng2; exact ⟨h, k⟩
theorem st_set {K : Store → Prop} {m : Nat} (h : st[n]? = some (.lst xs)) (e : ixN xs.length i = some m) (k : K (st.set n (.lst (xs.set m d)))) : xSet (.ref n) (.int i) d st K := by unfold xSet setR; simp only [h, e]; exact k
end
end L3
namespace L3
open PySem L2
open PySem.Spec hiding items?
open PyProof.Rows hiding St
def noList (K : PySem.W.Frag) : Bool := K.all fun p => p.2.cls != .type "list"
def S_lawG : DSp := fun ds st K => ∃ ns : List Int, ds = [.lst (ns.map .int)] ∧ ns.length ≤ 63 ∧ ∀ st', K (.bl true) st'
def lawSp (K : PySem.W.Frag) : Sp := fun vs H Q _ => ∃ (a : Addr) (ns : List Int), vs = [.ref a] ∧ SqL K H a (ns.map V.int) ∧ ns.length ≤ 63 ∧ ∀ H', Q (.bl true) H'
theorem mem_lookupA {a : Addr} {o : Obj} : ∀ {l : List (Addr × Obj)}, l.lookup a = some o → (a, o) ∈ l
  | [], h => by cases h
  | (b, u) :: r, h => by
    rw [List.lookup_cons] at h
    split at h
    · rename_i z
      cases h
      have : a = b := by simpa using z
      subst this
      exact List.mem_cons_self
    · exact List.mem_cons_of_mem _ (mem_lookupA h)
theorem noList_lookup {K : PySem.W.Frag} (h : noList K = true) {a : Addr} {o : Obj} (e : K.lookup a = some o) : o.cls ≠ .type "list" := by
  have := List.all_eq_true.mp h (a, o) (mem_lookupA e)
  simpa using this
theorem reps_ints {α : List (Option Addr)} {G : Hp} : ∀ ns : List Int, Reps α G (ns.map D.int) (ns.map V.int)
  | [] => by unfold Reps; rfl
  | n :: ns => by
    rw [List.map_cons, List.map_cons]
    unfold Reps
    exact ⟨_, _, rfl, by unfold Rep; rfl, reps_ints ns⟩
theorem lawSp_of {K : PySem.W.Frag} (nl : noList K = true) {vs : List V} {H : Hp} {Q : VK} {E : XK} (h : lawSp K vs H Q E) : LSp S_lawG vs H Q E := by
  obtain ⟨a, ns, rfl, hS, hl, q⟩ := h
  rcases hS with hS | ⟨o, its, n, e, hc, _⟩
  · refine ⟨[], [.lst (ns.map .int)], [], fun d _ => d = .bl true, H, fun _ => none, ⟨fun b => by cases H b <;> rfl, fun _ _ _ => rfl⟩, ?_, ⟨rfl, fun _ _ _ e => by simp at e, fun n c e => by simp at e⟩, ⟨ns, rfl, hl, fun _ => rfl⟩, ?_⟩
    · unfold Reps
      refine ⟨.ref a, [], rfl, ?_, by unfold Reps; rfl⟩
      unfold Rep
      exact ⟨a, ns.map V.int, rfl, by simp, hS, reps_ints ns⟩
    · rintro d st' rfl α' G' H' v _ _ _ r
      unfold Rep at r
      subst r
      exact q H'
  · exact absurd hc (noList_lookup nl e)
end L3
namespace L3
open PySem L2
open PySem.Spec hiding items?
open PyProof.Rows hiding St
def notStar : Expr → Bool
  | .Starred .. => false
  | _ => true
theorem star_cons {e : Expr} {es : List Expr} {env : Env} (h : notStar e = true) : starEach (e :: es) env = (false, eval e env) :: starEach es env := by
  cases e <;> first | rfl | cases h
def noStars : List Expr → Bool
  | [] => true
  | e :: es => notStar e && noStars es
theorem back_any {pos : Pos} {env : Env} : ∀ {es : List Expr}, noStars es = true → (backTo pos (starEach es env)).any (·.1) = false
  | [], _ => rfl
  | e :: es, h => by
    unfold noStars at h
    rw [Bool.and_eq_true] at h
    rw [star_cons h.1]
    have ih := back_any (pos := pos) (env := env) h.2
    unfold backTo at ih ⊢
    rw [List.map_cons, List.any_cons, ih]
    rfl
def notSlice : Expr → Bool
  | .Slice .. => false
  | _ => true
def plainTest : Expr → Bool
  | .Name .. => true
  | .Call .. => true
  | .Subscript .. => true
  | .Attribute .. => true
  | _ => false
def notComp : Expr → Bool
  | .ListComp .. => false
  | .SetComp .. => false
  | .DictComp .. => false
  | _ => true
section
variable {X : Cx}
theorem plain_ix {b : Expr} (h : notSlice b = true) : PlainIx b := by
  intro o i
  cases b <;> first | rfl | cases h
theorem plain_test {e : Expr} (h : plainTest e = true) : ∀ whole, isTrue e X.env whole = (do let v ← whole; standAt e.pos; holding [v] (truthy v)) := by
  intro whole
  cases e <;> first | (cases h; done) | rfl
theorem no_swap {e : Expr} {tg : Option Expr} {n : Nat} {env : Env} (h : notComp e = true) : swapsWith e tg n env = pure false := by
  cases e <;> first | (cases h; done) | rfl
theorem da_cons' {e : Expr} {es : List Expr} {te : DE} {tr : DA} (ha : PE X e (LE te)) (hr : PA X es (LA tr)) (hs : notStar e = true := by rfl) : PA X (e :: es) (LA (dCons te tr)) := da_cons ha hr (star_cons hs)
theorem d_cb' {e : Expr} {es : List Expr} {pos p : Pos} {x : Str} {id : String} {r : DRA} {t : DA} (hc : CallR X (.builtin id) (LRA r)) (ha : PA X (e :: es) (LA t)) (hm : X.mg x = none) (hv : bootBuiltins x = some (.builtin id)) (hn : x ≠ "__name__") (hdb : (x == ("__debug__" : Str)) = false) (hg : Gl X x := by rfl) (hs : notStar e = true := by rfl) (hs2 : noStars es = true := by rfl) :
    PE X (.Call (.Name x p) (e :: es) [] pos) (LE (dCB r t)) := d_cb hc ha hm hv hg hn hdb (star_cons hs) (back_any hs2)
theorem d_ct' {e : Expr} {es : List Expr} {pos p : Pos} {x : Str} {T : String} {r : DRA} {t : DA} (hc : CallR X (.type T) (LRA r)) (ha : PA X (e :: es) (LA t)) (hm : X.mg x = none) (hv : bootBuiltins x = some (.type T)) (hn : x ≠ "__name__") (hdb : (x == ("__debug__" : Str)) = false) (hg : Gl X x := by rfl) (hs : notStar e = true := by rfl) (hs2 : noStars es = true := by rfl) :
    PE X (.Call (.Name x p) (e :: es) [] pos) (LE (dCB r t)) := d_ct hc ha hm hv hg hn hdb (star_cons hs) (back_any hs2)
theorem d_fn' {e : Expr} {es : List Expr} {pos p : Pos} {x qual : Str} {st : Stmt} {ps : List Str} {f : Addr} {fd : FuncData} {k : Nat} {S : DSp} {t : DA} (A : DefAt X.K X.mg x qual st ps f fd) (F : FnOk X.prog X.w X.K X.mg X.base CX0 k f fd ps (LSp S)) (hr : Room k X.A)
    (ha : PA X (e :: es) (LA t)) (hdb : (x == ("__debug__" : Str)) = false) (hg : Gl X x := by rfl) (hs : notStar e = true := by rfl) (hs2 : noStars es = true := by rfl) :
    PE X (.Call (.Name x p) (e :: es) [] pos) (LE (dCall S t)) := d_fn A F hr ha hg hdb (star_cons hs) (back_any hs2)
theorem x_ix' {a b : Expr} {ta tb : DE} {pos : Pos} (ha : PE X a (LE ta)) (hb : PE X b (LE tb)) (hs : notSlice b = true := by rfl) : PE X (.Subscript a b pos) (LE (dOp xIx ta tb)) := x_ix ha hb (plain_ix hs)
theorem d_tval' {e : Expr} {te : DE} (he : PE X e (LE te)) (h : plainTest e = true := by rfl) : PT X e (LT (dTest te)) := d_tval he (plain_test h)
theorem ds_expr' {e : Expr} {te : DE} {pos : Pos} (he : PE X e (LE te)) (h : notComp e = true := by rfl) : PS X (.Expr e pos) (LS (dDrop te)) := ds_expr he (no_swap h)
theorem ps_set' {i : Nat} {x : Str} {e : Expr} {te : TE} {pos pos' : Pos} (hN : X.N.Nodup) (hi : X.N[i]? = some x) (hx : Loc X.env.scope x) (he : PE X e te) (hf : X.fn x = true ∨ X.env.scope.names.lookup x = some .local := by first | exact .inl rfl | exact .inr rfl) (h : notComp e = true := by rfl) :
    PS X (.Assign [.Name x pos'] e pos) (tAsg te (gName i)) := ps_set hN hi hx he (no_swap h) hf
theorem d_name' {i : Nat} {x : Str} {pos : Pos} (hd : (x == ("__debug__" : Str)) = false) (hcd : (x == ("__classdict__" : Str)) = false) (hv : Vis X.env.scope x) (hN : X.N[i]? = some x := by rfl) : PE X (.Name x pos) (LE (dVar i)) := d_var (pe_var hN hv hd hcd)
theorem ps_sub {o i e : Expr} {to ti te : TE} {pos pos' : Pos} (he : PE X e te) (ho : PE X o to) (hi : PE X i ti) (h1 : notComp e = true := by rfl) (h2 : notSlice i = true := by rfl) : PS X (.Assign [.Subscript o i pos'] e pos) (tAsg te (gSub to ti rSetL)) :=
  ps_asg he (pg_sub ho hi set_list (by intro v; cases i <;> first | rfl | cases h2)) (by unfold swapsWithSole; exact no_swap h1) (by cases e <;> rfl) rfl
end
end L3
namespace L3
open PySem L2
open PySem.Spec hiding items?
open PyProof.Rows hiding St
@[irreducible] def JE (X : Cx) (e : Expr) (t : DE) : Prop := PE X e (LE t)
@[irreducible] def JT (X : Cx) (e : Expr) (t : DT) : Prop := PT X e (LT t)
@[irreducible] def JW (X : Cx) (e : Expr) (t : DT) : Prop := PW X e (LT t)
@[irreducible] def JA (X : Cx) (es : List Expr) (t : DA) : Prop := PA X es (LA t)
@[irreducible] def JS (X : Cx) (s : Stmt) (t : DS) : Prop := PS X s (LS t)
@[irreducible] def JB (X : Cx) (s : List Stmt) (t : DS) : Prop := PSs X s (LS t)
@[irreducible] def JG (X : Cx) (e : Expr) (t : DTg) : Prop := PG X e (LG t)
@[irreducible] def JI (X : Cx) (tg e : Expr) (t : DI) : Prop := PI X tg e (LI t)
@[irreducible] def JC (X : Cx) (es : List Expr) (t : DT) : Prop := PTs X es (LT t)
section
variable {X : Cx} {a b c e o i : Expr} {es : List Expr} {ta tb tc te to ti : DE} {t u : DT} {ar : DA} {pos p pos' : Pos} {s : Stmt} {ss : List Stmt} {T U : DS}
theorem j_name {n : Nat} {x : Str} (hd : (x == ("__debug__" : Str)) = false) (hcd : (x == ("__classdict__" : Str)) = false) (hv : Vis X.env.scope x) (hN : X.N[n]? = some x := by rfl) : JE X (.Name x pos) (dVar n) := by unfold JE; exact d_name' hd hcd hv hN
theorem j_nameC {n : Nat} {x : Str} (hd : (x == ("__debug__" : Str)) = false) (hcd : (x == ("__classdict__" : Str)) = false) (hN : X.N[n]? = some x := by rfl) (hv : Vis X.env.scope x := by first | exact Or.inl rfl | exact Or.inr (Or.inl rfl) | exact Or.inr (Or.inr rfl)) : JE X (.Name x pos) (dVar n) := by unfold JE; exact d_name' hd hcd hv hN
theorem j_ty {x : Str} {T : String} (hm : X.mg x = none) (hv : bootBuiltins x = some (.type T)) (hn : x ≠ "__name__") (hdb : (x == ("__debug__" : Str)) = false) (hg : Gl X x) : JE X (.Name x pos) (dC (.ty T)) := by unfold JE; exact d_ty hm hv hg hn hdb
theorem j_int {k : Int} {j : Nat} : JE X (.Constant (.int k) j pos) (dC (.int k)) := by unfold JE; exact d_int
theorem j_bl {k : Bool} {j : Nat} : JE X (.Constant (.bool k) j pos) (dC (.bl k)) := by unfold JE; exact d_bl
theorem j_non {j : Nat} : JE X (.Constant .none j pos) (dC .non) := by unfold JE; exact d_non
theorem j_op {op : Operator} {r : DR2} (ho : OpR X (binaryOp op) (LR r)) (ha : JE X a ta) (hb : JE X b tb) : JE X (.BinOp a op b pos) (dOp r ta tb) := by unfold JE at *; exact d_op ho ha hb
theorem j_neg (ha : JE X a ta) : JE X (.UnaryOp .USub a pos) (dUn xNeg ta) := by unfold JE at *; exact d_un x_neg ha
theorem j_not (ha : JE X a ta) : JE X (.UnaryOp .Not a pos) (dNotV (dTest ta)) := by unfold JE at *; exact d_not ha
theorem j_cmp {op : CmpOp} {r : DR2} (ho : OpR X (compareOp op) (LR r)) (hm : behindInMarks op b = false) (ha : JE X a ta) (hb : JE X b tb) : JE X (.Compare a [op] [b] pos) (dOp r ta tb) := by unfold JE at *; exact d_cmp ho ha hb hm
theorem j_ifE (hc : JT X c t) (ha : JE X a ta) (hb : JE X b tb) : JE X (.IfExp c a b pos) (dIf t ta tb) := by unfold JE at *; unfold JT at hc; exact d_ifE hc ha hb
theorem j_tup {n : Nat} (h : JA X es ar) : JE X (.Tuple es n pos) (dTup ar) := by unfold JE; unfold JA at h; exact d_tup h
theorem j_lst (h : JA X es ar) : JE X (.List es pos) (dLst ar) := by unfold JE; unfold JA at h; exact d_lst h
theorem j_new (h : JA X es ar) : JE X (.List es pos) (dNew ar) := by unfold JE; unfold JA at h; exact d_new h
theorem j_nil : JA X [] dNil := by unfold JA; exact da_nil
theorem j_cons (ha : JE X e te) (hr : JA X es ar) (hs : notStar e = true := by rfl) : JA X (e :: es) (dCons te ar) := by unfold JA at *; unfold JE at ha; exact da_cons' ha hr hs
theorem j_ix (ha : JE X a ta) (hb : JE X b tb) (hs : notSlice b = true := by rfl) : JE X (.Subscript a b pos) (dOp xIx ta tb) := by unfold JE at *; exact x_ix' ha hb hs
theorem j_cb {x : Str} {id : String} {r : DRA} (hc : CallR X (.builtin id) (LRA r)) (ha : JA X (e :: es) ar) (hm : X.mg x = none) (hv : bootBuiltins x = some (.builtin id)) (hn : x ≠ "__name__") (hdb : (x == ("__debug__" : Str)) = false) (hg : Gl X x) (hs : notStar e = true := by rfl) (hs2 : noStars es = true := by rfl) : JE X (.Call (.Name x p) (e :: es) [] pos) (dCB r ar) := by
  unfold JE; unfold JA at ha; exact d_cb' hc ha hm hv hn hdb hg hs hs2
theorem j_ct {x : Str} {T : String} {r : DRA} (hc : CallR X (.type T) (LRA r)) (ha : JA X (e :: es) ar) (hm : X.mg x = none) (hv : bootBuiltins x = some (.type T)) (hn : x ≠ "__name__") (hdb : (x == ("__debug__" : Str)) = false) (hg : Gl X x) (hs : notStar e = true := by rfl) (hs2 : noStars es = true := by rfl) : JE X (.Call (.Name x p) (e :: es) [] pos) (dCB r ar) := by
  unfold JE; unfold JA at ha; exact d_ct' hc ha hm hv hn hdb hg hs hs2
theorem j_fn {x qual : Str} {st : Stmt} {ps : List Str} {f : Addr} {fd : FuncData} {k : Nat} {S : DSp} (A : DefAt X.K X.mg x qual st ps f fd) (F : FnOk X.prog X.w X.K X.mg X.base CX0 k f fd ps (LSp S)) (hr : Room k X.A) (ha : JA X (e :: es) ar) (hdb : (x == ("__debug__" : Str)) = false) (hg : Gl X x) (hs : notStar e = true := by rfl) (hs2 : noStars es = true := by rfl) :
    JE X (.Call (.Name x p) (e :: es) [] pos) (dCall S ar) := by unfold JE; unfold JA at ha; exact d_fn' A F hr ha hdb hg hs hs2
theorem j_append {apos cpos : Pos} (ho : JE X o to) (he : JE X e te) (hbase : attributeBase o "append" X.env (eval o X.env) = eval o X.env := by rfl) (hline : (apos.endLine == cpos.line) = true := by rfl) (hs : notStar e = true := by rfl) : JE X (.Call (.Attribute o "append" apos) [e] [] cpos) (dAppend to te) := by
  unfold JE at *
  refine d_append ho he hbase ?_ hline (star_cons hs) rfl
  rw [star_cons hs]
  rfl
theorem j_tcmp {op : CmpOp} {r : DR2} (ho : OpR X (compareOp op) (LR r)) (hm : behindInMarks op b = false) (ha : JE X a ta) (hb : JE X b tb) : JT X (.Compare a [op] [b] pos) (dTest (dOp r ta tb)) := by unfold JE at *; unfold JT; exact d_tcmp ho ha hb hm
theorem j_tnot (ha : JT X a t) : JT X (.UnaryOp .Not a pos) (dNotT t) := by unfold JT at *; exact d_tnot ha
theorem j_tval (he : JE X e te) (h : plainTest e = true := by rfl) : JT X e (dTest te) := by unfold JT; unfold JE at he; exact d_tval' he h
theorem j_wand1 (ha : JT X a t) : JW X (.BoolOp .And [a] pos) t := by unfold JW; unfold JT at ha; exact d_wand1 ha
theorem j_wor1 (ha : JT X a t) : JW X (.BoolOp .Or [a] pos) t := by unfold JW; unfold JT at ha; exact d_wor1 ha
theorem j_wand (ha : JT X a t) (hb : JW X (.BoolOp .And (b :: es) pos) u) : JW X (.BoolOp .And (a :: b :: es) pos) (dAndT t u) := by unfold JW at *; unfold JT at ha; exact d_wand ha hb
theorem j_wor (ha : JT X a t) (hb : JW X (.BoolOp .Or (b :: es) pos) u) : JW X (.BoolOp .Or (a :: b :: es) pos) (dOrT t u) := by unfold JW at *; unfold JT at ha; exact d_wor ha hb
theorem j_wpt (h : JW X e t) : JT X e t := by unfold JT; unfold JW at h; exact PW.pt h
theorem j_seq {l tg : Expr} (hl : JE X l ta) : JI X tg l (xSeqI ta) := by unfold JI; unfold JE at hl; exact xi_seq hl
theorem j_range1 {tg : Expr} (hg : Gl X "range") (hm : X.mg "range" = none) (ha : JA X [a] ar) (hs : notStar a = true := by rfl) : JI X tg (.Call (.Name "range" p) [a] [] pos) (xRange1 ar) := by unfold JI; unfold JA at ha; exact xi_range1 (pi_range1 hg hm ha (star_cons hs))
theorem j_range2 {tg : Expr} (hg : Gl X "range") (hm : X.mg "range" = none) (ha : JA X [a, b] ar) (hs : notStar a = true := by rfl) (hs2 : notStar b = true := by rfl) : JI X tg (.Call (.Name "range" p) [a, b] [] pos) (xRange2 ar) := by unfold JI; unfold JA at ha; exact xi_range2 (pi_range2 hg hm ha (by rw [star_cons hs, star_cons hs2]; rfl) (star_cons hs2))
theorem j_tg {k : Nat} {x : Str} (hN : X.N.Nodup) (hx : Loc X.env.scope x) (hf : X.fn x = true ∨ X.env.scope.names.lookup x = some .local) (hi : X.N[k]? = some x := by rfl) : JG X (.Name x pos) (tgName k) := by unfold JG; exact dg_name (pg_name hN hi hx hf)
theorem j_tg2 {k j n : Nat} {x y : Str} {px py : Pos} (hc : X.calm = true) (hN : X.N.Nodup) (hx : Loc X.env.scope x) (hf : X.fn x = true ∨ X.env.scope.names.lookup x = some .local) (hy : Loc X.env.scope y) (hg : X.fn y = true ∨ X.env.scope.names.lookup y = some .local) (hi : X.N[k]? = some x := by rfl) (hj : X.N[j]? = some y := by rfl) :
    JG X (.Tuple [.Name x px, .Name y py] n pos) (tgTwo k j) := by unfold JG; exact dg_two (pg_tup hc (pgs_cons (pg_name hN hi hx hf) (pgs_cons (pg_name hN hj hy hg) pgs_nil)))
theorem j_ctrue : JC X [] dTrue := by unfold JC; exact pts_true
theorem j_comp {scope : Scope} {Nc : List Str} {elt tg iter : Expr} {ifs : List Expr} {src : DI} {fr : List (Option Nat)} {dtg : DTg} (S : CompSc X scope Nc fr) (hi : JI X tg iter src) (hg : ∀ C s H ex, JG (cxC X scope Nc C s H ex) tg dtg) (ht : ∀ C s H ex, JC (cxC X scope Nc C s H ex) ifs t) (he : ∀ C s H ex, JE (cxC X scope Nc C s H ex) elt te) (fit : Fit fr dtg)
    (hx : X.xe = fun _ _ => False := by rfl) (hc : X.calm = true := by rfl) (hs : ∀ x, foldedSetIterable iter X.env x = pure x := by intro _; rfl) : JE X (.ListComp elt [⟨tg, iter, ifs, 0⟩] scope pos) (dComp src fr dtg t te) := by
  unfold JE JI JG JC at *; exact d_comp S hi hg ht he fit hx hc hs
theorem j_compN {scope : Scope} {Nc : List Str} {elt tg iter : Expr} {ifs : List Expr} {src : DI} {fr : List (Option Nat)} {dtg : DTg} (S : CompSc X scope Nc fr) (hi : JI X tg iter src) (hg : ∀ C s H ex, JG (cxC X scope Nc C s H ex) tg dtg) (ht : ∀ C s H ex, JC (cxC X scope Nc C s H ex) ifs t) (he : ∀ C s H ex, JE (cxC X scope Nc C s H ex) elt te) (fit : Fit fr dtg)
    (hx : X.xe = fun _ _ => False := by rfl) (hc : X.calm = true := by rfl) (hs : ∀ x, foldedSetIterable iter X.env x = pure x := by intro _; rfl) : JE X (.ListComp elt [⟨tg, iter, ifs, 0⟩] scope pos) (dCompN src fr dtg t te) := by
  unfold JE JI JG JC at *; exact d_compN S hi hg ht he fit hx hc hs
theorem jb_nil : JB X [] dNext := by unfold JB; exact dss_nil
theorem jb_one (h : JS X s T) : JB X [s] T := by unfold JB; unfold JS at h; exact dss_one h
theorem jb_cons (h : JS X s T) (h2 : JB X ss U) : JB X (s :: ss) (dSeq T U) := by unfold JB at *; unfold JS at h; exact dss_cons h h2
theorem js_continue : JS X (.Continue pos) dCont := by unfold JS; exact ds_continue
theorem js_ret (h : JE X e te) : JS X (.Return (some e) pos) (dRet te) := by unfold JS; unfold JE at h; exact ds_ret h
theorem js_expr (h : JE X e te) (hc : notComp e = true := by rfl) : JS X (.Expr e pos) (dDrop te) := by unfold JS; unfold JE at h; exact ds_expr' h hc
theorem js_if {x y : List Stmt} (hc : JT X c t) (ha : JB X x T) (hb : JB X y U) : JS X (.If c x y pos) (dIfS t T U) := by unfold JS; unfold JB at *; unfold JT at hc; exact ds_if hc ha hb
theorem js_while {x : List Stmt} (hc : JT X c t) (hb : JB X x T) (hx : X.xe = fun _ _ => False := by rfl) : JS X (.While c x [] pos) (dWhile t T) := by unfold JS; unfold JB at hb; unfold JT at hc; exact ds_while (ps_while (by rw [hx]; exact PassesOwn.never) hc hb)
theorem js_for {tg iter : Expr} {x : List Stmt} {src : DI} {dtg : DTg} (hi : JI X tg iter src) (hg : JG X tg dtg) (hb : JB X x T) (hx : X.xe = fun _ _ => False := by rfl) (hc : X.calm = true := by rfl) (hs : ∀ x, foldedSetIterable iter X.env x = pure x := by intro _; rfl) : JS X (.For tg iter x [] pos) (dFor src dtg T) := by
  unfold JS; unfold JI at hi; unfold JG at hg; unfold JB at hb; exact ds_for (ps_for (by rw [hx]; exact PassesOwn.never) hc hi hg hb hs)
theorem js_set {k : Nat} {x : Str} (hN : X.N.Nodup) (hx : Loc X.env.scope x) (he : JE X e te) (hf : X.fn x = true ∨ X.env.scope.names.lookup x = some .local := by first | exact .inl rfl | exact .inr rfl) (h : notComp e = true := by rfl) (hi : X.N[k]? = some x := by rfl) : JS X (.Assign [.Name x pos'] e pos) (dSet k te) := by
  unfold JS; unfold JE at he; exact ds_set (ps_set' hN hi hx he hf h)
theorem js_setC {scope : Scope} {Nc : List Str} {elt tg iter : Expr} {ifs : List Expr} {src : DI} {fr : List (Option Nat)} {dtg : DTg} {k : Nat} {x : Str} (hN : X.N.Nodup) (hl : Loc X.env.scope x) (S : CompSc X scope Nc fr) (hi : JI X tg iter src) (hg : ∀ C s H ex, JG (cxC X scope Nc C s H ex) tg dtg) (ht : ∀ C s H ex, JC (cxC X scope Nc C s H ex) ifs t) (he : ∀ C s H ex, JE (cxC X scope Nc C s H ex) elt te) (fit : Fit fr dtg)
    (hf : X.fn x = true ∨ X.env.scope.names.lookup x = some .local := by first | exact .inl rfl | exact .inr rfl) (hsw : swapsWith (.ListComp elt [⟨tg, iter, ifs, 0⟩] scope p) (some (.Name x pos')) pos.line X.env = pure true := by rfl) (hni : X.N[k]? = some x := by rfl) (hx : X.xe = fun _ _ => False := by rfl) (hc : X.calm = true := by rfl) (hs : ∀ x, foldedSetIterable iter X.env x = pure x := by intro _; rfl) :
    JS X (.Assign [.Name x pos'] (.ListComp elt [⟨tg, iter, ifs, 0⟩] scope p) pos) (dSet k (dComp src fr dtg t te)) := by
  unfold JS; unfold JE JI JG JC at *; exact ds_setC fit (ps_setC hx hc S hi hg ht he hN hni hl hf hsw hs)
theorem js_setIx (he : JE X e te) (ho : JE X o to) (hi : JE X i ti) (h1 : notComp e = true := by rfl) (h2 : notSlice i = true := by rfl) : JS X (.Assign [.Subscript o i pos'] e pos) (xSetIx to ti te) := by unfold JS; unfold JE at *; exact xs_setIx (ps_sub he ho hi h1 h2)
theorem js_asg {tg : Expr} {dtg : DTg} (he : JE X e te) (hg : JG X tg dtg) (hs : swapsWithSole [tg] e pos.line X.env = pure false := by rfl) (hw : swappedStores [tg] e X.env = pure none := by rfl) (h1 : (assignEach [tg] X.env).map (·.2) = [assign tg X.env] := by rfl) : JS X (.Assign [tg] e pos) (dAsg dtg te) := by
  unfold JS; unfold JE at he; unfold JG at hg; exact ds_asg (ps_asg he hg hs hw h1)
end
theorem j_def {P : Program} {w : World} {K : PySem.W.Frag} {mg : Str → Option Value} {base : Heap} {x qual : Str} {st : Stmt} {f : Addr} {fd : FuncData} {N ps : List Str} {k : Nat} {sp : DSp} {t : DS} (F : Fun K x qual st f fd) (S : FnScope N ps (defScope st))
    (hbody : ∀ (cdv : Value) (A : Around) (outer : List Env) (s : Shared) (H : Hp) (E : XK), Room k (A.deeper (envOfC qual (defScope st) s.heap.objs.size f cdv)) → JB (cxOf CX0 P w K mg base N qual (defScope st) f cdv A outer s H E).nox (defBody st) t)
    (hsp : ∀ ds st K, sp ds st K → ds.length = ps.length ∧ t { nx := fun _ st' => K .non st', rt := K } (startD N ds) st) : FnOk P w K mg base CX0 (k + 1) f fd ps (LSp sp) := by
  unfold JB at hbody; exact d_def F S hbody hsp
end L3
namespace HT
open PySem PyProof.Rows
section
variable {prog : Program} {w : World} {A : Around} {E : Value → Shared → Prop} {s : Shared}
theorem getItem_tuple_whole {t sl : Addr} {items : Array Value} {vl vu : Value} {lo hi : Option Int} {Q : Value → Shared → Prop} (ht : IsTup s.heap t items) (hs : s.heap.IsSliceOf sl vl vu .none) (pl : IsPart vl lo) (pu : IsPart vu hi)
    (hw : sIx items.size 0 lo = 0 ∧ sIx items.size items.size hi = items.size) (h : Q (.ref t) s) : wpAny (model prog w) A (getItem (.ref t) (.ref sl)) Q E s := by
  obtain ⟨os, hos, hcs, hds⟩ := id hs
  have hTs : s.TypeIs (.ref sl) "slice" := ⟨os, hos, hcs⟩
  unfold getItem
  try with_reducible refine wpAny_holding ?_
  first | refine wpAny_bind (wpAny_pure ?_) | skip
  refine wpAny_bind (wpAny_sequenceKey ht.typeIs (by decide) ?_)
  refine wpAny_bind (wpAny_callSpecial?_slot (name := Str.ofString "__getitem__") ht.typeIs PyProof.Rows.slot_tuple_getitem
    (wpAny_call_entry PyProof.Rows.slot_tuple_getitem ht.typeIs entry_tuple_getitem ?_ (args_tuple_getitem _ _)))
  show wpAny _ _ (Builtin.Tuple.tupleItemsOf (.ref t) >>= _) _ _ s
  refine wpAny_bind (tupleItemsOf_ ht ?_)
  refine wpAny_bind (wpAny_typeOf hTs ?_)
  rw [if_pos (by decide)]
  refine wpAny_bind (sliceApplied_gen hs pl pu ?_)
  have hyes : (((sIx items.size 0 lo : Nat) : Int) == 0 && (1 : Int) == 1 && (sIx items.size items.size hi - sIx items.size 0 lo) == items.size) = true := by
    rw [hw.1, hw.2]
    simp
  show wpAny _ _ (if (((sIx items.size 0 lo : Nat) : Int) == 0 && (1 : Int) == 1 && (sIx items.size items.size hi - sIx items.size 0 lo) == items.size) = true then _ else _) _ _ s
  rw [if_pos hyes]
  refine wpAny_bind ?_
  unfold Builtin.Tuple.tupleIsExact
  exact wpAny_bind (wpAny_typeOf ht.typeIs (wpAny_pure (wpAny_bind (wpAny_rule (wpAny_pure ⟨_, rfl, wpAny_pure h⟩)))))
end
end HT
namespace L3
open PySem L2
open PySem.Spec hiding items?
open PyProof.Rows hiding St
abbrev DO := DEnv → Store → (Option Int → Store → Prop) → Prop
def dNoPart : DO := fun _ st K => K none st
def dPart (t : DE) : DO := fun σ st K => t σ st fun d st1 => match d with | .int i => K (some i) st1 | _ => False
def cutD (xs : List D) (lo hi : Option Int) : List D := (xs.drop (HT.sIx xs.length 0 lo)).take (HT.sIx xs.length xs.length hi - HT.sIx xs.length 0 lo)
def sliceR (d : D) (lo hi : Option Int) (st : Store) (K : DK) : Prop := match d with
  | .lst xs => K (.lst (cutD xs lo hi)) st
  | .tup xs => K (.tup (cutD xs lo hi)) st
  | .ref n => (match st[n]? with | some (.lst xs) => K (.lst (cutD xs lo hi)) st | _ => False)
  | _ => False
@[irreducible] def xSlice : D → Option Int → Option Int → Store → DK → Prop := sliceR
def dSlice (t : DE) (lo hi : DO) : DE := fun σ st K => t σ st fun d st1 => lo σ st1 fun l st2 => hi σ st2 fun u st3 => xSlice d l u st3 K
theorem cut_reps {α : List (Option Addr)} {G : Hp} {xs : List D} {vs : List V} {lo hi : Option Int} (r : Reps α G xs vs) : Reps α G (cutD xs lo hi) (cutV vs lo hi) := by
  unfold cutD cutV
  rw [← r.length]
  exact reps_paired.mpr (paired_take _ (paired_drop _ (reps_paired.mp r)))
def LKO (α : List (Option Addr)) (G F : Hp) (K : Option Int → Store → Prop) (Q : Option Int → Hp → Prop) : Prop := ∀ o st', K o st' → ∀ α' G' H', Step α G α' G' → Spl G' F H' → StRel α' st' G' → Q o H'
def LO (t : DO) : TO := fun σ H Q => ∃ α σd st K G F, Spl G F H ∧ RelS α G σd σ ∧ StRel α st G ∧ t σd st K ∧ LKO α G F K Q
section
variable {X : Cx}
theorem PO.imp {e : Option Expr} {t t' : TO} (h : PO X e t) (f : ∀ σ H Q, t' σ H Q → t σ H Q) : PO X e t' := fun pins s σ H Q I q => h pins s σ H Q I (f σ H Q q)
theorem do_none : PO X none (LO dNoPart) := PO.imp po_none fun σ H Q ⟨α, σd, st, K, G, F, P, R, S, t, k⟩ => k none st t α G H Step.refl P S
theorem do_some {e : Expr} {te : DE} (h : PE X e (LE te)) : PO X (some e) (LO (dPart te)) := PO.imp (po_some h) fun σ H Q ⟨α, σd, st, K, G, F, P, R, S, t, k⟩ => by
  refine ⟨α, σd, st, _, G, F, P, R, S, t, fun d st1 q α1 G1 H1 v s1 P1 S1 r1 => ?_⟩
  cases d <;> try exact q.elim
  unfold Rep at r1
  exact ⟨_, r1, k _ st1 q α1 G1 H1 s1 P1 S1⟩
def LSl (x : V) (lo hi : Option Int) (H : Hp) (Q : VK) : Prop := ∃ α d st K G F, Spl G F H ∧ Rep α G d x ∧ StRel α st G ∧ xSlice d lo hi st K ∧ LK α G F K Q
theorem sl_tupE : SlR X (fun x lo hi H Q => ∃ a xs, x = .ref a ∧ H a = some (.tup xs) ∧ ((HT.sIx xs.length 0 lo = 0 ∧ HT.sIx xs.length xs.length hi = xs.length) → Q (.ref a) H) ∧ (¬ (HT.sIx xs.length 0 lo = 0 ∧ HT.sIx xs.length xs.length hi = xs.length) → ∀ p, H p = none → Q (.ref p) (upd H p (.tup (cutV xs lo hi))))) := by
  intro pins s σ H x v vl vu lo hi sl Q I rx hs pl pu h
  obtain ⟨a, xs, rfl, hx, q1, q2⟩ := h
  by_cases hw : HT.sIx xs.length 0 lo = 0 ∧ HT.sIx xs.length xs.length hi = xs.length
  · cases rx
    obtain ⟨its, r, ht, hz⟩ := I.tuple (SqT.of hx)
    have hlen : its.toArray.size = xs.length := by rw [List.size_toArray]; exact r.length.symm
    exact ⟨"tuple", _, PyProof.Rows.slot_tuple_getitem.lookup, ht.typeIs, HT.getItem_tuple_whole ht hs pl pu (by rw [hlen]; exact hw) ⟨.ref a, H, I, rfl, q1 hw⟩⟩
  · exact sl_tup pins s σ H _ v vl vu lo hi sl Q I rx hs pl pu ⟨a, xs, rfl, .of hx, hw, q2 hw⟩
theorem cut_whole {xs : List D} {lo hi : Option Int} (hw : HT.sIx xs.length 0 lo = 0 ∧ HT.sIx xs.length xs.length hi = xs.length) : cutD xs lo hi = xs := by
  unfold cutD
  rw [hw.1, hw.2]
  simp
theorem sl_all : SlR X LSl := by
  intro pins s σ H x v vl vu lo hi sl Q I rx hs pl pu ⟨α, d, st, K, G, F', P, r1, S, q, k⟩
  unfold xSlice sliceR at q
  cases d <;> try exact q.elim
  · rename_i n
    simp only at q
    split at q
    · rename_i xs e
      obtain ⟨a, ea, vs, h1, h2⟩ := S.lstAt e
      have r1' := rep_at ea r1
      subst r1'
      exact sl_list pins s σ H _ v vl vu lo hi sl Q I rx hs pl pu ⟨a, vs, rfl, .inl (.of (P.get h1)), fun p hp => k.lst P q S (cut_reps h2) hp⟩
    · exact q.elim
  · unfold Rep at r1
    obtain ⟨a, vs, rfl, na, ha, ra⟩ := r1
    exact sl_list pins s σ H _ v vl vu lo hi sl Q I rx hs pl pu ⟨a, vs, rfl, .inl (rd_up P ha), fun p hp => k.lst P q S (cut_reps ra) hp⟩
  · rename_i xs
    have r0 := r1
    unfold Rep at r1
    obtain ⟨a, vs, rfl, na, ha, ra⟩ := r1
    refine sl_tupE pins s σ H _ v vl vu lo hi sl Q I rx hs pl pu ⟨a, vs, rfl, P.get ha, fun hw => ?_, fun _ p hp => k.tup P q S (cut_reps ra) hp⟩
    rw [← ra.length] at hw
    simp only at q
    rw [cut_whole hw] at q
    exact k.here P q S r0
theorem d_slice {e : Expr} {lo hi : Option Expr} {te : DE} {tl th : DO} {p2 pos : Pos} (he : PE X e (LE te)) (hl : PO X lo (LO tl)) (hh : PO X hi (LO th)) : PE X (.Subscript e (.Slice lo hi none p2) pos) (LE (dSlice te tl th)) := PE.imp (pe_slice sl_all he hl hh) fun σ H Q ⟨α, σd, st, K, G, F, P, R, S, t, k⟩ => by
  refine ⟨α, σd, st, _, G, F, P, R, S, t, fun d st1 q α1 G1 H1 v s1 P1 S1 r1 => ?_⟩
  refine ⟨α1, σd, st1, _, G1, F, P1, R.step s1, S1, q, fun l st2 q2 α2 G2 H2 s2 P2 S2 => ?_⟩
  refine ⟨α2, σd, st2, _, G2, F, P2, (R.step s1).step s2, S2, q2, fun u st3 q3 α3 G3 H3 s3 P3 S3 => ?_⟩
  exact ⟨α3, d, st3, K, G3, F, P3, (r1.step s2).step s3, S3, q3, ((k.at s1).at s2).at s3⟩
@[irreducible] def JO (X : Cx) (e : Option Expr) (t : DO) : Prop := PO X e (LO t)
theorem j_onone : JO X none dNoPart := by unfold JO; exact do_none
theorem j_osome {e : Expr} {te : DE} (h : JE X e te) : JO X (some e) (dPart te) := by unfold JO; unfold JE at h; exact do_some h
theorem j_slice {e : Expr} {lo hi : Option Expr} {te : DE} {tl th : DO} {p2 pos : Pos} (he : JE X e te) (hl : JO X lo tl) (hh : JO X hi th) : JE X (.Subscript e (.Slice lo hi none p2) pos) (dSlice te tl th) := by unfold JE at *; unfold JO at *; exact d_slice he hl hh
end
theorem st_sliceL {st : Store} {K : DK} {xs : List D} {lo hi : Option Int} (k : K (.lst (cutD xs lo hi)) st) : xSlice (.lst xs) lo hi st K := by unfold xSlice; exact k
end L3
namespace L3
open PySem L2
open PySem.Spec hiding items?
open PyProof.Rows hiding St
section
variable {prog : Program} {w : World} {A : Around} {E : Value → Shared → Prop} {s : Shared}
theorem nextT_item {iT tp : Addr} {n : Nat} {its : Array Value} {v : Value} {Q : Value → Shared → Prop} (hI : s.heap.IsTupleIter iT tp n) (hT : s.heap.IsTuple tp its) (hv : its[n]? = some v)
    (q : ∀ g, g.IsTupleIter iT tp (n + 1) → Heap.SameBut iT s.heap g → Q v { s with heap := g }) : wpAny (model prog w) A (Builtin.SmallTypes.nextOf (.ref iT)) Q E s := by
  obtain ⟨oI, eI, cI, dI⟩ := id hI
  obtain ⟨oT, eT, _, nT, dT⟩ := hT
  unfold Builtin.SmallTypes.nextOf
  refine wpAny_bind (wpAny_callSpecial?_slot (name := Str.ofString "__next__") hI.typeIs F.slot_tuple_iterator_next (wpAny_call_entry F.slot_tuple_iterator_next hI.typeIs F.entry_tuple_iterator_next ?_ (F.args_tuple_iterator_next_1 _)))
  show wpAny _ _ (field (.ref iT) 0 >>= _) _ _ s
  refine wpAny_bind (wpAny_field eI dI (x := .ref tp) rfl ?_)
  show wpAny _ _ (if (Value.ref tp == Value.none) = true then _ else _) _ _ s
  rw [if_neg (show ¬ ((Value.ref tp == Value.none) = true) from Bool.false_ne_true)]
  show wpAny _ _ (field (.ref iT) 1 >>= _) _ _ s
  refine wpAny_bind (wpAny_field eI dI (x := .int n 0) rfl ?_)
  show wpAny _ _ (seqItems? (.ref tp) >>= _) _ _ s
  refine wpAny_bind (wpAny_seqItems eT dT ?_)
  simp only [Int.toNat_natCast, hv]
  refine wpAny_bind (wpAny_setField eI dI (by simp) (wpAny_pure ⟨v, rfl, wpAny_pure (q _ ?_ (Heap.SameBut.update ..))⟩))
  refine ⟨_, Heap.get?_update_self _ eI (Obj.isFreed_of_fields (Obj.data_mapFields dI _)), (Obj.cls_mapFields ..).trans cI, ?_⟩
  rw [Obj.data_mapFields dI]
  simp [rawInt]
theorem nextT_end {iT tp : Addr} {n : Nat} {its : Array Value} {Q : Value → Shared → Prop} (hh : A.handled = none) (hI : s.heap.IsTupleIter iT tp n) (hT : s.heap.IsTuple tp its) (hv : its[n]? = none)
    (q : ∀ g e, Heap.ExtBut iT s.heap g → (∃ o, g.get? e = some o ∧ o.cls = .type "StopIteration") → E (.ref e) { s with heap := g }) : wpAny (model prog w) A (Builtin.SmallTypes.nextOf (.ref iT)) Q E s := by
  obtain ⟨oI, eI, cI, dI⟩ := id hI
  obtain ⟨oT, eT, _, nT, dT⟩ := hT
  unfold Builtin.SmallTypes.nextOf
  refine wpAny_bind (wpAny_callSpecial?_slot (name := Str.ofString "__next__") hI.typeIs F.slot_tuple_iterator_next (wpAny_call_entry F.slot_tuple_iterator_next hI.typeIs F.entry_tuple_iterator_next ?_ (F.args_tuple_iterator_next_1 _)))
  show wpAny _ _ (field (.ref iT) 0 >>= _) _ _ s
  refine wpAny_bind (wpAny_field eI dI (x := .ref tp) rfl ?_)
  show wpAny _ _ (if (Value.ref tp == Value.none) = true then _ else _) _ _ s
  rw [if_neg (show ¬ ((Value.ref tp == Value.none) = true) from Bool.false_ne_true)]
  show wpAny _ _ (field (.ref iT) 1 >>= _) _ _ s
  refine wpAny_bind (wpAny_field eI dI (x := .int n 0) rfl ?_)
  show wpAny _ _ (seqItems? (.ref tp) >>= _) _ _ s
  refine wpAny_bind (wpAny_seqItems eT dT ?_)
  simp only [Int.toNat_natCast, hv]
  refine wpAny_bind (wpAny_rule (wpAny_bind (wpAny_setField eI dI (by simp) ?_)))
  show wpAny _ _ (newExc (.type "StopIteration") [] >>= _) _ _ _
  refine wpAny_bind ?_
  simp only [newExc, newTuple]
  refine wpAny_bind (wpAny_newObj_type ?_ (by size_fits))
  refine wpAny_bind (m := firstArgMember _ _) (wpAny_of_eq (a := Value.none) (by first | rfl | (simp only [firstArgMember]; rfl)) ?_)
  refine wpAny_newObj_type ?_ (by size_fits)
  simp only [raiseNew]
  refine wpAny_bind (wpAny_handled ?_)
  first | rw [show A.in1.handled = none from hh] | rw [hh]
  refine wpAny_bind (wpAny_pure (wpAny_throw ?_))
  exact q _ _ (((Heap.SameBut.update ..).extBut.push _).push _) ⟨_, Heap.get?_push_size _ rfl, rfl⟩
end
end L3
namespace L3
open PySem L2
open PySem.Spec hiding items?
open PyProof.Rows hiding St
section
variable {st : Store} {K : DK} {i j : Int} {b c : Bool} {xs ys : List D} {d e : D} {n : Nat}
theorem eqT (h : i = j) (k : K (.bl true) st) : xEq (.int i) (.int j) st K := st_eqI (by rw [decide_eq_true h]; exact k)
theorem eqF (h : i ≠ j) (k : K (.bl false) st) : xEq (.int i) (.int j) st K := st_eqI (by rw [decide_eq_false h]; exact k)
theorem eq2 (h1 : i = j → K (.bl true) st) (h2 : i ≠ j → K (.bl false) st) : xEq (.int i) (.int j) st K := by
  by_cases h : i = j
  · exact eqT h (h1 h)
  · exact eqF h (h2 h)
theorem ltT (h : i < j) (k : K (.bl true) st) : xLt (.int i) (.int j) st K := st_lt (by rw [decide_eq_true h]; exact k)
theorem ltF (h : j ≤ i) (k : K (.bl false) st) : xLt (.int i) (.int j) st K := st_lt (by rw [decide_eq_false (by omega)]; exact k)
theorem lt2 (h1 : i < j → K (.bl true) st) (h2 : j ≤ i → K (.bl false) st) : xLt (.int i) (.int j) st K := by
  by_cases h : i < j
  · exact ltT h (h1 h)
  · exact ltF (by omega) (h2 (by omega))
theorem gtT (h : j < i) (k : K (.bl true) st) : xGt (.int i) (.int j) st K := st_gt (by rw [decide_eq_true h]; exact k)
theorem gtF (h : i ≤ j) (k : K (.bl false) st) : xGt (.int i) (.int j) st K := st_gt (by rw [decide_eq_false (by omega)]; exact k)
theorem gt2 (h1 : j < i → K (.bl true) st) (h2 : i ≤ j → K (.bl false) st) : xGt (.int i) (.int j) st K := by
  by_cases h : j < i
  · exact gtT h (h1 h)
  · exact gtF (by omega) (h2 (by omega))
theorem geT (h : j ≤ i) (k : K (.bl true) st) : xGe (.int i) (.int j) st K := st_ge (by rw [decide_eq_true h]; exact k)
theorem geF (h : i < j) (k : K (.bl false) st) : xGe (.int i) (.int j) st K := st_ge (by rw [decide_eq_false (by omega)]; exact k)
theorem ge2 (h1 : j ≤ i → K (.bl true) st) (h2 : i < j → K (.bl false) st) : xGe (.int i) (.int j) st K := by
  by_cases h : j ≤ i
  · exact geT h (h1 h)
  · exact geF (by omega) (h2 (by omega))
theorem szL {P : Prop} (h : xs.length ≤ 1000) (k : P) : xs.length ≤ sizeLine ∧ P := ⟨by rw [sizeLine_eq]; omega, k⟩
theorem sz1000 {m : Nat} (h : m ≤ 1000) : m ≤ sizeLine := by rw [sizeLine_eq]; omega
theorem ix_any {P : D → Prop} (hx : ∀ x ∈ xs, P x) (h0 : 0 ≤ i) (h1 : i < xs.length) : ∃ e, atI xs i = some e ∧ P e := by
  have hk : i.toNat < xs.length := by omega
  refine ⟨xs[i.toNat], ?_, hx _ (List.getElem_mem _)⟩
  have e : xs[i.toNat]? = some xs[i.toNat] := by simp [hk]
  have := atI_nat e
  rw [Int.toNat_of_nonneg h0] at this
  exact this
theorem atI_get (h0 : 0 ≤ i) (e : xs[i.toNat]? = some d) : atI xs i = some d := by
  have := atI_nat e
  rw [Int.toNat_of_nonneg h0] at this
  exact this
theorem ixN_at {m : Nat} (h0 : 0 ≤ i) (h : i.toNat < m) : ixN m i = some i.toNat := by
  unfold ixN
  have : i < (m : Int) := by omega
  simp [h0, this]
end
theorem for_ind {tg : DTg} {body : DS} {ok : Store → Prop} {E : DEnds} (I : List D → DEnv → Store → Prop) (hend : ∀ σ st, I [] σ st → ok st ∧ E.nx σ st)
    (hstep : ∀ x xs σ st, I (x :: xs) σ st → (∀ σ' st', I xs σ' st' → forD tg body ok E xs σ' st') → ok st ∧ ∃ σ1, tg x σ = some σ1 ∧ body { E with nx := forD tg body ok E xs, ct := forD tg body ok E xs, bk := E.nx } σ1 st) :
    ∀ xs σ st, I xs σ st → forD tg body ok E xs σ st
  | [], σ, st, h => by unfold forD; exact hend σ st h
  | x :: xs, σ, st, h => by unfold forD; exact hstep x xs σ st h fun σ' st' h' => for_ind I hend hstep xs σ' st' h'
theorem comp_ind {tg : DTg} {c : DT} {te : DE} {ok : Store → Prop} {σc : DEnv} {K : List D → Store → Prop} (I : List D → List D → Store → Prop) (hend : ∀ acc st, I [] acc st → ok st ∧ K acc st)
    (hstep : ∀ x xs acc st, I (x :: xs) acc st → (∀ acc' st', I xs acc' st' → compD tg c te ok σc xs acc' st' K) → ok st ∧ ∃ σ2, tg x σc = some σ2 ∧ c σ2 st fun b st1 => if b = true then te σ2 st1 fun y st2 => compD tg c te ok σc xs (acc ++ [y]) st2 K else compD tg c te ok σc xs acc st1 K) :
    ∀ xs acc st, I xs acc st → compD tg c te ok σc xs acc st K
  | [], acc, st, h => by unfold compD; exact hend acc st h
  | x :: xs, acc, st, h => by unfold compD; exact hstep x xs acc st h fun acc' st' h' => comp_ind I hend hstep xs acc' st' h'
theorem comp_map {tg : DTg} {te : DE} {ok : Store → Prop} {σc : DEnv} {st : Store} {K : List D → Store → Prop} {g : D → D} (hok : ok st) (xs : List D) (hx : ∀ x ∈ xs, ∀ K', K' (g x) st → ∃ σ2, tg x σc = some σ2 ∧ te σ2 st K') (k : K (xs.map g) st) : compD tg dTrue te ok σc xs [] st K := by
  refine comp_ind (fun r acc st' => st' = st ∧ (∀ x ∈ r, x ∈ xs) ∧ acc ++ r.map g = xs.map g) (fun acc st' h => ?_) (fun x r acc st' h next => ?_) xs [] st ⟨rfl, fun _ h => h, rfl⟩
  · obtain ⟨rfl, _, e⟩ := h
    rw [List.map_nil, List.append_nil] at e
    rw [e]; exact ⟨hok, k⟩
  · obtain ⟨rfl, hm, e⟩ := h
    obtain ⟨σ2, e2, q⟩ := hx x (hm x List.mem_cons_self) (fun y st2 => compD tg dTrue te ok σc r (acc ++ [y]) st2 K) (next _ _ ⟨rfl, fun z hz => hm z (List.mem_cons_of_mem _ hz), by rw [← e]; simp⟩)
    exact ⟨hok, σ2, e2, q⟩
theorem seq_cut {A B : DS} {E : DEnds} {σ : DEnv} {st : Store} (J : DEnv → Store → Prop) (h : ∀ nx, (∀ σ' st', J σ' st' → nx σ' st') → A { E with nx := nx } σ st) (k : ∀ σ' st', J σ' st' → B E σ' st') : dSeq A B E σ st := h (B E) k
def appK (n : Nat) (K : DK) (y : D) (st2 : Store) : Prop := ∃ y', [y] = [y'] ∧ (match st2[n]? with | some (.lst xs) => xs.length < sizeLine ∧ K .non (st2.set n (.lst (xs ++ [y']))) | _ => False)
theorem appK_at {n : Nat} {K : DK} {y : D} {st : Store} {xs : List D} (e : st[n]? = some (.lst xs)) (h : xs.length < sizeLine) (k : K .non (st.set n (.lst (xs ++ [y])))) : appK n K y st := by
  refine ⟨y, rfl, ?_⟩; simp only [e]; exact ⟨h, k⟩
@[irreducible] def xAppend (to te : DE) : DE := dAppend to te
theorem st_app {σ : DEnv} {st : Store} {K : DK} {i n : Nat} {xs : List D} {te : DE} (ei : σ[i]? = some (some (.ref n))) (e : st[n]? = some (.lst xs)) (h : te σ st (appK n K)) : xAppend (dVar i) te σ st K := by
  unfold xAppend dAppend dVar
  simp only [ei, e]
  exact h
theorem jx_append {X : Cx} {o e : Expr} {to te : DE} {apos cpos : Pos} (ho : JE X o to) (he : JE X e te) (hbase : attributeBase o "append" X.env (eval o X.env) = eval o X.env := by rfl) (hline : (apos.endLine == cpos.line) = true := by rfl) (hs : notStar e = true := by rfl) : JE X (.Call (.Attribute o "append" apos) [e] [] cpos) (xAppend to te) := by
  unfold xAppend; exact j_append ho he hbase hline hs
@[irreducible] def dFrzS (i : Nat) (t : DS) : DS := fun D σ st => match σ[i]? with
  | some (some (.ref n)) => (match st[n]? with | some (.lst xs) => t D (σ.set i (some (.lst xs))) (st.set n .dead) | _ => False)
  | _ => False
section
variable {X : Cx}
theorem ds_frz {s : Stmt} {i : Nat} {t : DS} (h : PS X s (LS t)) : PS X s (LS (dFrzS i t)) := PS.imp h fun D σ H ⟨α, σd, st, DD, G, F, P, R, S, q, k⟩ => by
  unfold dFrzS at q
  split at q
  · rename_i n e
    split at q
    · rename_i xs e2
      have hn : n < st.length := (List.getElem?_eq_some_iff.mp e2).1
      obtain ⟨v, ev, rv⟩ := R.at' i _ e
      have R2 : RelS (α.set n none) G (σd.set i (some (.lst xs))) (σ.set i (some v)) := (R.step Step.frz).set i (S.frz_lst e2 rv)
      have es : σ.set i (some v) = σ := by
        refine List.ext_getElem? fun j => ?_
        by_cases hj : i = j
        · subst hj; rw [List.getElem?_set_self (List.getElem?_eq_some_iff.mp ev).1, ev]
        · rw [List.getElem?_set_ne hj]
      rw [es] at R2
      exact ⟨α.set n none, _, _, DD, G, F, P, R2, S.frz hn, q, k.at Step.frz⟩
    · exact q.elim
  · exact q.elim
theorem js_frz {s : Stmt} {i : Nat} {t : DS} (h : JS X s t) : JS X s (dFrzS i t) := by unfold JS at *; exact ds_frz h
end
theorem st_frz {σ : DEnv} {st : Store} {E : DEnds} {i n : Nat} {t : DS} {xs : List L3.D} (e : σ[i]? = some (some (.ref n))) (e2 : st[n]? = some (.lst xs)) (k : t E (σ.set i (some (.lst xs))) (st.set n .dead)) : dFrzS i t E σ st := by
  unfold dFrzS; simp only [e, e2]; exact k
end L3
namespace L3
open PySem L2
open PySem.Spec hiding items?
open PyProof.Rows hiding St
structure Src (P : Program) (w : World) (t a : Addr) (J : Nat → Heap → Prop) (us : Array Value) : Prop where
  fr : ∀ n g k, J n g → (∀ b, b = t ∨ b = a → ∀ o, g.get? b = some o → k.get? b = some o) → J n k
  lv : ∀ n g, J n g → (∃ o, g.get? t = some o) ∧ ∃ o, g.get? a = some o
  nx : ∀ n (A : Around) (s : Shared) (Q : Value → Shared → Prop) (E : Value → Shared → Prop) v, J n s.heap → us[n]? = some v → (∀ k, J (n + 1) k → Heap.SameBut t s.heap k → Q v { s with heap := k }) → wpAny (model P w) A (Builtin.SmallTypes.nextOf (.ref t)) Q E s
  en : ∀ n (A : Around) (s : Shared) (Q : Value → Shared → Prop) (E : Value → Shared → Prop), A.handled = none → J n s.heap → us[n]? = none → (∀ k e, Heap.ExtBut t s.heap k → (∃ o, k.get? e = some o ∧ o.cls = .type "StopIteration") → E (.ref e) { s with heap := k }) → wpAny (model P w) A (Builtin.SmallTypes.nextOf (.ref t)) Q E s
section
variable {P : Program} {w : World}
theorem src_list (t a : Addr) (hne : a ≠ t) (us : Array Value) : Src P w t a (fun n g => g.IsListIter t a n ∧ g.IsList a us) us where
  fr := fun n g k j kp => ⟨j.1.at fun o e => kp t (.inl rfl) o e, j.2.at fun o e => kp a (.inr rfl) o e⟩
  lv := fun n g j => ⟨let ⟨o, e, _⟩ := j.1; ⟨o, e⟩, let ⟨o, e, _⟩ := j.2; ⟨o, e⟩⟩
  nx := fun n A s Q E v j hv q => wpAny_nextOf_list_item j.1 j.2 hv fun k jk sb => q k ⟨jk, j.2.extBut sb.extBut hne⟩ sb
  en := fun n A s Q E hh j hv q => wpAny_nextOf_list_end hh j.1 j.2 hv q
theorem src_tup (t a : Addr) (hne : a ≠ t) (us : Array Value) : Src P w t a (fun n g => g.IsTupleIter t a n ∧ g.IsTuple a us) us where
  fr := fun n g k j kp => by
    obtain ⟨⟨o, e, r⟩, ⟨o2, e2, r2⟩⟩ := j
    exact ⟨⟨o, kp t (.inl rfl) o e, r⟩, ⟨o2, kp a (.inr rfl) o2 e2, r2⟩⟩
  lv := fun n g j => ⟨let ⟨o, e, _⟩ := j.1; ⟨o, e⟩, let ⟨o, e, _⟩ := j.2; ⟨o, e⟩⟩
  nx := fun n A s Q E v j hv q => nextT_item j.1 j.2 hv fun k jk sb => q k ⟨jk, j.2.extBut sb.extBut hne⟩ sb
  en := fun n A s Q E hh j hv q => nextT_end hh j.1 j.2 hv q
theorem Src.ext {t a c : Addr} {J : Nat → Heap → Prop} {us : Array Value} (S : Src P w t a J us) {n : Nat} {g k : Heap} (j : J n g) (x : Heap.ExtBut c g k) (h1 : c ≠ t) (h2 : c ≠ a) : J n k :=
  S.fr n g k j fun b hb o e => x b o (by rcases hb with rfl | rfl; exact Ne.symm h1; exact Ne.symm h2) e
structure Ap2 (z ti to t1 t2 a1 a2 : Addr) : Prop where
  nd : [z, ti, to, t1, t2].Nodup
  a1 : a1 ∉ [z, ti, to, t1, t2]
  a2 : a2 ∉ [z, ti, to, t1, t2]
section
variable {z ti to t1 t2 a1 a2 : Addr}
theorem Ap2.n (D : Ap2 z ti to t1 t2 a1 a2) : (ti ≠ z ∧ to ≠ z ∧ t1 ≠ z ∧ t2 ≠ z) ∧ (ti ≠ to ∧ ti ≠ t1 ∧ ti ≠ t2) ∧ (to ≠ t1 ∧ to ≠ t2) ∧ t1 ≠ t2 := by
  have := D.nd
  simp only [List.nodup_cons, List.mem_cons, not_or, List.not_mem_nil, not_false_eq_true, and_true, List.nodup_nil] at this
  obtain ⟨⟨b1, b2, b3, b4⟩, ⟨b5, b6, b7⟩, ⟨b8, b9⟩, b10⟩ := this
  exact ⟨⟨Ne.symm b1, Ne.symm b2, Ne.symm b3, Ne.symm b4⟩, ⟨b5, b6, b7⟩, ⟨b8, b9⟩, b10⟩
theorem zip2_item {A : Around} {s : Shared} {E : Value → Shared → Prop} {J1 J2 : Nat → Heap → Prop} {us vs : Array Value} {n : Nat} {x y a b : Value} {Q : Value → Shared → Prop} (D : Ap2 z ti to t1 t2 a1 a2) (S1 : Src P w t1 a1 J1 us) (S2 : Src P w t2 a2 J2 vs)
    (Z : IsZip s.heap z ti to .none) (pI : IsPair s.heap ti (.ref t1) (.ref t2)) (pO : IsPair s.heap to a b) (j1 : J1 n s.heap) (j2 : J2 n s.heap) (ex : us[n]? = some x) (ey : vs[n]? = some y)
    (q : ∀ k, IsZip k z ti to (rawInt s.heap.objs.size) → IsPair k to x y → J1 (n + 1) k → J2 (n + 1) k → IsPair k s.heap.objs.size x y → k.objs.size = s.heap.objs.size + 1 →
      (∀ c o, c ≠ z → c ≠ to → c ≠ t1 → c ≠ t2 → s.heap.get? c = some o → k.get? c = some o) → Q (.ref s.heap.objs.size) { s with heap := k }) :
    wpAny (model P w) A (Builtin.«zip.__next__» ⟨[.ref z], []⟩) (fun fin s' => ∃ v, fin = .done (.ret v) ∧ Q v s') E s := by
  obtain ⟨⟨n1, n2, n3, n4⟩, ⟨n5, n6, n7⟩, ⟨n8, n9⟩, n10⟩ := D.n
  have m1 := D.a1
  have m2 := D.a2
  simp only [List.mem_cons, not_or, List.not_mem_nil, not_false_eq_true, and_true] at m1 m2
  show wpAny _ _ (field (.ref z) 2 >>= _) _ _ _
  refine wpAny_bind (wpAny_field Z rfl (x := .bool false) rfl ?_)
  show wpAny _ _ (field (.ref z) 3 >>= _) _ _ _
  refine wpAny_bind (wpAny_field Z rfl (x := .ref ti) rfl ?_)
  refine wpAny_bind (wpAny_seqItems pI rfl ?_)
  show wpAny _ _ (Builtin.SmallTypes.ownedTupleIsFree (.ref z) >>= _) _ _ _
  refine wpAny_bind ?_
  unfold Builtin.SmallTypes.ownedTupleIsFree
  refine wpAny_bind (wpAny_field Z rfl (x := .none) rfl (wpAny_pure ?_))
  simp only [if_true]
  refine wpAny_bind (wpAny_rule ?_)
  refine wpAny_bind (wpAny_field Z rfl (x := .ref to) rfl ?_)
  refine wpAny_bind (wpAny_setField_rec Z (by simp) fun k1 Z1 b1 => ?_)
  replace Z1 : IsZip k1 z ti to .ellipsis := Z1
  refine wpAny_bind ?_
  simp only [List.zipIdx_cons, List.zipIdx_nil, List.forIn_cons, List.forIn_nil]
  refine wpAny_bind (wpAny_bind (wpAny_onRaise ?_))
  show wpAny _ _ (Builtin.SmallTypes.nextOf (.ref t1) >>= _) _ _ _
  refine wpAny_bind (S1.nx n _ _ _ _ x (S1.ext j1 b1.extBut (Ne.symm n3) (Ne.symm m1.1)) ex fun k2 j1b b2 => wpAny_pure ?_)
  have pO2 : IsPair k2 to a b := b2.extBut _ _ n8 (b1.extBut _ _ n2 pO)
  refine wpAny_bind (wpAny_seqItems pO2 rfl ?_)
  refine wpAny_bind (wpAny_updateSeq_pair pO2 fun k3 pO3 b3 => ?_)
  replace pO3 : IsPair k3 to x b := pO3
  refine wpAny_bind (wpAny_letGo (wpAny_pure ?_))
  refine wpAny_bind (wpAny_bind (wpAny_onRaise ?_))
  show wpAny _ _ (Builtin.SmallTypes.nextOf (.ref t2) >>= _) _ _ _
  have j2c : J2 n k3 := S2.ext (S2.ext (S2.ext j2 b1.extBut (Ne.symm n4) (Ne.symm m2.1)) b2.extBut n10 (Ne.symm m2.2.2.2.1)) b3.extBut n9 (Ne.symm m2.2.2.1)
  refine wpAny_bind (S2.nx n _ _ _ _ y j2c ey fun k4 j2d b4 => wpAny_pure ?_)
  have pO4 : IsPair k4 to x b := b4.extBut _ _ n9 pO3
  refine wpAny_bind (wpAny_seqItems pO4 rfl ?_)
  refine wpAny_bind (wpAny_updateSeq_pair pO4 fun k5 pO5 b5 => ?_)
  replace pO5 : IsPair k5 to x y := pO5
  refine wpAny_bind (wpAny_letGo (wpAny_pure (wpAny_pure ?_)))
  refine wpAny_bind (wpAny_seqItems pO5 rfl ?_)
  refine wpAny_bind (wpAny_newTuple ?_)
  have sz : k5.objs.size = s.heap.objs.size := by rw [b5.1, b4.1, b3.1, b2.1, b1.1]
  have Z5 : IsZip k5 z ti to .ellipsis := b5.extBut _ _ (Ne.symm n2) (b4.extBut _ _ (Ne.symm n4) (b3.extBut _ _ (Ne.symm n2) (b2.extBut _ _ (Ne.symm n3) Z1)))
  have kp5 : ∀ c o, c ≠ z → c ≠ to → c ≠ t1 → c ≠ t2 → s.heap.get? c = some o → k5.get? c = some o := fun c o c1 c2 c3 c4 e => b5.extBut _ _ c2 (b4.extBut _ _ c4 (b3.extBut _ _ c2 (b2.extBut _ _ c3 (b1.extBut _ _ c1 e))))
  have j1e : J1 (n + 1) k5 := S1.ext (S1.ext (S1.ext j1b b3.extBut n8 (Ne.symm m1.2.2.1)) b4.extBut (Ne.symm n10) (Ne.symm m1.2.2.2.2)) b5.extBut n8 (Ne.symm m1.2.2.1)
  have j2e : J2 (n + 1) k5 := S2.ext j2d b5.extBut n9 (Ne.symm m2.2.2.1)
  have ltz : z < k5.objs.size := Heap.lt_size Z5
  show wpAny _ _ (Builtin.SmallTypes.ownedTupleHandOut (.ref z) (.ref k5.objs.size) >>= _) _ _ _
  refine wpAny_bind ?_
  unfold Builtin.SmallTypes.ownedTupleHandOut
  have Z6 : IsZip (k5.push { cls := .type "tuple", data := .seq #[x, y] }) z ti to .ellipsis := Heap.get?_push_of_some _ Z5
  refine wpAny_bind (wpAny_setField_rec Z6 (by simp) fun k7 Z7 b7 => ?_)
  replace Z7 : IsZip k7 z ti to (rawInt k5.objs.size) := Z7
  refine wpAny_setField_rec Z7 (by simp) fun k8 Z8 b8 => ?_
  replace Z8 : IsZip k8 z ti to (rawInt k5.objs.size) := Z8
  have up : ∀ c o, c ≠ z → k5.get? c = some o → k8.get? c = some o := fun c o c1 e => b8.extBut _ _ c1 (b7.extBut _ _ c1 (Heap.get?_push_of_some _ e))
  have pT : IsPair k8 k5.objs.size x y := b8.extBut _ _ (Nat.ne_of_gt ltz) (b7.extBut _ _ (Nat.ne_of_gt ltz) (Heap.get?_push_size _ rfl))
  have sz8 : k8.objs.size = k5.objs.size + 1 := by rw [b8.1, b7.1, Heap.size_push]
  rw [sz] at Z8 pT sz8
  refine wpAny_pure ⟨_, rfl, ?_⟩
  show Q (.ref k5.objs.size) _
  rw [sz]
  refine q k8 Z8 (up _ _ n2 pO5) (S1.fr _ _ _ j1e fun b hb o e => up b o ?_ e) (S2.fr _ _ _ j2e fun b hb o e => up b o ?_ e) pT sz8 fun c o c1 c2 c3 c4 e => up c o c1 (kp5 c o c1 c2 c3 c4 e)
  · rcases hb with rfl | rfl
    · exact n3
    · exact m1.1
  · rcases hb with rfl | rfl
    · exact n4
    · exact m2.1
theorem zip2_end {A : Around} {s : Shared} {E : Value → Shared → Prop} {J1 J2 : Nat → Heap → Prop} {us vs : Array Value} {n : Nat} {a b : Value} {Q : Fin → Shared → Prop} (hh : A.handled = none) (D : Ap2 z ti to t1 t2 a1 a2) (S1 : Src P w t1 a1 J1 us) (S2 : Src P w t2 a2 J2 vs)
    (Z : IsZip s.heap z ti to .none) (pI : IsPair s.heap ti (.ref t1) (.ref t2)) (pO : IsPair s.heap to a b) (j1 : J1 n s.heap) (j2 : J2 n s.heap) (he : us[n]? = none ∨ vs[n]? = none)
    (q : ∀ k e, (∀ c o, c ≠ z → c ≠ to → c ≠ t1 → c ≠ t2 → s.heap.get? c = some o → k.get? c = some o) → (∃ o, k.get? e = some o ∧ o.cls = .type "StopIteration") → E (.ref e) { s with heap := k }) :
    wpAny (model P w) A (Builtin.«zip.__next__» ⟨[.ref z], []⟩) Q E s := by
  obtain ⟨⟨n1, n2, n3, n4⟩, ⟨n5, n6, n7⟩, ⟨n8, n9⟩, n10⟩ := D.n
  have m1 := D.a1
  have m2 := D.a2
  simp only [List.mem_cons, not_or, List.not_mem_nil, not_false_eq_true, and_true] at m1 m2
  show wpAny _ _ (field (.ref z) 2 >>= _) _ _ _
  refine wpAny_bind (wpAny_field Z rfl (x := .bool false) rfl ?_)
  show wpAny _ _ (field (.ref z) 3 >>= _) _ _ _
  refine wpAny_bind (wpAny_field Z rfl (x := .ref ti) rfl ?_)
  refine wpAny_bind (wpAny_seqItems pI rfl ?_)
  show wpAny _ _ (Builtin.SmallTypes.ownedTupleIsFree (.ref z) >>= _) _ _ _
  refine wpAny_bind ?_
  unfold Builtin.SmallTypes.ownedTupleIsFree
  refine wpAny_bind (wpAny_field Z rfl (x := .none) rfl (wpAny_pure ?_))
  simp only [if_true]
  refine wpAny_bind (wpAny_rule ?_)
  refine wpAny_bind (wpAny_field Z rfl (x := .ref to) rfl ?_)
  refine wpAny_bind (wpAny_setField_rec Z (by simp) fun k1 Z1 b1 => ?_)
  replace Z1 : IsZip k1 z ti to .ellipsis := Z1
  refine wpAny_bind ?_
  simp only [List.zipIdx_cons, List.zipIdx_nil, List.forIn_cons, List.forIn_nil]
  refine wpAny_bind (wpAny_bind (wpAny_onRaise ?_))
  show wpAny _ _ (Builtin.SmallTypes.nextOf (.ref t1) >>= _) _ _ _
  have j1a : J1 n k1 := S1.ext j1 b1.extBut (Ne.symm n3) (Ne.symm m1.1)
  cases ex : us[n]? with
  | none =>
    refine wpAny_bind (S1.en n _ _ _ _ hh j1a ex fun k2 e b2 hx => ?_)
    obtain ⟨oe, he1, he2⟩ := hx
    have Z2 : IsZip k2 z ti to .ellipsis := b2 _ _ (Ne.symm n3) Z1
    have hez : e ≠ z := fun c => by subst c; rw [Z2] at he1; cases he1; simp at he2
    refine wpAny_setField_rec Z2 (by simp) fun k3 _ b3 => q k3 e (fun c o c1 _ c3 _ f => b3.extBut _ _ c1 (b2 _ _ c3 (b1.extBut _ _ c1 f))) ⟨oe, b3.extBut _ _ hez he1, he2⟩
  | some x =>
    have ey : vs[n]? = none := by
      rcases he with h | h
      · rw [ex] at h; cases h
      · exact h
    refine wpAny_bind (S1.nx n _ _ _ _ x j1a ex fun k2 j1b b2 => wpAny_pure ?_)
    have pO2 : IsPair k2 to a b := b2.extBut _ _ n8 (b1.extBut _ _ n2 pO)
    refine wpAny_bind (wpAny_seqItems pO2 rfl ?_)
    refine wpAny_bind (wpAny_updateSeq_pair pO2 fun k3 pO3 b3 => ?_)
    refine wpAny_bind (wpAny_letGo (wpAny_pure ?_))
    refine wpAny_bind (wpAny_bind (wpAny_onRaise ?_))
    show wpAny _ _ (Builtin.SmallTypes.nextOf (.ref t2) >>= _) _ _ _
    have j2c : J2 n k3 := S2.ext (S2.ext (S2.ext j2 b1.extBut (Ne.symm n4) (Ne.symm m2.1)) b2.extBut n10 (Ne.symm m2.2.2.2.1)) b3.extBut n9 (Ne.symm m2.2.2.1)
    refine wpAny_bind (S2.en n _ _ _ _ hh j2c ey fun k4 e b4 hx => ?_)
    obtain ⟨oe, he1, he2⟩ := hx
    have Z4 : IsZip k4 z ti to .ellipsis := b4 _ _ (Ne.symm n4) (b3.extBut _ _ (Ne.symm n2) (b2.extBut _ _ (Ne.symm n3) Z1))
    have hez : e ≠ z := fun c => by subst c; rw [Z4] at he1; cases he1; simp at he2
    refine wpAny_setField_rec Z4 (by simp) fun k5 _ b5 => q k5 e (fun c o c1 c2 c3 c4 f => b5.extBut _ _ c1 (b4 _ _ c4 (b3.extBut _ _ c2 (b2.extBut _ _ c3 (b1.extBut _ _ c1 f))))) ⟨oe, b5.extBut _ _ hez he1, he2⟩
end
end
end L3
namespace L3
open PySem L2
open PySem.Spec hiding items?
open PyProof.Rows hiding St
theorem turnT {X : Cx} {pins : List (Addr × Obj)} {σ : L2.St} {H : Hp} {s : Shared} {g : Heap} {tk : Nat} {fp : List Addr} {T : Addr} {xs : List V} (I : Inv X pins σ H s) (hf : ∀ b ∈ fp, FpOk X pins H b)
    (k : ∀ b o, b ∉ fp → s.heap.get? b = some o → g.get? b = some o) (hT : s.heap.objs.size ≤ T) (new : ObjOk X.prog X.w (upd H T (.tup xs)) g T (.tup xs)) : Inv X pins σ (upd H T (.tup xs)) { s with heap := g, toks := tk } := by
  have hn : H T = none := I.hok.fresh hT
  have nfp : ∀ b u, H b = some u → b ∉ fp := fun b u e z => by rw [(hf b z).1] at e; cases e
  have nT : ∀ b u, H b = some u → b ≠ T := fun b u e => ne_of_none e hn
  refine I.step (g' := s.gens) (d' := s.drawn) (ch := fp) (fun b hb => ?_) (fun b o _ _ hc e _ => k b o hc e) (fun b o _ _ hc e _ => ⟨o.slots, k b o hc e⟩) (fun b o _ e n => ?_) (fun b o hc e => ⟨o, k b o hc e⟩)
    (fun b ys e => by rw [upd_ne (nT b _ e)]; exact e) (fun b o u e => by rw [upd_ne (nT b _ e)]; exact e) (fun b ps e => ⟨#[], by rw [upd_ne (nT b _ e), e]; simp⟩) (fun m hm => ?_) (fun b u e => ?_) I.bare
  · obtain ⟨f0, f1, f2, f3, f4, f5⟩ := hf b hb
    exact ⟨f3, f1, f4, f5⟩
  · rw [upd_ne (Nat.ne_of_lt (Nat.lt_of_lt_of_le (Heap.lt_size e) hT))]; exact n
  · obtain ⟨o, es, ep, ho, r⟩ := hm
    exact ⟨o, es, ep, k _ o (fun z => (hf _ z).2.1 rfl) ho, r⟩
  · by_cases hb : b = T
    · subst hb; rw [upd_same] at e; cases e; exact new
    · rw [upd_ne hb] at e
      refine (I.hok b u e).stay (fun c v hc q => k c v ?_ q) (fun c q => by rw [upd_ne (nT c _ q)]; exact q) fun c ys q => by rw [upd_ne (nT c _ q)]; exact q
      rcases hc with z | z
      · rw [z]; exact nfp b u e
      · exact nfp c _ z
theorem turnN {X : Cx} {pins : List (Addr × Obj)} {σ : L2.St} {H : Hp} {s : Shared} {g : Heap} {tk : Nat} {fp : List Addr} (I : Inv X pins σ H s) (hf : ∀ b ∈ fp, FpOk X pins H b)
    (k : ∀ b o, b ∉ fp → s.heap.get? b = some o → g.get? b = some o) : Inv X pins σ H { s with heap := g, toks := tk } := by
  have nfp : ∀ b u, H b = some u → b ∉ fp := fun b u e z => by rw [(hf b z).1] at e; cases e
  refine I.step (g' := s.gens) (d' := s.drawn) (ch := fp) (fun b hb => ?_) (fun b o _ _ hc e _ => k b o hc e) (fun b o _ _ hc e _ => ⟨o.slots, k b o hc e⟩) (fun b o _ e n => n) (fun b o hc e => ⟨o, k b o hc e⟩)
    (fun b ys e => e) (fun b o u e => e) (fun b ps e => ⟨#[], by rw [e]; simp⟩) (fun m hm => ?_) (fun b u e => ?_) I.bare
  · obtain ⟨f0, f1, f2, f3, f4, f5⟩ := hf b hb
    exact ⟨f3, f1, f4, f5⟩
  · obtain ⟨o, es, ep, ho, r⟩ := hm
    exact ⟨o, es, ep, k _ o (fun z => (hf _ z).2.1 rfl) ho, r⟩
  · refine (I.hok b u e).stay (fun c v hc q => k c v ?_ q) (fun c q => q) fun c ys q => q
    rcases hc with z | z
    · rw [z]; exact nfp b u e
    · exact nfp c _ z
inductive SK where
  | l | t
def SqK (k : SK) (K : PySem.W.Frag) (H : Hp) (a : Addr) (xs : List V) : Prop := match k with
  | .l => SqL K H a xs
  | .t => SqT K H a xs
def ItK (k : SK) (t a : Addr) (n : Nat) (g : Heap) : Prop := match k with
  | .l => g.IsListIter t a n
  | .t => g.IsTupleIter t a n
def AtK (k : SK) (g : Heap) (a : Addr) (us : Array Value) : Prop := match k with
  | .l => g.IsList a us
  | .t => g.IsTuple a us
def itO (k : SK) (a : Addr) : Obj := match k with
  | .l => { cls := .type "list_iterator", data := .fields #[.ref a, .int 0 0] }
  | .t => { cls := .type "tuple_iterator", data := .fields #[.ref a, .int 0 0] }
theorem src_k {P : Program} {w : World} (k : SK) (t a : Addr) (hne : a ≠ t) (us : Array Value) : Src P w t a (fun n g => ItK k t a n g ∧ AtK k g a us) us := by
  cases k
  · exact src_list t a hne us
  · exact src_tup t a hne us
theorem sqk_at {X : Cx} {pins : List (Addr × Obj)} {σ : L2.St} {H : Hp} {s : Shared} {k : SK} {a : Addr} {xs : List V} (I : Inv X pins σ H s) (h : SqK k X.K H a xs) : ∃ its : List Value, Vals xs its ∧ AtK k s.heap a its.toArray := by
  cases k
  · obtain ⟨its, rv, p, _⟩ := I.list h
    exact ⟨its, rv, p.isList⟩
  · obtain ⟨its, rv, p, _⟩ := I.tuple h
    exact ⟨its, rv, p⟩
theorem sqk_inj {X : Cx} {pins : List (Addr × Obj)} {σ : L2.St} {H : Hp} {s : Shared} {k : SK} {a : Addr} {xs ys : List V} (I : Inv X pins σ H s) (h : SqK k X.K H a xs) (h' : SqK k X.K H a ys) : xs = ys := by
  cases k
  · exact I.list_inj h h'
  · exact I.tuple_inj h h'
theorem iter_k {P : Program} {w : World} {A : Around} {s : Shared} {E : Value → Shared → Prop} {k : SK} {a : Addr} {us : Array Value} {Q : Value → Shared → Prop} (h : AtK k s.heap a us) (q : Q (.ref s.heap.objs.size) { s with heap := s.heap.push (itO k a) }) : wpAny (model P w) A (pyIter (.ref a)) Q E s := by
  cases k
  · exact wpAny_pyIter_list h q
  · exact wpAny_pyIter_tuple h q
theorem AtK.push {k : SK} {g : Heap} {a : Addr} {us : Array Value} (h : AtK k g a us) (o : Obj) : AtK k (g.push o) a us := by
  cases k
  · obtain ⟨o', e, r⟩ := h; exact ⟨o', Heap.get?_push_of_some _ e, r⟩
  · obtain ⟨o', e, r⟩ := h; exact ⟨o', Heap.get?_push_of_some _ e, r⟩
theorem AtK.some {k : SK} {g : Heap} {a : Addr} {us : Array Value} (h : AtK k g a us) : ∃ o, g.get? a = Option.some o := by
  cases k
  · obtain ⟨o', e, r⟩ := h; exact ⟨o', e⟩
  · obtain ⟨o', e, r⟩ := h; exact ⟨o', e⟩
theorem itk_new {k : SK} {g h : Heap} {t a : Addr} (e : g.get? t = Option.some (itO k a)) : ItK k t a 0 g := by
  cases k
  · exact ⟨_, e, rfl, rfl⟩
  · exact ⟨_, e, rfl, rfl⟩
theorem itk_fr {k : SK} {t a : Addr} {n : Nat} {g g' : Heap} (h : ItK k t a n g) (kp : ∀ o, g.get? t = Option.some o → g'.get? t = Option.some o) : ItK k t a n g' := by
  cases k
  · obtain ⟨o, e, r⟩ := h; exact ⟨o, kp o e, r⟩
  · obtain ⟨o, e, r⟩ := h; exact ⟨o, kp o e, r⟩
theorem itk_obj {k : SK} {t a : Addr} {n : Nat} {g : Heap} (h : ItK k t a n g) : ∃ o, g.get? t = Option.some o ∧ ∀ v, o.data ≠ .cell v := by
  cases k
  · obtain ⟨o, e, c, d⟩ := h; exact ⟨o, e, fun v z => by rw [d] at z; cases z⟩
  · obtain ⟨o, e, c, d⟩ := h; exact ⟨o, e, fun v z => by rw [d] at z; cases z⟩
def Itz (K : PySem.W.Frag) (k1 k2 : SK) (a1 a2 : Addr) : It :=
  ⟨fun i H => ∃ xs ys x y, SqK k1 K H a1 xs ∧ SqK k2 K H a2 ys ∧ xs[i]? = some x ∧ ys[i]? = some y,
   fun i H v H' => ∃ T x y, H T = none ∧ v = .ref T ∧ H' = upd H T (.tup [x, y]) ∧ (∀ xs, SqK k1 K H a1 xs → xs[i]? = some x) ∧ ∀ ys, SqK k2 K H a2 ys → ys[i]? = some y,
   fun i H => ∃ xs ys, SqK k1 K H a1 xs ∧ SqK k2 K H a2 ys ∧ (xs.length ≤ i ∨ ys.length ≤ i)⟩
def ZipTn (z ti to t1 t2 a1 a2 : Addr) (k1 k2 : SK) (i : Nat) (h : Heap) : Prop := IsZip h z ti to .none ∧ IsPair h ti (.ref t1) (.ref t2) ∧ (∃ a b, IsPair h to a b) ∧ ItK k1 t1 a1 i h ∧ ItK k2 t2 a2 i h
theorem turn_zip {P : Program} {w : World} {K : PySem.W.Frag} {elts : List Expr} {kx : Nat} {pos : Pos} {z ti to t1 t2 a1 a2 : Addr} (k1 k2 : SK) (D : Ap2 z ti to t1 t2 a1 a2) :
    Turn P w K (.Tuple elts kx pos) (Itz K k1 k2 a1 a2) [z, ti, to, t1, t2] z (ZipTn z ti to t1 t2 a1 a2 k1 k2) where
  mem := by simp
  obj := fun i h st b hb => by
    obtain ⟨Z, pI, ⟨a, b', pO⟩, i1, i2⟩ := st
    simp only [List.mem_cons, List.not_mem_nil, or_false] at hb
    rcases hb with rfl | rfl | rfl | rfl | rfl
    · exact ⟨_, Z, fun v e => by cases e⟩
    · exact ⟨_, pI, fun v e => by cases e⟩
    · exact ⟨_, pO, fun v e => by cases e⟩
    · exact itk_obj i1
    · exact itk_obj i2
  keep := fun i h h' st k => by
    obtain ⟨Z, pI, ⟨a, b', pO⟩, i1, i2⟩ := st
    exact ⟨k z (by simp) _ Z, k ti (by simp) _ pI, ⟨a, b', k to (by simp) _ pO⟩, itk_fr i1 (k t1 (by simp)), itk_fr i2 (k t2 (by simp))⟩
  item := by
    intro X hP hw hK hc i pins s σ H E I hf st hg
    subst hP hw hK
    obtain ⟨Z, pI, ⟨a, b', pO⟩, i1, i2⟩ := st
    obtain ⟨xs, ys, x, y, q1, q2, ex, ey⟩ := hg
    obtain ⟨us, r1, l1⟩ := sqk_at I q1
    obtain ⟨vs, r2, l2⟩ := sqk_at I q2
    obtain ⟨u, eu, ru⟩ := r1.get ex
    obtain ⟨v, ev, rv⟩ := r2.get ey
    have m1 := D.a1
    have m2 := D.a2
    simp only [List.mem_cons, not_or, List.not_mem_nil, not_false_eq_true, and_true] at m1 m2
    obtain ⟨⟨n1, n2, n3, n4⟩, ⟨n5, n6, n7⟩, ⟨n8, n9⟩, n10⟩ := D.n
    have tz : s.TypeIs (.ref z) "zip" := ⟨_, Z, rfl⟩
    unfold pyNext
    refine wpAny_bind (wpAny_attempt (wpAny_callSpecial?_slot (name := Str.ofString "__next__") tz F.slot_zip_next (wpAny_call_entry F.slot_zip_next tz F.entry_zip_next (zip2_item D (src_k k1 t1 a1 m1.2.2.2.1 us.toArray) (src_k k2 t2 a2 m2.2.2.2.2 vs.toArray) Z pI pO ⟨i1, l1⟩ ⟨i2, l2⟩ (x := u) (y := v) (by simpa using eu) (by simpa using ev) fun k Z2 pO2 j1 j2 pT szk kp => wpAny_pure ⟨_, rfl, ?_⟩) (F.args_zip_next_1 _))))
    refine wpAny_letOwnedTupleGo_zip (s := { s with heap := k }) Z2 fun k' Z3 b3 => ?_
    have hT : s.heap.objs.size ≠ z := Nat.ne_of_gt (Heap.lt_size Z)
    have kp3 : ∀ b o, b ∉ [z, ti, to, t1, t2] → s.heap.get? b = some o → k'.get? b = some o := fun b o hb e => by
      simp only [List.mem_cons, not_or, List.not_mem_nil, not_false_eq_true, and_true] at hb
      exact b3.extBut _ _ hb.1 (kp b o hb.1 hb.2.2.1 hb.2.2.2.1 hb.2.2.2.2 e)
    refine ⟨.ref s.heap.objs.size, upd H s.heap.objs.size (.tup [x, y]), turnT (s := s) (tk := s.toks) I hf kp3 (Nat.le_refl _) ?_, rfl, ⟨s.heap.objs.size, x, y, I.hok.fresh (Nat.le_refl _), rfl, rfl, ?_, ?_⟩, ?_, ?_⟩
    · refine ⟨Nat.le_of_ble_eq_true rfl, [u, v], .cons ru (.cons rv .nil), ?_⟩
      exact ⟨_, b3.extBut _ _ hT pT, rfl, _, rfl⟩
    · intro xs' q'
      rw [sqk_inj I q' q1]; exact ex
    · intro ys' q'
      rw [sqk_inj I q' q2]; exact ey
    · refine ⟨Z3, b3.extBut _ _ n1 (kp _ _ n1 n5 n6 n7 pI), ⟨_, _, b3.extBut _ _ n2 pO2⟩, itk_fr j1.1 fun o e => b3.extBut _ _ n3 e, itk_fr j2.1 fun o e => b3.extBut _ _ n4 e⟩
    · intro b hb
      have : b ≠ s.heap.objs.size := by
        obtain ⟨o, e, _⟩ : ∃ o, s.heap.get? b = some o ∧ True := by
          simp only [List.mem_cons, List.not_mem_nil, or_false] at hb
          rcases hb with rfl | rfl | rfl | rfl | rfl
          · exact ⟨_, Z, trivial⟩
          · exact ⟨_, pI, trivial⟩
          · exact ⟨_, pO, trivial⟩
          · obtain ⟨o, e, _⟩ := itk_obj i1; exact ⟨o, e, trivial⟩
          · obtain ⟨o, e, _⟩ := itk_obj i2; exact ⟨o, e, trivial⟩
        exact Nat.ne_of_lt (Heap.lt_size e)
      rw [upd_ne this]
      exact (hf b hb).1
  done := by
    intro X hP hw hK hc i pins s σ H E I hf st hg
    subst hP hw hK
    obtain ⟨Z, pI, ⟨a, b', pO⟩, i1, i2⟩ := st
    obtain ⟨xs, ys, q1, q2, he⟩ := hg
    obtain ⟨us, r1, l1⟩ := sqk_at I q1
    obtain ⟨vs, r2, l2⟩ := sqk_at I q2
    have e1 := r1.length
    have e2 := r2.length
    have m1 := D.a1
    have m2 := D.a2
    simp only [List.mem_cons, not_or, List.not_mem_nil, not_false_eq_true, and_true] at m1 m2
    have tz : s.TypeIs (.ref z) "zip" := ⟨_, Z, rfl⟩
    unfold pyNext
    refine wpAny_bind (wpAny_attempt (wpAny_callSpecial?_slot (name := Str.ofString "__next__") tz F.slot_zip_next (wpAny_call_entry F.slot_zip_next tz F.entry_zip_next (zip2_end (I.ok.hd hc) D (src_k k1 t1 a1 m1.2.2.2.1 us.toArray) (src_k k2 t2 a2 m2.2.2.2.2 vs.toArray) Z pI pO ⟨i1, l1⟩ ⟨i2, l2⟩ ?_ fun k e kp hx => ?_) (F.args_zip_next_1 _))))
    · rcases he with h | h
      · left; simp; omega
      · right; simp; omega
    · obtain ⟨o, ho, hc2⟩ := hx
      refine wpAny_bind (wpAny_isInstance (T := "StopIteration") (b := true) ⟨o, ho, hc2⟩ isSubtype_stop ?_)
      refine wpAny_pure ⟨rfl, turnN (s := s) (tk := s.toks) I hf fun b o hb e => ?_⟩
      simp only [List.mem_cons, not_or, List.not_mem_nil, not_false_eq_true, and_true] at hb
      exact kp b o hb.1 hb.2.2.1 hb.2.2.2.1 hb.2.2.2.2 e
  self := fun _ _ _ _ _ st h => wpAny_pyIter_zip st.1 h
end L3
namespace L3
open PySem L2
open PySem.Spec hiding items?
open PyProof.Rows hiding St
abbrev zn1 (h : Heap) (k1 : SK) (a1 : Addr) : Heap := h.push (itO k1 a1)
abbrev zn2 (h : Heap) (k1 k2 : SK) (a1 a2 : Addr) : Heap := (zn1 h k1 a1).push (itO k2 a2)
abbrev zn3 (h : Heap) (k1 k2 : SK) (a1 a2 : Addr) : Heap := (zn2 h k1 k2 a1 a2).push { cls := .type "tuple", data := .seq #[.ref h.objs.size, .ref (zn1 h k1 a1).objs.size] }
abbrev zn4 (h : Heap) (k1 k2 : SK) (a1 a2 : Addr) : Heap := (zn3 h k1 k2 a1 a2).push { cls := .type "tuple", data := .seq #[.none, .none] }
abbrev zn5 (h : Heap) (k1 k2 : SK) (a1 a2 : Addr) : Heap := (zn4 h k1 k2 a1 a2).push { cls := .type "zip", data := .fields #[.none, .bool false, .bool false, .ref (zn2 h k1 k2 a1 a2).objs.size, .ref (zn3 h k1 k2 a1 a2).objs.size] }
theorem zip_meets (k1 k2 : SK) (a1 a2 : Addr) (us vs : Array Value) : Meets (Builtin.«zip.__new__» ⟨[.type "zip", .ref a1, .ref a2], []⟩) (fun _ R s => AtK k1 s.heap a1 us ∧ AtK k2 s.heap a2 vs ∧
    R (.ok (.ret (.ref (zn4 s.heap k1 k2 a1 a2).objs.size))) { s with heap := zn5 s.heap k1 k2 a1 a2 }) :=
  .of_wp fun P w A R s h => by
    obtain ⟨hp, g, d, tk, os⟩ := s
    obtain ⟨c1, c2, h⟩ := h
    have hsub := sub_zip
    have L1 : AtK k1 (Shared.heap ⟨hp, g, d, tk, os⟩) a1 us := c1
    have L2 : AtK k2 (Shared.heap ⟨hp.push (itO k1 a1), g, d, tk, os⟩) a2 vs := AtK.push c2 _
    wp_walk using iter_k L1, iter_k L2
    exact ⟨_, rfl, h⟩
theorem zip_call {P : Program} {w : World} {A : Around} {s : Shared} {E : Value → Shared → Prop} {k1 k2 : SK} {a1 a2 : Addr} {us vs : Array Value} {Q : Value → Shared → Prop} (c1 : AtK k1 s.heap a1 us) (c2 : AtK k2 s.heap a2 vs)
    (q : ∀ g n, n = s.heap.objs.size → IsZip g (n + 4) (n + 2) (n + 3) .none → IsPair g (n + 2) (.ref n) (.ref (n + 1)) → IsPair g (n + 3) .none .none → ItK k1 n a1 0 g → ItK k2 (n + 1) a2 0 g → (∀ c o, s.heap.get? c = some o → g.get? c = some o) → Q (.ref (n + 4)) { s with heap := g }) :
    wpAny (model P w) A (call (.type "zip") [.ref a1, .ref a2]) Q E s := by
  refine callType_new F.called_zip (by decide) (F.typeCall_zip_2 _ _) (F.newCall_zip_2 _ _) (fun ob => F.args_object_init_3 ob _ _) F.entry_zip_new (zip_meets k1 k2 a1 a2 us vs) ⟨c1, c2, ?_⟩
  have y1 : (zn1 s.heap k1 a1).objs.size = s.heap.objs.size + 1 := Heap.size_push ..
  have y2 : (zn2 s.heap k1 k2 a1 a2).objs.size = s.heap.objs.size + 2 := by rw [Heap.size_push, y1]
  have y3 : (zn3 s.heap k1 k2 a1 a2).objs.size = s.heap.objs.size + 3 := by rw [Heap.size_push, y2]
  have y4 : (zn4 s.heap k1 k2 a1 a2).objs.size = s.heap.objs.size + 4 := by rw [Heap.size_push, y3]
  have e5 : (zn5 s.heap k1 k2 a1 a2).get? (zn4 s.heap k1 k2 a1 a2).objs.size = some _ := Heap.get?_push_size _ rfl
  have e4 : (zn5 s.heap k1 k2 a1 a2).get? (zn3 s.heap k1 k2 a1 a2).objs.size = some _ := Heap.get?_push_of_some _ (Heap.get?_push_size _ rfl)
  have e3 : (zn5 s.heap k1 k2 a1 a2).get? (zn2 s.heap k1 k2 a1 a2).objs.size = some _ := Heap.get?_push_of_some _ (Heap.get?_push_of_some _ (Heap.get?_push_size _ rfl))
  have e2 : (zn5 s.heap k1 k2 a1 a2).get? (zn1 s.heap k1 a1).objs.size = some (itO k2 a2) := Heap.get?_push_of_some _ (Heap.get?_push_of_some _ (Heap.get?_push_of_some _ (Heap.get?_push_size _ (by cases k2 <;> rfl))))
  have e1 : (zn5 s.heap k1 k2 a1 a2).get? s.heap.objs.size = some (itO k1 a1) := Heap.get?_push_of_some _ (Heap.get?_push_of_some _ (Heap.get?_push_of_some _ (Heap.get?_push_of_some _ (Heap.get?_push_size _ (by cases k1 <;> rfl)))))
  show _ ∧ _
  rw [y2, y3, y4] at e5
  rw [y1, y2] at e3
  rw [y3] at e4
  rw [y1] at e2
  rw [y4]
  exact ⟨⟨_, e5, rfl⟩, q _ _ rfl e5 e3 e4 (itk_new (h := s.heap) e1) (itk_new (h := s.heap) e2) fun c o x => Heap.get?_push_of_some _ (Heap.get?_push_of_some _ (Heap.get?_push_of_some _ (Heap.get?_push_of_some _ (Heap.get?_push_of_some _ x))))⟩
def kOf : D → SK
  | .tup _ => .t
  | _ => .l
def SqG (k : SK) (G : Hp) (a : Addr) (vs : List V) : Prop := match k with
  | .l => Rd G a (.lst vs)
  | .t => G a = some (.tup vs)
theorem sqg_k {K : PySem.W.Frag} {k : SK} {G F H : Hp} (P : Spl G F H) {a : Addr} {vs : List V} (h : SqG k G a vs) : SqK k K H a vs := by
  cases k
  · exact .inl (rd_up P h)
  · exact SqT.of (P.get h)
theorem items_k {α : List (Option Addr)} {H : Hp} {st : Store} {d : D} {v : V} {xs : List D} (S : StRel α st H) (r : Rep α H d v) (e : items? st d = some xs) : ∃ p vs, v = .ref p ∧ Reps α H xs vs ∧ SqG (kOf d) H p vs := by
  cases d <;> try (cases e; done)
  · unfold items? at e
    simp only at e
    split at e
    · rename_i ys q
      cases e
      obtain ⟨a, ea, vs, h1, h2⟩ := S.lstAt q
      exact ⟨a, vs, rep_at ea r, h2, Rd.of h1⟩
    · cases e
  · cases e
    unfold Rep at r
    obtain ⟨a, vs, rfl, _, h1, h2⟩ := r
    exact ⟨a, vs, rfl, h2, h1⟩
  · cases e
    unfold Rep at r
    obtain ⟨a, vs, rfl, _, h1, h2⟩ := r
    exact ⟨a, vs, rfl, h2, h1⟩
def zipD (xs ys : List D) : List D := (xs.zip ys).map fun p => .tup [p.1, p.2]
theorem zipD_len {xs ys : List D} : (zipD xs ys).length = min xs.length ys.length := by unfold zipD; simp
theorem zipD_get {xs ys : List D} {n : Nat} {d : D} (e : (zipD xs ys)[n]? = some d) : ∃ x y, xs[n]? = some x ∧ ys[n]? = some y ∧ d = .tup [x, y] := by
  unfold zipD at e
  rw [List.getElem?_map] at e
  cases q : (xs.zip ys)[n]? with
  | none => rw [q] at e; cases e
  | some p =>
    rw [q] at e
    cases e
    rw [List.getElem?_zip_eq_some] at q
    exact ⟨p.1, p.2, q.1, q.2, rfl⟩
theorem it_zip {K : PySem.W.Frag} {k1 k2 : SK} {a1 a2 : Addr} {α : List (Option Addr)} {G : Hp} {ok : Store → Prop} {xs ys : List D}
    (h : ∀ α' G' st', Step α G α' G' → StRel α' st' G' → ok st' → ∃ vs ws, SqG k1 G' a1 vs ∧ SqG k2 G' a2 ws ∧ Reps α' G' xs vs ∧ Reps α' G' ys ws) : ItOk (Itz K k1 k2 a1 a2) α G ok (zipD xs ys) where
  stop := fun n α' G' F' H' st' s P S o hn => by
    obtain ⟨vs, ws, h1, h2, r1, r2⟩ := h α' G' st' s S o
    rw [zipD_len] at hn
    refine ⟨vs, ws, sqg_k P h1, sqg_k P h2, ?_⟩
    have := r1.length
    have := r2.length
    omega
  go := fun n d α' G' F' H' st' s P S o hn => by
    obtain ⟨vs, ws, h1, h2, r1, r2⟩ := h α' G' st' s S o
    obtain ⟨x, y, ex, ey, rfl⟩ := zipD_get hn
    obtain ⟨v, ev, _⟩ := r1.get ex
    obtain ⟨u, eu, _⟩ := r2.get ey
    exact ⟨vs, ws, v, u, sqg_k P h1, sqg_k P h2, ev, eu⟩
  yld := fun n d α' G' F' H' st' x H'' s P S o hn y => by
    obtain ⟨vs, ws, h1, h2, r1, r2⟩ := h α' G' st' s S o
    obtain ⟨c, e, ec, ee, rfl⟩ := zipD_get hn
    obtain ⟨T, v, u, hT, rfl, rfl, y1, y2⟩ := y
    obtain ⟨v', ev, rv⟩ := r1.get ec
    obtain ⟨u', eu, ru⟩ := r2.get ee
    rw [y1 vs (sqg_k P h1)] at ev
    rw [y2 ws (sqg_k P h2)] at eu
    cases ev
    cases eu
    have hg := (P.none hT).1
    refine ⟨upd G' T (.tup [v, u]), Step.laid hg, P.laid hT, S.laid hg, ?_⟩
    unfold Rep
    refine ⟨T, [v, u], rfl, S.notin hg, upd_same, ?_⟩
    unfold Reps
    refine ⟨v, [u], rfl, rv.step (Step.laid hg), ?_⟩
    unfold Reps
    exact ⟨u, [], rfl, ru.step (Step.laid hg), by unfold Reps; rfl⟩
def zipR (ds : List D) (st1 : Store) (K : List D → (Store → Prop) → Store → Prop) : Prop := match ds with
  | [x, y] => (match items? st1 x, items? st1 y with
    | some xs, some ys => K (zipD xs ys) (fun st' => items? st' x = some xs ∧ items? st' y = some ys) st1
    | _, _ => False)
  | _ => False
@[irreducible] def xZipR : List D → Store → (List D → (Store → Prop) → Store → Prop) → Prop := zipR
def xZip (t : DA) : DI := fun σ st K => t σ st fun ds st1 => xZipR ds st1 K
theorem ap2_new {n a1 a2 : Nat} (h1 : a1 < n) (h2 : a2 < n) : Ap2 (n + 4) (n + 2) (n + 3) n (n + 1) a1 a2 := by
  have e0 : ([n + 4, n + 2, n + 3, n, n + 1] : List Nat).Nodup := by
    simp only [List.nodup_cons, List.mem_cons, not_or, List.not_mem_nil, not_false_eq_true, and_true, List.nodup_nil]
    omega
  have e1 : ∀ a : Nat, a < n → a ∉ ([n + 4, n + 2, n + 3, n, n + 1] : List Nat) := fun a ha => by
    simp only [List.mem_cons, not_or, List.not_mem_nil, not_false_eq_true, and_true]
    omega
  exact ⟨e0, e1 a1 h1, e1 a2 h2⟩
theorem di_zip {X : Cx} {a b : Expr} {elts : List Expr} {kx : Nat} {tpos p pos : Pos} {t : DA} (hg : Gl X "zip") (hm : X.mg "zip" = none) (ha : PA X [a, b] (LA t)) (hs : starEach [a, b] X.env = [(false, eval a X.env), (false, eval b X.env)]) (hs2 : starEach [b] X.env = [(false, eval b X.env)]) :
    PI X (.Tuple elts kx tpos) (.Call (.Name "zip" p) [a, b] [] pos) (LI (xZip t)) := by
  intro pins s σ H R I h
  obtain ⟨α, σd, st, K, G, F, P, RS, S, t, k⟩ := h
  refine Call_ (ld_blt I hg hm boot_zip (PyProof.Rows.callWith_type1 (thn (ha pos pins s σ H (fun vs H1 => ∃ ds α1 G1 st1, Step α G α1 G1 ∧ Spl G1 F H1 ∧ StRel α1 st1 G1 ∧ Reps α1 G1 ds vs ∧ xZipR ds st1 K) I ⟨α, σd, st, _, G, F, P, RS, S, t, fun ds st1 q α1 G1 H1 vs s1 P1 S1 r1 => ⟨ds, α1, G1, st1, s1, P1, S1, r1, q⟩⟩) fun us s1 ⟨vs, H1, I1, rv, ds, α1, G1, st1, w1, P1, S1, r1, q⟩ => ?_) (by rw [hs, hs2]) (by rw [hs2]; rfl)))
  unfold xZipR zipR at q
  split at q
  · rename_i x y
    split at q
    · rename_i xs ys ex ey
      obtain ⟨v1, v2, rfl, q1, q2⟩ := reps2 r1 rfl
      obtain ⟨p1, vs1, rfl, g1, c1⟩ := items_k S1 q1 ex
      obtain ⟨p2, vs2, rfl, g2, c2⟩ := items_k S1 q2 ey
      obtain ⟨u1, u2, rfl, ru1, ru2⟩ := vals2 rv
      cases ru1
      cases ru2
      obtain ⟨its1, _, l1⟩ := sqk_at I1 (sqg_k P1 c1)
      obtain ⟨its2, _, l2⟩ := sqk_at I1 (sqg_k P1 c2)
      refine zip_call l1 l2 fun g n hn Z pI pO i1 i2 kp => ?_
      obtain ⟨o1, eo1⟩ := l1.some
      obtain ⟨o2, eo2⟩ := l2.some
      refine wpAny_pyIter_zip (s := { s1 with heap := g }) Z ?_
      refine ⟨n + 4, [n + 4, n + 2, n + 3, n, n + 1], _, _, H1, rfl, I1.kept (t' := s1.toks) kp, turn_zip (kOf x) (kOf y) (ap2_new (by rw [hn]; exact Heap.lt_size eo1) (by rw [hn]; exact Heap.lt_size eo2)), ⟨Z, pI, ⟨_, _, pO⟩, i1, i2⟩, fun b hb => ?_, ?_⟩
      · have hb' : s1.heap.objs.size ≤ b := by
          simp only [List.mem_cons, List.not_mem_nil, or_false] at hb
          rcases hb with rfl | rfl | rfl | rfl | rfl <;> (rw [← hn]; first | exact Nat.le_refl _ | exact Nat.le_add_right _ _)
        exact I1.fpOk hb' (I1.hok.fresh hb')
      · refine k _ _ st1 q _ α1 G1 H1 w1 P1 S1 (it_zip fun α' G' st' s' S' o => ?_)
        obtain ⟨p1', ws1, e1, f1, d1⟩ := items_k S' (q1.step s') o.1
        obtain ⟨p2', ws2, e2, f2, d2⟩ := items_k S' (q2.step s') o.2
        cases e1
        cases e2
        exact ⟨ws1, ws2, d1, d2, f1, f2⟩
    · exact q.elim
  · exact q.elim
theorem st_zip {st : Store} {x y : D} {xs ys : List D} {K : List D → (Store → Prop) → Store → Prop} (ex : items? st x = some xs) (ey : items? st y = some ys) (k : ∀ ok : Store → Prop, (∀ st', items? st' x = some xs → items? st' y = some ys → ok st') → K (zipD xs ys) ok st) : xZipR [x, y] st K := by
  unfold xZipR zipR
  simp only [ex, ey]
  exact k _ fun st' h1 h2 => ⟨h1, h2⟩
theorem j_zip {X : Cx} {a b : Expr} {elts : List Expr} {kx : Nat} {tpos p pos : Pos} {ar : DA} (hg : Gl X "zip") (hm : X.mg "zip" = none) (ha : JA X [a, b] ar) (hs : notStar a = true := by rfl) (hs2 : notStar b = true := by rfl) : JI X (.Tuple elts kx tpos) (.Call (.Name "zip" p) [a, b] [] pos) (xZip ar) := by
  unfold JI; unfold JA at ha; exact di_zip hg hm ha (by rw [star_cons hs, star_cons hs2]; rfl) (star_cons hs2)
end L3
namespace L3
open PySem L2
open PySem.Spec hiding items?
open PyProof.Rows hiding St
theorem pre_head (f : Nat → Int) : ∀ n, preSum f (n + 1) = f 0 + preSum (fun i => f (i + 1)) n
  | 0 => by show preSum f 0 + f 0 = f 0 + 0; show (0 : Int) + f 0 = f 0 + 0; omega
  | n + 1 => by
    have h := pre_head f n
    show preSum f (n + 1) + f (n + 1) = f 0 + (preSum (fun i => f (i + 1)) n + f (n + 1))
    rw [h]; omega
theorem pre_sum : ∀ ns : List Int, preSum (fun i => ns.getD i 0) ns.length = ns.sum
  | [] => rfl
  | n :: ns => by
    rw [List.length_cons, pre_head]
    have : (fun i => (n :: ns).getD (i + 1) 0) = fun i => ns.getD i 0 := by funext i; simp
    rw [this, pre_sum ns, List.sum_cons]
    rfl
section
variable {X : Cx}
def dSumR : DRA := fun ds st K => match ds with | [.lst xs] => (match ints? xs with | some ns => K (.int ns.sum) st | none => False) | _ => False
theorem vals_ints : ∀ {ns : List Int} {us : List Value}, Vals (ns.map V.int) us → ∀ (i : Nat) (u : Value), us[i]? = some u → ∃ t, u = Value.int (ns.getD i 0) t
  | [], _, .nil, i, u, e => by simp at e
  | n :: ns, _, .cons h t, 0, u, e => by
    obtain ⟨tk, rfl⟩ := h
    simp at e
    exact ⟨tk, by rw [← e]; rfl⟩
  | n :: ns, _, .cons h t, i + 1, u, e => by
    obtain ⟨tk, q⟩ := vals_ints t i u (by simpa using e)
    exact ⟨tk, by rw [q]; simp⟩
theorem c_sum (hc : X.calm = true) : CallR X (.builtin "sum") (LRA dSumR) := fun pins s σ H xs us Q I rs ⟨α, ds, st, K, G, F', P, r, S, q, k⟩ => by
  unfold dSumR at q
  split at q
  · rename_i ys
    split at q
    · rename_i ns e
      obtain ⟨v, rfl, r1⟩ := reps1 r rfl
      unfold Rep at r1
      obtain ⟨a, vs, rfl, na, h1, h2⟩ := r1
      obtain ⟨u, rfl, ru⟩ := vals1 rs
      cases ru
      have hv := ints_reps h2 e
      subst hv
      obtain ⟨z, its, n, rv, hl, eo⟩ := Inv.lstR I (rd_up P h1)
      have isL : s.heap.IsList a its.toArray := ⟨_, eo, rfl, n, rfl⟩
      refine call_sum_walkAnyB (wpAny_pyIter_list isL ?_)
      have hne : a ≠ s.heap.objs.size := Nat.ne_of_lt (Heap.lt_size eo)
      refine ⟨s.heap.objs.size, _, _, _, _, _, _, fun i => ns.getD i 0, rfl, (Walks.list (A := X.A.in1) (I.ok.hd hc) _ a hne its.toArray).toS, ⟨⟨_, Heap.get?_push_size _ rfl, rfl, rfl⟩, ⟨_, Heap.get?_push_of_some _ eo, rfl, n, rfl⟩⟩, ?_, ?_, ?_⟩
      · intro b hb
        rw [Heap.size_push]
        simp only [List.mem_cons, List.not_mem_nil, or_false] at hb
        rcases hb with rfl | rfl
        · exact Nat.lt_succ_self _
        · exact Nat.lt_succ_of_lt (Heap.lt_size eo)
      · intro i w hw
        obtain ⟨t, e⟩ := vals_ints rv i w (by simpa using hw)
        exact .inl ⟨t, e⟩
      · intro s' t' hm
        have kp : ∀ b o, s.heap.get? b = some o → s'.heap.get? b = some o := fun b o q => hm.heap b o (by
          intro hb
          have : b = s.heap.objs.size := by simpa using hb
          exact absurd (Heap.lt_size q) (by rw [this]; exact Nat.lt_irrefl _)) (Heap.get?_push_of_some _ q)
        have es : s' = { s with heap := s'.heap, toks := s'.toks } := by
          have g := hm.gens
          have d := hm.drawn
          have o := hm.os
          cases s'
          cases s
          simp_all
        have en : preSum (fun i => ns.getD i 0) its.toArray.size = ns.sum := by
          have : its.toArray.size = ns.length := by rw [List.size_toArray, ← hl, List.length_map]
          rw [this]; exact pre_sum ns
        rw [en, es]
        exact ⟨.int ns.sum, H, I.kept (t' := s'.toks) kp, ⟨t', rfl⟩, k.here P q S (by unfold Rep; rfl)⟩
    · exact q.elim
  · exact q.elim
@[irreducible] def xSum : DRA := dSumR
theorem x_sum (hc : X.calm = true) : CallR X (.builtin "sum") (LRA xSum) := by unfold xSum; exact c_sum hc
end
theorem ints_map : ∀ ns : List Int, ints? (ns.map D.int) = some ns
  | [] => rfl
  | n :: ns => by simp [ints?, ints_map ns]
theorem st_sum {st : Store} {K : DK} {xs : List D} {ns : List Int} (h : ints? xs = some ns) (k : K (.int ns.sum) st) : xSum [.lst xs] st K := by unfold xSum dSumR; simp only [h]; exact k
end L3
namespace L3
open PySem L2
open PySem.Spec hiding items?
open PyProof.Rows hiding St
section
variable {X : Cx} {pos : Pos}
theorem reps3 {α : List (Option Addr)} {H : Hp} {ds : List D} {xs : List V} {d e f : D} (r : Reps α H ds xs) (q : ds = [d, e, f]) : ∃ v u t, xs = [v, u, t] ∧ Rep α H d v ∧ Rep α H e u ∧ Rep α H f t := by
  subst q
  unfold Reps at r
  obtain ⟨v, q, rfl, h1, h2⟩ := r
  obtain ⟨u, t, rfl, h3, h4⟩ := reps2 h2 rfl
  exact ⟨v, u, t, rfl, h1, h3, h4⟩
def tgThree (i j k : Nat) : DTg := fun d σ => match d with | .tup [x, y, z] => some (((σ.set i (some x)).set j (some y)).set k (some z)) | _ => none
theorem dg_three {tg : Expr} {i j k : Nat} (h : PG X tg (gTup X.K 3 (gCons (gName i) (gCons (gName j) (gCons (gName k) gNil))))) : PG X tg (LG (tgThree i j k)) := PG.imp h fun v σ H Q ⟨α, σd, st, d, K, G, F, P, R, S, r, ⟨σ', e, q⟩, kk⟩ => by
  unfold tgThree at e
  split at e
  · rename_i x y z
    cases e
    unfold Rep at r
    obtain ⟨a, vs, rfl, na, h1, h2⟩ := r
    obtain ⟨v1, v2, v3, rfl, r1, r2, r3⟩ := reps3 h2 rfl
    exact ⟨a, _, rfl, .of (P.get h1), rfl, v1, _, rfl, v2, _, rfl, v3, _, rfl, rfl, kk.here P q (((R.set i r1).set j r2).set k r3) S⟩
  · cases e
theorem j_tg3 {i j k n : Nat} {x y z : Str} {px py pz : Pos} (hc : X.calm = true) (hN : X.N.Nodup) (hx : Loc X.env.scope x) (hf : X.fn x = true ∨ X.env.scope.names.lookup x = some .local) (hy : Loc X.env.scope y) (hg : X.fn y = true ∨ X.env.scope.names.lookup y = some .local) (hz : Loc X.env.scope z) (hh : X.fn z = true ∨ X.env.scope.names.lookup z = some .local)
    (hi : X.N[i]? = some x := by rfl) (hj : X.N[j]? = some y := by rfl) (hk : X.N[k]? = some z := by rfl) : JG X (.Tuple [.Name x px, .Name y py, .Name z pz] n pos) (tgThree i j k) := by
  unfold JG; exact dg_three (pg_tup hc (pgs_cons (pg_name hN hi hx hf) (pgs_cons (pg_name hN hj hy hg) (pgs_cons (pg_name hN hk hz hh) pgs_nil))))
end
end L3
namespace L3
open PySem L2 PySem.SeqAt
open PySem.Spec hiding items?
open PyProof.Rows hiding St
section
variable {X : Cx} {pins : List (Addr × Obj)} {σ : L2.St} {H : Hp} {s : Shared} {α : List (Option Addr)}
theorem ne_scal {A : Around} {d e : D} {x y : V} {u v : Value} (hd : scD d = true) (he : scD e = true) (rd : Rep α H d x) (re : Rep α H e y) (rx : RelV x u) (ry : RelV y v) : RcNeAt A s u v (!eqD d e) := by
  cases d <;> cases e <;> try (first | (cases hd; done) | (cases he; done))
  all_goals (unfold Rep at rd re; subst rd re)
  all_goals (first | (obtain ⟨t, rfl⟩ := rx; obtain ⟨t', rfl⟩ := ry) | (obtain ⟨t, rfl⟩ := rx; cases ry) | (cases rx; obtain ⟨t, rfl⟩ := ry) | (cases rx; cases ry))
  all_goals unfold eqD
  · exact RcNeAt.none_none
  · exact RcNeAt.none_bool _
  · exact RcNeAt.none_int _ _
  · exact RcNeAt.none_str _ _
  · exact RcNeAt.bool_none _
  · exact RcNeAt.bool_bool _ _
  · exact RcNeAt.bool_int _ _ _
  · exact RcNeAt.bool_str _ _ _
  · exact RcNeAt.int_none _ _
  · exact RcNeAt.int_bool _ _ _
  · exact RcNeAt.int_int _ _ _ _
  · exact RcNeAt.int_str _ _ _ _
  · exact RcNeAt.str_none _ _
  · exact RcNeAt.str_bool _ _ _
  · exact RcNeAt.str_int _ _ _ _
  · exact RcNeAt.str_str _ _ _ _
theorem ne_lst_sc (I : Inv X pins σ H s) {A : Around} {xs : List D} {e : D} {x y : V} {u v : Value} (he : scD e = true) (rd : Rep α H (.lst xs) x) (re : Rep α H e y) (rx : RelV x u) (ry : RelV y v) (hu : A.units < cLine) :
    RcNeAt A s u v (!eqD (.lst xs) e) ∧ RcNeAt A s v u (!eqD e (.lst xs)) := by
  obtain ⟨a, vs, its, rfl, _, _, hl⟩ := lst_is I rd rx
  cases e <;> try (cases he; done)
  all_goals (unfold Rep at re; subst re)
  all_goals (first | (obtain ⟨t, rfl⟩ := ry) | (cases ry))
  all_goals unfold eqD
  · exact ⟨RcNeAt.list_none hl hu, RcNeAt.none_list hl hu⟩
  · exact ⟨RcNeAt.list_bool _ hl hu, RcNeAt.bool_list _ hl hu⟩
  · exact ⟨RcNeAt.list_int _ _ hl hu, RcNeAt.int_list _ _ hl hu⟩
  · exact ⟨RcNeAt.list_str _ _ hl hu, RcNeAt.str_list _ _ hl hu⟩
theorem ne_tup_sc (I : Inv X pins σ H s) {A : Around} {xs : List D} {e : D} {x y : V} {u v : Value} (he : scD e = true) (rd : Rep α H (.tup xs) x) (re : Rep α H e y) (rx : RelV x u) (ry : RelV y v) (hu : A.units < cLine) :
    RcNeAt A s u v (!eqD (.tup xs) e) ∧ RcNeAt A s v u (!eqD e (.tup xs)) := by
  obtain ⟨a, vs, its, rfl, _, _, hl⟩ := tup_is I rd rx
  cases e <;> try (cases he; done)
  all_goals (unfold Rep at re; subst re)
  all_goals (first | (obtain ⟨t, rfl⟩ := ry) | (cases ry))
  all_goals unfold eqD
  · exact ⟨RcNeAt.tuple_none hl hu, RcNeAt.none_tuple hl hu⟩
  · exact ⟨RcNeAt.tuple_bool _ hl hu, RcNeAt.bool_tuple _ hl hu⟩
  · exact ⟨RcNeAt.tuple_int _ _ hl hu, RcNeAt.int_tuple _ _ hl hu⟩
  · exact ⟨RcNeAt.tuple_str _ _ hl hu, RcNeAt.str_tuple _ _ hl hu⟩
theorem ne_ok (I : Inv X pins σ H s) (n : Nat) (A : Around) (d e : D) (x y : V) (u v : Value) (hd : pl n d = true) (he : pl n e = true) (rd : Rep α H d x) (re : Rep α H e y) (rx : RelV x u) (ry : RelV y v) (hu : A.units + n < cLine) : RcNeAt A s u v (!eqD d e) := by
  cases n with
  | zero =>
    refine ne_scal ?_ ?_ rd re rx ry
    · cases d <;> first | rfl | (cases hd)
    · cases e <;> first | rfl | (cases he)
  | succ n =>
    have hu0 : A.units < cLine := by omega
    have hin : A.in1.units + n < cLine := by rw [Around.in1_units]; omega
    cases d <;> try (cases hd; done)
    case lst xs =>
      cases e <;> try (cases he; done)
      case lst ys =>
        obtain ⟨a, vs, its, rfl, r1, v1, l1⟩ := lst_is I rd rx
        obtain ⟨b, ws, jts, rfl, r2, v2, l2⟩ := lst_is I re ry
        have e1 := r1.length
        have e2 := v1.length
        have e3 := r2.length
        have e4 := v2.length
        unfold eqD
        by_cases hlen : xs.length = ys.length
        · rw [eqDs_all hlen]
          have hsz : its.toArray.size = jts.toArray.size := by simp only [List.size_toArray]; omega
          have hx : xs.length = its.toArray.size := by simp only [List.size_toArray]; omega
          rw [hx]
          refine RcNeAt.lists l1 l2 hsz hu0 fun j h1 h2 => ?_
          obtain ⟨p, _, q1, q2⟩ := rep_get r1 v1 j (by simpa using h1)
          obtain ⟨p', _, q1', q2'⟩ := rep_get r2 v2 j (by simpa using h2)
          exact (eq_ok I n A.in1 _ _ p p' _ _ (all_getD (by unfold pl at hd; exact hd) j) (all_getD (by unfold pl at he; exact he) j) q1 q1' (by simpa using q2) (by simpa using q2') hin).2
        · rw [eqDs_len hlen]
          exact RcNeAt.lists_lengths l1 l2 (by simp only [List.size_toArray, bne_iff_ne, ne_eq]; omega) hu0
      case tup ys =>
        obtain ⟨a, vs, its, rfl, r1, v1, l1⟩ := lst_is I rd rx
        obtain ⟨b, ws, jts, rfl, r2, v2, l2⟩ := tup_is I re ry
        unfold eqD
        exact RcNeAt.list_tuple l1 l2 hu0
      all_goals exact (ne_lst_sc I rfl rd re rx ry hu0).1
    case tup xs =>
      cases e <;> try (cases he; done)
      case tup ys =>
        obtain ⟨a, vs, its, rfl, r1, v1, l1⟩ := tup_is I rd rx
        obtain ⟨b, ws, jts, rfl, r2, v2, l2⟩ := tup_is I re ry
        have e1 := r1.length
        have e2 := v1.length
        have e3 := r2.length
        have e4 := v2.length
        unfold eqD
        have key := RcNeAt.tuples (e := fun j => eqD (xs.getD j .non) (ys.getD j .non)) l1 l2 hu0 fun j h1 h2 => by
          obtain ⟨p, _, q1, q2⟩ := rep_get r1 v1 j (by simpa using h1)
          obtain ⟨p', _, q1', q2'⟩ := rep_get r2 v2 j (by simpa using h2)
          exact (eq_ok I n A.in1 _ _ p p' _ _ (all_getD (by unfold pl at hd; exact hd) j) (all_getD (by unfold pl at he; exact he) j) q1 q1' (by simpa using q2) (by simpa using q2') hin).2
        by_cases hlen : xs.length = ys.length
        · rw [eqDs_all hlen]
          have hsz : its.toArray.size = jts.toArray.size := by simp only [List.size_toArray]; omega
          have hx : xs.length = its.toArray.size := by simp only [List.size_toArray]; omega
          rw [hsz, Nat.min_self, beq_self_eq_true, Bool.and_true, ← hsz, ← hx] at key
          exact key
        · rw [eqDs_len hlen]
          have hne : (its.toArray.size == jts.toArray.size) = false := by simp only [List.size_toArray, beq_eq_false_iff_ne, ne_eq]; omega
          rw [hne, Bool.and_false] at key
          exact key
      case lst ys =>
        obtain ⟨a, vs, its, rfl, r1, v1, l1⟩ := tup_is I rd rx
        obtain ⟨b, ws, jts, rfl, r2, v2, l2⟩ := lst_is I re ry
        unfold eqD
        exact RcNeAt.tuple_list l1 l2 hu0
      all_goals exact (ne_tup_sc I rfl rd re rx ry hu0).1
    all_goals
      cases e <;> try (cases he; done)
      case lst ys => exact (ne_lst_sc I rfl re rd ry rx hu0).2
      case tup ys => exact (ne_tup_sc I rfl re rd ry rx hu0).2
      all_goals exact ne_scal rfl rfl rd re rx ry
def dNeD : DR2 := fun x y st K => pl 40 x = true ∧ pl 40 y = true ∧ K (.bl (!eqD x y)) st
theorem o_neD {k : Nat} (hr : Room k X.A) : OpR X (compareOp .NotEq) (LR dNeD) := fun pins s σ H x y v u Q I rx ry ⟨α, d, e, st, K, G, F', P, r1, r2, S, q, k⟩ => by
  have hu := hr.units
  exact ne_ok I 40 X.A d e x y v u q.1 q.2.1 (r1.mono P.same) (r2.mono P.same) rx ry (by omega) _ _ _ _ ⟨.bl (!eqD d e), H, I, rfl, k.here P q.2.2 S (by unfold Rep; rfl)⟩
@[irreducible] def xNeD : DR2 := dNeD
theorem x_neD {k : Nat} (hr : Room k X.A) : OpR X (compareOp .NotEq) (LR xNeD) := by unfold xNeD; exact o_neD hr
end
theorem st_neD {st : Store} {K : DK} {d e : D} (h1 : pl 40 d = true) (h2 : pl 40 e = true) (k : K (.bl (!eqD d e)) st) : xNeD d e st K := by unfold xNeD; exact ⟨h1, h2, k⟩
theorem neD_same {st : Store} {K : DK} {d : D} (h : pl 40 d = true) (k : K (.bl false) st) : xNeD d d st K := st_neD h h (by rw [eqD_refl 40 d h]; exact k)
theorem ref_items {st : Store} {n : Nat} {xs : List D} (h : items? st (.ref n) = some xs) : st[n]? = some (.lst xs) := by
  unfold items? at h
  simp only at h
  split at h
  · rename_i q; cases h; exact q
  · cases h
theorem st_seqE {st : Store} {d : D} {xs : List D} {K : List D → (Store → Prop) → Store → Prop} (h : items? st d = some xs) (k : ∀ ok : Store → Prop, (∀ st', items? st' d = some xs → ok st') → K xs ok st) : xSeq d st K := by
  cases d with
  | lst ys => cases h; exact st_seqL (k _ fun _ _ => trivial)
  | tup ys => cases h; exact st_seqT (k _ fun _ _ => trivial)
  | ref n =>
    have e := ref_items h
    unfold xSeq seqR
    simp only [e]
    exact k _ fun st' h' => ref_items h'
  | _ => cases h
theorem relabel_cf {env : Env} : ∀ (l : List (Str × NameKind)) (x : Str), (l.lookup x = some .cell ∨ l.lookup x = some .free) →
    ((l.map fun (n, k) => if (k == .free && env.scope.kind == .function && env.kindOf n == some .cell) then (n, .cell) else (n, k)).lookup x = some .cell ∨ (l.map fun (n, k) => if (k == .free && env.scope.kind == .function && env.kindOf n == some .cell) then (n, .cell) else (n, k)).lookup x = some .free)
  | [], x, h => by simp at h
  | (n, k) :: l, x, h => by
    rw [List.map_cons]
    dsimp only
    by_cases hx : x = n
    · subst hx
      rw [List.lookup_cons_self] at h
      split
      · rw [List.lookup_cons_self]; exact .inl rfl
      · rw [List.lookup_cons_self]; exact h
    · have hb : (x == n) = false := by simpa using hx
      have e1 : List.lookup x ((n, k) :: l) = List.lookup x l := by rw [List.lookup_cons, hb]
      rw [e1] at h
      have ih := relabel_cf (env := env) l x h
      split
      · rw [List.lookup_cons, hb]; exact ih
      · rw [List.lookup_cons, hb]; exact ih
theorem CompSc.lookC {X0 : Cx} {scope0 scope : Scope} {Nc0 Nc : List Str} {C : Addr} {s : Shared} {H : Hp} {ex : List Addr} {fr : List (Option Nat)} (h : compOk scope0 Nc0 scope Nc fr = true) : CompSc (cxC X0 scope0 Nc0 C s H ex) scope Nc fr := by
  unfold compOk at h
  simp only [Bool.and_eq_true] at h
  obtain ⟨⟨⟨⟨⟨h1, h2⟩, h3⟩, h4⟩, h5⟩, h6⟩ := h
  refine ⟨by simpa using h1, fun x hx hk => ?_, fun x hx hk => ?_, fun x hx hk => ?_, by simpa using h5, fun i j x e1 e2 => ?_⟩
  · have := List.all_eq_true.mp h2 x hx
    rw [hk] at this
    simpa using this
  · have := List.all_eq_true.mp h3 x hx
    rw [hk] at this
    simpa using this
  · have := List.all_eq_true.mp h4 x hx
    rw [hk] at this
    have z : scope0.names.lookup x.1 = some .cell ∨ scope0.names.lookup x.1 = some .free := by simpa using this
    exact relabel_cf _ _ z
  · have hi : i < fr.length := (List.getElem?_eq_some_iff.mp e2).1
    have := List.all_eq_true.mp h6 i (List.mem_range.mpr hi)
    rw [e1, e2] at this
    simp only [Bool.and_eq_true, Bool.or_eq_true, beq_iff_eq] at this
    exact ⟨this.1.1, this.1.2, relabel_cf _ _ this.2⟩
end L3
namespace L3
open PySem L2
open PySem.Spec hiding items?
open PyProof.Rows hiding St
section
variable {X : Cx}
end
theorem for_range {tg : DTg} {body : DS} {E : DEnds} (n : Nat) (I : Nat → DEnv → Store → Prop) (hend : ∀ σ st, I n σ st → E.nx σ st)
    (hstep : ∀ (j : Nat) σ st (rest : List D), j < n → I j σ st → (∀ σ' st', I (j + 1) σ' st' → forD tg body (fun _ => True) E rest σ' st') → ∃ σ1, tg (.int (j : Int)) σ = some σ1 ∧ body { E with nx := forD tg body (fun _ => True) E rest, ct := forD tg body (fun _ => True) E rest, bk := E.nx } σ1 st)
    {σ : DEnv} {st : Store} (h0 : I 0 σ st) : forD tg body (fun _ => True) E (rangeD 0 n) σ st := by
  refine for_ind (fun rest σ st => ∃ j : Nat, j ≤ n ∧ rest = (List.range (n - j)).map (fun i => D.int (((j + i : Nat) : Int))) ∧ I j σ st) ?_ ?_ _ _ _ ⟨0, Nat.zero_le _, by unfold rangeD; simp, h0⟩
  · rintro σ st ⟨j, hj, hr, hI⟩
    have : n - j = 0 := by
      cases q : n - j with
      | zero => rfl
      | succ m => rw [q, List.range_succ_eq_map] at hr; cases hr
    have hjn : j = n := by omega
    subst hjn
    exact ⟨trivial, hend σ st hI⟩
  · rintro d rest σ st ⟨j, hj, hr, hI⟩ next
    cases q : n - j with
    | zero => rw [q] at hr; cases hr
    | succ m =>
      rw [q, List.range_succ_eq_map, List.map_cons, List.map_map] at hr
      simp only [List.cons.injEq] at hr
      obtain ⟨rfl, hrest⟩ := hr
      refine ⟨trivial, hstep j σ st rest (by omega) hI fun σ' st' h' => next σ' st' ⟨j + 1, by omega, ?_, h'⟩⟩
      have : n - (j + 1) = m := by omega
      rw [this, hrest]
      refine List.map_congr_left fun i _ => ?_
      show D.int (((j + (i + 1) : Nat) : Int)) = D.int (((j + 1 + i : Nat) : Int))
      congr 2; omega
end L3
namespace L3
open PySem L2
open PySem.Spec hiding items?
open PyProof.Rows hiding St
section
variable {X : Cx}
end
section
variable {X : Cx} {pos : Pos}
end
end L3
namespace L3
open PySem L2
open PySem.Spec hiding items?
open PyProof.Rows hiding St
section
variable {X : Cx}
end
section
variable {st : Store} {K : DK} {d : D} {b : Bool}
end
end L3
namespace L3
open PySem L2
open PySem.Spec hiding items?
open PyProof.Rows hiding St
section
variable {X : Cx}
end
end L3
namespace L3
open PySem L2
open PySem.Spec hiding items?
open PyProof.Rows hiding St
open AutoSeq1 (wpAny_loadPart')
end L3
namespace L3
open PySem L2
open PySem.Spec hiding items?
open PyProof.Rows hiding St
section
variable {prog : Program} {w : World} {A : Around} {E : Value → Shared → Prop} {s : Shared}
end
section
variable {X : Cx} {tg : Expr}
end
end L3
namespace L3
open PySem L2
open PySem.Spec hiding items?
open PyProof.Rows hiding St
section
variable {X : Cx}
end
end L3
namespace L3
open PySem L2
open PySem.Spec hiding items?
open PyProof.Rows hiding St
section
variable {X : Cx}
end
end L3
namespace L3
open PySem L2
open PySem.Spec hiding items?
open PyProof.Rows hiding St
open PySem PySem.Spec L2 PySem.SeqAt
section
variable {X : Cx}
end
end L3
namespace L3
open PySem L2
open PySem.Spec hiding items?
open PyProof.Rows hiding St
section
variable {X : Cx}
end
end L3
namespace L3
open PySem L2
open PySem.Spec hiding items?
open PyProof.Rows hiding St
section
variable {X : Cx}
end
section
variable {X : Cx}
end
end L3
namespace L3
open PySem L2
open PySem.Spec hiding items?
open PyProof.Rows hiding St
section
variable {X : Cx}
end
end L3
namespace L3
open PySem L2
open PySem.Spec hiding items?
open PyProof.Rows hiding St
section
variable {X : Cx}
end
end L3
namespace L3
open PySem L2
open PySem.Spec hiding items?
open PyProof.Rows hiding St
abbrev IsTri (h : Heap) (T : Addr) (a b c : Value) : Prop := h.get? T = some { cls := .type "tuple", data := .seq #[a, b, c] }
section
variable {P : Program} {w : World}
theorem wpAny_updateSeq_tri {A : Around} {s : Shared} {E : Value → Shared → Prop} {T : Addr} {a b c x : Value} {k : Nat} {Q : Unit → Shared → Prop} (hT : IsTri s.heap T a b c)
    (h : ∀ h', h'.get? T = some { cls := .type "tuple", data := .seq ((#[a, b, c] : Array Value).setIfInBounds k x) } → Heap.SameBut T s.heap h' → Q () { s with heap := h' }) :
    wpAny (model P w) A (updateSeq T (·.setIfInBounds k x)) Q E s := by
  refine wpAny_updateSeq hT rfl (h _ ?_ (Heap.SameBut.update ..))
  rw [Heap.get?_update_self _ hT rfl]
  simp [Obj.mapSeq]
structure Ap3 (z ti to t1 t2 t3 a1 a2 a3 : Nat) : Prop where
  f : (ti ≠ z ∧ to ≠ z ∧ t1 ≠ z ∧ t2 ≠ z ∧ t3 ≠ z) ∧ (ti ≠ to ∧ ti ≠ t1 ∧ ti ≠ t2 ∧ ti ≠ t3) ∧ (to ≠ t1 ∧ to ≠ t2 ∧ to ≠ t3) ∧ (t1 ≠ t2 ∧ t1 ≠ t3 ∧ t2 ≠ t3)
  a1 : a1 ≠ z ∧ a1 ≠ to ∧ a1 ≠ t1 ∧ a1 ≠ t2 ∧ a1 ≠ t3
  a2 : a2 ≠ z ∧ a2 ≠ to ∧ a2 ≠ t1 ∧ a2 ≠ t2 ∧ a2 ≠ t3
  a3 : a3 ≠ z ∧ a3 ≠ to ∧ a3 ≠ t1 ∧ a3 ≠ t2 ∧ a3 ≠ t3
section
variable {z ti to t1 t2 t3 a1 a2 a3 : Addr}
theorem zip3_item {A : Around} {s : Shared} {E : Value → Shared → Prop} {J1 J2 J3 : Nat → Heap → Prop} {us vs ws : Array Value} {n : Nat} {x y u a b c : Value} {Q : Value → Shared → Prop} (D : Ap3 z ti to t1 t2 t3 a1 a2 a3) (S1 : Src P w t1 a1 J1 us) (S2 : Src P w t2 a2 J2 vs) (S3 : Src P w t3 a3 J3 ws)
    (Z : IsZip s.heap z ti to .none) (pI : IsTri s.heap ti (.ref t1) (.ref t2) (.ref t3)) (pO : IsTri s.heap to a b c) (j1 : J1 n s.heap) (j2 : J2 n s.heap) (j3 : J3 n s.heap) (ex : us[n]? = some x) (ey : vs[n]? = some y) (ez : ws[n]? = some u)
    (q : ∀ k, IsZip k z ti to (rawInt s.heap.objs.size) → IsTri k to x y u → J1 (n + 1) k → J2 (n + 1) k → J3 (n + 1) k → IsTri k s.heap.objs.size x y u → k.objs.size = s.heap.objs.size + 1 →
      (∀ c o, c ≠ z → c ≠ to → c ≠ t1 → c ≠ t2 → c ≠ t3 → s.heap.get? c = some o → k.get? c = some o) → Q (.ref s.heap.objs.size) { s with heap := k }) :
    wpAny (model P w) A (Builtin.«zip.__next__» ⟨[.ref z], []⟩) (fun fin s' => ∃ v, fin = .done (.ret v) ∧ Q v s') E s := by
  obtain ⟨⟨n1, n2, n3, n4, n4'⟩, ⟨n5, n6, n7, n7'⟩, ⟨n8, n9, n9'⟩, n10, n11, n12⟩ := D.f
  obtain ⟨p1, p2, p3, p4, p5⟩ := D.a1
  obtain ⟨q1, q2, q3, q4, q5⟩ := D.a2
  obtain ⟨r1, r2, r3, r4, r5⟩ := D.a3
  show wpAny _ _ (field (.ref z) 2 >>= _) _ _ _
  refine wpAny_bind (wpAny_field Z rfl (x := .bool false) rfl ?_)
  show wpAny _ _ (field (.ref z) 3 >>= _) _ _ _
  refine wpAny_bind (wpAny_field Z rfl (x := .ref ti) rfl ?_)
  refine wpAny_bind (wpAny_seqItems pI rfl ?_)
  show wpAny _ _ (Builtin.SmallTypes.ownedTupleIsFree (.ref z) >>= _) _ _ _
  refine wpAny_bind ?_
  unfold Builtin.SmallTypes.ownedTupleIsFree
  refine wpAny_bind (wpAny_field Z rfl (x := .none) rfl (wpAny_pure ?_))
  simp only [if_true]
  refine wpAny_bind (wpAny_rule ?_)
  refine wpAny_bind (wpAny_field Z rfl (x := .ref to) rfl ?_)
  refine wpAny_bind (wpAny_setField_rec Z (by simp) fun k1 Z1 b1 => ?_)
  replace Z1 : IsZip k1 z ti to .ellipsis := Z1
  refine wpAny_bind ?_
  simp only [List.zipIdx_cons, List.zipIdx_nil, List.forIn_cons, List.forIn_nil]
  refine wpAny_bind (wpAny_bind (wpAny_onRaise ?_))
  show wpAny _ _ (Builtin.SmallTypes.nextOf (.ref t1) >>= _) _ _ _
  refine wpAny_bind (S1.nx n _ _ _ _ x (S1.ext j1 b1.extBut (Ne.symm n3) (Ne.symm p1)) ex fun k2 j1b b2 => wpAny_pure ?_)
  have pO2 : IsTri k2 to a b c := b2.extBut _ _ n8 (b1.extBut _ _ n2 pO)
  refine wpAny_bind (wpAny_seqItems pO2 rfl ?_)
  refine wpAny_bind (wpAny_updateSeq_tri pO2 fun k3 pO3 b3 => ?_)
  replace pO3 : IsTri k3 to x b c := pO3
  refine wpAny_bind (wpAny_letGo (wpAny_pure ?_))
  refine wpAny_bind (wpAny_bind (wpAny_onRaise ?_))
  show wpAny _ _ (Builtin.SmallTypes.nextOf (.ref t2) >>= _) _ _ _
  have j2c : J2 n k3 := S2.ext (S2.ext (S2.ext j2 b1.extBut (Ne.symm n4) (Ne.symm q1)) b2.extBut n10 (Ne.symm q3)) b3.extBut n9 (Ne.symm q2)
  refine wpAny_bind (S2.nx n _ _ _ _ y j2c ey fun k4 j2d b4 => wpAny_pure ?_)
  have pO4 : IsTri k4 to x b c := b4.extBut _ _ n9 pO3
  refine wpAny_bind (wpAny_seqItems pO4 rfl ?_)
  refine wpAny_bind (wpAny_updateSeq_tri pO4 fun k5 pO5 b5 => ?_)
  replace pO5 : IsTri k5 to x y c := pO5
  refine wpAny_bind (wpAny_letGo (wpAny_pure ?_))
  refine wpAny_bind (wpAny_bind (wpAny_onRaise ?_))
  show wpAny _ _ (Builtin.SmallTypes.nextOf (.ref t3) >>= _) _ _ _
  have j3c : J3 n k5 := S3.ext (S3.ext (S3.ext (S3.ext (S3.ext j3 b1.extBut (Ne.symm n4') (Ne.symm r1)) b2.extBut n11 (Ne.symm r3)) b3.extBut n9' (Ne.symm r2)) b4.extBut n12 (Ne.symm r4)) b5.extBut n9' (Ne.symm r2)
  refine wpAny_bind (S3.nx n _ _ _ _ u j3c ez fun k6 j3d b6 => wpAny_pure ?_)
  have pO6 : IsTri k6 to x y c := b6.extBut _ _ n9' pO5
  refine wpAny_bind (wpAny_seqItems pO6 rfl ?_)
  refine wpAny_bind (wpAny_updateSeq_tri pO6 fun k7 pO7 b7 => ?_)
  replace pO7 : IsTri k7 to x y u := pO7
  refine wpAny_bind (wpAny_letGo (wpAny_pure (wpAny_pure ?_)))
  refine wpAny_bind (wpAny_seqItems pO7 rfl ?_)
  refine wpAny_bind (wpAny_newTuple ?_)
  have sz : k7.objs.size = s.heap.objs.size := by rw [b7.1, b6.1, b5.1, b4.1, b3.1, b2.1, b1.1]
  have kp7 : ∀ c o, c ≠ z → c ≠ to → c ≠ t1 → c ≠ t2 → c ≠ t3 → s.heap.get? c = some o → k7.get? c = some o := fun c o c1 c2 c3 c4 c5 e => b7.extBut _ _ c2 (b6.extBut _ _ c5 (b5.extBut _ _ c2 (b4.extBut _ _ c4 (b3.extBut _ _ c2 (b2.extBut _ _ c3 (b1.extBut _ _ c1 e))))))
  have Z7 : IsZip k7 z ti to .ellipsis := b7.extBut _ _ (Ne.symm n2) (b6.extBut _ _ (Ne.symm n4') (b5.extBut _ _ (Ne.symm n2) (b4.extBut _ _ (Ne.symm n4) (b3.extBut _ _ (Ne.symm n2) (b2.extBut _ _ (Ne.symm n3) Z1)))))
  have j1e : J1 (n + 1) k7 := S1.ext (S1.ext (S1.ext (S1.ext (S1.ext j1b b3.extBut n8 (Ne.symm p2)) b4.extBut (Ne.symm n10) (Ne.symm p4)) b5.extBut n8 (Ne.symm p2)) b6.extBut (Ne.symm n11) (Ne.symm p5)) b7.extBut n8 (Ne.symm p2)
  have j2e : J2 (n + 1) k7 := S2.ext (S2.ext (S2.ext j2d b5.extBut n9 (Ne.symm q2)) b6.extBut (Ne.symm n12) (Ne.symm q5)) b7.extBut n9 (Ne.symm q2)
  have j3e : J3 (n + 1) k7 := S3.ext j3d b7.extBut n9' (Ne.symm r2)
  have ltz : z < k7.objs.size := Heap.lt_size Z7
  show wpAny _ _ (Builtin.SmallTypes.ownedTupleHandOut (.ref z) (.ref k7.objs.size) >>= _) _ _ _
  refine wpAny_bind ?_
  unfold Builtin.SmallTypes.ownedTupleHandOut
  have Z8 : IsZip (k7.push { cls := .type "tuple", data := .seq #[x, y, u] }) z ti to .ellipsis := Heap.get?_push_of_some _ Z7
  refine wpAny_bind (wpAny_setField_rec Z8 (by simp) fun k9 Z9 b9 => ?_)
  replace Z9 : IsZip k9 z ti to (rawInt k7.objs.size) := Z9
  refine wpAny_setField_rec Z9 (by simp) fun k10 Z10 b10 => ?_
  replace Z10 : IsZip k10 z ti to (rawInt k7.objs.size) := Z10
  have up : ∀ c o, c ≠ z → k7.get? c = some o → k10.get? c = some o := fun c o c1 e => b10.extBut _ _ c1 (b9.extBut _ _ c1 (Heap.get?_push_of_some _ e))
  have pT : IsTri k10 k7.objs.size x y u := b10.extBut _ _ (Nat.ne_of_gt ltz) (b9.extBut _ _ (Nat.ne_of_gt ltz) (Heap.get?_push_size _ rfl))
  have sz10 : k10.objs.size = k7.objs.size + 1 := by rw [b10.1, b9.1, Heap.size_push]
  rw [sz] at Z10 pT sz10
  refine wpAny_pure ⟨_, rfl, ?_⟩
  show Q (.ref k7.objs.size) _
  rw [sz]
  refine q k10 Z10 (up _ _ n2 pO7) (S1.fr _ _ _ j1e fun b hb o e => up b o ?_ e) (S2.fr _ _ _ j2e fun b hb o e => up b o ?_ e) (S3.fr _ _ _ j3e fun b hb o e => up b o ?_ e) pT sz10 fun c o c1 c2 c3 c4 c5 e => up c o c1 (kp7 c o c1 c2 c3 c4 c5 e)
  · rcases hb with rfl | rfl
    · exact n3
    · exact p1
  · rcases hb with rfl | rfl
    · exact n4
    · exact q1
  · rcases hb with rfl | rfl
    · exact n4'
    · exact r1
theorem zip3_end {A : Around} {s : Shared} {E : Value → Shared → Prop} {J1 J2 J3 : Nat → Heap → Prop} {us vs ws : Array Value} {n : Nat} {a b c : Value} {Q : Fin → Shared → Prop} (hh : A.handled = none) (D : Ap3 z ti to t1 t2 t3 a1 a2 a3) (S1 : Src P w t1 a1 J1 us) (S2 : Src P w t2 a2 J2 vs) (S3 : Src P w t3 a3 J3 ws)
    (Z : IsZip s.heap z ti to .none) (pI : IsTri s.heap ti (.ref t1) (.ref t2) (.ref t3)) (pO : IsTri s.heap to a b c) (j1 : J1 n s.heap) (j2 : J2 n s.heap) (j3 : J3 n s.heap) (he : us[n]? = none ∨ vs[n]? = none ∨ ws[n]? = none)
    (q : ∀ k e, (∀ c o, c ≠ z → c ≠ to → c ≠ t1 → c ≠ t2 → c ≠ t3 → s.heap.get? c = some o → k.get? c = some o) → (∃ o, k.get? e = some o ∧ o.cls = .type "StopIteration") → E (.ref e) { s with heap := k }) :
    wpAny (model P w) A (Builtin.«zip.__next__» ⟨[.ref z], []⟩) Q E s := by
  obtain ⟨⟨n1, n2, n3, n4, n4'⟩, ⟨n5, n6, n7, n7'⟩, ⟨n8, n9, n9'⟩, n10, n11, n12⟩ := D.f
  obtain ⟨p1, p2, p3, p4, p5⟩ := D.a1
  obtain ⟨q1, q2, q3, q4, q5⟩ := D.a2
  obtain ⟨r1, r2, r3, r4, r5⟩ := D.a3
  show wpAny _ _ (field (.ref z) 2 >>= _) _ _ _
  refine wpAny_bind (wpAny_field Z rfl (x := .bool false) rfl ?_)
  show wpAny _ _ (field (.ref z) 3 >>= _) _ _ _
  refine wpAny_bind (wpAny_field Z rfl (x := .ref ti) rfl ?_)
  refine wpAny_bind (wpAny_seqItems pI rfl ?_)
  show wpAny _ _ (Builtin.SmallTypes.ownedTupleIsFree (.ref z) >>= _) _ _ _
  refine wpAny_bind ?_
  unfold Builtin.SmallTypes.ownedTupleIsFree
  refine wpAny_bind (wpAny_field Z rfl (x := .none) rfl (wpAny_pure ?_))
  simp only [if_true]
  refine wpAny_bind (wpAny_rule ?_)
  refine wpAny_bind (wpAny_field Z rfl (x := .ref to) rfl ?_)
  refine wpAny_bind (wpAny_setField_rec Z (by simp) fun k1 Z1 b1 => ?_)
  replace Z1 : IsZip k1 z ti to .ellipsis := Z1
  refine wpAny_bind ?_
  simp only [List.zipIdx_cons, List.zipIdx_nil, List.forIn_cons, List.forIn_nil]
  refine wpAny_bind (wpAny_bind (wpAny_onRaise ?_))
  show wpAny _ _ (Builtin.SmallTypes.nextOf (.ref t1) >>= _) _ _ _
  have j1a : J1 n k1 := S1.ext j1 b1.extBut (Ne.symm n3) (Ne.symm p1)
  cases ex : us[n]? with
  | none =>
    refine wpAny_bind (S1.en n _ _ _ _ hh j1a ex fun k2 e b2 hx => ?_)
    obtain ⟨oe, he1, he2⟩ := hx
    have Z2 : IsZip k2 z ti to .ellipsis := b2 _ _ (Ne.symm n3) Z1
    have hez : e ≠ z := fun c => by subst c; rw [Z2] at he1; cases he1; simp at he2
    refine wpAny_setField_rec Z2 (by simp) fun k3 _ b3 => q k3 e (fun c o c1 _ c3 _ _ f => b3.extBut _ _ c1 (b2 _ _ c3 (b1.extBut _ _ c1 f))) ⟨oe, b3.extBut _ _ hez he1, he2⟩
  | some x =>
    refine wpAny_bind (S1.nx n _ _ _ _ x j1a ex fun k2 j1b b2 => wpAny_pure ?_)
    have pO2 : IsTri k2 to a b c := b2.extBut _ _ n8 (b1.extBut _ _ n2 pO)
    refine wpAny_bind (wpAny_seqItems pO2 rfl ?_)
    refine wpAny_bind (wpAny_updateSeq_tri pO2 fun k3 pO3 b3 => ?_)
    replace pO3 : IsTri k3 to x b c := pO3
    refine wpAny_bind (wpAny_letGo (wpAny_pure ?_))
    refine wpAny_bind (wpAny_bind (wpAny_onRaise ?_))
    show wpAny _ _ (Builtin.SmallTypes.nextOf (.ref t2) >>= _) _ _ _
    have j2c : J2 n k3 := S2.ext (S2.ext (S2.ext j2 b1.extBut (Ne.symm n4) (Ne.symm q1)) b2.extBut n10 (Ne.symm q3)) b3.extBut n9 (Ne.symm q2)
    cases ey : vs[n]? with
    | none =>
      refine wpAny_bind (S2.en n _ _ _ _ hh j2c ey fun k4 e b4 hx => ?_)
      obtain ⟨oe, he1, he2⟩ := hx
      have Z4 : IsZip k4 z ti to .ellipsis := b4 _ _ (Ne.symm n4) (b3.extBut _ _ (Ne.symm n2) (b2.extBut _ _ (Ne.symm n3) Z1))
      have hez : e ≠ z := fun c => by subst c; rw [Z4] at he1; cases he1; simp at he2
      refine wpAny_setField_rec Z4 (by simp) fun k5 _ b5 => q k5 e (fun c o c1 c2 c3 c4 _ f => b5.extBut _ _ c1 (b4 _ _ c4 (b3.extBut _ _ c2 (b2.extBut _ _ c3 (b1.extBut _ _ c1 f))))) ⟨oe, b5.extBut _ _ hez he1, he2⟩
    | some y =>
      have ez : ws[n]? = none := by
        rcases he with h | h | h
        · rw [ex] at h; cases h
        · rw [ey] at h; cases h
        · exact h
      refine wpAny_bind (S2.nx n _ _ _ _ y j2c ey fun k4 j2d b4 => wpAny_pure ?_)
      have pO4 : IsTri k4 to x b c := b4.extBut _ _ n9 pO3
      refine wpAny_bind (wpAny_seqItems pO4 rfl ?_)
      refine wpAny_bind (wpAny_updateSeq_tri pO4 fun k5 pO5 b5 => ?_)
      refine wpAny_bind (wpAny_letGo (wpAny_pure ?_))
      refine wpAny_bind (wpAny_bind (wpAny_onRaise ?_))
      show wpAny _ _ (Builtin.SmallTypes.nextOf (.ref t3) >>= _) _ _ _
      have j3c : J3 n k5 := S3.ext (S3.ext (S3.ext (S3.ext (S3.ext j3 b1.extBut (Ne.symm n4') (Ne.symm r1)) b2.extBut n11 (Ne.symm r3)) b3.extBut n9' (Ne.symm r2)) b4.extBut n12 (Ne.symm r4)) b5.extBut n9' (Ne.symm r2)
      refine wpAny_bind (S3.en n _ _ _ _ hh j3c ez fun k6 e b6 hx => ?_)
      obtain ⟨oe, he1, he2⟩ := hx
      have Z6 : IsZip k6 z ti to .ellipsis := b6 _ _ (Ne.symm n4') (b5.extBut _ _ (Ne.symm n2) (b4.extBut _ _ (Ne.symm n4) (b3.extBut _ _ (Ne.symm n2) (b2.extBut _ _ (Ne.symm n3) Z1))))
      have hez : e ≠ z := fun c => by subst c; rw [Z6] at he1; cases he1; simp at he2
      refine wpAny_setField_rec Z6 (by simp) fun k7 _ b7 => q k7 e (fun c o c1 c2 c3 c4 c5 f => b7.extBut _ _ c1 (b6 _ _ c5 (b5.extBut _ _ c2 (b4.extBut _ _ c4 (b3.extBut _ _ c2 (b2.extBut _ _ c3 (b1.extBut _ _ c1 f))))))) ⟨oe, b7.extBut _ _ hez he1, he2⟩
end
end
def Itz3 (K : PySem.W.Frag) (k1 k2 k3 : SK) (a1 a2 a3 : Addr) : It :=
  ⟨fun i H => ∃ xs ys zs x y z, SqK k1 K H a1 xs ∧ SqK k2 K H a2 ys ∧ SqK k3 K H a3 zs ∧ xs[i]? = some x ∧ ys[i]? = some y ∧ zs[i]? = some z,
   fun i H v H' => ∃ T x y z, H T = none ∧ v = .ref T ∧ H' = upd H T (.tup [x, y, z]) ∧ (∀ xs, SqK k1 K H a1 xs → xs[i]? = some x) ∧ (∀ ys, SqK k2 K H a2 ys → ys[i]? = some y) ∧ ∀ zs, SqK k3 K H a3 zs → zs[i]? = some z,
   fun i H => ∃ xs ys zs, SqK k1 K H a1 xs ∧ SqK k2 K H a2 ys ∧ SqK k3 K H a3 zs ∧ (xs.length ≤ i ∨ ys.length ≤ i ∨ zs.length ≤ i)⟩
def ZipTn3 (z ti to t1 t2 t3 a1 a2 a3 : Addr) (k1 k2 k3 : SK) (i : Nat) (h : Heap) : Prop := IsZip h z ti to .none ∧ IsTri h ti (.ref t1) (.ref t2) (.ref t3) ∧ (∃ a b c, IsTri h to a b c) ∧ ItK k1 t1 a1 i h ∧ ItK k2 t2 a2 i h ∧ ItK k3 t3 a3 i h
theorem turn_zip3 {P : Program} {w : World} {K : PySem.W.Frag} {elts : List Expr} {kx : Nat} {pos : Pos} {z ti to t1 t2 t3 a1 a2 a3 : Addr} (k1 k2 k3 : SK) (D : Ap3 z ti to t1 t2 t3 a1 a2 a3) :
    Turn P w K (.Tuple elts kx pos) (Itz3 K k1 k2 k3 a1 a2 a3) [z, ti, to, t1, t2, t3] z (ZipTn3 z ti to t1 t2 t3 a1 a2 a3 k1 k2 k3) where
  mem := by simp
  obj := fun i h st b hb => by
    obtain ⟨Z, pI, ⟨a, b', c', pO⟩, i1, i2, i3⟩ := st
    simp only [List.mem_cons, List.not_mem_nil, or_false] at hb
    rcases hb with rfl | rfl | rfl | rfl | rfl | rfl
    · exact ⟨_, Z, fun v e => by cases e⟩
    · exact ⟨_, pI, fun v e => by cases e⟩
    · exact ⟨_, pO, fun v e => by cases e⟩
    · exact itk_obj i1
    · exact itk_obj i2
    · exact itk_obj i3
  keep := fun i h h' st k => by
    obtain ⟨Z, pI, ⟨a, b', c', pO⟩, i1, i2, i3⟩ := st
    exact ⟨k z (by simp) _ Z, k ti (by simp) _ pI, ⟨a, b', c', k to (by simp) _ pO⟩, itk_fr i1 (k t1 (by simp)), itk_fr i2 (k t2 (by simp)), itk_fr i3 (k t3 (by simp))⟩
  item := by
    intro X hP hw hK hc i pins s σ H E I hf st hg
    subst hP hw hK
    obtain ⟨Z, pI, ⟨a, b', c', pO⟩, i1, i2, i3⟩ := st
    obtain ⟨xs, ys, zs, x, y, zz, q1, q2, q3, ex, ey, ez⟩ := hg
    obtain ⟨us, r1, l1⟩ := sqk_at I q1
    obtain ⟨vs, r2, l2⟩ := sqk_at I q2
    obtain ⟨ws, r3, l3⟩ := sqk_at I q3
    obtain ⟨u, eu, ru⟩ := r1.get ex
    obtain ⟨v, ev, rv⟩ := r2.get ey
    obtain ⟨wv, ew, rw'⟩ := r3.get ez
    obtain ⟨⟨n1, n2, n3, n4, n4'⟩, ⟨n5, n6, n7, n7'⟩, ⟨n8, n9, n9'⟩, n10, n11, n12⟩ := D.f
    have tz : s.TypeIs (.ref z) "zip" := ⟨_, Z, rfl⟩
    unfold pyNext
    refine wpAny_bind (wpAny_attempt (wpAny_callSpecial?_slot (name := Str.ofString "__next__") tz F.slot_zip_next (wpAny_call_entry F.slot_zip_next tz F.entry_zip_next (zip3_item D (src_k k1 t1 a1 D.a1.2.2.1 us.toArray) (src_k k2 t2 a2 D.a2.2.2.2.1 vs.toArray) (src_k k3 t3 a3 D.a3.2.2.2.2 ws.toArray) Z pI pO ⟨i1, l1⟩ ⟨i2, l2⟩ ⟨i3, l3⟩ (x := u) (y := v) (u := wv) (by simpa using eu) (by simpa using ev) (by simpa using ew) fun k Z2 pO2 j1 j2 j3 pT szk kp => wpAny_pure ⟨_, rfl, ?_⟩) (F.args_zip_next_1 _))))
    refine wpAny_letOwnedTupleGo_zip (s := { s with heap := k }) Z2 fun k' Z3 b3 => ?_
    have hT : s.heap.objs.size ≠ z := Nat.ne_of_gt (Heap.lt_size Z)
    have kp3 : ∀ b o, b ∉ [z, ti, to, t1, t2, t3] → s.heap.get? b = some o → k'.get? b = some o := fun b o hb e => by
      simp only [List.mem_cons, not_or, List.not_mem_nil, not_false_eq_true, and_true] at hb
      exact b3.extBut _ _ hb.1 (kp b o hb.1 hb.2.2.1 hb.2.2.2.1 hb.2.2.2.2.1 hb.2.2.2.2.2 e)
    refine ⟨.ref s.heap.objs.size, upd H s.heap.objs.size (.tup [x, y, zz]), turnT (s := s) (tk := s.toks) I hf kp3 (Nat.le_refl _) ?_, rfl, ⟨s.heap.objs.size, x, y, zz, I.hok.fresh (Nat.le_refl _), rfl, rfl, ?_, ?_, ?_⟩, ?_, ?_⟩
    · refine ⟨Nat.le_of_ble_eq_true rfl, [u, v, wv], .cons ru (.cons rv (.cons rw' .nil)), ?_⟩
      exact ⟨_, b3.extBut _ _ hT pT, rfl, _, rfl⟩
    · intro xs' q'
      rw [sqk_inj I q' q1]; exact ex
    · intro ys' q'
      rw [sqk_inj I q' q2]; exact ey
    · intro zs' q'
      rw [sqk_inj I q' q3]; exact ez
    · refine ⟨Z3, b3.extBut _ _ n1 (kp _ _ n1 n5 n6 n7 n7' pI), ⟨_, _, _, b3.extBut _ _ n2 pO2⟩, itk_fr j1.1 fun o e => b3.extBut _ _ n3 e, itk_fr j2.1 fun o e => b3.extBut _ _ n4 e, itk_fr j3.1 fun o e => b3.extBut _ _ n4' e⟩
    · intro b hb
      have : b ≠ s.heap.objs.size := by
        obtain ⟨o, e, _⟩ : ∃ o, s.heap.get? b = some o ∧ True := by
          simp only [List.mem_cons, List.not_mem_nil, or_false] at hb
          rcases hb with rfl | rfl | rfl | rfl | rfl | rfl
          · exact ⟨_, Z, trivial⟩
          · exact ⟨_, pI, trivial⟩
          · exact ⟨_, pO, trivial⟩
          · obtain ⟨o, e, _⟩ := itk_obj i1; exact ⟨o, e, trivial⟩
          · obtain ⟨o, e, _⟩ := itk_obj i2; exact ⟨o, e, trivial⟩
          · obtain ⟨o, e, _⟩ := itk_obj i3; exact ⟨o, e, trivial⟩
        exact Nat.ne_of_lt (Heap.lt_size e)
      rw [L2.upd_ne this]
      exact (hf b hb).1
  done := by
    intro X hP hw hK hc i pins s σ H E I hf st hg
    subst hP hw hK
    obtain ⟨Z, pI, ⟨a, b', c', pO⟩, i1, i2, i3⟩ := st
    obtain ⟨xs, ys, zs, q1, q2, q3, he⟩ := hg
    obtain ⟨us, r1, l1⟩ := sqk_at I q1
    obtain ⟨vs, r2, l2⟩ := sqk_at I q2
    obtain ⟨ws, r3, l3⟩ := sqk_at I q3
    have e1 := r1.length
    have e2 := r2.length
    have e3 := r3.length
    have tz : s.TypeIs (.ref z) "zip" := ⟨_, Z, rfl⟩
    unfold pyNext
    refine wpAny_bind (wpAny_attempt (wpAny_callSpecial?_slot (name := Str.ofString "__next__") tz F.slot_zip_next (wpAny_call_entry F.slot_zip_next tz F.entry_zip_next (zip3_end (I.ok.hd hc) D (src_k k1 t1 a1 D.a1.2.2.1 us.toArray) (src_k k2 t2 a2 D.a2.2.2.2.1 vs.toArray) (src_k k3 t3 a3 D.a3.2.2.2.2 ws.toArray) Z pI pO ⟨i1, l1⟩ ⟨i2, l2⟩ ⟨i3, l3⟩ ?_ fun k e kp hx => ?_) (F.args_zip_next_1 _))))
    · rcases he with h | h | h
      · left; simp; omega
      · right; left; simp; omega
      · right; right; simp; omega
    · obtain ⟨o, ho, hc2⟩ := hx
      refine wpAny_bind (wpAny_isInstance (T := "StopIteration") (b := true) ⟨o, ho, hc2⟩ isSubtype_stop ?_)
      refine wpAny_pure ⟨rfl, turnN (s := s) (tk := s.toks) I hf fun b o hb e => ?_⟩
      simp only [List.mem_cons, not_or, List.not_mem_nil, not_false_eq_true, and_true] at hb
      exact kp b o hb.1 hb.2.2.1 hb.2.2.2.1 hb.2.2.2.2.1 hb.2.2.2.2.2 e
  self := fun _ _ _ _ _ st h => wpAny_pyIter_zip st.1 h
end L3
namespace L3
open PySem L2
open PySem.Spec hiding items?
open PyProof.Rows hiding St
theorem typeCall_zip_3 (a b c : Value) : checkTypeCall "zip" ⟨[a, b, c], []⟩ = pure () := by kernel_rfl
theorem newCall_zip_3 (a b c : Value) : checkBuiltinCall "zip.__new__" ⟨[.type "zip", a, b, c], []⟩ = pure () := by kernel_rfl
theorem args_object_init_4 (a b c d : Value) : argsOk "object.__init__" ⟨[a, b, c, d], []⟩ := by
  unfold argsOk; rw [signature?_of (id := "object.__init__") (n := ['_', '_', 't', 'i', 'n', 'i', '_', '_']) (o := ['t', 'c', 'e', 'j', 'b', 'o']) (by kernel_rfl) F.owner_object]; kernel_rfl
abbrev zm3 (h : Heap) (k1 k2 k3 : SK) (a1 a2 a3 : Addr) : Heap := (zn2 h k1 k2 a1 a2).push (itO k3 a3)
abbrev zm4 (h : Heap) (k1 k2 k3 : SK) (a1 a2 a3 : Addr) : Heap := (zm3 h k1 k2 k3 a1 a2 a3).push { cls := .type "tuple", data := .seq #[.ref h.objs.size, .ref (zn1 h k1 a1).objs.size, .ref (zn2 h k1 k2 a1 a2).objs.size] }
abbrev zm5 (h : Heap) (k1 k2 k3 : SK) (a1 a2 a3 : Addr) : Heap := (zm4 h k1 k2 k3 a1 a2 a3).push { cls := .type "tuple", data := .seq #[.none, .none, .none] }
abbrev zm6 (h : Heap) (k1 k2 k3 : SK) (a1 a2 a3 : Addr) : Heap := (zm5 h k1 k2 k3 a1 a2 a3).push { cls := .type "zip", data := .fields #[.none, .bool false, .bool false, .ref (zm3 h k1 k2 k3 a1 a2 a3).objs.size, .ref (zm4 h k1 k2 k3 a1 a2 a3).objs.size] }
theorem zip_meets3 (k1 k2 k3 : SK) (a1 a2 a3 : Addr) (us vs ws : Array Value) : Meets (Builtin.«zip.__new__» ⟨[.type "zip", .ref a1, .ref a2, .ref a3], []⟩) (fun _ R s => AtK k1 s.heap a1 us ∧ AtK k2 s.heap a2 vs ∧ AtK k3 s.heap a3 ws ∧
    R (.ok (.ret (.ref (zm5 s.heap k1 k2 k3 a1 a2 a3).objs.size))) { s with heap := zm6 s.heap k1 k2 k3 a1 a2 a3 }) :=
  .of_wp fun P w A R s h => by
    obtain ⟨hp, g, d, tk, os⟩ := s
    obtain ⟨c1, c2, c3, h⟩ := h
    have hsub := sub_zip
    have L1 : AtK k1 (Shared.heap ⟨hp, g, d, tk, os⟩) a1 us := c1
    have L2 : AtK k2 (Shared.heap ⟨hp.push (itO k1 a1), g, d, tk, os⟩) a2 vs := AtK.push c2 _
    have L3 : AtK k3 (Shared.heap ⟨(hp.push (itO k1 a1)).push (itO k2 a2), g, d, tk, os⟩) a3 ws := AtK.push (AtK.push c3 _) _
    wp_walk using iter_k L1, iter_k L2, iter_k L3
    exact ⟨_, rfl, h⟩
theorem zip_call3 {P : Program} {w : World} {A : Around} {s : Shared} {E : Value → Shared → Prop} {k1 k2 k3 : SK} {a1 a2 a3 : Addr} {us vs ws : Array Value} {Q : Value → Shared → Prop} (c1 : AtK k1 s.heap a1 us) (c2 : AtK k2 s.heap a2 vs) (c3 : AtK k3 s.heap a3 ws)
    (q : ∀ g n, n = s.heap.objs.size → IsZip g (n + 5) (n + 3) (n + 4) .none → IsTri g (n + 3) (.ref n) (.ref (n + 1)) (.ref (n + 2)) → IsTri g (n + 4) .none .none .none → ItK k1 n a1 0 g → ItK k2 (n + 1) a2 0 g → ItK k3 (n + 2) a3 0 g → (∀ c o, s.heap.get? c = some o → g.get? c = some o) → Q (.ref (n + 5)) { s with heap := g }) :
    wpAny (model P w) A (call (.type "zip") [.ref a1, .ref a2, .ref a3]) Q E s := by
  refine callType_new F.called_zip (by decide) (typeCall_zip_3 _ _ _) (newCall_zip_3 _ _ _) (fun ob => args_object_init_4 ob _ _ _) F.entry_zip_new (zip_meets3 k1 k2 k3 a1 a2 a3 us vs ws) ⟨c1, c2, c3, ?_⟩
  have y1 : (zn1 s.heap k1 a1).objs.size = s.heap.objs.size + 1 := Heap.size_push ..
  have y2 : (zn2 s.heap k1 k2 a1 a2).objs.size = s.heap.objs.size + 2 := by rw [Heap.size_push, y1]
  have y3 : (zm3 s.heap k1 k2 k3 a1 a2 a3).objs.size = s.heap.objs.size + 3 := by rw [Heap.size_push, y2]
  have y4 : (zm4 s.heap k1 k2 k3 a1 a2 a3).objs.size = s.heap.objs.size + 4 := by rw [Heap.size_push, y3]
  have y5 : (zm5 s.heap k1 k2 k3 a1 a2 a3).objs.size = s.heap.objs.size + 5 := by rw [Heap.size_push, y4]
  have e6 : (zm6 s.heap k1 k2 k3 a1 a2 a3).get? (zm5 s.heap k1 k2 k3 a1 a2 a3).objs.size = some _ := Heap.get?_push_size _ rfl
  have e5 : (zm6 s.heap k1 k2 k3 a1 a2 a3).get? (zm4 s.heap k1 k2 k3 a1 a2 a3).objs.size = some _ := Heap.get?_push_of_some _ (Heap.get?_push_size _ rfl)
  have e4 : (zm6 s.heap k1 k2 k3 a1 a2 a3).get? (zm3 s.heap k1 k2 k3 a1 a2 a3).objs.size = some _ := Heap.get?_push_of_some _ (Heap.get?_push_of_some _ (Heap.get?_push_size _ rfl))
  have e3 : (zm6 s.heap k1 k2 k3 a1 a2 a3).get? (zn2 s.heap k1 k2 a1 a2).objs.size = some (itO k3 a3) := Heap.get?_push_of_some _ (Heap.get?_push_of_some _ (Heap.get?_push_of_some _ (Heap.get?_push_size _ (by cases k3 <;> rfl))))
  have e2 : (zm6 s.heap k1 k2 k3 a1 a2 a3).get? (zn1 s.heap k1 a1).objs.size = some (itO k2 a2) := Heap.get?_push_of_some _ (Heap.get?_push_of_some _ (Heap.get?_push_of_some _ (Heap.get?_push_of_some _ (Heap.get?_push_size _ (by cases k2 <;> rfl)))))
  have e1 : (zm6 s.heap k1 k2 k3 a1 a2 a3).get? s.heap.objs.size = some (itO k1 a1) := Heap.get?_push_of_some _ (Heap.get?_push_of_some _ (Heap.get?_push_of_some _ (Heap.get?_push_of_some _ (Heap.get?_push_of_some _ (Heap.get?_push_size _ (by cases k1 <;> rfl))))))
  show _ ∧ _
  rw [y3, y4, y5] at e6
  rw [y1, y2, y3] at e4
  rw [y4] at e5
  rw [y2] at e3
  rw [y1] at e2
  rw [y5]
  exact ⟨⟨_, e6, rfl⟩, q _ _ rfl e6 e4 e5 (itk_new (h := s.heap) e1) (itk_new (h := s.heap) e2) (itk_new (h := s.heap) e3) fun c o x => Heap.get?_push_of_some _ (Heap.get?_push_of_some _ (Heap.get?_push_of_some _ (Heap.get?_push_of_some _ (Heap.get?_push_of_some _ (Heap.get?_push_of_some _ x)))))⟩
def zipD3 : List D → List D → List D → List D
  | x :: xs, y :: ys, z :: zs => .tup [x, y, z] :: zipD3 xs ys zs
  | _, _, _ => []
theorem zipD3_len : ∀ {xs ys zs : List D}, (zipD3 xs ys zs).length = min xs.length (min ys.length zs.length)
  | [], _, _ => by unfold zipD3; simp
  | _ :: _, [], _ => by unfold zipD3; simp
  | _ :: _, _ :: _, [] => by unfold zipD3; simp
  | x :: xs, y :: ys, z :: zs => by unfold zipD3; rw [List.length_cons, zipD3_len]; simp only [List.length_cons]; omega
theorem zipD3_get : ∀ {xs ys zs : List D} {n : Nat} {d : D}, (zipD3 xs ys zs)[n]? = some d → ∃ x y z, xs[n]? = some x ∧ ys[n]? = some y ∧ zs[n]? = some z ∧ d = .tup [x, y, z]
  | [], _, _, _, _, e => by unfold zipD3 at e; cases e
  | _ :: _, [], _, _, _, e => by unfold zipD3 at e; cases e
  | _ :: _, _ :: _, [], _, _, e => by unfold zipD3 at e; cases e
  | x :: xs, y :: ys, z :: zs, 0, d, e => by
    unfold zipD3 at e
    rw [List.getElem?_cons_zero] at e
    cases e
    exact ⟨x, y, z, rfl, rfl, rfl, rfl⟩
  | x :: xs, y :: ys, z :: zs, n + 1, d, e => by
    unfold zipD3 at e
    rw [List.getElem?_cons_succ] at e
    obtain ⟨a, b, c, h1, h2, h3, h4⟩ := zipD3_get e
    exact ⟨a, b, c, by rw [List.getElem?_cons_succ]; exact h1, by rw [List.getElem?_cons_succ]; exact h2, by rw [List.getElem?_cons_succ]; exact h3, h4⟩
theorem it_zip3 {K : PySem.W.Frag} {k1 k2 k3 : SK} {a1 a2 a3 : Addr} {α : List (Option Addr)} {G : Hp} {ok : Store → Prop} {xs ys zs : List D}
    (h : ∀ α' G' st', Step α G α' G' → StRel α' st' G' → ok st' → ∃ vs ws us, SqG k1 G' a1 vs ∧ SqG k2 G' a2 ws ∧ SqG k3 G' a3 us ∧ Reps α' G' xs vs ∧ Reps α' G' ys ws ∧ Reps α' G' zs us) : ItOk (Itz3 K k1 k2 k3 a1 a2 a3) α G ok (zipD3 xs ys zs) where
  stop := fun n α' G' F' H' st' s P S o hn => by
    obtain ⟨vs, ws, us, h1, h2, h3, r1, r2, r3⟩ := h α' G' st' s S o
    rw [zipD3_len] at hn
    refine ⟨vs, ws, us, sqg_k P h1, sqg_k P h2, sqg_k P h3, ?_⟩
    have := r1.length
    have := r2.length
    have := r3.length
    omega
  go := fun n d α' G' F' H' st' s P S o hn => by
    obtain ⟨vs, ws, us, h1, h2, h3, r1, r2, r3⟩ := h α' G' st' s S o
    obtain ⟨x, y, z, ex, ey, ez, rfl⟩ := zipD3_get hn
    obtain ⟨v, ev, _⟩ := r1.get ex
    obtain ⟨u, eu, _⟩ := r2.get ey
    obtain ⟨t, et, _⟩ := r3.get ez
    exact ⟨vs, ws, us, v, u, t, sqg_k P h1, sqg_k P h2, sqg_k P h3, ev, eu, et⟩
  yld := fun n d α' G' F' H' st' x H'' s P S o hn y => by
    obtain ⟨vs, ws, us, h1, h2, h3, r1, r2, r3⟩ := h α' G' st' s S o
    obtain ⟨c, e, f, ec, ee, ef, rfl⟩ := zipD3_get hn
    obtain ⟨T, v, u, t, hT, rfl, rfl, y1, y2, y3⟩ := y
    obtain ⟨v', ev, rv⟩ := r1.get ec
    obtain ⟨u', eu, ru⟩ := r2.get ee
    obtain ⟨t', et, rt⟩ := r3.get ef
    rw [y1 vs (sqg_k P h1)] at ev
    rw [y2 ws (sqg_k P h2)] at eu
    rw [y3 us (sqg_k P h3)] at et
    cases ev
    cases eu
    cases et
    have hg := (P.none hT).1
    refine ⟨L2.upd G' T (.tup [v, u, t]), Step.laid hg, P.laid hT, S.laid hg, ?_⟩
    unfold Rep
    refine ⟨T, [v, u, t], rfl, S.notin hg, upd_same, ?_⟩
    unfold Reps
    refine ⟨v, [u, t], rfl, rv.step (Step.laid hg), ?_⟩
    unfold Reps
    refine ⟨u, [t], rfl, ru.step (Step.laid hg), ?_⟩
    unfold Reps
    exact ⟨t, [], rfl, rt.step (Step.laid hg), by unfold Reps; rfl⟩
def zipR3 (ds : List D) (st1 : Store) (K : List D → (Store → Prop) → Store → Prop) : Prop := match ds with
  | [x, y, z] => (match items? st1 x, items? st1 y, items? st1 z with
    | some xs, some ys, some zs => K (zipD3 xs ys zs) (fun st' => items? st' x = some xs ∧ items? st' y = some ys ∧ items? st' z = some zs) st1
    | _, _, _ => False)
  | _ => False
@[irreducible] def xZipR3 : List D → Store → (List D → (Store → Prop) → Store → Prop) → Prop := zipR3
def xZip3 (t : DA) : DI := fun σ st K => t σ st fun ds st1 => xZipR3 ds st1 K
theorem ap3_new {n a1 a2 a3 : Nat} (h1 : a1 < n) (h2 : a2 < n) (h3 : a3 < n) : Ap3 (n + 5) (n + 3) (n + 4) n (n + 1) (n + 2) a1 a2 a3 := ⟨by omega, by omega, by omega, by omega⟩
theorem vals3 {vs : List V} {us : List Value} {a b c : V} (h : Vals vs us) (e : vs = [a, b, c]) : ∃ u v w, us = [u, v, w] ∧ RelV a u ∧ RelV b v ∧ RelV c w := by
  subst e
  cases h with
  | cons p q =>
    cases q with
    | cons p' q' =>
      cases q' with
      | cons p'' q'' =>
        cases q''
        exact ⟨_, _, _, rfl, p, p', p''⟩
theorem di_zip3 {X : Cx} {a b c : Expr} {elts : List Expr} {kx : Nat} {tpos p pos : Pos} {t : DA} (hg : Gl X "zip") (hm : X.mg "zip" = none) (ha : PA X [a, b, c] (LA t)) (hs : starEach [a, b, c] X.env = (false, eval a X.env) :: starEach [b, c] X.env) (hs2 : starEach [b, c] X.env = [(false, eval b X.env), (false, eval c X.env)]) :
    PI X (.Tuple elts kx tpos) (.Call (.Name "zip" p) [a, b, c] [] pos) (LI (xZip3 t)) := by
  intro pins s σ H R I h
  obtain ⟨α, σd, st, K, G, F, P, RS, S, t, k⟩ := h
  refine Call_ (ld_blt I hg hm boot_zip (PyProof.Rows.callWith_type1 (thn (ha pos pins s σ H (fun vs H1 => ∃ ds α1 G1 st1, Step α G α1 G1 ∧ Spl G1 F H1 ∧ StRel α1 st1 G1 ∧ Reps α1 G1 ds vs ∧ xZipR3 ds st1 K) I ⟨α, σd, st, _, G, F, P, RS, S, t, fun ds st1 q α1 G1 H1 vs s1 P1 S1 r1 => ⟨ds, α1, G1, st1, s1, P1, S1, r1, q⟩⟩) fun us s1 ⟨vs, H1, I1, rv, ds, α1, G1, st1, w1, P1, S1, r1, q⟩ => ?_) hs (by rw [hs2]; rfl)))
  unfold xZipR3 zipR3 at q
  split at q
  · rename_i x y z
    split at q
    · rename_i xs ys zs ex ey ez
      obtain ⟨v1, v2, v3, rfl, q1, q2, q3⟩ := reps3 r1 rfl
      obtain ⟨p1, vs1, rfl, g1, c1⟩ := items_k S1 q1 ex
      obtain ⟨p2, vs2, rfl, g2, c2⟩ := items_k S1 q2 ey
      obtain ⟨p3, vs3, rfl, g3, c3⟩ := items_k S1 q3 ez
      obtain ⟨u1, u2, u3, rfl, ru1, ru2, ru3⟩ := vals3 rv rfl
      cases ru1
      cases ru2
      cases ru3
      obtain ⟨its1, _, l1⟩ := sqk_at I1 (sqg_k P1 c1)
      obtain ⟨its2, _, l2⟩ := sqk_at I1 (sqg_k P1 c2)
      obtain ⟨its3, _, l3⟩ := sqk_at I1 (sqg_k P1 c3)
      refine zip_call3 l1 l2 l3 fun g n hn Z pI pO i1 i2 i3 kp => ?_
      obtain ⟨o1, eo1⟩ := l1.some
      obtain ⟨o2, eo2⟩ := l2.some
      obtain ⟨o3, eo3⟩ := l3.some
      refine wpAny_pyIter_zip (s := { s1 with heap := g }) Z ?_
      refine ⟨n + 5, [n + 5, n + 3, n + 4, n, n + 1, n + 2], _, _, H1, rfl, I1.kept (t' := s1.toks) kp, turn_zip3 (kOf x) (kOf y) (kOf z) (ap3_new (by rw [hn]; exact Heap.lt_size eo1) (by rw [hn]; exact Heap.lt_size eo2) (by rw [hn]; exact Heap.lt_size eo3)), ⟨Z, pI, ⟨_, _, _, pO⟩, i1, i2, i3⟩, fun b hb => ?_, ?_⟩
      · have hb' : s1.heap.objs.size ≤ b := by
          simp only [List.mem_cons, List.not_mem_nil, or_false] at hb
          rcases hb with rfl | rfl | rfl | rfl | rfl | rfl <;> (rw [← hn]; first | exact Nat.le_refl _ | exact Nat.le_add_right _ _)
        exact I1.fpOk hb' (I1.hok.fresh hb')
      · refine k _ _ st1 q _ α1 G1 H1 w1 P1 S1 (it_zip3 fun α' G' st' s' S' o => ?_)
        obtain ⟨p1', ws1, e1, f1, d1⟩ := items_k S' (q1.step s') o.1
        obtain ⟨p2', ws2, e2, f2, d2⟩ := items_k S' (q2.step s') o.2.1
        obtain ⟨p3', ws3, e3, f3, d3⟩ := items_k S' (q3.step s') o.2.2
        cases e1
        cases e2
        cases e3
        exact ⟨ws1, ws2, ws3, d1, d2, d3, f1, f2, f3⟩
    · exact q.elim
  · exact q.elim
theorem st_zip3 {st : Store} {x y z : D} {xs ys zs : List D} {K : List D → (Store → Prop) → Store → Prop} (ex : items? st x = some xs) (ey : items? st y = some ys) (ez : items? st z = some zs) (k : ∀ ok : Store → Prop, (∀ st', items? st' x = some xs → items? st' y = some ys → items? st' z = some zs → ok st') → K (zipD3 xs ys zs) ok st) : xZipR3 [x, y, z] st K := by
  unfold xZipR3 zipR3
  simp only [ex, ey, ez]
  exact k _ fun st' h1 h2 h3 => ⟨h1, h2, h3⟩
theorem j_zip3 {X : Cx} {a b c : Expr} {elts : List Expr} {kx : Nat} {tpos p pos : Pos} {ar : DA} (hg : Gl X "zip") (hm : X.mg "zip" = none) (ha : JA X [a, b, c] ar) (hs : notStar a = true := by rfl) (hs2 : notStar b = true := by rfl) (hs3 : notStar c = true := by rfl) : JI X (.Tuple elts kx tpos) (.Call (.Name "zip" p) [a, b, c] [] pos) (xZip3 ar) := by
  unfold JI; unfold JA at ha; exact di_zip3 hg hm ha (star_cons hs) (by rw [star_cons hs2, star_cons hs3]; rfl)
def dNever : DS := fun _ _ _ => False
theorem js_never {X : Cx} {s : Stmt} : JS X s dNever := by
  unfold JS
  intro pins s σ H D I h
  obtain ⟨α, σd, st, DD, G, F, P, R, S, q, k⟩ := h
  exact q.elim
end L3
namespace L3
open PySem L2
open PySem.Spec hiding items?
open PyProof.Rows hiding St
section
variable {X : Cx}
def dAddQ : DR2 := fun x y st K => match x, y with
  | .ref n, .lst ys => (match st[n]? with | some (.lst xs) => xs.length + ys.length ≤ sizeLine ∧ K (.lst (xs ++ ys)) st | _ => False)
  | _, _ => False
theorem o_addQ : OpR X (binaryOp .Add) (LR dAddQ) := fun pins s σ H x y v u Q I rx ry ⟨α, d, e, st, K, G, F', P, r1, r2, S, q, k⟩ => by
  cases d <;> cases e <;> try exact q.elim
  rename_i n ys
  unfold dAddQ at q
  simp only at q
  split at q
  · rename_i xs e
    obtain ⟨a, ea, vs, h1, h2⟩ := S.lstAt e
    have r1' := rep_at ea r1
    subst r1'
    unfold Rep at r2
    obtain ⟨b, ws, rfl, nb, hb, rb⟩ := r2
    refine op_catR pins s σ H _ _ v u Q I rx ry ⟨a, b, vs, ws, rfl, rfl, .of (P.get h1), rd_up P hb, by rw [← h2.length, ← rb.length]; exact q.1, fun p hp => ?_⟩
    exact k.lst P q.2 S (reps_paired.mpr (paired_append (reps_paired.mp h2) (reps_paired.mp rb))) hp
  · exact q.elim
@[irreducible] def xAddQ : DR2 := dAddQ
theorem x_addQ : OpR X (binaryOp .Add) (LR xAddQ) := by unfold xAddQ; exact o_addQ
end
theorem st_addQ {st : Store} {K : DK} {n : Nat} {xs ys : List D} (e : st[n]? = some (.lst xs)) (h : xs.length + ys.length ≤ sizeLine) (k : K (.lst (xs ++ ys)) st) : xAddQ (.ref n) (.lst ys) st K := by unfold xAddQ dAddQ; simp only [e]; exact ⟨h, k⟩
end L3
namespace L3
open PySem L2
open PySem.Spec hiding items?
open PyProof.Rows hiding St
open Sem (wp)
section
variable {prog : Program} {w : World} {A : Around} {s : Shared} {E : Value → Shared → Prop}
end
section
variable {prog : Program} {w : World} {A : Around} {R : Result → Shared → Prop} {I : Addr} {fp wr : List Addr} {G : Array GenState → Array GenState → Prop} {n : Nat} {P : Nat → Value → Prop} {Sx : Nat → Shared → Prop}
end
section
variable {prog : Program} {w : World} {A : Around} {E : Value → Shared → Prop} {s : Shared}
end
section
variable {X : Cx} {pins : List (Addr × Obj)} {σ : L2.St} {H : Hp} {s : Shared} {α : List (Option Addr)}
def TupsAt (α : List (Option Addr)) (H : Hp) (h : Heap) : List (List D) → List Value → List (List V) → List (List Value) → Prop
  | [], [], [], [] => True
  | ys :: yss, u :: us, ws :: wss, is :: iss => (∃ a, u = .ref a ∧ Rep α H (.tup ys) (.ref a) ∧ Reps α H ys ws ∧ Vals ws is ∧ h.IsTuple a is.toArray) ∧ TupsAt α H h yss us wss iss
  | _, _, _, _ => False
theorem TupsAt.get {h : Heap} : ∀ {yss : List (List D)} {us : List Value} {wss : List (List V)} {iss : List (List Value)} {j : Nat} {v : Value}, TupsAt α H h yss us wss iss → us[j]? = some v → ∃ a, v = .ref a ∧ Rep α H (.tup (yss.getD j [])) (.ref a) ∧ h.IsTuple a (iss.getD j []).toArray
  | [], [], [], [], j, v, _, e => by simp at e
  | ys :: yss, u :: us, ws :: wss, is :: iss, 0, v, t, e => by
    obtain ⟨⟨a, rfl, r, _, _, i⟩, _⟩ := t
    cases e
    exact ⟨a, rfl, r, i⟩
  | ys :: yss, u :: us, ws :: wss, is :: iss, j + 1, v, t, e => by
    obtain ⟨a, q1, q2, q3⟩ := TupsAt.get (j := j) t.2 (by simpa using e)
    exact ⟨a, q1, by simpa using q2, by simpa using q3⟩
theorem TupsAt.len {h : Heap} : ∀ {yss : List (List D)} {us : List Value} {wss : List (List V)} {iss : List (List Value)}, TupsAt α H h yss us wss iss → iss.length = us.length ∧ iss.flatten.length = yss.flatten.length ∧ Reps α H yss.flatten wss.flatten ∧ Vals wss.flatten iss.flatten ∧ (∀ j, (iss.getD j []).length = (yss.getD j []).length) ∧ yss.length = us.length
  | [], [], [], [], _ => ⟨rfl, rfl, by unfold Reps; trivial, .nil, fun _ => rfl, rfl⟩
  | ys :: yss, u :: us, ws :: wss, is :: iss, t => by
    obtain ⟨⟨a, rfl, r, q1, q2, i⟩, t⟩ := t
    obtain ⟨l1, l2, l3, l4, l5, l6⟩ := TupsAt.len t
    have z : is.length = ys.length := by rw [← q2.length, ← q1.length]
    refine ⟨by simp [l1], by simp only [List.flatten_cons, List.length_append]; omega, ?_, ?_, fun j => ?_, by simp [l6]⟩
    · rw [List.flatten_cons, List.flatten_cons]; exact reps_paired.mpr (paired_append (reps_paired.mp q1) (reps_paired.mp l3))
    · rw [List.flatten_cons, List.flatten_cons]; exact q2.append l4
    · cases j with
      | zero => exact z
      | succ j => simpa using l5 j
end
end L3
namespace L3
open PySem L2
open PySem.Spec hiding items?
open PyProof.Rows hiding St
section
variable {X : Cx}
def dAnyR : DRA := fun ds st K => match ds with | [.lst xs] => (match bools? xs with | some bs => K (.bl (bs.any id)) st | none => False) | _ => False
theorem range_any {α : Type} (l : List α) (f : α → Bool) (tr : Nat → Bool) (h : ∀ i x, l[i]? = some x → tr i = f x) : (List.range l.length).any tr = l.any f := by
  induction l generalizing tr with
  | nil => rfl
  | cons a l ih =>
    rw [List.length_cons, List.range_succ_eq_map, List.any_cons, List.any_cons, List.any_map, h 0 a rfl]
    congr 1
    exact ih (tr ∘ Nat.succ) fun i x e => h (i + 1) x (by simpa using e)
theorem c_any (hc : X.calm = true) : CallR X (.builtin "any") (LRA dAnyR) := fun pins s σ H xs us Q I rs ⟨α, ds, st, K, G, F', P, r, S, q, k⟩ => by
  unfold dAnyR at q
  split at q
  · rename_i ys
    split at q
    · rename_i bs e
      obtain ⟨v, rfl, r1⟩ := reps1 r rfl
      unfold Rep at r1
      obtain ⟨a, vs, rfl, na, h1, h2⟩ := r1
      obtain ⟨u, rfl, ru⟩ := vals1 rs
      cases ru
      have hv := bools_reps h2 e
      subst hv
      obtain ⟨z, its, n, rv, hl, eo⟩ := Inv.lstR I (rd_up P h1)
      have hits := vals_bools rv
      subst hits
      have isL : s.heap.IsList a (bs.map Value.bool).toArray := ⟨_, eo, rfl, n, rfl⟩
      refine call_any_walk (wpAny_pyIter_list isL ?_)
      have hne : a ≠ s.heap.objs.size := Nat.ne_of_lt (Heap.lt_size eo)
      refine ⟨s.heap.objs.size, _, _, _, _, _, fun i => (bs[i]?).getD true, rfl, Walks.list (A := X.A.in1) (I.ok.hd hc) _ a hne (bs.map Value.bool).toArray, ⟨⟨_, Heap.get?_push_size _ rfl, rfl, rfl⟩, ⟨_, Heap.get?_push_of_some _ eo, rfl, n, rfl⟩⟩, ?_, ?_⟩
      · intro i w s' Q' E' hP hQ
        rw [List.getElem?_toArray, List.getElem?_map] at hP
        cases zb : bs[i]? with
        | none => rw [zb] at hP; cases hP
        | some b =>
          rw [zb] at hP
          cases hP
          simp only [zb] at hQ
          exact wpAny_truthy_bool hQ
      · intro h' tk hk
        have kp : ∀ b o, s.heap.get? b = some o → h'.get? b = some o := fun b o q => hk b o (by
          intro hb
          have : b = s.heap.objs.size := by simpa using hb
          exact absurd (Heap.lt_size q) (by rw [this]; exact Nat.lt_irrefl _)) (Heap.get?_push_of_some _ q)
        have ea : (List.range (bs.map Value.bool).toArray.size).any (fun i => (bs[i]?).getD true) = bs.any id := by
          rw [List.size_toArray, List.length_map]
          exact range_any bs id _ fun i x e => by rw [e]; rfl
        rw [ea]
        exact ⟨.bl (bs.any id), H, I.kept (t' := tk) kp, rfl, k.here P q S (by unfold Rep; rfl)⟩
    · exact q.elim
  · exact q.elim
@[irreducible] def xAny : DRA := dAnyR
theorem x_any (hc : X.calm = true) : CallR X (.builtin "any") (LRA xAny) := by unfold xAny; exact c_any hc
end
theorem st_any {st : Store} {K : DK} {xs : List D} {bs : List Bool} (h : bools? xs = some bs) (k : K (.bl (bs.any id)) st) : xAny [.lst xs] st K := by unfold xAny dAnyR; simp only [h]; exact k
end L3
namespace Mx
def S : Nat → (Nat → Int) → Int
  | 0, _ => 0
  | n + 1, f => S n f + f n
theorem S_congr {n : Nat} {f g : Nat → Int} (h : ∀ i, i < n → f i = g i) : S n f = S n g := by
  induction n with
  | zero => rfl
  | succ n ih => unfold S; rw [ih fun i hi => h i (by omega), h n (by omega)]
theorem S_zero {n : Nat} {f : Nat → Int} (h : ∀ i, i < n → f i = 0) : S n f = 0 := by
  induction n with
  | zero => rfl
  | succ n ih => unfold S; rw [ih fun i hi => h i (by omega), h n (by omega)]; rfl
theorem S_add (n : Nat) (f g : Nat → Int) : S n (fun i => f i + g i) = S n f + S n g := by
  induction n with
  | zero => rfl
  | succ n ih => unfold S; rw [ih]; dsimp only; omega
theorem S_mul (n : Nat) (c : Int) (f : Nat → Int) : S n (fun i => c * f i) = c * S n f := by
  induction n with
  | zero => unfold S; rw [Int.mul_zero]
  | succ n ih => unfold S; rw [ih, Int.mul_add]
theorem S_neg (n : Nat) (f : Nat → Int) : S n (fun i => - f i) = - S n f := by
  induction n with
  | zero => rfl
  | succ n ih => unfold S; rw [ih]; dsimp only; omega
theorem S_comm (m n : Nat) (f : Nat → Nat → Int) : S m (fun i => S n fun j => f i j) = S n fun j => S m fun i => f i j := by
  induction m with
  | zero => exact (S_zero (n := n) (fun i _ => rfl)).symm
  | succ m ih =>
    have : S n (fun j => S (m + 1) fun i => f i j) = S n fun j => (S m fun i => f i j) + f m j := S_congr fun j _ => rfl
    rw [this, S_add, ← ih]
    rfl
theorem S_one {n : Nat} {k : Nat} (hk : k < n) {f : Nat → Int} (h : ∀ i, i < n → i ≠ k → f i = 0) : S n f = f k := by
  induction n with
  | zero => omega
  | succ n ih =>
    unfold S
    by_cases e : k = n
    · subst e
      rw [S_zero fun i hi => h i (by omega) (by omega), Int.zero_add]
    · rw [ih (by omega) fun i hi hn => h i (by omega) hn, h n (by omega) (by omega), Int.add_zero]
theorem S_head (n : Nat) (f : Nat → Int) : S (n + 1) f = f 0 + S n fun i => f (i + 1) := by
  induction n with
  | zero => unfold S S; omega
  | succ n ih =>
    have : S (n + 1 + 1) f = S (n + 1) f + f (n + 1) := rfl
    rw [this, ih]
    have : S (n + 1) (fun i => f (i + 1)) = S n (fun i => f (i + 1)) + f (n + 1) := rfl
    rw [this]
    omega
def dl (i j : Nat) : Int := if i = j then 1 else 0
theorem dl_self (i : Nat) : dl i i = 1 := if_pos rfl
theorem dl_ne {i j : Nat} (h : i ≠ j) : dl i j = 0 := if_neg h
theorem S_dl_l {n k : Nat} (hk : k < n) (f : Nat → Int) : S n (fun i => dl k i * f i) = f k := by
  rw [S_one hk (fun i _ h => by rw [dl_ne (Ne.symm h), Int.zero_mul]), dl_self, Int.one_mul]
theorem S_dl_r {n k : Nat} (hk : k < n) (f : Nat → Int) : S n (fun i => f i * dl i k) = f k := by
  rw [S_one hk (fun i _ h => by rw [dl_ne h, Int.mul_zero]), dl_self, Int.mul_one]
abbrev Row := List Int
abbrev Rows := List (List Int)
def g (A : Rows) (i j : Nat) : Int := (A.getD i []).getD j 0
structure IsM (m n : Nat) (A : Rows) : Prop where
  len : A.length = m
  wid : ∀ r ∈ A, r.length = n
theorem getD_lt {α : Type} {l : List α} {i : Nat} {d : α} (h : i < l.length) : l.getD i d = l[i] := by
  rw [List.getD_eq_getElem?_getD, List.getElem?_eq_getElem h]; rfl
theorem getD_ge {α : Type} {l : List α} {i : Nat} {d : α} (h : l.length ≤ i) : l.getD i d = d := by
  rw [List.getD_eq_getElem?_getD, List.getElem?_eq_none h]; rfl
theorem row_ext {a b : Row} {n : Nat} (ha : a.length = n) (hb : b.length = n) (h : ∀ j, j < n → a.getD j 0 = b.getD j 0) : a = b := by
  refine List.ext_getElem (by omega) fun i h1 h2 => ?_
  have := h i (by omega)
  rwa [getD_lt h1, getD_lt h2] at this
theorem IsM.row {m n : Nat} {A : Rows} (h : IsM m n A) {i : Nat} (hi : i < m) : (A.getD i []).length = n := by
  have hl := h.len
  rw [getD_lt (by omega)]
  exact h.wid _ (List.getElem_mem _)
theorem IsM.ext {m n : Nat} {A B : Rows} (ha : IsM m n A) (hb : IsM m n B) (h : ∀ i j, i < m → j < n → g A i j = g B i j) : A = B := by
  have h1 := ha.len
  have h2 := hb.len
  refine List.ext_getElem (by omega) fun i hi hj => ?_
  have e1 := ha.row (i := i) (by omega)
  have e2 := hb.row (i := i) (by omega)
  have := row_ext e1 e2 fun j hj => h i j (by omega) hj
  rwa [getD_lt hi, getD_lt hj] at this
def addM (r : Row) (t : Int) (s : Row) : Row := List.zipWith (fun a b => a + t * b) r s
theorem addM_len {r s : Row} {t : Int} (h : r.length = s.length) : (addM r t s).length = r.length := by unfold addM; simp [h]
theorem addM_at {r s : Row} {t : Int} (h : r.length = s.length) (j : Nat) : (addM r t s).getD j 0 = r.getD j 0 + t * s.getD j 0 := by
  unfold addM
  by_cases hj : j < r.length
  · rw [getD_lt (by simp; omega), getD_lt hj, getD_lt (by omega)]; simp
  · rw [getD_ge (by simp; omega), getD_ge (by omega), getD_ge (by omega)]; simp
def sumBy : Row → Rows → Row → Row
  | w :: ws, r :: rs, acc => sumBy ws rs (addM acc w r)
  | _, _, acc => acc
theorem sumBy_len {n : Nat} : ∀ {ws : Row} {rs : Rows} {acc : Row}, acc.length = n → (∀ r ∈ rs, r.length = n) → (sumBy ws rs acc).length = n
  | [], _, acc, h, _ => by unfold sumBy; exact h
  | _ :: _, [], acc, h, _ => by unfold sumBy; exact h
  | w :: ws, r :: rs, acc, h, hr => by
    unfold sumBy
    refine sumBy_len ?_ fun r hr' => hr r (List.mem_cons_of_mem _ hr')
    rw [addM_len (by rw [h, hr r List.mem_cons_self]), h]
theorem sumBy_at {n : Nat} : ∀ {ws : Row} {rs : Rows} {acc : Row} (j : Nat), acc.length = n → (∀ r ∈ rs, r.length = n) → ws.length = rs.length → (sumBy ws rs acc).getD j 0 = acc.getD j 0 + S rs.length fun k => ws.getD k 0 * g rs k j
  | [], [], acc, j, h, _, _ => by unfold sumBy; show _ = _ + (0 : Int); rw [Int.add_zero]
  | [], _ :: _, acc, j, h, _, hl => by cases hl
  | _ :: _, [], acc, j, h, _, hl => by cases hl
  | w :: ws, r :: rs, acc, j, h, hr, hl => by
    have e1 : acc.length = r.length := by rw [h, hr r List.mem_cons_self]
    unfold sumBy
    rw [sumBy_at j (by rw [addM_len e1, h]) (fun r hr' => hr r (List.mem_cons_of_mem _ hr')) (by simpa using hl), addM_at e1, List.length_cons, S_head]
    have : (fun k => (w :: ws).getD (k + 1) 0 * g (r :: rs) (k + 1) j) = fun k => ws.getD k 0 * g rs k j := by
      funext k; unfold g; simp
    rw [this]
    unfold g
    simp
    omega
def mulM (A B : Rows) (n : Nat) : Rows := A.map fun w => sumBy w B (List.replicate n 0)
theorem rep_at (n j : Nat) : (List.replicate n (0 : Int)).getD j 0 = 0 := by
  by_cases h : j < n
  · rw [getD_lt (by simpa using h)]; simp
  · rw [getD_ge (by simp; omega)]
theorem mulM_is {m p n : Nat} {A B : Rows} (ha : IsM m p A) (hb : IsM p n B) : IsM m n (mulM A B n) := by
  refine ⟨by unfold mulM; rw [List.length_map]; exact ha.len, fun r hr => ?_⟩
  unfold mulM at hr
  obtain ⟨w, _, rfl⟩ := List.mem_map.mp hr
  exact sumBy_len (by simp) hb.wid
theorem map_getD {α : Type} {f : Row → List α} {A : Rows} {i : Nat} (h : i < A.length) : (A.map f).getD i [] = f (A.getD i []) := by
  rw [getD_lt (by simpa using h), getD_lt h]; simp
theorem mulM_at {m p n : Nat} {A B : Rows} (ha : IsM m p A) (hb : IsM p n B) {i : Nat} (hi : i < m) (j : Nat) : g (mulM A B n) i j = S p fun k => g A i k * g B k j := by
  have hl := ha.len
  show ((mulM A B n).getD i []).getD j 0 = _
  unfold mulM
  rw [map_getD (by omega), sumBy_at (n := n) j (by simp) hb.wid (by rw [ha.row hi, hb.len]), rep_at, Int.zero_add, hb.len]
  rfl
def unitRow (n i : Nat) : Row := (List.range n).map fun k => dl k i
def units (n : Nat) : Rows := (List.range n).map fun i => unitRow n i
theorem range_getD {α : Type} {f : Nat → α} {n i : Nat} {d : α} (h : i < n) : ((List.range n).map f).getD i d = f i := by
  rw [getD_lt (by simpa using h)]; simp
theorem units_is (n : Nat) : IsM n n (units n) := ⟨by simp [units], fun r hr => by unfold units at hr; obtain ⟨i, _, rfl⟩ := List.mem_map.mp hr; simp [unitRow]⟩
theorem units_at {n i j : Nat} (hi : i < n) (hj : j < n) : g (units n) i j = dl i j := by
  unfold g units unitRow
  rw [range_getD hi, range_getD hj]
  unfold dl
  by_cases h : i = j
  · subst h; rfl
  · rw [if_neg (Ne.symm h), if_neg h]
def dotM : Row → Row → Int
  | a :: as, b :: bs => a * b + dotM as bs
  | _, _ => 0
theorem dotM_S : ∀ {a b : Row}, a.length = b.length → dotM a b = S b.length fun k => a.getD k 0 * b.getD k 0
  | [], [], _ => rfl
  | [], _ :: _, h => by cases h
  | _ :: _, [], h => by cases h
  | x :: a, y :: b, h => by
    unfold dotM
    rw [dotM_S (by simpa using h), List.length_cons, S_head]
    simp
end Mx
namespace Mx
structure TB (n : Nat) (T B : Rows) : Prop where
  t : IsM n n T
  b : IsM n n B
  tb : ∀ i j, i < n → j < n → S n (fun k => g T i k * g B k j) = dl i j
  bt : ∀ i j, i < n → j < n → S n (fun k => g B i k * g T k j) = dl i j
theorem TB.mul {n : Nat} {T B : Rows} (h : TB n T B) : mulM T B n = units n ∧ mulM B T n = units n := by
  refine ⟨(mulM_is h.t h.b).ext (units_is n) fun i j hi hj => ?_, (mulM_is h.b h.t).ext (units_is n) fun i j hi hj => ?_⟩
  · rw [mulM_at h.t h.b hi, h.tb i j hi hj, units_at hi hj]
  · rw [mulM_at h.b h.t hi, h.bt i j hi hj, units_at hi hj]
theorem dl_comm (i j : Nat) : dl i j = dl j i := by
  unfold dl
  by_cases h : i = j
  · rw [if_pos h, if_pos h.symm]
  · rw [if_neg h, if_neg (Ne.symm h)]
theorem TB.units (n : Nat) : TB n (units n) (units n) where
  t := units_is n
  b := units_is n
  tb := fun i j hi hj => by
    have : S n (fun k => g (Mx.units n) i k * g (Mx.units n) k j) = S n fun k => dl i k * dl k j := S_congr fun k hk => by rw [units_at hi hk, units_at hk hj]
    rw [this, S_dl_l hi]
  bt := fun i j hi hj => by
    have : S n (fun k => g (Mx.units n) i k * g (Mx.units n) k j) = S n fun k => dl i k * dl k j := S_congr fun k hk => by rw [units_at hi hk, units_at hk hj]
    rw [this, S_dl_l hi]
def sw (i j k : Nat) : Nat := if k = i then j else if k = j then i else k
theorem S_sw {n i j : Nat} (hi : i < n) (hj : j < n) (hij : i ≠ j) (f : Nat → Int) : S n (fun k => f (sw i j k)) = S n f := by
  have : S n (fun k => f (sw i j k)) = S n fun k => f k + (f j - f i) * dl k i + (f i - f j) * dl k j := S_congr fun k _ => by
    unfold sw
    by_cases h1 : k = i
    · subst h1; rw [if_pos rfl, dl_self, dl_ne hij]; omega
    · rw [if_neg h1, dl_ne h1]
      by_cases h2 : k = j
      · subst h2; rw [if_pos rfl, dl_self]; omega
      · rw [if_neg h2, dl_ne h2]; omega
  rw [this, S_add, S_add, S_dl_r (f := fun _ => f j - f i) hi, S_dl_r (f := fun _ => f i - f j) hj]
  omega
theorem sw_lt {n i j k : Nat} (hi : i < n) (hj : j < n) (hk : k < n) : sw i j k < n := by unfold sw; split; exact hj; split; exact hi; exact hk
theorem sw_sw (i j k : Nat) : sw i j (sw i j k) = k := by
  unfold sw
  by_cases h1 : k = i
  · subst h1
    rw [if_pos rfl]
    by_cases h2 : j = k
    · rw [if_pos h2]; exact h2
    · rw [if_neg h2, if_pos rfl]
  · rw [if_neg h1]
    by_cases h2 : k = j
    · subst h2; rw [if_pos rfl, if_pos rfl]
    · rw [if_neg h2, if_neg h1, if_neg h2]
theorem sw_inj (i j : Nat) {a b : Nat} (h : a ≠ b) : sw i j a ≠ sw i j b := fun e => h (by rw [← sw_sw i j a, e, sw_sw])
theorem TB.swap {n i j : Nat} {T B T' B' : Rows} (h : TB n T B) (hi : i < n) (hj : j < n) (hij : i ≠ j) (ht : IsM n n T') (hb : IsM n n B') (et : ∀ a k, a < n → k < n → g T' a k = g T (sw i j a) k) (eb : ∀ k b, k < n → b < n → g B' k b = g B k (sw i j b)) : TB n T' B' where
  t := ht
  b := hb
  tb := fun a b ha hb' => by
    have : S n (fun k => g T' a k * g B' k b) = S n fun k => g T (sw i j a) k * g B k (sw i j b) := S_congr fun k hk => by rw [et a k ha hk, eb k b hk hb']
    rw [this, h.tb _ _ (sw_lt hi hj ha) (sw_lt hi hj hb')]
    by_cases hab : a = b
    · subst hab; rw [dl_self, dl_self]
    · rw [dl_ne hab, dl_ne]
      exact sw_inj i j hab
  bt := fun a b ha hb' => by
    have : S n (fun k => g B' a k * g T' k b) = S n fun k => (fun k => g B a k * g T k b) (sw i j k) := S_congr fun k hk => by rw [et k b hk hb', eb a k ha hk]
    rw [this, S_sw hi hj hij (fun k => g B a k * g T k b), h.bt a b ha hb']
def Bd (M : Nat) (A : Rows) : Prop := ∀ r ∈ A, ∀ x ∈ r, x.natAbs ≤ M
theorem Bd.mono {M N : Nat} {A : Rows} (h : Bd M A) (hm : M ≤ N) : Bd N A := fun r hr x hx => Nat.le_trans (h r hr x hx) hm
theorem Bd.row {M : Nat} {A : Rows} (h : Bd M A) {i : Nat} : ∀ x ∈ A.getD i [], x.natAbs ≤ M := fun x hx => by
  by_cases hi : i < A.length
  · rw [getD_lt hi] at hx; exact h _ (List.getElem_mem _) x hx
  · rw [getD_ge (Nat.le_of_not_lt hi)] at hx; simp at hx
theorem Bd.set {M : Nat} {A : Rows} {i : Nat} {r : Row} (h : Bd M A) (hr : ∀ x ∈ r, x.natAbs ≤ M) : Bd M (A.set i r) := fun q hq x hx => by
  rcases List.mem_or_eq_of_mem_set hq with z | rfl
  · exact h q z x hx
  · exact hr x hx
theorem Bd.map {M N : Nat} {A : Rows} {f : Row → Row} (h : Bd M A) (hf : ∀ r, (∀ x ∈ r, x.natAbs ≤ M) → ∀ x ∈ f r, x.natAbs ≤ N) : Bd N (A.map f) := fun q hq => by
  obtain ⟨r, hr, rfl⟩ := List.mem_map.mp hq
  exact hf r (h r hr)
theorem Bd.units (n : Nat) : Bd 1 (units n) := fun r hr x hx => by
  unfold Mx.units at hr
  obtain ⟨i, _, rfl⟩ := List.mem_map.mp hr
  unfold unitRow at hx
  obtain ⟨j, _, rfl⟩ := List.mem_map.mp hx
  unfold dl
  split <;> decide
end Mx
namespace Mx
abbrev Fn := Nat → Nat → Int
def sk (j c : Nat) : Nat := if c < j then c else c + 1
def sg (j : Nat) : Int := if j % 2 = 0 then 1 else -1
theorem sg_succ (j : Nat) : sg (j + 1) = - sg j := by unfold sg; split <;> split <;> omega
theorem sg_zero : sg 0 = 1 := rfl
theorem sk_lt {j c n : Nat} (h : c < n) : sk j c < n + 1 := by unfold sk; split <;> omega
theorem sk_sk {j k c : Nat} (h : k < j) : sk j (sk k c) = sk k (sk (j - 1) c) := by unfold sk; grind
def D : Nat → Fn → Int
  | 0, _ => 1
  | n + 1, M => S (n + 1) fun j => sg j * M 0 j * D n fun r c => M (r + 1) (sk j c)
theorem D_zero (M : Fn) : D 0 M = 1 := rfl
theorem D_succ (n : Nat) (M : Fn) : D (n + 1) M = S (n + 1) fun j => sg j * M 0 j * D n fun r c => M (r + 1) (sk j c) := rfl
theorem D_congr : ∀ {n : Nat} {M M' : Fn}, (∀ r c, r < n → c < n → M r c = M' r c) → D n M = D n M'
  | 0, _, _, _ => rfl
  | n + 1, M, M', h => by
    rw [D_succ, D_succ]
    refine S_congr fun j hj => ?_
    have e : D n (fun r c => M (r + 1) (sk j c)) = D n (fun r c => M' (r + 1) (sk j c)) := D_congr fun r c hr hc => h (r + 1) (sk j c) (by omega) (sk_lt hc)
    rw [h 0 j (by omega) hj, e]
theorem D_lin : ∀ {n : Nat} {M P Q : Fn} {a b : Int} {i : Nat}, i < n → (∀ c, c < n → M i c = a * P i c + b * Q i c) → (∀ r c, r < n → c < n → r ≠ i → M r c = P r c ∧ M r c = Q r c) → D n M = a * D n P + b * D n Q
  | 0, _, _, _, _, _, _, h, _, _ => by omega
  | n + 1, M, P, Q, a, b, 0, _, h0, h => by
    rw [D_succ, D_succ, D_succ, ← S_mul, ← S_mul, ← S_add]
    refine S_congr fun j hj => ?_
    have e1 : D n (fun r c => M (r + 1) (sk j c)) = D n (fun r c => P (r + 1) (sk j c)) := D_congr fun r c hr hc => (h (r + 1) (sk j c) (by omega) (sk_lt hc) (by omega)).1
    have e2 : D n (fun r c => M (r + 1) (sk j c)) = D n (fun r c => Q (r + 1) (sk j c)) := D_congr fun r c hr hc => (h (r + 1) (sk j c) (by omega) (sk_lt hc) (by omega)).2
    rw [h0 j hj, ← e1, ← e2]
    grind
  | n + 1, M, P, Q, a, b, i + 1, hi, h0, h => by
    rw [D_succ, D_succ, D_succ, ← S_mul, ← S_mul, ← S_add]
    refine S_congr fun j hj => ?_
    have e := D_lin (n := n) (M := fun r c => M (r + 1) (sk j c)) (P := fun r c => P (r + 1) (sk j c)) (Q := fun r c => Q (r + 1) (sk j c)) (a := a) (b := b) (i := i) (by omega) (fun c hc => h0 (sk j c) (sk_lt hc)) fun r c hr hc hne => h (r + 1) (sk j c) (by omega) (sk_lt hc) (by omega)
    have p := h 0 j (by omega) hj (by omega)
    rw [e, ← p.1, ← p.2]
    grind
theorem D_01 {n : Nat} {M : Fn} (h : ∀ c, c < n + 2 → M 0 c = M 1 c) : D (n + 2) M = 0 := by
  let T : Nat → Nat → Int := fun j k => sg j * M 0 j * (sg k * M 1 (sk j k) * D n fun r c => M (r + 2) (sk j (sk k c)))
  have e1 : ∀ j, j < n + 2 → sg j * M 0 j * D (n + 1) (fun r c => M (r + 1) (sk j c)) = S (n + 1) fun k => T j k := fun j hj => by
    rw [D_succ, ← S_mul]
  rw [D_succ, S_congr e1]
  have e2 : ∀ j, j < n + 2 → S (n + 1) (fun k => T j k) = S (n + 1) (fun k => if k < j then T j k else 0) + S (n + 1) (fun k => if k < j then 0 else T j k) := fun j _ => by
    rw [← S_add]
    refine S_congr fun k _ => ?_
    split <;> omega
  rw [S_congr e2, S_add]
  have e3 : ∀ j k, j < n + 2 → k < n + 1 → ¬ k < j → T j k = - T (k + 1) j := fun j k hj hk hjk => by
    have s1 : sk (k + 1) j = j := by unfold sk; rw [if_pos (by omega)]
    have s2 : sk j k = k + 1 := by unfold sk; rw [if_neg hjk]
    have s3 : (fun r c => M (r + 2) (sk (k + 1) (sk j c))) = fun r c => M (r + 2) (sk j (sk k c)) := by
      funext r c
      rw [sk_sk (show j < k + 1 by omega)]; rfl
    show sg j * M 0 j * (sg k * M 1 (sk j k) * D n fun r c => M (r + 2) (sk j (sk k c))) = - (sg (k + 1) * M 0 (k + 1) * (sg j * M 1 (sk (k + 1) j) * D n fun r c => M (r + 2) (sk (k + 1) (sk j c))))
    rw [s1, s2, s3, sg_succ, ← h j hj, ← h (k + 1) (by omega)]
    grind
  have e4 : S (n + 2) (fun j => S (n + 1) fun k => if k < j then 0 else T j k) = - S (n + 2) (fun j => S (n + 1) fun k => if k < j then T j k else 0) := by
    rw [S_comm, S_head (n + 1) (fun j => S (n + 1) fun k => if k < j then T j k else 0)]
    have z : S (n + 1) (fun k => if k < 0 then T 0 k else 0) = 0 := S_zero fun k _ => if_neg (by omega)
    rw [z, Int.zero_add, ← S_neg]
    refine S_congr fun k hk => ?_
    have : S (n + 2) (fun j => if k < j then 0 else T j k) = S (n + 1) (fun j => if k < j then 0 else T j k) + (if k < n + 1 then 0 else T (n + 1) k) := rfl
    rw [this, if_pos hk, Int.add_zero, ← S_neg]
    refine S_congr fun j hj => ?_
    by_cases hkj : k < j
    · rw [if_pos hkj, if_neg (by omega)]; rfl
    · rw [if_neg hkj, if_pos (by omega)]
      exact e3 j k (by omega) hk hkj
  rw [e4]
  omega
theorem D_adj : ∀ {n : Nat} {M : Fn} {i : Nat}, i + 1 < n → (∀ c, c < n → M i c = M (i + 1) c) → D n M = 0
  | 0, _, _, h, _ => by omega
  | 1, _, _, h, _ => by omega
  | n + 2, M, 0, _, h => D_01 h
  | n + 2, M, i + 1, hi, h => by
    rw [D_succ]
    refine S_zero fun j hj => ?_
    rw [D_adj (n := n + 1) (M := fun r c => M (r + 1) (sk j c)) (i := i) (by omega) fun c hc => h (sk j c) (sk_lt hc), Int.mul_zero]
structure Alt (n : Nat) (φ : Fn → Int) : Prop where
  cg : ∀ M M' : Fn, (∀ r c, r < n → c < n → M r c = M' r c) → φ M = φ M'
  lin : ∀ (i : Nat) (M P Q : Fn) (a b : Int), i < n → (∀ c, c < n → M i c = a * P i c + b * Q i c) → (∀ r c, r < n → c < n → r ≠ i → M r c = P r c ∧ M r c = Q r c) → φ M = a * φ P + b * φ Q
  alt : ∀ (i j : Nat) (M : Fn), i < n → j < n → i ≠ j → (∀ c, c < n → M i c = M j c) → φ M = 0
def upd (M : Fn) (i : Nat) (x : Nat → Int) : Fn := fun r c => if r = i then x c else M r c
theorem upd_self (M : Fn) (i : Nat) (x : Nat → Int) (c : Nat) : upd M i x i c = x c := if_pos rfl
theorem upd_ne {M : Fn} {i r : Nat} {x : Nat → Int} (h : r ≠ i) (c : Nat) : upd M i x r c = M r c := if_neg h
theorem pol {n i j : Nat} {φ : Fn → Int} (cg : ∀ M M' : Fn, (∀ r c, r < n → c < n → M r c = M' r c) → φ M = φ M')
    (lin : ∀ (i : Nat) (M P Q : Fn) (a b : Int), i < n → (∀ c, c < n → M i c = a * P i c + b * Q i c) → (∀ r c, r < n → c < n → r ≠ i → M r c = P r c ∧ M r c = Q r c) → φ M = a * φ P + b * φ Q)
    (hi : i < n) (hj : j < n) (hij : i ≠ j) (alt : ∀ N : Fn, (∀ c, c < n → N i c = N j c) → φ N = 0) (M : Fn) : φ (fun r => M (sw i j r)) = - φ M := by
  have l1 : φ (upd (upd M i fun c => M i c + M j c) j fun c => M i c + M j c) = 1 * φ (upd (upd M i (M i)) j fun c => M i c + M j c) + 1 * φ (upd (upd M i (M j)) j fun c => M i c + M j c) :=
    lin i _ _ _ 1 1 hi (fun c _ => by rw [upd_ne hij, upd_ne hij, upd_ne hij, upd_self, upd_self, upd_self]; omega) fun r c _ _ hr => by
      unfold upd
      grind
  have l2 : ∀ x : Nat → Int, φ (upd (upd M i x) j fun c => M i c + M j c) = 1 * φ (upd (upd M i x) j (M i)) + 1 * φ (upd (upd M i x) j (M j)) := fun x =>
    lin j _ _ _ 1 1 hj (fun c _ => by rw [upd_self, upd_self, upd_self]; omega) fun r c _ _ hr => by
      rw [upd_ne hr, upd_ne hr, upd_ne hr]; exact ⟨rfl, rfl⟩
  have z0 : φ (upd (upd M i fun c => M i c + M j c) j fun c => M i c + M j c) = 0 := alt _ fun c _ => by rw [upd_ne hij, upd_self, upd_self]
  have z1 : φ (upd (upd M i (M i)) j (M i)) = 0 := alt _ fun c _ => by rw [upd_ne hij, upd_self, upd_self]
  have z2 : φ (upd (upd M i (M j)) j (M j)) = 0 := alt _ fun c _ => by rw [upd_ne hij, upd_self, upd_self]
  have s1 : φ (upd (upd M i (M i)) j (M j)) = φ M := cg _ _ fun r c _ _ => by
    unfold upd
    split
    · rename_i e; rw [e]
    · split
      · rename_i e; rw [e]
      · rfl
  have s2 : φ (upd (upd M i (M j)) j (M i)) = φ (fun r => M (sw i j r)) := cg _ _ fun r c _ _ => by
    unfold upd sw
    by_cases h1 : r = j
    · rw [if_pos h1]
      by_cases h2 : r = i
      · omega
      · rw [if_neg h2, if_pos h1]
    · rw [if_neg h1]
      by_cases h2 : r = i
      · rw [if_pos h2, if_pos h2]
      · rw [if_neg h2, if_neg h2, if_neg h1]
  have a1 := l2 (M i)
  have a2 := l2 (M j)
  rw [z1, s1] at a1
  rw [z2, s2] at a2
  rw [z0, a1, a2] at l1
  omega
theorem Alt.swap {n i j : Nat} {φ : Fn → Int} (A : Alt n φ) (hi : i < n) (hj : j < n) (hij : i ≠ j) (M : Fn) : φ (fun r => M (sw i j r)) = - φ M :=
  pol A.cg A.lin hi hj hij (fun N h => A.alt i j N hi hj hij h) M
theorem alt_of_adj {n : Nat} {φ : Fn → Int} (cg : ∀ M M' : Fn, (∀ r c, r < n → c < n → M r c = M' r c) → φ M = φ M')
    (lin : ∀ (i : Nat) (M P Q : Fn) (a b : Int), i < n → (∀ c, c < n → M i c = a * P i c + b * Q i c) → (∀ r c, r < n → c < n → r ≠ i → M r c = P r c ∧ M r c = Q r c) → φ M = a * φ P + b * φ Q)
    (adj : ∀ (i : Nat) (M : Fn), i + 1 < n → (∀ c, c < n → M i c = M (i + 1) c) → φ M = 0) : Alt n φ := by
  have far : ∀ (d i : Nat) (M : Fn), i + d + 1 < n → (∀ c, c < n → M i c = M (i + d + 1) c) → φ M = 0 := by
    intro d
    induction d with
    | zero => exact fun i M h1 h2 => adj i M h1 h2
    | succ d ih =>
      intro i M h1 h2
      have hs := pol cg lin (i := i + d + 1) (j := i + d + 1 + 1) (by omega) (by omega) (by omega) (fun N h => adj (i + d + 1) N (by omega) h) M
      have : φ (fun r => M (sw (i + d + 1) (i + d + 1 + 1) r)) = 0 := ih i _ (by omega) fun c hc => by
        have e1 : sw (i + d + 1) (i + d + 1 + 1) i = i := by unfold sw; rw [if_neg (by omega), if_neg (by omega)]
        have e2 : sw (i + d + 1) (i + d + 1 + 1) (i + d + 1) = i + d + 1 + 1 := by unfold sw; rw [if_pos rfl]
        rw [e1, e2]
        exact h2 c hc
      omega
  refine ⟨cg, lin, fun i j M hi hj hij h => ?_⟩
  by_cases hlt : i < j
  · obtain ⟨d, rfl⟩ : ∃ d, j = i + d + 1 := ⟨j - i - 1, by omega⟩
    exact far d i M hj h
  · obtain ⟨d, rfl⟩ : ∃ d, i = j + d + 1 := ⟨i - j - 1, by omega⟩
    exact far d j M hi fun c hc => (h c hc).symm
theorem D_alt (n : Nat) : Alt n (D n) := alt_of_adj (fun _ _ h => D_congr h) (fun _ _ _ _ _ _ hi h0 h => D_lin hi h0 h) fun _ _ h1 h2 => D_adj h1 h2
theorem Alt.row0 {n i : Nat} {φ : Fn → Int} (A : Alt n φ) (hi : i < n) {M : Fn} (h : ∀ c, c < n → M i c = 0) : φ M = 0 := by
  have := A.lin i M M M 0 0 hi (fun c hc => by rw [h c hc]; rfl) fun _ _ _ _ _ => ⟨rfl, rfl⟩
  omega
theorem Alt.mulRow {n i : Nat} {φ : Fn → Int} (A : Alt n φ) (hi : i < n) (M : Fn) (t : Int) (x : Nat → Int) : φ (upd M i fun c => t * x c) = t * φ (upd M i x) := by
  have := A.lin i (upd M i fun c => t * x c) (upd M i x) (upd M i x) t 0 hi (fun c hc => by rw [upd_self, upd_self]; omega) fun r c _ _ hr => by rw [upd_ne hr, upd_ne hr]; exact ⟨rfl, rfl⟩
  omega
theorem Alt.addRow {n i : Nat} {φ : Fn → Int} (A : Alt n φ) (hi : i < n) (M : Fn) (x y : Nat → Int) : φ (upd M i fun c => x c + y c) = φ (upd M i x) + φ (upd M i y) := by
  have := A.lin i (upd M i fun c => x c + y c) (upd M i x) (upd M i y) 1 1 hi (fun c hc => by rw [upd_self, upd_self, upd_self]; omega) fun r c _ _ hr => by rw [upd_ne hr, upd_ne hr, upd_ne hr]; exact ⟨rfl, rfl⟩
  omega
theorem Alt.sumRow {n i : Nat} {φ : Fn → Int} (A : Alt n φ) (hi : i < n) (M : Fn) (a : Nat → Int) (x : Nat → Nat → Int) : ∀ m, φ (upd M i fun c => S m fun j => a j * x j c) = S m fun j => a j * φ (upd M i (x j))
  | 0 => A.row0 hi fun c _ => by rw [upd_self]; rfl
  | m + 1 => by
    have : (fun c => S (m + 1) fun j => a j * x j c) = fun c => (S m fun j => a j * x j c) + a m * x m c := rfl
    rw [this, A.addRow hi, A.sumRow hi M a x m, A.mulRow hi]
    rfl
theorem Alt.more {n i : Nat} {φ : Fn → Int} (A : Alt n φ) (hi : i < n) (M : Fn) (x : Nat → Int) (a : Nat → Int) (m : Nat) (hm : m ≤ n) (him : m ≤ i) : φ (upd M i fun c => x c + S m fun j => a j * M j c) = φ (upd M i x) := by
  rw [A.addRow hi, A.sumRow hi M a (fun j => M j) m, S_zero fun j hj => ?_, Int.add_zero]
  rw [A.alt i j _ hi (by omega) (by omega) fun c _ => by rw [upd_self, upd_ne (by omega)], Int.mul_zero]
def un (j c : Nat) : Nat := if c < j then c else c - 1
def grow (j : Nat) (B : Fn) : Fn := fun r c => if r = 0 then dl j c else if c = j then 0 else B (r - 1) (un j c)
theorem un_lt {n j c : Nat} (hj : j < n + 1) (hc : c < n + 1) (h : c ≠ j) : un j c < n := by unfold un; split <;> omega
theorem un_sk {j c : Nat} (h : c ≠ j) : sk j (un j c) = c := by unfold sk un; grind
theorem Alt.grow {n j : Nat} {φ : Fn → Int} (A : Alt (n + 1) φ) (hj : j < n + 1) : Alt n fun B => φ (Mx.grow j B) where
  cg := fun M M' h => A.cg _ _ fun r c hr hc => by
    have := h (r - 1) (un j c)
    have := un_lt (c := c) hj hc
    unfold Mx.grow
    grind
  lin := fun i M P Q a b hi h0 h => A.lin (i + 1) _ _ _ a b (by omega) (fun c hc => by
    have := h0 (un j c)
    have := un_lt (c := c) hj hc
    have e : i + 1 - 1 = i := by omega
    unfold Mx.grow
    rw [e]
    grind) fun r c hr hc hne => by
    have := h (r - 1) (un j c)
    have := un_lt (c := c) hj hc
    unfold Mx.grow
    grind
  alt := fun i k M hi hk hik h => A.alt (i + 1) (k + 1) _ (by omega) (by omega) (by omega) fun c hc => by
    have := h (un j c)
    have := un_lt (c := c) hj hc
    have e : i + 1 - 1 = i := by omega
    have e2 : k + 1 - 1 = k := by omega
    unfold Mx.grow
    rw [e, e2]
    grind
theorem Alt.units {n : Nat} {φ : Fn → Int} (A : Alt (n + 1) φ) : ∀ j, j < n + 1 → φ (Mx.grow j dl) = sg j * φ dl
  | 0, _ => by
    rw [sg_zero, Int.one_mul]
    refine A.cg _ _ fun r c hr hc => ?_
    unfold Mx.grow un dl
    grind
  | j + 1, hj => by
    have ih := A.units j (by omega)
    have s := A.swap (i := 0) (j := j + 1) (by omega) hj (by omega) (Mx.grow j dl)
    rw [sg_succ, Int.neg_mul, ← ih, ← s]
    refine A.cg _ _ fun r c hr hc => ?_
    unfold Mx.grow un dl sw
    grind
theorem Alt.add1 {n i k : Nat} {φ : Fn → Int} (A : Alt n φ) (hi : i < n) (hk : k < n) (hik : i ≠ k) (M : Fn) (x : Nat → Int) (t : Int) : φ (upd M i fun c => x c + t * M k c) = φ (upd M i x) := by
  rw [A.addRow hi, A.mulRow hi M t (M k), A.alt i k (upd M i (M k)) hi hk hik fun c _ => by rw [upd_self, upd_ne (Ne.symm hik)], Int.mul_zero, Int.add_zero]
def zr (j m : Nat) (M : Fn) : Fn := fun r c => if r = 0 then dl j c else if r ≤ m ∧ c = j then 0 else M r c
theorem Alt.zr {n j : Nat} {φ : Fn → Int} (A : Alt (n + 1) φ) (M : Fn) : ∀ m, m ≤ n → φ (Mx.zr j m M) = φ (upd M 0 (dl j))
  | 0, _ => A.cg _ _ fun r c hr hc => by unfold Mx.zr upd; grind
  | m + 1, hm => by
    rw [← A.zr M m (by omega)]
    have e := A.add1 (i := m + 1) (k := 0) (by omega) (by omega) (by omega) (Mx.zr j m M) (M (m + 1)) (- M (m + 1) j)
    have e1 : φ (Mx.zr j (m + 1) M) = φ (upd (Mx.zr j m M) (m + 1) fun c => M (m + 1) c + - M (m + 1) j * Mx.zr j m M 0 c) := A.cg _ _ fun r c hr hc => by
      unfold upd Mx.zr dl
      by_cases h0 : r = m + 1
      · subst h0
        by_cases h1 : c = j
        · subst h1; simp; omega
        · have : ¬ j = c := fun z => h1 z.symm
          simp [h1, this]
      · rw [if_neg h0]
        grind
    have e2 : φ (upd (Mx.zr j m M) (m + 1) (M (m + 1))) = φ (Mx.zr j m M) := A.cg _ _ fun r c hr hc => by
      unfold upd Mx.zr
      grind
    rw [e1, e, e2]
theorem D_one : ∀ {n : Nat} {φ : Fn → Int}, Alt n φ → ∀ M, φ M = φ dl * D n M
  | 0, φ, A, M => by rw [D_zero, Int.mul_one]; exact A.cg _ _ fun r c hr => by omega
  | n + 1, φ, A, M => by
    have h1 : φ M = S (n + 1) fun j => M 0 j * φ (upd M 0 (dl j)) := by
      rw [← A.sumRow (by omega) M (M 0) dl (n + 1)]
      refine A.cg _ _ fun r c hr hc => ?_
      by_cases h0 : r = 0
      · subst h0
        rw [upd_self, S_dl_r hc]
      · rw [upd_ne h0]
    have h2 : ∀ j, j < n + 1 → φ (upd M 0 (dl j)) = φ (Mx.grow j fun r c => M (r + 1) (sk j c)) := fun j hj => by
      rw [← A.zr M n (Nat.le_refl _)]
      refine A.cg _ _ fun r c hr hc => ?_
      unfold Mx.grow Mx.zr
      by_cases h0 : r = 0
      · rw [if_pos h0, if_pos h0]
      · rw [if_neg h0, if_neg h0]
        by_cases h3 : c = j
        · rw [if_pos ⟨by omega, h3⟩, if_pos h3]
        · rw [if_neg (by omega), if_neg h3]
          dsimp only
          rw [un_sk h3, show r - 1 + 1 = r by omega]
    rw [h1, D_succ, ← S_mul]
    refine S_congr fun j hj => ?_
    have h3 := D_one (A.grow hj) fun r c => M (r + 1) (sk j c)
    have h4 := A.units j hj
    have h5 : φ (Mx.grow j fun r c => M (r + 1) (sk j c)) = φ (Mx.grow j dl) * D n fun r c => M (r + 1) (sk j c) := h3
    rw [h2 j hj, h5, h4]
    grind
theorem D_units : ∀ n, D n dl = 1
  | 0 => rfl
  | n + 1 => by
    rw [D_succ, S_one (k := 0) (by omega) fun j hj h0 => by rw [dl_ne (Ne.symm h0), Int.mul_zero, Int.zero_mul]]
    have : D n (fun r c => dl (r + 1) (sk 0 c)) = D n dl := D_congr fun r c _ _ => by
      unfold dl sk
      grind
    rw [this, D_units n, dl_self]; rfl
theorem D_clin : ∀ {n : Nat} {M P Q : Fn} {a b : Int} {i : Nat}, i < n → (∀ r, r < n → M r i = a * P r i + b * Q r i) → (∀ r c, r < n → c < n → c ≠ i → M r c = P r c ∧ M r c = Q r c) → D n M = a * D n P + b * D n Q
  | 0, _, _, _, _, _, _, h, _, _ => by omega
  | n + 1, M, P, Q, a, b, i, hi, h0, h => by
    rw [D_succ, D_succ, D_succ, ← S_mul, ← S_mul, ← S_add]
    refine S_congr fun j hj => ?_
    by_cases hij : j = i
    · subst hij
      have hs : ∀ c, sk j c ≠ j := fun c => by unfold sk; split <;> omega
      have e1 : D n (fun r c => M (r + 1) (sk j c)) = D n (fun r c => P (r + 1) (sk j c)) := D_congr fun r c hr hc => (h (r + 1) (sk j c) (by omega) (sk_lt hc) (hs c)).1
      have e2 : D n (fun r c => M (r + 1) (sk j c)) = D n (fun r c => Q (r + 1) (sk j c)) := D_congr fun r c hr hc => (h (r + 1) (sk j c) (by omega) (sk_lt hc) (hs c)).2
      rw [h0 0 (by omega), ← e1, ← e2]
      grind
    · have p := h 0 j (by omega) hj hij
      have hu : sk j (un j i) = i := un_sk (Ne.symm hij)
      have hs : ∀ c, c ≠ un j i → sk j c ≠ i := fun c hc => by unfold sk; unfold un at hc; grind
      have hlt : un j i < n := un_lt hj hi (Ne.symm hij)
      have e := D_clin (n := n) (M := fun r c => M (r + 1) (sk j c)) (P := fun r c => P (r + 1) (sk j c)) (Q := fun r c => Q (r + 1) (sk j c)) (a := a) (b := b) (i := un j i) hlt (fun r hr => by
        rw [hu]
        exact h0 (r + 1) (by omega)) fun r c hr hc hne => h (r + 1) (sk j c) (by omega) (sk_lt hc) (hs c hne)
      rw [e, ← p.1, ← p.2]
      grind
theorem D_cadj : ∀ {n : Nat} {M : Fn} {i : Nat}, i + 1 < n → (∀ r, r < n → M r i = M r (i + 1)) → D n M = 0
  | 0, _, _, h, _ => by omega
  | n + 1, M, i, hi, h => by
    rw [D_succ]
    have key : ∀ j, j < n + 1 → j ≠ i → j ≠ i + 1 → D n (fun r c => M (r + 1) (sk j c)) = 0 := fun j hj h1 h2 => by
      refine D_cadj (i := un j i) (by unfold un; split <;> omega) fun r hr => ?_
      have e1 : sk j (un j i) = i := un_sk (Ne.symm h1)
      have e2 : sk j (un j i + 1) = i + 1 := by unfold sk un; grind
      rw [e1, e2]
      exact h (r + 1) (by omega)
    have e : D n (fun r c => M (r + 1) (sk i c)) = D n (fun r c => M (r + 1) (sk (i + 1) c)) := D_congr fun r c hr hc => by
      by_cases hc2 : c = i
      · subst hc2
        have a1 : sk c c = c + 1 := by unfold sk; rw [if_neg (by omega)]
        have a2 : sk (c + 1) c = c := by unfold sk; rw [if_pos (by omega)]
        rw [a1, a2]
        exact (h (r + 1) (by omega)).symm
      · have a1 : sk i c = sk (i + 1) c := by unfold sk; grind
        rw [a1]
    have two : ∀ (m : Nat) (f : Nat → Int), i + 1 < m → (∀ j, j < m → j ≠ i → j ≠ i + 1 → f j = 0) → S m f = f i + f (i + 1) := fun m => by
      induction m with
      | zero => intro f h; omega
      | succ m ih =>
        intro f hm hf
        show S m f + f m = _
        by_cases hmi : m = i + 1
        · subst hmi
          rw [S_one (k := i) (by omega) fun j hj hne => hf j (by omega) hne (by omega)]
        · rw [ih f (by omega) fun j hj h1 h2 => hf j (by omega) h1 h2, hf m (by omega) (by omega) hmi, Int.add_zero]
    rw [two (n + 1) _ hi fun j hj h1 h2 => by rw [key j hj h1 h2, Int.mul_zero], e, sg_succ, h 0 (by omega)]
    grind
def tr (M : Fn) : Fn := fun r c => M c r
theorem D_tr (n : Nat) (M : Fn) : D n (tr M) = D n M := by
  have al : Alt n fun A => D n (tr A) := alt_of_adj (fun M M' h => D_congr fun r c hr hc => h c r hc hr)
    (fun i M P Q a b hi h0 h => D_clin hi (fun r hr => h0 r hr) fun r c hr hc hne => h c r hc hr hne)
    fun i M hi h => D_cadj hi fun r hr => h r hr
  have h := D_one al M
  have e : D n (tr dl) = D n dl := D_congr fun r c _ _ => dl_comm c r
  have h2 : D n (tr M) = D n (tr dl) * D n M := h
  rw [h2, e, D_units, Int.one_mul]
theorem D_last : ∀ {n : Nat} {M : Fn}, (∀ c, c < n + 1 → M n c = dl n c) → D (n + 1) M = D n M
  | 0, M, h => by
    rw [D_succ]
    show 0 + sg 0 * M 0 0 * D 0 _ = 1
    rw [h 0 (by omega), dl_self, sg_zero, D_zero]; omega
  | n + 1, M, h => by
    have e1 : ∀ j, j < n + 1 → D (n + 1) (fun r c => M (r + 1) (sk j c)) = D n (fun r c => M (r + 1) (sk j c)) := fun j hj => D_last fun c hc => by
      rw [h (sk j c) (sk_lt hc)]
      unfold dl sk
      grind
    have e2 : D (n + 1) (fun r c => M (r + 1) (sk (n + 1) c)) = 0 := (D_alt (n + 1)).row0 (i := n) (by omega) fun c hc => by
      have s : sk (n + 1) c = c := by unfold sk; rw [if_pos (by omega)]
      rw [s, h c (by omega), dl_ne (by omega)]
    have e3 : D (n + 1 + 1) M = (S (n + 1) fun j => sg j * M 0 j * D (n + 1) fun r c => M (r + 1) (sk j c)) + sg (n + 1) * M 0 (n + 1) * D (n + 1) (fun r c => M (r + 1) (sk (n + 1) c)) := D_succ (n + 1) M
    rw [e3, e2, Int.mul_zero, Int.add_zero, D_succ]
    exact S_congr fun j hj => by rw [e1 j hj]
end Mx
namespace Mx
theorem upd_comm {M : Fn} {i j : Nat} {x y : Nat → Int} (h : i ≠ j) : upd (upd M i x) j y = upd (upd M j y) i x := by
  funext r c
  unfold upd
  grind
def gx (R : Fn) (p : Nat) (x : Nat → Int) (j : Nat) : Int := D (p + 1) fun r c => if r < p then R r (if c < p then c else j) else x (if c < p then c else j)
theorem gx_low {R : Fn} {p j : Nat} {x : Nat → Int} (h : j < p) : gx R p x j = 0 := by
  unfold gx
  rw [← D_tr]
  refine (D_alt (p + 1)).alt j p _ (by omega) (by omega) (by omega) fun c hc => ?_
  unfold tr
  dsimp only
  rw [if_pos h, if_neg (Nat.lt_irrefl p)]
def bt (R : Fn) (p : Nat) (x : Nat → Int) (k : Nat) : Int := D (p + 1) (upd (fun c r => if r < p then R r c else x c) p (dl k))
theorem gx_eq (R : Fn) (p : Nat) (x : Nat → Int) (j : Nat) : gx R p x j = D p R * x j + S p fun k => bt R p x k * R k j := by
  have e1 : gx R p x j = D (p + 1) (upd (fun c r => if r < p then R r c else x c) p fun r => S (p + 1) fun k => (if k < p then R k j else x j) * dl k r) := by
    unfold gx
    rw [← D_tr]
    refine D_congr fun c r hc hr => ?_
    unfold tr upd
    by_cases h : c = p
    · subst h
      rw [if_pos rfl]
      dsimp only
      rw [S_dl_r hr, if_neg (Nat.lt_irrefl _)]
    · rw [if_neg h]
      dsimp only
      rw [if_pos (show c < p by omega)]
  rw [e1, (D_alt (p + 1)).sumRow (by omega)]
  have e2 : D (p + 1) (upd (fun c r => if r < p then R r c else x c) p (dl p)) = D p R := by
    rw [D_last fun c _ => upd_self _ _ _ _]
    rw [← D_tr]
    refine D_congr fun r c hr hc => ?_
    unfold tr
    rw [upd_ne (by omega), if_pos (by omega)]
  have e3 : (S (p + 1) fun k => (if k < p then R k j else x j) * D (p + 1) (upd (fun c r => if r < p then R r c else x c) p (dl k))) = (S p fun k => (if k < p then R k j else x j) * D (p + 1) (upd (fun c r => if r < p then R r c else x c) p (dl k))) + (if p < p then R p j else x j) * D (p + 1) (upd (fun c r => if r < p then R r c else x c) p (dl p)) := rfl
  rw [e3, e2, if_neg (Nat.lt_irrefl p), Int.add_comm, Int.mul_comm]
  congr 1
  refine S_congr fun k hk => ?_
  rw [if_pos hk, Int.mul_comm]
  rfl
def cl (p j1 j2 c : Nat) : Nat := if c < p then c else if c = p then j1 else j2
def gy (R : Fn) (p : Nat) (x y : Nat → Int) (j1 j2 : Nat) : Int := D (p + 2) (upd (upd (fun r c => R r (cl p j1 j2 c)) p fun c => x (cl p j1 j2 c)) (p + 1) fun c => y (cl p j1 j2 c))
theorem gx_gy {R : Fn} {p j1 j2 : Nat} {x y : Nat → Int} (hd : D p R ≠ 0) : gx R p x j1 * gx R p y j2 - gx R p y j1 * gx R p x j2 = D p R * gy R p x y j1 j2 := by
  have A := D_alt (p + 2)
  let B : Fn := fun r c => R r (cl p j1 j2 c)
  let ps : (Nat → Int) → (Nat → Int) → Int := fun u v => D (p + 2) (upd (upd B p u) (p + 1) v)
  -- rows less the first rows
  have s1 : ∀ u, ps u (fun c => gx R p y (cl p j1 j2 c)) = D p R * ps u fun c => y (cl p j1 j2 c) := fun u => by
    have e : (fun c => gx R p y (cl p j1 j2 c)) = fun c => (fun c => D p R * y (cl p j1 j2 c)) c + S p fun k => bt R p y k * upd B p u k c := by
      funext c
      rw [gx_eq]
      congr 1
      refine S_congr fun k hk => ?_
      rw [upd_ne (by omega)]
    show D (p + 2) (upd (upd B p u) (p + 1) fun c => gx R p y (cl p j1 j2 c)) = _
    rw [e, A.more (i := p + 1) (by omega) (upd B p u) (fun c => D p R * y (cl p j1 j2 c)) (bt R p y) p (by omega) (by omega), A.mulRow (by omega)]
  have s2 : ∀ v, ps (fun c => gx R p x (cl p j1 j2 c)) v = D p R * ps (fun c => x (cl p j1 j2 c)) v := fun v => by
    have e : (fun c => gx R p x (cl p j1 j2 c)) = fun c => (fun c => D p R * x (cl p j1 j2 c)) c + S p fun k => bt R p x k * upd B (p + 1) v k c := by
      funext c
      rw [gx_eq]
      congr 1
      refine S_congr fun k hk => ?_
      rw [upd_ne (by omega)]
    show D (p + 2) (upd (upd B p fun c => gx R p x (cl p j1 j2 c)) (p + 1) v) = D p R * D (p + 2) (upd (upd B p fun c => x (cl p j1 j2 c)) (p + 1) v)
    rw [upd_comm (by omega), e, A.more (i := p) (by omega) (upd B (p + 1) v) (fun c => D p R * x (cl p j1 j2 c)) (bt R p x) p (by omega) (by omega), A.mulRow (by omega), upd_comm (by omega)]
  have lhs : ps (fun c => gx R p x (cl p j1 j2 c)) (fun c => gx R p y (cl p j1 j2 c)) = D p R * (D p R * gy R p x y j1 j2) := by
    rw [s1, s2]; rfl
  -- two columns
  have two : ∀ z : Nat → Int, ∀ c, c < p + 2 → gx R p z (cl p j1 j2 c) = gx R p z j1 * dl p c + gx R p z j2 * dl (p + 1) c := fun z c hc => by
    unfold cl
    by_cases h1 : c < p
    · rw [if_pos h1, gx_low h1, dl_ne (by omega), dl_ne (by omega)]; omega
    · rw [if_neg h1]
      by_cases h2 : c = p
      · rw [if_pos h2, h2, dl_self, dl_ne (by omega)]; omega
      · rw [if_neg h2, show c = p + 1 by omega, dl_self, dl_ne (by omega)]; omega
  have lin2 : ∀ u a b, ps u (fun c => a * dl p c + b * dl (p + 1) c) = a * ps u (dl p) + b * ps u (dl (p + 1)) := fun u a b => by
    show D (p + 2) (upd (upd B p u) (p + 1) fun c => a * dl p c + b * dl (p + 1) c) = _
    rw [A.addRow (by omega), A.mulRow (by omega), A.mulRow (by omega)]
  have lin1 : ∀ v a b, ps (fun c => a * dl p c + b * dl (p + 1) c) v = a * ps (dl p) v + b * ps (dl (p + 1)) v := fun v a b => by
    show D (p + 2) (upd (upd B p fun c => a * dl p c + b * dl (p + 1) c) (p + 1) v) = a * D (p + 2) (upd (upd B p (dl p)) (p + 1) v) + b * D (p + 2) (upd (upd B p (dl (p + 1))) (p + 1) v)
    rw [upd_comm (by omega), A.addRow (by omega), A.mulRow (by omega), A.mulRow (by omega), upd_comm (by omega), upd_comm (show p + 1 ≠ p by omega)]
  have z1 : ∀ u, ps u u = 0 := fun u => A.alt p (p + 1) _ (by omega) (by omega) (by omega) fun c _ => by rw [upd_ne (by omega), upd_self, upd_self]
  have z2 : ps (dl (p + 1)) (dl p) = - ps (dl p) (dl (p + 1)) := by
    have h := A.swap (i := p) (j := p + 1) (by omega) (by omega) (by omega) (upd (upd B p (dl p)) (p + 1) (dl (p + 1)))
    rw [← h]
    refine D_congr fun r c hr hc => ?_
    unfold upd sw
    grind
  have z3 : ps (dl p) (dl (p + 1)) = D p R := by
    show D (p + 2) (upd (upd B p (dl p)) (p + 1) (dl (p + 1))) = _
    rw [D_last fun c _ => upd_self _ _ _ _]
    have e : D (p + 1) (upd (upd B p (dl p)) (p + 1) (dl (p + 1))) = D (p + 1) (upd B p (dl p)) := D_congr fun r c hr hc => upd_ne (by omega) c
    rw [e, D_last fun c _ => upd_self _ _ _ _]
    refine D_congr fun r c hr hc => ?_
    rw [upd_ne (by omega)]
    show R r (cl p j1 j2 c) = R r c
    unfold cl
    rw [if_pos hc]
  have rhs : ps (fun c => gx R p x (cl p j1 j2 c)) (fun c => gx R p y (cl p j1 j2 c)) = D p R * (gx R p x j1 * gx R p y j2 - gx R p y j1 * gx R p x j2) := by
    have e : ps (fun c => gx R p x (cl p j1 j2 c)) (fun c => gx R p y (cl p j1 j2 c)) = ps (fun c => gx R p x j1 * dl p c + gx R p x j2 * dl (p + 1) c) (fun c => gx R p y j1 * dl p c + gx R p y j2 * dl (p + 1) c) := D_congr fun r c hr hc => by
      unfold upd
      by_cases h1 : r = p + 1
      · rw [if_pos h1, if_pos h1]; exact two y c hc
      · rw [if_neg h1, if_neg h1]
        by_cases h2 : r = p
        · rw [if_pos h2, if_pos h2]; exact two x c hc
        · rw [if_neg h2, if_neg h2]
    rw [e, lin1, lin2, lin2, z1, z1, z2, z3]
    grind
  have := lhs.symm.trans rhs
  exact (Int.eq_of_mul_eq_mul_left hd this).symm
theorem D_none {n p : Nat} {R : Fn} (hp : p < n) (hd : D p R ≠ 0) (h : ∀ i, p ≤ i → i < n → gx R p (R i) p = 0) : D n R = 0 := by
  let C : Nat → Int := fun c => D (p + 1) (upd R p (dl c))
  have hC : C p = D p R := by
    show D (p + 1) (upd R p (dl p)) = _
    rw [D_last fun c _ => upd_self _ _ _ _]
    exact D_congr fun r c hr hc => upd_ne (by omega) c
  have ex : ∀ x : Nat → Int, gx R p x p = S (p + 1) fun c => x c * C c := fun x => by
    have e : gx R p x p = D (p + 1) (upd R p fun c => S (p + 1) fun k => x k * dl k c) := D_congr fun r c hr hc => by
      have hc2 : (if c < p then c else p) = c := by split <;> omega
      rw [hc2]
      unfold upd
      by_cases h1 : r = p
      · rw [if_pos h1, if_neg (by omega)]
        dsimp only
        rw [S_dl_r hc]
      · rw [if_neg h1, if_pos (by omega)]
    rw [e, (D_alt (p + 1)).sumRow (by omega)]
  have all : ∀ i, i < n → (S (p + 1) fun c => R i c * C c) = 0 := fun i hi => by
    rw [← ex]
    by_cases hip : p ≤ i
    · exact h i hip hi
    · refine (D_alt (p + 1)).alt i p _ (by omega) (by omega) (by omega) fun c _ => ?_
      rw [if_pos (by omega), if_neg (Nat.lt_irrefl _)]
  have A := D_alt n
  have m1 : D n (upd (tr R) p fun r => C p * R r p) = C p * D n R := by
    rw [A.mulRow hp (tr R) (C p) (fun r => R r p)]
    congr 1
    rw [← D_tr n R]
    refine D_congr fun r c _ _ => ?_
    unfold upd
    split
    · rename_i e; rw [e]; rfl
    · rfl
  have m2 : D n (upd (tr R) p fun r => C p * R r p) = D n (upd (tr R) p fun r => (fun _ => 0) r + S p fun k => - C k * tr R k r) := D_congr fun r c hr hc => by
    unfold upd
    split
    · have := all c hc
      have e : (S (p + 1) fun k => R c k * C k) = (S p fun k => R c k * C k) + R c p * C p := rfl
      rw [e] at this
      have e2 : (S p fun k => - C k * tr R k c) = - S p fun k => R c k * C k := by
        rw [← S_neg]
        refine S_congr fun k _ => ?_
        unfold tr
        grind
      dsimp only
      rw [e2, Int.mul_comm]
      omega
    · rfl
  rw [m2, A.more hp (tr R) (fun _ => 0) (fun k => - C k) p (by omega) (Nat.le_refl _), A.row0 hp fun c _ => upd_self _ _ _ _] at m1
  rcases Int.mul_eq_zero.mp m1.symm with z | z
  · exact absurd (hC.symm.trans z) hd
  · exact z
structure Bar (n p : Nat) (A : Fn) (m : Nat) (s d : Int) (L : Fn) : Prop where
  ex : ∃ R : Fn, D n R = s * D n A ∧ D p R = d ∧ (∀ i j, p ≤ i → i < n → j < n → L i j = gx R p (R i) j) ∧ ∀ r c, r < n → c < n → (R r c).natAbs ≤ m
  one : s * s = 1
  ne : d ≠ 0
theorem Bar.start {n m : Nat} {A : Fn} (h : ∀ r c, r < n → c < n → (A r c).natAbs ≤ m) : Bar n 0 A m 1 1 A := by
  refine ⟨⟨A, by omega, rfl, fun i j _ _ _ => ?_, h⟩, rfl, by decide⟩
  unfold gx
  rw [D_succ]
  show A i j = 0 + sg 0 * _ * D 0 _
  rw [sg_zero, D_zero, if_neg (by omega), if_neg (by omega)]
  omega
theorem gx_cg {R R' : Fn} {p : Nat} {x x' : Nat → Int} {j : Nat} (h : ∀ r c, r < p → R r c = R' r c) (hx : ∀ c, x c = x' c) : gx R p x j = gx R' p x' j := D_congr fun r c hr hc => by
  split
  · rename_i q; exact h r _ q
  · exact hx _
theorem Bar.swap {n p k m : Nat} {A L : Fn} {s d : Int} (B : Bar n p A m s d L) (hp : p < n) (hk : k < n) (hpk : p < k) : Bar n p A m (-s) d fun r => L (sw p k r) := by
  obtain ⟨R, h1, h2, h3, h4⟩ := B.ex
  have hs : ∀ r, r < p → sw p k r = r := fun r hr => by unfold sw; rw [if_neg (by omega), if_neg (by omega)]
  refine ⟨⟨fun r => R (sw p k r), ?_, ?_, fun i j hi hin hj => ?_, fun r c hr hc => h4 _ c (sw_lt hp hk hr) hc⟩, by have := B.one; grind, B.ne⟩
  · rw [(D_alt n).swap hp hk (by omega), h1, Int.neg_mul]
  · rw [← h2]
    exact D_congr fun r c hr _ => by rw [hs r hr]
  · have hge : p ≤ sw p k i := by unfold sw; split; omega; split <;> omega
    rw [h3 (sw p k i) j hge (sw_lt hp hk hin) hj]
    exact gx_cg (fun r c hr => by rw [hs r hr]) fun c => rfl
theorem Bar.none {n p m : Nat} {A L : Fn} {s d : Int} (B : Bar n p A m s d L) (hp : p < n) (h : ∀ i, p ≤ i → i < n → L i p = 0) : D n A = 0 := by
  obtain ⟨R, h1, h2, h3, h4⟩ := B.ex
  have : D n R = 0 := D_none hp (by rw [h2]; exact B.ne) fun i hi hin => by rw [← h3 i p hi hin hp]; exact h i hi hin
  rw [h1] at this
  have o := B.one
  have e : s * (s * D n A) = 0 := by rw [this, Int.mul_zero]
  rw [← Int.mul_assoc, o, Int.one_mul] at e
  exact e
theorem Bar.stop {n m : Nat} {A L : Fn} {s d : Int} (B : Bar n n A m s d L) : s * d = D n A := by
  obtain ⟨R, h1, h2, _, _⟩ := B.ex
  rw [← h2, h1, ← Int.mul_assoc, B.one, Int.one_mul]
theorem Bar.step {n p m : Nat} {A L L' : Fn} {s d : Int} (B : Bar n p A m s d L) (hp : p < n) (h : L p p ≠ 0) (hL : ∀ i j, p < i → i < n → j < n → L' i j = (L p p * L i j - L i p * L p j).fdiv d) : Bar n (p + 1) A m s (L p p) L' := by
  obtain ⟨R, h1, h2, h3, h4⟩ := B.ex
  have hpp : L p p = D (p + 1) R := by
    rw [h3 p p (Nat.le_refl _) hp hp]
    exact D_congr fun r c hr hc => by
      have e2 : (if c < p then c else p) = c := by split <;> omega
      rw [e2]
      split
      · rfl
      · have : r = p := by omega
        rw [this]
  refine ⟨⟨R, h1, hpp.symm, fun i j hi hin hj => ?_, h4⟩, B.one, h⟩
  rw [hL i j (by omega) hin hj, h3 p p (Nat.le_refl _) hp hp, h3 i j (by omega) hin hj, h3 i p (by omega) hin hp, h3 p j (Nat.le_refl _) hp hj]
  rw [gx_gy (by rw [h2]; exact B.ne), h2, Int.mul_fdiv_cancel_left _ B.ne]
  unfold gy gx
  refine D_congr fun r c hr hc => ?_
  have ec : cl p p j c = if c < p + 1 then c else j := by unfold cl; grind
  unfold upd
  dsimp only
  rw [ec]
  by_cases a1 : r = p + 1
  · rw [if_pos a1, if_neg (show ¬ r < p + 1 by omega)]
  · rw [if_neg a1, if_pos (show r < p + 1 by omega)]
    by_cases a2 : r = p
    · rw [if_pos a2, a2]
    · rw [if_neg a2]
theorem S_abs {n : Nat} {f : Nat → Int} {m : Nat} (h : ∀ i, i < n → (f i).natAbs ≤ m) : (S n f).natAbs ≤ n * m := by
  induction n with
  | zero => simp [S]
  | succ n ih =>
    have h1 := ih fun i hi => h i (by omega)
    have h2 := h n (by omega)
    show (S n f + f n).natAbs ≤ _
    rw [Nat.succ_mul]
    omega
theorem D_abs {m : Nat} : ∀ {n : Nat} {M : Fn}, n ≤ 8 → (∀ r c, r < n → c < n → (M r c).natAbs ≤ m) → (D n M).natAbs ≤ (8 * m) ^ n
  | 0, _, _, _ => by simp [D]
  | n + 1, M, hn, h => by
    rw [D_succ]
    have key : ∀ j, j < n + 1 → (sg j * M 0 j * D n fun r c => M (r + 1) (sk j c)).natAbs ≤ m * (8 * m) ^ n := fun j hj => by
      have a := D_abs (n := n) (M := fun r c => M (r + 1) (sk j c)) (by omega) fun r c hr hc => h (r + 1) (sk j c) (by omega) (sk_lt hc)
      have b := h 0 j (by omega) hj
      have s : (sg j).natAbs = 1 := by unfold sg; split <;> rfl
      rw [Int.natAbs_mul, Int.natAbs_mul, s, Nat.one_mul]
      exact Nat.mul_le_mul b a
    have e := S_abs key
    refine Nat.le_trans e ?_
    rw [Nat.pow_succ, Nat.mul_comm ((8 * m) ^ n), Nat.mul_assoc]
    have : (n + 1) * (m * (8 * m) ^ n) ≤ 8 * (m * (8 * m) ^ n) := Nat.mul_le_mul_right _ hn
    exact this
theorem Bar.abs {n p m : Nat} {A L : Fn} {s d : Int} (B : Bar n p A m s d L) (hn : n ≤ 8) (hp : p < n) {i j : Nat} (hi : p ≤ i) (hin : i < n) (hj : j < n) : (L i j).natAbs ≤ (8 * m) ^ (p + 1) := by
  obtain ⟨R, h1, h2, h3, h4⟩ := B.ex
  rw [h3 i j hi hin hj]
  refine D_abs (by omega) fun r c hr hc => ?_
  split
  · exact h4 _ _ (by omega) (by split <;> omega)
  · exact h4 _ _ hin (by split <;> omega)
end Mx
namespace Mx
end Mx
namespace Mx
theorem gx_zero (R : Fn) (x : Nat → Int) (j : Nat) : gx R 0 x j = x j := by
  unfold gx
  rw [D_succ]
  show 0 + sg 0 * _ * D 0 _ = _
  rw [sg_zero, D_zero, if_neg (by omega), if_neg (by omega)]
  omega
theorem gx_lead (R : Fn) (p : Nat) : gx R p (R p) p = D (p + 1) R := D_congr fun r c hr hc => by
  have e2 : (if c < p then c else p) = c := by split <;> omega
  rw [e2]
  split
  · rfl
  · have : r = p := by omega
    rw [this]
theorem gy_gx (R : Fn) (p : Nat) (y : Nat → Int) (j : Nat) : gy R p (R p) y p j = gx R (p + 1) y j := by
  unfold gy gx
  refine D_congr fun r c hr hc => ?_
  have ec : cl p p j c = if c < p + 1 then c else j := by unfold cl; grind
  unfold upd
  dsimp only
  rw [ec]
  by_cases a1 : r = p + 1
  · rw [if_pos a1, if_neg (show ¬ r < p + 1 by omega)]
  · rw [if_neg a1, if_pos (show r < p + 1 by omega)]
    by_cases a2 : r = p
    · rw [if_pos a2, a2]
    · rw [if_neg a2]
theorem gx_next {R : Fn} {p : Nat} (hd : D p R ≠ 0) (y : Nat → Int) (j : Nat) : D (p + 1) R * gx R p y j - gx R p y p * gx R p (R p) j = D p R * gx R (p + 1) y j := by
  rw [← gy_gx, ← gx_gy hd, gx_lead]
theorem gx_sym {G : Fn} (sym : ∀ i j, G i j = G j i) (p k j : Nat) : gx G p (G k) j = gx G p (G j) k := by
  unfold gx
  rw [← D_tr]
  refine D_congr fun r c hr hc => ?_
  unfold tr
  by_cases h1 : c < p
  · by_cases h2 : r < p
    · simp only [if_pos h1, if_pos h2]; exact sym _ _
    · simp only [if_pos h1, if_neg h2]; exact sym _ _
  · by_cases h2 : r < p
    · simp only [if_neg h1, if_pos h2]; exact sym _ _
    · simp only [if_neg h1, if_neg h2]; exact sym _ _
theorem gx_abs {G : Fn} {n m p i j : Nat} (hn : n ≤ 8) (hb : ∀ r c, r < n → c < n → (G r c).natAbs ≤ m) (hp : p < n) (hi : i < n) (hj : j < n) : (gx G p (G i) j).natAbs ≤ (8 * m) ^ (p + 1) :=
  D_abs (by omega) fun r c hr hc => by
    split
    · exact hb _ _ (by omega) (by split <;> omega)
    · exact hb _ _ hi (by split <;> omega)
def lam (G : Fn) (i j : Nat) : Int := gx G j (G i) j
theorem lam_self (G : Fn) (i : Nat) : lam G i i = D (i + 1) G := gx_lead G i
theorem lam_step {G : Fn} (sym : ∀ i j, G i j = G j i) {k : Nat} (hd : D k G ≠ 0) (i j : Nat) : (D (k + 1) G * gx G k (G i) j - lam G i k * lam G j k).fdiv (D k G) = gx G (k + 1) (G i) j := by
  have h := gx_next hd (G i) j
  rw [gx_sym sym k k j] at h
  unfold lam
  rw [h, Int.mul_fdiv_cancel_left _ hd]
def gram (A : Rows) : Fn := fun i j => dotM (A.getD i []) (A.getD j [])
end Mx
namespace Mx
theorem dot_comm : ∀ a b : Row, dotM a b = dotM b a
  | [], [] => rfl
  | [], _ :: _ => rfl
  | _ :: _, [] => rfl
  | a :: as, b :: bs => by
    unfold dotM
    rw [dot_comm as bs, Int.mul_comm]
theorem gram_sym (A : Rows) (i j : Nat) : gram A i j = gram A j i := dot_comm _ _
def lineL (G : Fn) (i : Nat) : Row := (List.range (i + 1)).map fun j => lam G i j
def tabL (G : Fn) (n : Nat) : Rows := (List.range n).map (lineL G)
theorem lineL_len (G : Fn) (i : Nat) : (lineL G i).length = i + 1 := by unfold lineL; simp
theorem lineL_at (G : Fn) {i j : Nat} (h : j ≤ i) : (lineL G i).getD j 0 = lam G i j := by
  unfold lineL
  rw [getD_lt (by simp; omega), List.getElem_map, List.getElem_range]
theorem tabL_len (G : Fn) (n : Nat) : (tabL G n).length = n := by unfold tabL; simp
theorem tabL_at (G : Fn) {n i : Nat} (h : i < n) : (tabL G n).getD i [] = lineL G i := by
  unfold tabL
  rw [getD_lt (by simpa using h), List.getElem_map, List.getElem_range]
theorem tabL_succ (G : Fn) (n : Nat) : tabL G (n + 1) = tabL G n ++ [lineL G n] := by unfold tabL; rw [List.range_succ, List.map_append]; rfl
end Mx
namespace Mx
def RA (A : Rows) (N : Nat) : Fn := fun i j => if j < N then gram A i j else (A.getD i []).getD (j - N) 0
def ev (A : Rows) (N i k c : Nat) : Int := gx (RA A N) k (RA A N i) (N + c)
theorem D_RA {A : Rows} {N k : Nat} (hk : k ≤ N) : D k (RA A N) = D k (gram A) := D_congr fun r c hr hc => if_pos (by omega)
theorem gx_RA {A : Rows} {N k i j : Nat} (hk : k ≤ N) (hj : j < N) : gx (RA A N) k (RA A N i) j = gx (gram A) k (gram A i) j := D_congr fun r c hr hc => by
  have h : (if c < k then c else j) < N := by split <;> omega
  unfold RA
  rw [if_pos h, if_pos h]
theorem ev_zero (A : Rows) (N i c : Nat) : ev A N i 0 c = (A.getD i []).getD c 0 := by
  unfold ev
  rw [gx_zero]
  unfold RA
  rw [if_neg (by omega)]
  congr 1; omega
theorem ev_next {A : Rows} {N k : Nat} (hk : k < N) (hd : D k (gram A) ≠ 0) (i c : Nat) : D k (gram A) * ev A N i (k + 1) c = D (k + 1) (gram A) * ev A N i k c - lam (gram A) i k * ev A N k k c := by
  have h := gx_next (R := RA A N) (p := k) (by rw [D_RA (by omega)]; exact hd) (RA A N i) (N + c)
  rw [D_RA (by omega), D_RA (by omega), gx_RA (by omega) hk] at h
  unfold ev lam
  omega
theorem S_lin (n : Nat) (a b : Int) (f g : Nat → Int) : S n (fun c => a * f c - b * g c) = a * S n f - b * S n g := by
  induction n with
  | zero => show (0 : Int) = a * 0 - b * 0; omega
  | succ n ih =>
    show S n (fun c => a * f c - b * g c) + (a * f n - b * g n) = a * (S n f + f n) - b * (S n g + g n)
    rw [ih, Int.mul_add, Int.mul_add]; omega
theorem cancel {a x y : Int} (ha : a ≠ 0) (h : a * x = a * y) : x = y := Int.eq_of_mul_eq_mul_left ha h
section
variable {A : Rows} {N w : Nat}
theorem ev_dot (hA : IsM N w A) (hD : ∀ k, k ≤ N → D k (gram A) ≠ 0) {m : Nat} (hm : m < N) : ∀ (k i : Nat), k ≤ N → i < N → S w (fun c => ev A N i k c * (A.getD m []).getD c 0) = gx (gram A) k (gram A i) m
  | 0, i, _, hi => by
    rw [gx_zero]
    have hl := hA.len
    have e1 : (A.getD i []).length = w := hA.wid _ (by rw [getD_lt (by omega)]; exact List.getElem_mem _)
    have e2 : (A.getD m []).length = w := hA.wid _ (by rw [getD_lt (by omega)]; exact List.getElem_mem _)
    unfold gram
    rw [dotM_S (by rw [e1, e2]), e2]
    refine S_congr fun c hc => ?_
    rw [ev_zero]
  | k + 1, i, hk, hi => by
    have hd := hD k (by omega)
    refine cancel hd ?_
    rw [← S_mul, ← gx_next hd (gram A i) m]
    have e : S w (fun c => D k (gram A) * (ev A N i (k + 1) c * (A.getD m []).getD c 0)) = S w fun c => D (k + 1) (gram A) * (ev A N i k c * (A.getD m []).getD c 0) - lam (gram A) i k * (ev A N k k c * (A.getD m []).getD c 0) := S_congr fun c hc => by
      rw [← Int.mul_assoc, ev_next (by omega) hd, Int.sub_mul, Int.mul_assoc, Int.mul_assoc]
    rw [e, S_lin, ev_dot hA hD hm k i (by omega) hi, ev_dot hA hD hm k k (by omega) (by omega)]
    rfl
theorem ev_self (hA : IsM N w A) (hD : ∀ k, k ≤ N → D k (gram A) ≠ 0) {i : Nat} (hi : i < N) : ∀ (k j : Nat), k ≤ j → j < i → S w (fun c => ev A N i i c * ev A N j k c) = 0
  | 0, j, _, hj => by
    have := ev_dot hA hD (m := j) (by omega) i i (by omega) hi
    rw [gx_low hj] at this
    rw [← this]
    exact S_congr fun c hc => by rw [ev_zero]
  | k + 1, j, hk, hj => by
    have hd := hD k (by omega)
    refine cancel hd ?_
    rw [← S_mul]
    have e : S w (fun c => D k (gram A) * (ev A N i i c * ev A N j (k + 1) c)) = S w fun c => D (k + 1) (gram A) * (ev A N i i c * ev A N j k c) - lam (gram A) j k * (ev A N i i c * ev A N k k c) := S_congr fun c hc => by
      rw [Int.mul_left_comm, ev_next (by omega) hd, Int.mul_sub, Int.mul_left_comm, Int.mul_left_comm (ev A N i i c)]
    rw [e, S_lin, ev_self hA hD hi k j (by omega) hj, ev_self hA hD hi k k (Nat.le_refl _) (by omega)]
    simp
theorem ev_square (hA : IsM N w A) (hD : ∀ k, k ≤ N → D k (gram A) ≠ 0) {i : Nat} (hi : i < N) : ∀ k, k ≤ i → S w (fun c => ev A N i i c * ev A N i k c) = D k (gram A) * D (i + 1) (gram A)
  | 0, _ => by
    have := ev_dot hA hD (m := i) hi i i (by omega) hi
    rw [gx_lead] at this
    rw [D_zero, Int.one_mul, ← this]
    exact S_congr fun c hc => by rw [ev_zero]
  | k + 1, hk => by
    have hd := hD k (by omega)
    refine cancel hd ?_
    rw [← S_mul]
    have e : S w (fun c => D k (gram A) * (ev A N i i c * ev A N i (k + 1) c)) = S w fun c => D (k + 1) (gram A) * (ev A N i i c * ev A N i k c) - lam (gram A) i k * (ev A N i i c * ev A N k k c) := S_congr fun c hc => by
      rw [Int.mul_left_comm, ev_next (by omega) hd, Int.mul_sub, Int.mul_left_comm, Int.mul_left_comm (ev A N i i c)]
    rw [e, S_lin, ev_square hA hD hi k (by omega), ev_self hA hD hi k k (Nat.le_refl _) (by omega), Int.mul_zero, Int.sub_zero, Int.mul_left_comm]
end
structure Pc (A : Rows) (N w i k : Nat) (r : Row) (b : Int) : Prop where
  len : r.length = w
  pos : 0 < b
  eq : ∀ c, c < w → r.getD c 0 * D k (gram A) = ev A N i k c * b
  dv : b ∣ D k (gram A)
theorem Pc.start {A : Rows} {N w i : Nat} (h : (A.getD i []).length = w) : Pc A N w i 0 (A.getD i []) 1 where
  len := h
  pos := by decide
  eq := fun c _ => by rw [D_zero, ev_zero]
  dv := Int.one_dvd _
theorem Pc.step {A : Rows} {N w i k : Nat} {r p r' : Row} {b pb s0 s1 g b' : Int} (hk : k < N) (hD : ∀ k, k ≤ N → D k (gram A) ≠ 0) (P : Pc A N w i k r b) (Q : Pc A N w k k p pb)
    (hs : s0 * D (k + 1) (gram A) = lam (gram A) i k * s1) (hs1 : 0 < s1) (hg : 0 < g) (hb : b * (s1 * pb) = g * b') (hl : r'.length = w) (hr : ∀ c, c < w → r.getD c 0 * (s1 * pb) - s0 * p.getD c 0 * b = g * r'.getD c 0)
    (low : ∀ m : Int, (∀ x ∈ r', b' ∣ m * x) → b' ∣ m) : Pc A N w i (k + 1) r' b' := by
  have hd := hD k (by omega)
  have key : ∀ c, c < w → r'.getD c 0 * D (k + 1) (gram A) = ev A N i (k + 1) c * b' := fun c hc => by
    refine cancel (show g ≠ 0 by omega) (cancel hd ?_)
    have h1 := P.eq c hc
    have h2 := Q.eq c hc
    have h3 := ev_next hk hd i c
    have e1 : D k (gram A) * (g * (r'.getD c 0 * D (k + 1) (gram A))) = (r.getD c 0 * D k (gram A)) * (s1 * pb) * D (k + 1) (gram A) - (s0 * D (k + 1) (gram A)) * (p.getD c 0 * D k (gram A)) * b := by
      rw [← Int.mul_assoc g, ← hr c hc]
      grind
    have e2 : D k (gram A) * (g * (ev A N i (k + 1) c * b')) = (D k (gram A) * ev A N i (k + 1) c) * (b * (s1 * pb)) := by
      rw [hb]; grind
    rw [e1, e2, h1, h2, hs, h3]
    grind
  refine ⟨hl, ?_, key, low _ fun x hx => ?_⟩
  · have : 0 < g * b' := by rw [← hb]; exact Int.mul_pos P.pos (Int.mul_pos hs1 Q.pos)
    exact Int.pos_of_mul_pos_left (by rw [Int.mul_comm]; exact this) hg
  · obtain ⟨c, hc, e⟩ := List.mem_iff_getElem.mp hx
    have := key c (by omega)
    rw [getD_lt hc, e] at this
    rw [Int.mul_comm, this]
    exact Int.dvd_mul_left _ _
theorem Pc.abs {A : Rows} {N w i k m : Nat} {r : Row} {b : Int} (P : Pc A N w i k r b) (hd : D k (gram A) ≠ 0) (hm : ∀ c, c < w → (ev A N i k c).natAbs ≤ m) : ∀ x ∈ r, x.natAbs ≤ m := fun x hx => by
  obtain ⟨c, hc, e⟩ := List.mem_iff_getElem.mp hx
  have hcw : c < w := by have := P.len; omega
  have h := P.eq c hcw
  rw [getD_lt hc, e] at h
  obtain ⟨t, ht⟩ := P.dv
  have hb := P.pos
  have ht0 : t ≠ 0 := fun z => hd (by rw [ht, z, Int.mul_zero])
  rw [ht] at h
  have h2 : x * t = ev A N i k c := cancel (a := b) (by omega) (by rw [Int.mul_comm b (ev A N i k c), ← h]; grind)
  have h3 := hm c hcw
  rw [← h2, Int.natAbs_mul] at h3
  have h4 : x.natAbs * 1 ≤ x.natAbs * t.natAbs := Nat.mul_le_mul_left _ (by omega)
  omega
theorem Pc.dot {A : Rows} {N w i j k l : Nat} {r p : Row} {b pb : Int} (P : Pc A N w i k r b) (Q : Pc A N w j l p pb) : D k (gram A) * (D l (gram A) * dotM r p) = b * pb * S w fun c => ev A N i k c * ev A N j l c := by
  rw [dotM_S (by rw [P.len, Q.len]), Q.len, ← S_mul, ← S_mul, ← S_mul]
  refine S_congr fun c hc => ?_
  have h1 := P.eq c hc
  have h2 := Q.eq c hc
  have e : D k (gram A) * (D l (gram A) * (r.getD c 0 * p.getD c 0)) = (r.getD c 0 * D k (gram A)) * (p.getD c 0 * D l (gram A)) := by grind
  rw [e, h1, h2]
  grind
theorem Pc.right {A : Rows} {N w i j : Nat} {r p : Row} {b pb : Int} (hA : IsM N w A) (hD : ∀ k, k ≤ N → D k (gram A) ≠ 0) (hi : i < N) (hj : j < i) (P : Pc A N w i i r b) (Q : Pc A N w j j p pb) : dotM r p = 0 := by
  have h := P.dot Q
  rw [ev_self hA hD hi j j (Nat.le_refl _) hj, Int.mul_zero] at h
  rcases Int.mul_eq_zero.mp h with h | h
  · exact absurd h (hD i (by omega))
  · rcases Int.mul_eq_zero.mp h with h | h
    · exact absurd h (hD j (by omega))
    · exact h
theorem Pc.square {A : Rows} {N w i : Nat} {r : Row} {b s0 s1 : Int} (hA : IsM N w A) (hD : ∀ k, k ≤ N → D k (gram A) ≠ 0) (hi : i < N) (P : Pc A N w i i r b) (hs : s0 * D i (gram A) = D (i + 1) (gram A) * s1) : dotM r r * s1 = s0 * b * b := by
  have h := P.dot P
  rw [ev_square hA hD hi i (Nat.le_refl _)] at h
  have hd := hD i (by omega)
  refine cancel hd (cancel hd ?_)
  have e1 : D i (gram A) * (D i (gram A) * (dotM r r * s1)) = (D i (gram A) * (D i (gram A) * dotM r r)) * s1 := by grind
  have e2 : D i (gram A) * (D i (gram A) * (s0 * b * b)) = D i (gram A) * (s0 * D i (gram A)) * (b * b) := by grind
  rw [e1, e2, h, hs]
  grind
end Mx
namespace Mx
theorem S_nonneg {n : Nat} {f : Nat → Int} (h : ∀ i, i < n → 0 ≤ f i) : 0 ≤ S n f := by
  induction n with
  | zero => exact Int.le_refl _
  | succ n ih => exact Int.add_nonneg (ih fun i hi => h i (by omega)) (h n (by omega))
theorem sq_nonneg (x : Int) : 0 ≤ x * x := by
  rcases Int.le_total 0 x with h | h
  · exact Int.mul_nonneg h h
  · exact Int.mul_nonneg_of_nonpos_of_nonpos h h
theorem D_pos {A : Rows} {N w : Nat} (hA : IsM N w A) (hD : ∀ k, k ≤ N → D k (gram A) ≠ 0) : ∀ k, k ≤ N → 0 < D k (gram A)
  | 0, _ => by rw [D_zero]; decide
  | k + 1, hk => by
    have ih := D_pos hA hD k (by omega)
    have h := ev_square hA hD (i := k) (by omega) k (Nat.le_refl _)
    have h2 : 0 ≤ D k (gram A) * D (k + 1) (gram A) := by rw [← h]; exact S_nonneg fun i _ => sq_nonneg _
    have h3 := Int.nonneg_of_mul_nonneg_right h2 ih
    have h4 := hD (k + 1) hk
    omega
structure Sh (G : Fn) (N : Nat) : Prop where
  half : ∀ i j, j < i → i < N → 2 * (((lam G i j).natAbs : Nat) : Int) ≤ D (j + 1) G
  fall : ∀ i, 0 < i → i < N → ¬ 4 * D (i + 1) G * D (i - 1) G < 3 * D i G * D i G - 4 * lam G i (i - 1) * lam G i (i - 1)
theorem rat_cross {a b : Int} (hb : 0 < b) : (Rat.divInt a b).num * b = a * (((Rat.divInt a b).den : Nat) : Int) := by
  have h := Rat.num_divInt_den (Rat.divInt a b)
  exact (Rat.divInt_eq_divInt_iff (by have := (Rat.divInt a b).den_pos; omega) (by omega)).mp h
theorem divInt_lt {a b c d : Int} (hb : 0 < b) (hd : 0 < d) : Rat.divInt a b < Rat.divInt c d ↔ a * d < c * b := by
  have h1 := rat_cross (a := a) hb
  have h2 := rat_cross (a := c) hd
  have p1 : (0 : Int) < (((Rat.divInt a b).den : Nat) : Int) := by have := (Rat.divInt a b).den_pos; omega
  have p2 : (0 : Int) < (((Rat.divInt c d).den : Nat) : Int) := by have := (Rat.divInt c d).den_pos; omega
  rw [Rat.lt_iff]
  generalize (((Rat.divInt a b).den : Nat) : Int) = x at *
  generalize (((Rat.divInt c d).den : Nat) : Int) = y at *
  generalize (Rat.divInt a b).num = u at *
  generalize (Rat.divInt c d).num = v at *
  have e1 : b * d * (u * y) = x * y * (a * d) := by
    calc b * d * (u * y) = (u * b) * (y * d) := by grind
      _ = x * y * (a * d) := by rw [h1]; grind
  have e2 : b * d * (v * x) = x * y * (c * b) := by
    calc b * d * (v * x) = (v * d) * (x * b) := by grind
      _ = x * y * (c * b) := by rw [h2]; grind
  have q1 := Int.mul_pos hb hd
  have q2 := Int.mul_pos p1 p2
  constructor
  · intro h
    have := Int.mul_lt_mul_of_pos_left h q1
    rw [e1, e2] at this
    exact Int.lt_of_mul_lt_mul_left this (by omega)
  · intro h
    have := Int.mul_lt_mul_of_pos_left h q2
    rw [← e1, ← e2] at this
    exact Int.lt_of_mul_lt_mul_left this (by omega)
theorem rat_short {a b c l : Int} (hb : 0 < b) (hc : 0 < c) : Rat.divInt a b < (Rat.divInt 3 4 - Rat.divInt l b * Rat.divInt l b) * Rat.divInt b c ↔ 4 * a * c < 3 * b * b - 4 * l * l := by
  have hbb := Int.mul_pos hb hb
  rw [Rat.divInt_mul_divInt, Rat.divInt_sub_divInt _ _ (by decide) (by omega), Rat.divInt_mul_divInt, divInt_lt hb (Int.mul_pos (Int.mul_pos (by decide) hbb) hc)]
  have e1 : a * (4 * (b * b) * c) = b * b * (4 * a * c) := by grind
  have e2 : (3 * (b * b) - l * l * 4) * b * b = b * b * (3 * b * b - 4 * l * l) := by grind
  rw [e1, e2]
  exact ⟨fun h => Int.lt_of_mul_lt_mul_left h (by omega), fun h => Int.mul_lt_mul_of_pos_left h hbb⟩
theorem half_iff {t b s0 s1 : Int} (hb : 0 < b) (h1 : 0 < s1) (h : s0 * b = t * s1) : 2 * ((s0.natAbs : Nat) : Int) ≤ s1 ↔ 2 * ((t.natAbs : Nat) : Int) ≤ b := by
  have e : ((s0.natAbs : Nat) : Int) * b = ((t.natAbs : Nat) : Int) * s1 := by
    have := congrArg Int.natAbs h
    rw [Int.natAbs_mul, Int.natAbs_mul] at this
    have h2 : ((b.natAbs : Nat) : Int) = b := Int.natAbs_of_nonneg (by omega)
    have h3 : ((s1.natAbs : Nat) : Int) = s1 := Int.natAbs_of_nonneg (by omega)
    calc ((s0.natAbs : Nat) : Int) * b = ((s0.natAbs * b.natAbs : Nat) : Int) := by rw [Int.natCast_mul, h2]
      _ = ((t.natAbs * s1.natAbs : Nat) : Int) := by rw [this]
      _ = ((t.natAbs : Nat) : Int) * s1 := by rw [Int.natCast_mul, h3]
  constructor
  · intro q
    refine Int.le_of_mul_le_mul_left (a := s1) ?_ h1
    have := Int.mul_le_mul_of_nonneg_right q (show 0 ≤ b by omega)
    have e2 : 2 * ((s0.natAbs : Nat) : Int) * b = s1 * (2 * ((t.natAbs : Nat) : Int)) := by rw [Int.mul_assoc, e]; grind
    rw [e2] at this
    exact this
  · intro q
    refine Int.le_of_mul_le_mul_left (a := b) ?_ hb
    have := Int.mul_le_mul_of_nonneg_right q (show 0 ≤ s1 by omega)
    have e2 : 2 * ((t.natAbs : Nat) : Int) * s1 = b * (2 * ((s0.natAbs : Nat) : Int)) := by rw [Int.mul_assoc, ← e]; grind
    rw [e2] at this
    exact this
end Mx
namespace Prog
open PySem L2 L3
open PySem.Spec hiding items?
open PyProof.Rows hiding St
theorem mulok_l {i j : Int} (h1 : -(2 ^ 64) < i) (h2 : i < 2 ^ 64) : IntMulOk i j := .of_left (intBits_le_64 h1 h2)
theorem mulok_r {i j : Int} (h1 : -(2 ^ 64) < j) (h2 : j < 2 ^ 64) : IntMulOk i j := .of_right (intBits_le_64 h1 h2)
theorem log2_mono {a b : Nat} (h : a ≤ b) (hb : b.log2 < 9000) (ha : a ≠ 0) : a.log2 < 9000 := by
  have hb0 : b ≠ 0 := by omega
  exact (Nat.log2_lt ha).mpr (Nat.lt_of_le_of_lt h ((Nat.log2_lt hb0).mp hb))
def isInt : D → Bool
  | .int _ => true
  | _ => false
theorem bools_map {f : D → Bool} : ∀ xs : List D, bools? (xs.map fun x => D.bl (f x)) = some (xs.map f)
  | [] => rfl
  | x :: xs => by simp [bools?, bools_map xs]
abbrev dInts (r : List Int) : List D := r.map D.int
abbrev rowT (r : List Int) : D := .tup (dInts r)
abbrev rowL (r : List Int) : D := .lst (dInts r)
abbrev rowsT (A : List (List Int)) : D := .tup (A.map rowT)
abbrev rowsL (A : List (List Int)) : D := .lst (A.map rowL)
def RowsIn (st : Store) : List D → List (List Int) → Prop
  | [], [] => True
  | d :: ds, r :: rs => items? st d = some (dInts r) ∧ RowsIn st ds rs
  | _, _ => False
structure RowsD (st : Store) (d : D) (A : List (List Int)) : Prop where
  ex : ∃ ds, items? st d = some ds ∧ RowsIn st ds A
theorem RowsIn.len {st : Store} : ∀ {ds : List D} {A : List (List Int)}, RowsIn st ds A → ds.length = A.length
  | [], [], _ => rfl
  | _ :: _, _ :: _, h => by simp [RowsIn.len h.2]
theorem RowsIn.tup {st : Store} : ∀ {A : List (List Int)}, RowsIn st (A.map rowT) A
  | [] => trivial
  | _ :: _ => ⟨rfl, RowsIn.tup⟩
theorem RowsIn.lst {st : Store} : ∀ {A : List (List Int)}, RowsIn st (A.map rowL) A
  | [] => trivial
  | _ :: _ => ⟨rfl, RowsIn.lst⟩
theorem RowsIn.get {st : Store} : ∀ {ds : List D} {A : List (List Int)} {i : Nat} {d : D}, RowsIn st ds A → ds[i]? = some d → ∃ r, A[i]? = some r ∧ items? st d = some (dInts r)
  | _ :: _, r :: _, 0, _, h, e => by simp at e; subst e; exact ⟨r, rfl, h.1⟩
  | _ :: _, _ :: _, i + 1, d, h, e => by
    obtain ⟨r, e1, e2⟩ := RowsIn.get (i := i) (d := d) h.2 (by simpa using e)
    exact ⟨r, by simpa using e1, e2⟩
theorem rowsT_d {st : Store} {A : List (List Int)} : RowsD st (rowsT A) A := ⟨_, rfl, RowsIn.tup⟩
theorem rowsL_d {st : Store} {A : List (List Int)} : RowsD st (rowsL A) A := ⟨_, rfl, RowsIn.lst⟩
structure Ext (st st' : Store) : Prop where
  len : st.length ≤ st'.length
  same : ∀ m, m < st.length → st'[m]? = st[m]?
theorem Ext.refl {st : Store} : Ext st st := ⟨Nat.le_refl _, fun _ _ => rfl⟩
theorem Ext.trans {st st1 st2 : Store} (a : Ext st st1) (b : Ext st1 st2) : Ext st st2 := ⟨Nat.le_trans a.len b.len, fun m h => (b.same m (Nat.lt_of_lt_of_le h a.len)).trans (a.same m h)⟩
theorem Ext.push {st : Store} {c : List Cell} : Ext st (st ++ c) := ⟨by simp, fun m h => List.getElem?_append_left h⟩
theorem Ext.set {st : Store} {n : Nat} {c : Cell} {st0 : Store} (a : Ext st0 st) (h : st0.length ≤ n) : Ext st0 (st.set n c) := ⟨by rw [List.length_set]; exact a.len, fun m hm => by rw [List.getElem?_set_ne (by omega)]; exact a.same m hm⟩
theorem Ext.items {st st' : Store} {d : D} {xs : List D} (x : Ext st st') (e : items? st d = some xs) : items? st' d = some xs := by
  cases d with
  | ref n =>
    unfold items? at e ⊢
    simp only at e ⊢
    cases q : st[n]? with
    | none => rw [q] at e; cases e
    | some c =>
      have hn := (List.getElem?_eq_some_iff.mp q).1
      rw [x.same n hn]
      exact e
  | _ => exact e
theorem Ext.rowsIn {st st' : Store} (x : Ext st st') : ∀ {ds : List D} {A : List (List Int)}, RowsIn st ds A → RowsIn st' ds A
  | [], [], _ => trivial
  | _ :: _, _ :: _, h => ⟨x.items h.1, x.rowsIn h.2⟩
theorem Ext.rowsD {st st' : Store} (x : Ext st st') {d : D} {A : List (List Int)} (h : RowsD st d A) : RowsD st' d A := by
  obtain ⟨ds, e, r⟩ := h.ex
  exact ⟨ds, x.items e, x.rowsIn r⟩
theorem at_ints {r : List Int} {k : Nat} (h : k < r.length) : atI (dInts r) (k : Int) = some (.int (r.getD k 0)) := by
  refine atI_nat ?_
  rw [List.getElem?_map, List.getElem?_eq_getElem h, Mx.getD_lt h]; rfl
theorem getD_mem {r : List Int} {k : Nat} (h : k < r.length) : r.getD k 0 ∈ r := by rw [Mx.getD_lt h]; exact List.getElem_mem _
theorem RowsIn.at {st : Store} {ds : List D} {A : List (List Int)} {k : Nat} (h : RowsIn st ds A) (hk : k < A.length) : ∃ d, atI ds (k : Int) = some d ∧ items? st d = some (dInts (A.getD k [])) := by
  have hl := h.len
  have e : ds[k]? = some ds[k] := List.getElem?_eq_getElem (by omega)
  obtain ⟨r, er, hr⟩ := h.get e
  refine ⟨ds[k], atI_nat e, ?_⟩
  rw [Mx.getD_lt hk]
  rw [List.getElem?_eq_getElem hk] at er
  cases er
  exact hr
theorem ints_app {r : List Int} {x : Int} : dInts r ++ [D.int x] = dInts (r ++ [x]) := by simp [dInts]
theorem rows_app {A : List (List Int)} {r : List Int} : A.map rowT ++ [rowT r] = (A ++ [r]).map rowT := by simp
theorem zip_ints {r s : List Int} {d : D} (h : d ∈ zipD (dInts r) (dInts s)) : ∃ a b, a ∈ r ∧ b ∈ s ∧ d = .tup [.int a, .int b] := by
  obtain ⟨n, hn, e⟩ := List.mem_iff_getElem.mp h
  have e' : (zipD (dInts r) (dInts s))[n]? = some d := by rw [List.getElem?_eq_getElem hn, e]
  obtain ⟨x, y, ex, ey, rfl⟩ := zipD_get e'
  rw [List.getElem?_map] at ex ey
  cases q1 : r[n]? with
  | none => rw [q1] at ex; cases ex
  | some a =>
    cases q2 : s[n]? with
    | none => rw [q2] at ey; cases ey
    | some b =>
      rw [q1] at ex
      rw [q2] at ey
      cases ex
      cases ey
      exact ⟨a, b, List.mem_of_getElem? q1, List.mem_of_getElem? q2, rfl⟩
theorem rep_zero (n : Nat) : (List.replicate n [D.int 0]).flatten = dInts (List.replicate n 0) := by
  induction n with
  | zero => rfl
  | succ n ih => rw [List.replicate_succ, List.flatten_cons, ih]; rfl
theorem atI_zero {d : D} {ds : List D} : atI (d :: ds) 0 = some d := atI_nat (j := 0) rfl
theorem pl_ints {n : Nat} {r : List Int} : (dInts r).all (pl n) = true := by
  refine List.all_eq_true.mpr fun d hd => ?_
  obtain ⟨i, _, rfl⟩ := List.mem_map.mp hd
  cases n <;> rfl
theorem pl_rowsL {n : Nat} {A : List (List Int)} : pl (n + 2) (rowsL A) = true := by
  unfold pl
  refine List.all_eq_true.mpr fun d hd => ?_
  obtain ⟨r, _, rfl⟩ := List.mem_map.mp hd
  unfold pl
  exact pl_ints
def S_common : DSp := fun ds st K => ∃ a b, ds = [.int a, .int b] ∧ K (.int ((Nat.gcd a.natAbs b.natAbs : Nat) : Int)) st
def N_common : List Str := ["one", "other", "great", "small", "rest"]
def P_common : DS := (dSeq (dSet 2 (dCB xAbs (dCons (dVar 0) dNil)))
    (dSeq (dSet 3 (dCB xAbs (dCons (dVar 1) dNil)))
    (dSeq (dWhile (dTest (dOp xNe (dVar 3) (dC (.int 0)))) (dSeq (dSet 4 (dOp xMod (dVar 2) (dVar 3)))
    (dSeq (dSet 2 (dVar 3))
    (dSet 3 (dVar 4)))))
    (dRet (dVar 2)))))
theorem fmod_nat (a b : Nat) : (a : Int).fmod (b : Int) = ((a % b : Nat) : Int) := by
  rw [Int.fmod_eq_emod_of_nonneg _ (Int.natCast_nonneg b)]
  exact (Int.natCast_emod a b).symm
theorem sp_common : ∀ ds st K, S_common ds st K → ds.length = 2 ∧ P_common { nx := fun _ st' => K .non st', rt := K } (startD N_common ds) st := by
  rintro ds st K ⟨a, b, rfl, k⟩
  refine ⟨rfl, ?_⟩
  refine st_abs (st_abs ?_)
  refine ⟨fun m σ st' => ∃ (g s : Nat) (r : Option D), σ = [some (.int a), some (.int b), some (.int g), some (.int s), r] ∧ st' = st ∧ Nat.gcd g s = Nat.gcd a.natAbs b.natAbs ∧ s = m, ⟨b.natAbs, a.natAbs, b.natAbs, none, ?_, rfl, rfl, rfl⟩, ?_⟩
  · rfl
  · rintro m σ st' ⟨g, s, r, rfl, rfl, hg, rfl⟩
    by_cases hs : (s : Int) = 0
    · have hs0 : s = 0 := by omega
      subst hs0
      rw [Nat.gcd_zero_right] at hg
      subst hg
      exact st_ne k
    · have hs0 : 0 < s := by omega
      have hd : (!decide ((s : Int) = 0)) = true := by simp; omega
      refine st_ne ?_
      show if (!decide ((s : Int) = 0)) = true then _ else _
      rw [if_pos hd]
      refine st_mod hs ⟨g % s, Nat.mod_lt _ hs0, s, g % s, some (.int ((g % s : Nat) : Int)), ?_, rfl, ?_, rfl⟩
      · simp [fmod_nat]
      · rw [Nat.gcd_comm, ← Nat.gcd_rec, Nat.gcd_comm]; exact hg
def lowT (t b : Int) : Int := ((if b < 0 then -1 else 1) * t).fdiv ((Nat.gcd t.natAbs b.natAbs : Nat) : Int)
def lowB (t b : Int) : Int := ((if b < 0 then -1 else 1) * b).fdiv ((Nat.gcd t.natAbs b.natAbs : Nat) : Int)
def lowD (t b : Int) : D := .tup [.int (lowT t b), .int (lowB t b)]
def S_part : DSp := fun ds st K => ∃ (t b : Int), ds = [.int t, .int b] ∧ b ≠ 0 ∧ b.natAbs.log2 < 9000 ∧ K (lowD t b) st
def N_part : List Str := ["top", "bottom", "shrink"]
def P_part : DS := (dSeq (dSet 2 (dCall S_common (dCons (dVar 0) (dCons (dVar 1) dNil))))
    (dSeq (dIfS (dTest (dOp xLt (dVar 1) (dC (.int 0)))) (dSet 2 (dUn xNeg (dVar 2))) dNext)
    (dRet (dTup (dCons (dOp xFdiv (dVar 0) (dVar 2)) (dCons (dOp xFdiv (dVar 1) (dVar 2)) dNil))))))
theorem fdiv_neg_dvd {g t : Int} (hg : g ≠ 0) (h : g ∣ t) : t.fdiv (-g) = (-1 * t).fdiv g := by
  obtain ⟨c, rfl⟩ := h
  have e1 : (g * c).fdiv (-g) = -c := by
    have : g * c = (-g) * (-c) := by rw [Int.neg_mul_neg]
    rw [this, Int.mul_fdiv_cancel_left _ (by omega)]
  have e2 : (-1 * (g * c)).fdiv g = -c := by
    have : -1 * (g * c) = g * (-c) := by rw [Int.neg_mul, Int.one_mul, Int.mul_neg]
    rw [this, Int.mul_fdiv_cancel_left _ hg]
  rw [e1, e2]
theorem gcd_dvd_l (t b : Int) : ((Nat.gcd t.natAbs b.natAbs : Nat) : Int) ∣ t := Int.ofNat_dvd_left.mpr (Nat.gcd_dvd_left _ _)
theorem gcd_dvd_r (t b : Int) : ((Nat.gcd t.natAbs b.natAbs : Nat) : Int) ∣ b := Int.ofNat_dvd_left.mpr (Nat.gcd_dvd_right _ _)
theorem sp_part : ∀ ds st K, S_part ds st K → ds.length = 2 ∧ P_part { nx := fun _ st' => K .non st', rt := K } (startD N_part ds) st := by
  rintro ds st K ⟨t, b, rfl, hb, hlog, k⟩
  refine ⟨rfl, ?_⟩
  refine ⟨t, b, rfl, ?_⟩
  have hg0 : Nat.gcd t.natAbs b.natAbs ≠ 0 := fun z => by
    have := Nat.eq_zero_of_gcd_eq_zero_right z
    omega
  have hgl : Nat.gcd t.natAbs b.natAbs ≤ b.natAbs := Nat.le_of_dvd (by omega) (Nat.gcd_dvd_right _ _)
  have hne : ((Nat.gcd t.natAbs b.natAbs : Nat) : Int) ≠ 0 := by omega
  have hlg := log2_mono hgl hlog hg0
  unfold lowD lowT lowB at k
  refine lt2 (fun h => iteT ?_) fun h => ?_
  · rw [if_pos h, ← fdiv_neg_dvd hne (gcd_dvd_l t b), ← fdiv_neg_dvd hne (gcd_dvd_r t b)] at k
    refine st_neg (st_fdiv (by omega) (by rw [Int.natAbs_neg, Int.natAbs_natCast]; exact hlg) (st_fdiv (by omega) (by rw [Int.natAbs_neg, Int.natAbs_natCast]; exact hlg) ?_))
    exact ⟨Nat.le_of_ble_eq_true rfl, k⟩
  · rw [if_neg (by omega), Int.one_mul, Int.one_mul] at k
    refine st_fdiv hne (by rw [Int.natAbs_natCast]; exact hlg) (st_fdiv hne (by rw [Int.natAbs_natCast]; exact hlg) ?_)
    exact ⟨Nat.le_of_ble_eq_true rfl, k⟩
abbrev ofR (q : Rat) : D := .tup [.int q.num, .int ((q.den : Nat) : Int)]
theorem low_rat {t b : Int} (hb : b ≠ 0) : lowD t b = ofR (Rat.divInt t b) := by
  unfold lowD ofR lowT lowB
  have hg : (b.gcd t : Nat) = Nat.gcd t.natAbs b.natAbs := by unfold Int.gcd; rw [Nat.gcd_comm]
  have hs : (if b < 0 then (-1 : Int) else 1) = b.sign := by
    rcases Int.lt_trichotomy b 0 with h | h | h
    · rw [if_pos h, Int.sign_eq_neg_one_of_neg h]
    · exact absurd h hb
    · rw [if_neg (by omega), Int.sign_eq_one_of_pos h]
  have e1 : (Rat.divInt t b).num = ((if b < 0 then (-1 : Int) else 1) * t).fdiv ((Nat.gcd t.natAbs b.natAbs : Nat) : Int) := by
    rw [Rat.num_divInt, hs, hg, Int.fdiv_eq_ediv_of_nonneg _ (Int.natCast_nonneg _)]
  have e2 : (((Rat.divInt t b).den : Nat) : Int) = ((if b < 0 then (-1 : Int) else 1) * b).fdiv ((Nat.gcd t.natAbs b.natAbs : Nat) : Int) := by
    rw [Rat.den_divInt, if_neg hb, hs, hg, Int.fdiv_eq_ediv_of_nonneg _ (Int.natCast_nonneg _), Int.natCast_ediv]
    congr 1
    rw [Int.sign_mul_self]
  rw [e1, e2]
structure Sz (q : Rat) (m : Nat) : Prop where
  num : q.num.natAbs < 2 ^ m
  den : q.den < 2 ^ m
theorem Sz.mono {q : Rat} {m n : Nat} (h : Sz q m) (hmn : m ≤ n) : Sz q n := ⟨Nat.lt_of_lt_of_le h.num (Nat.pow_le_pow_right (by decide) hmn), Nat.lt_of_lt_of_le h.den (Nat.pow_le_pow_right (by decide) hmn)⟩
theorem Sz.of {t b : Int} {m : Nat} (hb : b ≠ 0) (h1 : t.natAbs < 2 ^ m) (h2 : b.natAbs < 2 ^ m) : Sz (Rat.divInt t b) m := by
  have hg : 1 ≤ b.gcd t := by
    have : b.gcd t ≠ 0 := fun z => hb (Int.gcd_eq_zero_iff.mp z).1
    omega
  constructor
  · rw [Rat.num_divInt]
    have : ((b.sign * t) / ((b.gcd t : Nat) : Int)).natAbs ≤ (b.sign * t).natAbs := Int.natAbs_ediv_le_natAbs _ _
    have e : (b.sign * t).natAbs ≤ t.natAbs := by
      rw [Int.natAbs_mul]
      have : b.sign.natAbs ≤ 1 := by rw [Int.natAbs_sign]; split <;> omega
      calc b.sign.natAbs * t.natAbs ≤ 1 * t.natAbs := Nat.mul_le_mul_right _ this
        _ = t.natAbs := Nat.one_mul _
    omega
  · rw [Rat.den_divInt, if_neg hb]
    exact Nat.lt_of_le_of_lt (Nat.div_le_self _ _) h2
theorem pow_split (a b : Nat) : 2 ^ a * 2 ^ b = 2 ^ (a + b) := (Nat.pow_add 2 a b).symm
theorem mul_lt_pow {x y : Int} {a b : Nat} (hx : x.natAbs < 2 ^ a) (hy : y.natAbs < 2 ^ b) : (x * y).natAbs < 2 ^ (a + b) := by
  rw [Int.natAbs_mul, ← pow_split]
  exact Nat.mul_lt_mul'' hx hy
theorem den_nz (q : Rat) : ((q.den : Nat) : Int) ≠ 0 := by have := q.den_nz; omega
theorem rat_eq (q : Rat) : q = Rat.divInt q.num ((q.den : Nat) : Int) := (Rat.num_divInt_den q).symm
theorem sub_eq (p q : Rat) : p - q = Rat.divInt (p.num * ((q.den : Nat) : Int) - q.num * ((p.den : Nat) : Int)) (((p.den : Nat) : Int) * ((q.den : Nat) : Int)) := by
  conv => lhs; rw [rat_eq p, rat_eq q]
  rw [Rat.divInt_sub_divInt _ _ (den_nz p) (den_nz q)]
theorem mul_eq (p q : Rat) : p * q = Rat.divInt (p.num * q.num) (((p.den : Nat) : Int) * ((q.den : Nat) : Int)) := by
  conv => lhs; rw [rat_eq p, rat_eq q]
  rw [Rat.divInt_mul_divInt]
theorem den_abs (q : Rat) : (((q.den : Nat) : Int)).natAbs = q.den := Int.natAbs_natCast _
theorem sub_lt_pow {x y : Int} {a : Nat} (hx : x.natAbs < 2 ^ a) (hy : y.natAbs < 2 ^ a) : (x - y).natAbs < 2 ^ (a + 1) := by
  rw [Nat.pow_succ]
  omega
theorem Sz.sub {p q : Rat} {a b : Nat} (hp : Sz p a) (hq : Sz q b) : Sz (p - q) (a + b + 1) := by
  rw [sub_eq]
  have h1 := mul_lt_pow hp.num (show (((q.den : Nat) : Int)).natAbs < 2 ^ b by rw [den_abs]; exact hq.den)
  have h2 := mul_lt_pow hq.num (show (((p.den : Nat) : Int)).natAbs < 2 ^ a by rw [den_abs]; exact hp.den)
  rw [Nat.add_comm b a] at h2
  have h3 := mul_lt_pow (show (((p.den : Nat) : Int)).natAbs < 2 ^ a by rw [den_abs]; exact hp.den) (show (((q.den : Nat) : Int)).natAbs < 2 ^ b by rw [den_abs]; exact hq.den)
  exact Sz.of (Int.mul_ne_zero (den_nz p) (den_nz q)) (sub_lt_pow h1 h2) (Nat.lt_of_lt_of_le h3 (Nat.pow_le_pow_right (by decide) (by omega)))
theorem Sz.mul {p q : Rat} {a b : Nat} (hp : Sz p a) (hq : Sz q b) : Sz (p * q) (a + b) := by
  rw [mul_eq]
  have h3 := mul_lt_pow (show (((p.den : Nat) : Int)).natAbs < 2 ^ a by rw [den_abs]; exact hp.den) (show (((q.den : Nat) : Int)).natAbs < 2 ^ b by rw [den_abs]; exact hq.den)
  exact Sz.of (Int.mul_ne_zero (den_nz p) (den_nz q)) (mul_lt_pow hp.num hq.num) h3
theorem bits_lt {a : Int} {m : Nat} (h : a.natAbs < 2 ^ m) : Builtin.Int.intBits a ≤ m := by
  unfold Builtin.Int.intBits
  by_cases h0 : a.natAbs = 0
  · have : a = 0 := by omega
    subst this
    simp
  · have := (Nat.log2_lt h0).mpr h
    split <;> omega
theorem mulok_p {a b : Int} {m n : Nat} (ha : a.natAbs < 2 ^ m) (hb : b.natAbs < 2 ^ n) (hm : m ≤ 4000) (hn : n ≤ 4000) : IntMulOk a b := by
  have l : 4000 ≤ 2 ^ 20 := by decide
  exact .of_bits (Nat.le_trans (bits_lt ha) (Nat.le_trans hm l)) (Nat.le_trans (bits_lt hb) (Nat.le_trans hn l))
theorem log_p {a : Int} {m : Nat} (ha : a.natAbs < 2 ^ m) (hm : m ≤ 8999) (h0 : a ≠ 0) : a.natAbs.log2 < 9000 := by
  have := (Nat.log2_lt (show a.natAbs ≠ 0 by omega)).mpr ha
  omega
structure Fq (st : Store) (d : D) (q : Rat) : Prop where
  its : items? st d = some [.int q.num, .int ((q.den : Nat) : Int)]
  sz : Sz q 2000
theorem Fq.a {st : Store} {d : D} {q : Rat} (h : Fq st d q) : q.num.natAbs < 2 ^ 2000 := h.sz.num
theorem Fq.b {st : Store} {d : D} {q : Rat} (h : Fq st d q) : (((q.den : Nat) : Int)).natAbs < 2 ^ 2000 := by rw [den_abs]; exact h.sz.den
theorem Fq.tup {st : Store} {q : Rat} {m : Nat} (h : Sz q m) (hm : m ≤ 2000) : Fq st (ofR q) q := ⟨rfl, h.mono hm⟩
def S_minus : DSp := fun ds st K => ∃ x y p q, ds = [x, y] ∧ Fq st x p ∧ Fq st y q ∧ K (ofR (p - q)) st
def N_minus : List Str := ["one", "other"]
def P_minus : DS := (dRet (dCall S_part (dCons (dOp xSub (dOp xMul (dOp xIx (dVar 0) (dC (.int 0))) (dOp xIx (dVar 1) (dC (.int 1)))) (dOp xMul (dOp xIx (dVar 1) (dC (.int 0))) (dOp xIx (dVar 0) (dC (.int 1))))) (dCons (dOp xMul (dOp xIx (dVar 0) (dC (.int 1))) (dOp xIx (dVar 1) (dC (.int 1)))) dNil))))
theorem sp_minus : ∀ ds st K, S_minus ds st K → ds.length = 2 ∧ P_minus { nx := fun _ st' => K .non st', rt := K } (startD N_minus ds) st := by
  rintro ds st K ⟨x, y, p, q, rfl, X, Y, k⟩
  refine ⟨rfl, ?_⟩
  have h0 := Int.mul_ne_zero (den_nz p) (den_nz q)
  refine st_ix X.its rfl (st_ix Y.its rfl (st_mul (mulok_p X.a Y.b (by decide) (by decide)) (st_ix Y.its rfl (st_ix X.its rfl (st_mul (mulok_p Y.a X.b (by decide) (by decide)) (st_sub ?_))))))
  refine st_ix X.its rfl (st_ix Y.its rfl (st_mul (mulok_p X.b Y.b (by decide) (by decide)) ?_))
  refine ⟨_, _, rfl, h0, log_p (mul_lt_pow X.b Y.b) (by decide) h0, ?_⟩
  rw [low_rat h0, ← sub_eq]
  exact k
def S_times : DSp := fun ds st K => ∃ x y p q, ds = [x, y] ∧ Fq st x p ∧ Fq st y q ∧ K (ofR (p * q)) st
def N_times : List Str := ["one", "other"]
def P_times : DS := (dRet (dCall S_part (dCons (dOp xMul (dOp xIx (dVar 0) (dC (.int 0))) (dOp xIx (dVar 1) (dC (.int 0)))) (dCons (dOp xMul (dOp xIx (dVar 0) (dC (.int 1))) (dOp xIx (dVar 1) (dC (.int 1)))) dNil))))
theorem sp_times : ∀ ds st K, S_times ds st K → ds.length = 2 ∧ P_times { nx := fun _ st' => K .non st', rt := K } (startD N_times ds) st := by
  rintro ds st K ⟨x, y, p, q, rfl, X, Y, k⟩
  refine ⟨rfl, ?_⟩
  have h0 := Int.mul_ne_zero (den_nz p) (den_nz q)
  refine st_ix X.its rfl (st_ix Y.its rfl (st_mul (mulok_p X.a Y.a (by decide) (by decide)) ?_))
  refine st_ix X.its rfl (st_ix Y.its rfl (st_mul (mulok_p X.b Y.b (by decide) (by decide)) ?_))
  refine ⟨_, _, rfl, h0, log_p (mul_lt_pow X.b Y.b) (by decide) h0, ?_⟩
  rw [low_rat h0, ← mul_eq]
  exact k
def S_before : DSp := fun ds st K => ∃ x y p q, ds = [x, y] ∧ Fq st x p ∧ Fq st y q ∧ K (.bl (decide (p < q))) st
def N_before : List Str := ["one", "other"]
def P_before : DS := (dRet (dOp xLt (dOp xMul (dOp xIx (dVar 0) (dC (.int 0))) (dOp xIx (dVar 1) (dC (.int 1)))) (dOp xMul (dOp xIx (dVar 1) (dC (.int 0))) (dOp xIx (dVar 0) (dC (.int 1))))))
theorem sp_before : ∀ ds st K, S_before ds st K → ds.length = 2 ∧ P_before { nx := fun _ st' => K .non st', rt := K } (startD N_before ds) st := by
  rintro ds st K ⟨x, y, p, q, rfl, X, Y, k⟩
  refine ⟨rfl, ?_⟩
  refine st_ix X.its rfl (st_ix Y.its rfl (st_mul (mulok_p X.a Y.b (by decide) (by decide)) (st_ix Y.its rfl (st_ix X.its rfl (st_mul (mulok_p Y.a X.b (by decide) (by decide)) (st_lt ?_))))))
  have e : decide (p.num * ((q.den : Nat) : Int) < q.num * ((p.den : Nat) : Int)) = decide (p < q) := decide_eq_decide.mpr (Rat.lt_iff p q).symm
  rw [e]
  exact k
def S_dot : DSp := fun ds st K => ∃ (x y : D) (r s : List Int), ds = [x, y] ∧ items? st x = some (dInts r) ∧ items? st y = some (dInts s) ∧ r.length ≤ 1000 ∧ (∀ a ∈ r, ∀ b ∈ s, IntMulOk a b) ∧ K (.int (Mx.dotM r s)) st
def N_dot : List Str := ["one", "other"]
def P_dot : DS := (dRet (dCB xSum (dCons (dComp (xZip (dCons (dVar 0) (dCons (dVar 1) dNil))) [none, none] (tgTwo 0 1) dTrue (dOp xMul (dVar 0) (dVar 1))) dNil)))
theorem dot_map : ∀ (r s : List Int), ∃ ns : List Int, (zipD (dInts r) (dInts s)).map (fun d => match d with | .tup [.int a, .int b] => .int (a * b) | _ => .non) = dInts ns ∧ ns.sum = Mx.dotM r s
  | [], _ => ⟨[], rfl, rfl⟩
  | _ :: _, [] => ⟨[], rfl, rfl⟩
  | a :: r, b :: s => by
    obtain ⟨ns, h1, h2⟩ := dot_map r s
    refine ⟨a * b :: ns, ?_, ?_⟩
    · have e : zipD (dInts (a :: r)) (dInts (b :: s)) = .tup [.int a, .int b] :: zipD (dInts r) (dInts s) := rfl
      rw [e, List.map_cons, h1]; rfl
    · rw [List.sum_cons, h2]; rfl
theorem sp_dot : ∀ ds st K, S_dot ds st K → ds.length = 2 ∧ P_dot { nx := fun _ st' => K .non st', rt := K } (startD N_dot ds) st := by
  rintro ds st K ⟨x, y, r, s, rfl, hx, hy, hl, hm, k⟩
  refine ⟨rfl, ?_⟩
  refine st_zip hx hy fun ok hok => ⟨sz1000 (by rw [zipD_len]; simp; omega), ?_⟩
  obtain ⟨ns, h1, h2⟩ := dot_map r s
  refine comp_map (g := fun d => match d with | .tup [.int a, .int b] => .int (a * b) | _ => .non) (hok st hx hy) _ (fun d hd K' q => ?_) ?_
  · obtain ⟨a, b, ha, hb, rfl⟩ := zip_ints hd
    exact ⟨_, rfl, st_mul (hm a ha b hb) q⟩
  · rw [h1]
    refine st_sum (ints_map _) ?_
    rw [h2]; exact k
def B90 : Nat := 1237940039285380274899124224
theorem p90 {p : Nat} (h : p ≤ 8) : (8 * B90) ^ p ≤ 2 ^ 744 := by
  have e : 8 * B90 = 2 ^ 93 := by decide
  rw [e, ← Nat.pow_mul]
  exact Nat.pow_le_pow_right (by decide) (by omega)
theorem bits_le {a : Int} {m : Nat} (h : a.natAbs < 2 ^ m) : Builtin.Int.intBits a ≤ m := by
  unfold Builtin.Int.intBits
  by_cases h0 : a.natAbs = 0
  · have : a = 0 := by omega
    subst this
    simp
  · have := (Nat.log2_lt h0).mpr h
    split <;> omega
theorem mulok_b {a b : Int} (ha : a.natAbs ≤ 2 ^ 744) (hb : b.natAbs ≤ 2 ^ 744) : IntMulOk a b := by
  have l : (2 : Nat) ^ 744 < 2 ^ 745 := Nat.pow_lt_pow_right (by decide) (by decide)
  have l2 : 745 ≤ 2 ^ 20 := by decide
  exact .of_bits (Nat.le_trans (bits_le (Nat.lt_of_le_of_lt ha l)) l2) (Nat.le_trans (bits_le (Nat.lt_of_le_of_lt hb l)) l2)
theorem log_b {a : Int} (ha : a.natAbs ≤ 2 ^ 744) (h0 : a ≠ 0) : a.natAbs.log2 < 9000 := by
  have l : (2 : Nat) ^ 744 < 2 ^ 745 := Nat.pow_lt_pow_right (by decide) (by decide)
  have := (Nat.log2_lt (show a.natAbs ≠ 0 by omega)).mpr (Nat.lt_of_le_of_lt ha l)
  omega
structure Gm (G : Mx.Fn) (n : Nat) : Prop where
  le : n ≤ 8
  bd : ∀ r c, r < n → c < n → (G r c).natAbs ≤ B90
  sym : ∀ i j, G i j = G j i
theorem Gm.gx {G : Mx.Fn} {n p i j : Nat} (h : Gm G n) (hp : p < n) (hi : i < n) (hj : j < n) : (Mx.gx G p (G i) j).natAbs ≤ 2 ^ 744 := Nat.le_trans (Mx.gx_abs h.le h.bd hp hi hj) (p90 (by have := h.le; omega))
theorem Gm.D {G : Mx.Fn} {n p : Nat} (h : Gm G n) (hp : p ≤ n) : (Mx.D p G).natAbs ≤ 2 ^ 744 := Nat.le_trans (Mx.D_abs (by have := h.le; omega) fun r c hr hc => h.bd r c (by omega) (by omega)) (p90 (by have := h.le; omega))
def S_cleared : DSp := fun ds st K => ∃ (G : Mx.Fn) (n i j : Nat) (m : Nat) (o1 o2 : List Int) (dt d1 d2 : D), ds = [.int (G i j), dt, d1, d2] ∧ items? st dt = some ((Mx.tabL G m).map rowL) ∧ items? st d1 = some (dInts o1) ∧ items? st d2 = some (dInts o2) ∧ o1.length = j ∧ j ≤ o2.length ∧ j ≤ m ∧ (∀ k, k < j → o1.getD k 0 = Mx.lam G i k ∧ o2.getD k 0 = Mx.lam G j k) ∧ (∀ k, k < j → Mx.D k G ≠ 0) ∧ Gm G n ∧ i < n ∧ j < n ∧ K (.int (Mx.gx G j (G i) j)) st
def N_cleared : List Str := ["together", "table", "one", "other", "divisor", "line", "left", "right"]
def P_cleared : DS := (dSeq (dSet 4 (dC (.int 1)))
    (dSeq (dFor (xZip3 (dCons (dVar 1) (dCons (dVar 2) (dCons (dVar 3) dNil)))) (tgThree 5 6 7) (dSeq (dSet 0 (dOp xFdiv (dOp xSub (dOp xMul (dOp xIx (dVar 5) (dUn xNeg (dC (.int 1)))) (dVar 0)) (dOp xMul (dVar 6) (dVar 7))) (dVar 4)))
    (dSet 4 (dOp xIx (dVar 5) (dUn xNeg (dC (.int 1)))))))
    (dRet (dVar 0))))
theorem at_last {r : List Int} {n : Nat} (h : r.length = n + 1) : atI (dInts r) (-1) = some (.int (r.getD n 0)) := by
  have e : r = r.take n ++ [r.getD n 0] := by
    rw [Mx.getD_lt (by omega), ← List.take_succ_eq_append_getElem (by omega), List.take_of_length_le (by omega)]
  have e2 : dInts r = dInts (r.take n) ++ [.int (r.getD n 0)] := by
    conv => lhs; rw [e]
    simp [dInts]
  rw [e2]
  exact atI_last _ _
theorem zip3_cons {T : List (List Int)} {o1 o2 : List Int} {k : Nat} (h1 : k < T.length) (h2 : k < o1.length) (h3 : k < o2.length) : zipD3 ((T.drop k).map rowL) (dInts (o1.drop k)) (dInts (o2.drop k)) = .tup [rowL (T.getD k []), .int (o1.getD k 0), .int (o2.getD k 0)] :: zipD3 ((T.drop (k + 1)).map rowL) (dInts (o1.drop (k + 1))) (dInts (o2.drop (k + 1))) := by
  rw [List.drop_eq_getElem_cons h1, List.drop_eq_getElem_cons h2, List.drop_eq_getElem_cons h3, Mx.getD_lt h1, Mx.getD_lt h2, Mx.getD_lt h3]
  rfl
theorem sp_cleared : ∀ ds st K, S_cleared ds st K → ds.length = 4 ∧ P_cleared { nx := fun _ st' => K .non st', rt := K } (startD N_cleared ds) st := by
  rintro ds st K ⟨G, n, i, j, m, o1, o2, dt, d1, d2, rfl, ht, h1, h2, l1, l2, l3, ho, hD, g, hi, hj, k⟩
  refine ⟨rfl, ?_⟩
  have hg := g.le
  refine st_zip3 ht h1 h2 fun ok hok => ?_
  refine for_ind (fun rest σ st' => st' = st ∧ ∃ (q : Nat) (v5 v6 v7 : Option D), q ≤ j ∧ σ = [some (.int (Mx.gx G q (G i) j)), some dt, some d1, some d2, some (.int (Mx.D q G)), v5, v6, v7] ∧ rest = zipD3 (((Mx.tabL G m).drop q).map rowL) (dInts (o1.drop q)) (dInts (o2.drop q))) ?_ ?_ _ _ _ ⟨rfl, 0, none, none, none, Nat.zero_le _, by rw [Mx.gx_zero]; rfl, rfl⟩
  · rintro σ st' ⟨rfl, q, v5, v6, v7, hq, rfl, hr⟩
    refine ⟨hok _ ht h1 h2, ?_⟩
    have : q = j := by
      by_cases h : q < j
      · rw [zip3_cons (by rw [Mx.tabL_len]; omega) (by omega) (by omega)] at hr
        cases hr
      · omega
    subst this
    exact k
  · rintro x rest σ st' ⟨rfl, q, v5, v6, v7, hq, rfl, hr⟩ next
    have hqj : q < j := by
      by_cases h : q < j
      · exact h
      · have : o1.drop q = [] := List.drop_eq_nil_of_le (by omega)
        rw [this] at hr
        have e : zipD3 (((Mx.tabL G m).drop q).map rowL) (dInts []) (dInts (o2.drop q)) = [] := by
          cases ((Mx.tabL G m).drop q) <;> rfl
        rw [e] at hr
        cases hr
    rw [zip3_cons (by rw [Mx.tabL_len]; omega) (by omega) (by omega), List.cons.injEq] at hr
    obtain ⟨rfl, rfl⟩ := hr
    refine ⟨hok _ ht h1 h2, _, rfl, ?_⟩
    rw [Mx.tabL_at G (show q < m by omega), (ho q hqj).1, (ho q hqj).2]
    have eL : (Mx.lineL G q).getD q 0 = Mx.D (q + 1) G := by rw [Mx.lineL_at G (Nat.le_refl _), Mx.lam_self]
    have b1 := g.D (p := q + 1) (by omega)
    have b2 := g.gx (p := q) (i := i) (j := j) (by omega) hi hj
    have b3 : (Mx.lam G i q).natAbs ≤ 2 ^ 744 := g.gx (by omega) hi (by omega)
    have b4 : (Mx.lam G j q).natAbs ≤ 2 ^ 744 := g.gx (by omega) hj (by omega)
    have b5 := g.D (p := q) (by omega)
    refine st_neg (st_ix rfl (at_last (Mx.lineL_len G q)) ?_)
    rw [eL]
    refine st_mul (mulok_b b1 b2) (st_mul (mulok_b b3 b4) (st_sub (st_fdiv (hD q hqj) (log_b b5 (hD q hqj)) ?_)))
    rw [Mx.lam_step g.sym (hD q hqj)]
    refine st_neg (st_ix rfl (at_last (Mx.lineL_len G q)) ?_)
    rw [eL]
    exact next _ _ ⟨rfl, q + 1, _, _, _, hqj, rfl, rfl⟩
structure St (A : List (List Int)) (N w : Nat) : Prop where
  is : Mx.IsM N w A
  wd : w ≤ 1000
  sm : ∀ r ∈ A, ∀ x ∈ r, x.natAbs < 2 ^ 64
  gm : Gm (Mx.gram A) N
theorem St.mem {A : List (List Int)} {N w i : Nat} (h : St A N w) (hi : i < N) : A.getD i [] ∈ A := by
  have := h.is.len
  rw [Mx.getD_lt (by omega)]; exact List.getElem_mem _
def S_line_of : DSp := fun ds st K => ∃ (A : List (List Int)) (N w i : Nat) (dt dA dr : D), ds = [dt, dA, dr] ∧ items? st dt = some ((Mx.tabL (Mx.gram A) i).map rowL) ∧ RowsD st dA A ∧ St A N w ∧ i < N ∧ items? st dr = some (dInts (A.getD i [])) ∧ (∀ k, k ≤ i → Mx.D k (Mx.gram A) ≠ 0) ∧ ∀ st', Ext st st' → K (rowL (Mx.lineL (Mx.gram A) i)) st'
def N_line_of : List Str := ["table", "steps", "row", "made", "line", "step"]
def P_line_of : DS := (dSeq (dSet 3 (dNew dNil))
    (dSeq (dFor (xZip (dCons (dVar 0) (dCons (dVar 1) dNil))) (tgTwo 4 5) (dDrop (xAppend (dVar 3) (dCall S_cleared (dCons (dCall S_dot (dCons (dVar 2) (dCons (dVar 5) dNil))) (dCons (dVar 0) (dCons (dVar 3) (dCons (dVar 4) dNil))))))))
    (dSeq (dDrop (xAppend (dVar 3) (dCall S_cleared (dCons (dCall S_dot (dCons (dVar 2) (dCons (dVar 2) dNil))) (dCons (dVar 0) (dCons (dVar 3) (dCons (dVar 3) dNil)))))))
    (dFrzS 3 (dRet (dVar 3))))))
theorem zip_drop {xs : List (List Int)} {da : List D} {q : Nat} (h1 : q < xs.length) (h2 : q < da.length) : zipD ((xs.drop q).map rowL) (da.drop q) = .tup [rowL (xs.getD q []), da[q]] :: zipD ((xs.drop (q + 1)).map rowL) (da.drop (q + 1)) := by
  rw [List.drop_eq_getElem_cons h1, List.drop_eq_getElem_cons h2, Mx.getD_lt h1]
  rfl
theorem dot_ok {A : List (List Int)} {N w i j : Nat} (h : St A N w) (hi : i < N) (hj : j < N) : ∀ a ∈ A.getD i [], ∀ b ∈ A.getD j [], IntMulOk a b := fun a ha b _ => by
  have := h.sm _ (h.mem hi) a ha
  exact mulok_l (by omega) (by omega)
theorem lams_app (G : Mx.Fn) (i q : Nat) : dInts ((List.range q).map fun j => Mx.lam G i j) ++ [.int (Mx.lam G i q)] = dInts ((List.range (q + 1)).map fun j => Mx.lam G i j) := by rw [List.range_succ, List.map_append]; simp [dInts]
theorem lams_at (G : Mx.Fn) {i q k : Nat} (h : k < q) : ((List.range q).map fun j => Mx.lam G i j).getD k 0 = Mx.lam G i k := by rw [Mx.getD_lt (by simpa using h), List.getElem_map, List.getElem_range]
theorem sp_line_of : ∀ ds st K, S_line_of ds st K → ds.length = 3 ∧ P_line_of { nx := fun _ st' => K .non st', rt := K } (startD N_line_of ds) st := by
  rintro ds st K ⟨A, N, w, i, dt, dA, dr, rfl, ht, ⟨da, hda, ra⟩, hS, hi, hr, hD, k⟩
  refine ⟨rfl, ?_⟩
  have hl := hS.is.len
  have hla := ra.len
  have h8 := hS.gm.le
  have wi := hS.is.wid _ (hS.mem hi)
  have hw := hS.wd
  refine ⟨Nat.le_of_ble_eq_true rfl, ?_⟩
  have X0 : Ext st (st ++ [.lst []]) := Ext.push
  have e0 : (st ++ [Cell.lst []])[st.length]? = some (.lst (dInts ((List.range 0).map fun j => Mx.lam (Mx.gram A) i j))) := by simp
  refine st_zip (X0.items ht) (X0.items hda) fun ok hok => ?_
  refine for_ind (fun rest σ st' => ∃ (q : Nat) (v4 v5 : Option D), q ≤ i ∧ σ = [some dt, some dA, some dr, some (.ref st.length), v4, v5] ∧ rest = zipD (((Mx.tabL (Mx.gram A) i).drop q).map rowL) (da.drop q) ∧ Ext st st' ∧ st'[st.length]? = some (.lst (dInts ((List.range q).map fun j => Mx.lam (Mx.gram A) i j)))) ?_ ?_ _ _ _ ⟨0, none, none, Nat.zero_le _, rfl, rfl, X0, e0⟩
  · rintro σ st1 ⟨q, v4, v5, hq, rfl, hrest, X, e⟩
    refine ⟨hok _ (X.items ht) (X.items hda), ?_⟩
    have hqi : q = i := by
      by_cases h : q < i
      · rw [zip_drop (by rw [Mx.tabL_len]; exact h) (by omega)] at hrest
        cases hrest
      · omega
    subst hqi
    refine st_app (by rfl) e ?_
    refine ⟨_, _, A.getD q [], A.getD q [], rfl, X.items hr, X.items hr, by omega, dot_ok hS hi hi, ?_⟩
    refine ⟨Mx.gram A, N, q, q, q, (List.range q).map fun j => Mx.lam (Mx.gram A) q j, (List.range q).map fun j => Mx.lam (Mx.gram A) q j, dt, .ref st.length, .ref st.length, rfl, X.items ht, items_ref e, items_ref e, by simp, by simp, Nat.le_refl _, fun k hk => ⟨lams_at _ hk, lams_at _ hk⟩, fun k hk => hD k (by omega), hS.gm, hi, hi, ?_⟩
    refine appK_at e (by rw [sizeLine_eq]; simp; omega) ?_
    have hlt := (List.getElem?_eq_some_iff.mp e).1
    have e2 : (st1.set st.length (.lst (dInts ((List.range q).map fun j => Mx.lam (Mx.gram A) q j) ++ [.int (Mx.gx (Mx.gram A) q (Mx.gram A q) q)])))[st.length]? = some (.lst (dInts (Mx.lineL (Mx.gram A) q))) := by
      rw [List.getElem?_set_self hlt]
      have := lams_app (Mx.gram A) q q
      unfold Mx.lam at this ⊢
      unfold Mx.lineL Mx.lam
      rw [this]
    refine st_frz (by rfl) e2 ?_
    exact k _ ((X.set (Nat.le_refl _)).set (Nat.le_refl _))
  · rintro x rest σ st1 ⟨q, v4, v5, hq, rfl, hrest, X, e⟩ next
    have hqi : q < i := by
      by_cases h : q < i
      · exact h
      · have : (Mx.tabL (Mx.gram A) i).drop q = [] := List.drop_eq_nil_of_le (by rw [Mx.tabL_len]; omega)
        rw [this] at hrest
        cases hrest
    rw [zip_drop (by rw [Mx.tabL_len]; exact hqi) (by omega), List.cons.injEq, Mx.tabL_at _ hqi] at hrest
    obtain ⟨rfl, rfl⟩ := hrest
    refine ⟨hok _ (X.items ht) (X.items hda), _, rfl, ?_⟩
    obtain ⟨rq, erq, hrq⟩ := ra.get (List.getElem?_eq_getElem (show q < da.length by omega))
    have erq2 : rq = A.getD q [] := by
      rw [List.getElem?_eq_getElem (by omega)] at erq
      cases erq
      rw [Mx.getD_lt (by omega)]
    subst erq2
    refine st_app (by rfl) e ?_
    refine ⟨_, _, A.getD i [], A.getD q [], rfl, X.items hr, X.items hrq, by omega, dot_ok hS hi (by omega), ?_⟩
    refine ⟨Mx.gram A, N, i, q, i, (List.range q).map fun j => Mx.lam (Mx.gram A) i j, Mx.lineL (Mx.gram A) q, dt, .ref st.length, rowL (Mx.lineL (Mx.gram A) q), rfl, X.items ht, items_ref e, rfl, by simp, by rw [Mx.lineL_len]; omega, by omega, fun k hk => ⟨lams_at _ hk, Mx.lineL_at _ (by omega)⟩, fun k hk => hD k (by omega), hS.gm, hi, by omega, ?_⟩
    refine appK_at e (by rw [sizeLine_eq]; simp; omega) ?_
    have hlt := (List.getElem?_eq_some_iff.mp e).1
    refine next _ _ ⟨q + 1, _, _, hqi, rfl, rfl, X.set (Nat.le_refl _), ?_⟩
    rw [List.getElem?_set_self hlt]
    have := lams_app (Mx.gram A) i q
    unfold Mx.lam at this ⊢
    rw [this]
def S_table_of : DSp := fun ds st K => ∃ (A : List (List Int)) (N w : Nat) (dA : D), ds = [dA] ∧ RowsD st dA A ∧ St A N w ∧ (∀ k, k ≤ N → Mx.D k (Mx.gram A) ≠ 0) ∧ ∀ st', Ext st st' → K (rowsL (Mx.tabL (Mx.gram A) N)) st'
def N_table_of : List Str := ["steps", "table", "step", "line"]
def P_table_of : DS := (dSeq (dSet 1 (dNew dNil))
    (dSeq (dFor (xSeqI (dVar 0)) (tgName 2) (dSeq (dSet 3 (dCall S_line_of (dCons (dVar 1) (dCons (dVar 0) (dCons (dVar 2) dNil)))))
    (dSeq (dIfS (dTest (dOp xEq (dOp xIx (dVar 3) (dUn xNeg (dC (.int 1)))) (dC (.int 0)))) dNever dNext)
    (dDrop (xAppend (dVar 1) (dVar 3))))))
    (dFrzS 1 (dRet (dVar 1)))))
theorem var_at {i : Nat} {σ : DEnv} {st : Store} {K : DK} {d : D} (h : σ[i]? = some (some d)) (k : K d st) : dVar i σ st K := by
  unfold dVar
  simp only [h]
  exact k
theorem sp_table_of : ∀ ds st K, S_table_of ds st K → ds.length = 1 ∧ P_table_of { nx := fun _ st' => K .non st', rt := K } (startD N_table_of ds) st := by
  rintro ds st K ⟨A, N, w, dA, rfl, hA, hS, hD, k⟩
  refine ⟨rfl, ?_⟩
  obtain ⟨da, hda, ra⟩ := hA.ex
  have hl := hS.is.len
  have hla := ra.len
  have h8 := hS.gm.le
  refine ⟨Nat.le_of_ble_eq_true rfl, ?_⟩
  have X0 : Ext st (st ++ [.lst []]) := Ext.push
  have e0 : (st ++ [Cell.lst []])[st.length]? = some (.lst ((Mx.tabL (Mx.gram A) 0).map rowL)) := by simp [Mx.tabL]
  refine st_seqE (X0.items hda) fun ok hok => ?_
  refine for_ind (fun rest σ st' => ∃ (q : Nat) (v2 v3 : Option D), q ≤ N ∧ σ = [some dA, some (.ref st.length), v2, v3] ∧ rest = da.drop q ∧ Ext st st' ∧ st'[st.length]? = some (.lst ((Mx.tabL (Mx.gram A) q).map rowL))) ?_ ?_ _ _ _ ⟨0, none, none, Nat.zero_le _, rfl, rfl, X0, e0⟩
  · rintro σ st1 ⟨q, v2, v3, hq, rfl, hrest, X, e⟩
    refine ⟨hok _ (X.items hda), ?_⟩
    have hqN : q = N := by
      have := congrArg List.length hrest
      simp at this
      omega
    subst hqN
    refine st_frz (by rfl) e ?_
    exact k _ (X.set (Nat.le_refl _))
  · rintro x rest σ st1 ⟨q, v2, v3, hq, rfl, hrest, X, e⟩ next
    have hqN : q < N := by
      have := congrArg List.length hrest
      simp at this
      omega
    rw [List.drop_eq_getElem_cons (show q < da.length by omega), List.cons.injEq] at hrest
    obtain ⟨rfl, rfl⟩ := hrest
    refine ⟨hok _ (X.items hda), _, rfl, ?_⟩
    obtain ⟨rq, erq, hrq⟩ := ra.get (List.getElem?_eq_getElem (show q < da.length by omega))
    have erq2 : rq = A.getD q [] := by
      rw [List.getElem?_eq_getElem (by omega)] at erq
      cases erq
      rw [Mx.getD_lt (by omega)]
    subst erq2
    refine ⟨A, N, w, q, .ref st.length, dA, _, rfl, items_ref e, X.rowsD hA, hS, hqN, X.items hrq, fun k hk => hD k (by omega), fun st2 X2 => ?_⟩
    have X3 := X.trans X2
    have e2 : st2[st.length]? = some (.lst ((Mx.tabL (Mx.gram A) q).map rowL)) := (X2.same _ (List.getElem?_eq_some_iff.mp e).1).trans e
    refine st_neg (st_ix rfl (at_last (Mx.lineL_len _ q)) ?_)
    rw [Mx.lineL_at _ (Nat.le_refl q), Mx.lam_self]
    refine eqF (hD (q + 1) (by omega)) ?_
    refine st_app (by rfl) e2 (var_at rfl (appK_at e2 (by rw [sizeLine_eq, List.length_map, Mx.tabL_len]; omega) ?_))
    have hlt := (List.getElem?_eq_some_iff.mp e2).1
    refine next _ _ ⟨q + 1, _, _, hqN, rfl, rfl, X3.set (Nat.le_refl _), ?_⟩
    rw [List.getElem?_set_self hlt, Mx.tabL_succ, List.map_append]
    rfl
abbrev sqD (G : Mx.Fn) (N : Nat) : List D := (List.range N).map fun k => lowD (Mx.D (k + 1) G) (Mx.D k G)
abbrev shR (G : Mx.Fn) (i : Nat) : List D := (List.range i).map fun j => lowD (Mx.lam G i j) (Mx.D (j + 1) G)
abbrev shD (G : Mx.Fn) (N : Nat) : List D := (List.range N).map fun i => .tup (shR G i)
def S_squares_in : DSp := fun ds st K => ∃ (G : Mx.Fn) (N : Nat), ds = [rowsL (Mx.tabL G N)] ∧ Gm G N ∧ (∀ k, k ≤ N → Mx.D k G ≠ 0) ∧ K (.tup (sqD G N)) st
def N_squares_in : List Str := ["table", "lasts"]
def P_squares_in : DS := (dSeq (dSet 1 (dComp (xSeqI (dVar 0)) [none] (tgName 0) dTrue (dOp xIx (dVar 0) (dUn xNeg (dC (.int 1))))))
    (dRet (dCB xTuple (dCons (dComp (xZip (dCons (dVar 1) (dCons (dOp xAdd (dLst (dCons (dC (.int 1)) dNil)) (dVar 1)) dNil))) [none, none] (tgTwo 0 1) dTrue (dCall S_part (dCons (dVar 0) (dCons (dVar 1) dNil)))) dNil))))
theorem comp_over {f h : Nat → D} {N : Nat} {tg : DTg} {te : DE} {ok : Store → Prop} {σc : DEnv} {st : Store} {K : List D → Store → Prop} (hok : ok st) (hx : ∀ k, k < N → ∀ K', K' (h k) st → ∃ σ2, tg (f k) σc = some σ2 ∧ te σ2 st K') (k : K ((List.range N).map h) st) : compD tg dTrue te ok σc ((List.range N).map f) [] st K := by
  refine comp_ind (fun rest acc st' => st' = st ∧ ∃ q, q ≤ N ∧ rest = ((List.range N).map f).drop q ∧ acc = (List.range q).map h) ?_ ?_ _ _ _ ⟨rfl, 0, Nat.zero_le _, rfl, rfl⟩
  · rintro acc st' ⟨rfl, q, hq, hr, rfl⟩
    have : q = N := by
      have := congrArg List.length hr
      simp at this
      omega
    subst this
    exact ⟨hok, k⟩
  · rintro x rest acc st' ⟨rfl, q, hq, hr, rfl⟩ next
    have hqN : q < N := by
      have := congrArg List.length hr
      simp at this
      omega
    rw [List.drop_eq_getElem_cons (by simpa using hqN), List.cons.injEq, List.getElem_map, List.getElem_range] at hr
    obtain ⟨rfl, rfl⟩ := hr
    obtain ⟨σ2, e2, t⟩ := hx q hqN (fun y st2 => compD tg dTrue te ok σc _ ((List.range q).map h ++ [y]) st2 K) (next _ _ ⟨rfl, q + 1, hqN, rfl, by rw [List.range_succ, List.map_append]; rfl⟩)
    exact ⟨hok, σ2, e2, t⟩
theorem zip_over {a b : Nat → D} {N M : Nat} (h : N ≤ M) : zipD ((List.range N).map a) ((List.range M).map b) = (List.range N).map fun k => .tup [a k, b k] := by
  refine List.ext_getElem? fun k => ?_
  unfold zipD
  rw [List.getElem?_map, List.getElem?_map]
  by_cases hk : k < N
  · rw [List.getElem?_range hk]
    have e : (((List.range N).map a).zip ((List.range M).map b))[k]? = some (a k, b k) := by
      rw [List.getElem?_zip_eq_some]
      exact ⟨by rw [List.getElem?_map, List.getElem?_range hk]; rfl, by rw [List.getElem?_map, List.getElem?_range (by omega)]; rfl⟩
    rw [e]; rfl
  · have e1 : (((List.range N).map a).zip ((List.range M).map b))[k]? = none := List.getElem?_eq_none (by rw [List.length_zip]; simp; omega)
    rw [e1, List.getElem?_eq_none (by simpa using hk)]
    rfl
theorem tab_map (G : Mx.Fn) (N : Nat) : (Mx.tabL G N).map rowL = (List.range N).map fun k => rowL (Mx.lineL G k) := by unfold Mx.tabL; rw [List.map_map]; rfl
theorem sp_squares_in : ∀ ds st K, S_squares_in ds st K → ds.length = 1 ∧ P_squares_in { nx := fun _ st' => K .non st', rt := K } (startD N_squares_in ds) st := by
  rintro ds st K ⟨G, N, rfl, g, hD, k⟩
  refine ⟨rfl, ?_⟩
  have h8 := g.le
  refine st_seqL ⟨sz1000 (by rw [List.length_map, Mx.tabL_len]; omega), ?_⟩
  rw [tab_map]
  refine comp_over (h := fun k => .int (Mx.D (k + 1) G)) trivial (fun q hq K' t => ⟨_, rfl, st_neg (st_ix rfl (at_last (Mx.lineL_len G q)) ?_)⟩) ?_
  · rw [Mx.lineL_at G (Nat.le_refl q), Mx.lam_self]
    exact t
  refine szL (Nat.le_of_ble_eq_true rfl) (st_addL (by rw [sizeLine_eq]; simp; omega) ?_)
  have e1 : [D.int 1] ++ (List.range N).map (fun k => D.int (Mx.D (k + 1) G)) = (List.range (N + 1)).map fun k => D.int (Mx.D k G) := by
    rw [List.range_succ_eq_map, List.map_cons, List.map_map]
    rfl
  rw [e1]
  refine st_zip rfl rfl fun ok hok => ⟨sz1000 (by rw [zipD_len]; simp; omega), ?_⟩
  rw [zip_over (by omega)]
  refine comp_over (h := fun k => lowD (Mx.D (k + 1) G) (Mx.D k G)) (hok _ rfl rfl) (fun q hq K' t => ⟨_, rfl, ⟨_, _, rfl, hD q (by omega), log_b (g.D (by omega)) (hD q (by omega)), t⟩⟩) ?_
  exact st_tuple rfl k
def S_shares_in : DSp := fun ds st K => ∃ (G : Mx.Fn) (N i : Nat), ds = [rowsL (Mx.tabL G N), rowL (Mx.lineL G i)] ∧ i < N ∧ Gm G N ∧ (∀ k, k ≤ N → Mx.D k G ≠ 0) ∧ K (.tup (shR G i)) st
def N_shares_in : List Str := ["table", "line"]
def P_shares_in : DS := (dRet (dCB xTuple (dCons (dComp (xZip (dCons (dSlice (dVar 1) dNoPart (dPart (dUn xNeg (dC (.int 1))))) (dCons (dVar 0) dNil))) [none, none] (tgTwo 0 1) dTrue (dCall S_part (dCons (dVar 0) (dCons (dOp xIx (dVar 1) (dUn xNeg (dC (.int 1)))) dNil)))) dNil)))
theorem cut_last {r : List Int} {n : Nat} (h : r.length = n + 1) : L3.cutD (dInts r) none (some (-1)) = dInts (r.take n) := by
  unfold L3.cutD
  rw [HT.sIx_none]
  have e : HT.sIx (dInts r).length (dInts r).length (some (-1)) = n := by
    show (if (-1 : Int) < 0 then ((-1 : Int) + ((dInts r).length : Int)).toNat else min (-1 : Int).toNat (dInts r).length) = n
    rw [if_pos (by decide), List.length_map]
    omega
  rw [e, List.drop_zero, Nat.sub_zero]
  unfold dInts
  rw [List.map_take]
theorem sp_shares_in : ∀ ds st K, S_shares_in ds st K → ds.length = 2 ∧ P_shares_in { nx := fun _ st' => K .non st', rt := K } (startD N_shares_in ds) st := by
  rintro ds st K ⟨G, N, i, rfl, hi, g, hD, k⟩
  refine ⟨rfl, ?_⟩
  have h8 := g.le
  refine st_neg (st_sliceL ?_)
  rw [cut_last (Mx.lineL_len G i)]
  have e1 : dInts ((Mx.lineL G i).take i) = (List.range i).map fun j => .int (Mx.lam G i j) := by
    unfold Mx.lineL
    rw [← List.map_take, List.take_range, Nat.min_eq_left (by omega)]
    unfold dInts
    rw [List.map_map]
    rfl
  rw [e1]
  refine st_zip rfl rfl fun ok hok => ⟨sz1000 (by rw [zipD_len]; simp; omega), ?_⟩
  rw [tab_map, zip_over (by omega)]
  refine comp_over (h := fun j => lowD (Mx.lam G i j) (Mx.D (j + 1) G)) (hok _ rfl rfl) (fun q hq K' t => ⟨_, rfl, ?_⟩) ?_
  · refine st_neg (st_ix rfl (at_last (Mx.lineL_len G q)) ?_)
    rw [Mx.lineL_at G (Nat.le_refl q), Mx.lam_self]
    exact ⟨_, _, rfl, hD (q + 1) (by omega), log_b (g.D (by omega)) (hD (q + 1) (by omega)), t⟩
  exact st_tuple rfl k
def S_shares : DSp := fun ds st K => ∃ (A : List (List Int)) (N w : Nat) (dA : D), ds = [dA] ∧ RowsD st dA A ∧ St A N w ∧ (∀ k, k ≤ N → Mx.D k (Mx.gram A) ≠ 0) ∧ ∀ st', Ext st st' → K (.tup [.tup (sqD (Mx.gram A) N), .tup (shD (Mx.gram A) N)]) st'
def N_shares : List Str := ["steps", "table"]
def P_shares : DS := (dSeq (dSet 1 (dCall S_table_of (dCons (dVar 0) dNil)))
    (dRet (dTup (dCons (dCall S_squares_in (dCons (dVar 1) dNil)) (dCons (dCB xTuple (dCons (dComp (xSeqI (dVar 1)) [none, some 1] (tgName 0) dTrue (dCall S_shares_in (dCons (dVar 1) (dCons (dVar 0) dNil)))) dNil)) dNil)))))
theorem sp_shares : ∀ ds st K, S_shares ds st K → ds.length = 1 ∧ P_shares { nx := fun _ st' => K .non st', rt := K } (startD N_shares ds) st := by
  rintro ds st K ⟨A, N, w, dA, rfl, hA, hS, hD, k⟩
  refine ⟨rfl, ?_⟩
  have h8 := hS.gm.le
  refine ⟨A, N, w, dA, rfl, hA, hS, hD, fun st1 X1 => ?_⟩
  refine ⟨_, N, rfl, hS.gm, hD, ?_⟩
  refine st_seqL ⟨sz1000 (by rw [List.length_map, Mx.tabL_len]; omega), ?_⟩
  rw [tab_map]
  refine comp_over (h := fun i => .tup (shR (Mx.gram A) i)) trivial (fun q hq K' t => ⟨_, rfl, ⟨_, N, q, rfl, hq, hS.gm, hD, t⟩⟩) ?_
  exact st_tuple rfl ⟨Nat.le_of_ble_eq_true rfl, k st1 X1⟩
theorem low_abs {t b : Int} (hb : b ≠ 0) : lowT t b * b = t * lowB t b ∧ (lowT t b).natAbs ≤ t.natAbs ∧ (lowB t b).natAbs ≤ b.natAbs := by
  have hg0 : Nat.gcd t.natAbs b.natAbs ≠ 0 := fun z => by
    have := Nat.eq_zero_of_gcd_eq_zero_right z
    omega
  have hne : ((Nat.gcd t.natAbs b.natAbs : Nat) : Int) ≠ 0 := by omega
  have h1 := gcd_dvd_l t b
  have h2 := gcd_dvd_r t b
  unfold lowT lowB
  generalize hs : (if b < 0 then (-1 : Int) else 1) = s
  have hs2 : s = -1 ∨ s = 1 := by rw [← hs]; split <;> simp
  generalize Nat.gcd t.natAbs b.natAbs = g at *
  obtain ⟨t', rfl⟩ := h1
  obtain ⟨b', rfl⟩ := h2
  have e1 : (s * ((g : Int) * t')).fdiv (g : Int) = s * t' := by rw [Int.mul_left_comm, Int.mul_fdiv_cancel_left _ hne]
  have e2 : (s * ((g : Int) * b')).fdiv (g : Int) = s * b' := by rw [Int.mul_left_comm, Int.mul_fdiv_cancel_left _ hne]
  rw [e1, e2]
  have q : ∀ x : Int, (s * x).natAbs ≤ ((g : Int) * x).natAbs := fun x => by
    rw [Int.natAbs_mul, Int.natAbs_mul, Int.natAbs_natCast]
    have : s.natAbs = 1 := by rcases hs2 with rfl | rfl <;> rfl
    rw [this]
    exact Nat.mul_le_mul_right _ (by omega)
  exact ⟨by grind, q _, q _⟩
theorem low_pos {t b : Int} (hb : b ≠ 0) : 0 < lowB t b := by
  have h := low_rat (t := t) hb
  unfold lowD ofR at h
  have : lowB t b = (((Rat.divInt t b).den : Nat) : Int) := by
    injection h with h
    injection h with _ h
    injection h with h _
    injection h
  rw [this]
  have := (Rat.divInt t b).den_pos
  omega
def S_is_half_at_most : DSp := fun ds st K => ∃ (t b : Int), ds = [lowD t b] ∧ 0 < b ∧ K (.bl (decide (2 * ((t.natAbs : Nat) : Int) ≤ b))) st
def N_is_half_at_most : List Str := ["share"]
def P_is_half_at_most : DS := (dRet (dOp xLe (dOp xMul (dC (.int 2)) (dCB xAbs (dCons (dOp xIx (dVar 0) (dC (.int 0))) dNil))) (dOp xIx (dVar 0) (dC (.int 1)))))
theorem sp_is_half_at_most : ∀ ds st K, S_is_half_at_most ds st K → ds.length = 1 ∧ P_is_half_at_most { nx := fun _ st' => K .non st', rt := K } (startD N_is_half_at_most ds) st := by
  rintro ds st K ⟨t, b, rfl, hb, k⟩
  refine ⟨rfl, ?_⟩
  have h1 := low_pos (t := t) (b := b) (by omega)
  have h2 := (low_abs (t := t) (b := b) (by omega)).1
  have e : decide (2 * (((lowT t b).natAbs : Nat) : Int) ≤ lowB t b) = decide (2 * ((t.natAbs : Nat) : Int) ≤ b) := decide_eq_decide.mpr (Mx.half_iff hb h1 h2)
  rw [← e] at k
  exact st_ix rfl rfl (st_abs (st_mul (mulok_l (by decide) (by decide)) (st_ix rfl rfl (st_le k))))
def S_falls_too_far : DSp := fun ds st K => ∃ (a b c l : Int), ds = [lowD a b, lowD l b, lowD b c] ∧ 0 < b ∧ 0 < c ∧ a.natAbs < 2 ^ 745 ∧ b.natAbs < 2 ^ 652 ∧ c.natAbs < 2 ^ 652 ∧ l.natAbs < 2 ^ 652 ∧ K (.bl (decide (4 * a * c < 3 * b * b - 4 * l * l))) st
def N_falls_too_far : List Str := ["square", "share", "ahead"]
def P_falls_too_far : DS := (dRet (dCall S_before (dCons (dVar 0) (dCons (dCall S_times (dCons (dCall S_minus (dCons (dCall S_part (dCons (dC (.int 3)) (dCons (dC (.int 4)) dNil))) (dCons (dCall S_times (dCons (dVar 1) (dCons (dVar 1) dNil))) dNil))) (dCons (dVar 2) dNil))) dNil))))
theorem sp_falls_too_far : ∀ ds st K, S_falls_too_far ds st K → ds.length = 3 ∧ P_falls_too_far { nx := fun _ st' => K .non st', rt := K } (startD N_falls_too_far ds) st := by
  rintro ds st K ⟨a, b, c, l, rfl, hb, hc, za, zb, zc, zl, k⟩
  refine ⟨rfl, ?_⟩
  have hb0 : b ≠ 0 := by omega
  have hc0 : c ≠ 0 := by omega
  have zb2 : b.natAbs < 2 ^ 745 := Nat.lt_of_lt_of_le zb (Nat.pow_le_pow_right (by decide) (by decide))
  have s1 := Sz.of hb0 za zb2
  have s2 := Sz.of hb0 zl zb
  have s3 := Sz.of hc0 zb zc
  have s4 : Sz (Rat.divInt 3 4) 3 := Sz.of (by decide) (by decide) (by decide)
  have s5 := s2.mul s2
  have s6 := s4.sub s5
  have s7 := s6.mul s3
  rw [low_rat hb0, low_rat hb0, low_rat hc0]
  rw [← decide_eq_decide.mpr (Mx.rat_short (a := a) (l := l) hb hc)] at k
  refine ⟨3, 4, rfl, by decide, by decide, ?_⟩
  rw [low_rat (by decide)]
  refine ⟨_, _, _, _, rfl, Fq.tup s2 (by decide), Fq.tup s2 (by decide), ?_⟩
  refine ⟨_, _, _, _, rfl, Fq.tup s4 (by decide), Fq.tup s5 (by decide), ?_⟩
  refine ⟨_, _, _, _, rfl, Fq.tup s6 (by decide), Fq.tup s3 (by decide), ?_⟩
  exact ⟨_, _, _, _, rfl, Fq.tup s1 (by decide), Fq.tup s7 (by decide), k⟩
def S_is_short : DSp := fun ds st K => ∃ (A : List (List Int)) (N w : Nat) (dA : D), ds = [dA] ∧ RowsD st dA A ∧ St A N w ∧ (∀ k, k ≤ N → Mx.D k (Mx.gram A) ≠ 0) ∧ (Mx.Sh (Mx.gram A) N → ∀ st', Ext st st' → K (.bl true) st') ∧ (¬ Mx.Sh (Mx.gram A) N → ∀ st', Ext st st' → K (.bl false) st')
def N_is_short : List Str := ["steps", "told", "squares", "own"]
def P_is_short : DS := (dSeq (dSet 1 (dCall S_shares (dCons (dVar 0) dNil)))
    (dSeq (dSet 2 (dOp xIx (dVar 1) (dC (.int 0))))
    (dSeq (dFor (xSeqI (dOp xIx (dVar 1) (dC (.int 1)))) (tgName 3) (dIfS (dNotT (dTest (dCB xAll (dCons (dComp (xSeqI (dVar 3)) [none] (tgName 0) dTrue (dCall S_is_half_at_most (dCons (dVar 0) dNil))) dNil)))) (dRet (dC (.bl false))) dNext))
    (dRet (dNotV (dTest (dCB xAny (dCons (dComp (xRange2 (dCons (dC (.int 1)) (dCons (dCB xLen (dCons (dVar 2) dNil)) dNil))) [none, some 2, some 1] (tgName 0) dTrue (dCall S_falls_too_far (dCons (dOp xIx (dVar 1) (dVar 0)) (dCons (dOp xIx (dOp xIx (dOp xIx (dVar 2) (dC (.int 1))) (dVar 0)) (dOp xSub (dVar 0) (dC (.int 1)))) (dCons (dOp xIx (dVar 1) (dOp xSub (dVar 0) (dC (.int 1)))) dNil))))) dNil))))))))
theorem p_le {p m : Nat} (h : p ≤ m) : (8 * B90) ^ p ≤ 2 ^ (93 * m) := by
  have e : 8 * B90 = 2 ^ 93 := by decide
  rw [e, ← Nat.pow_mul]
  exact Nat.pow_le_pow_right (by decide) (Nat.mul_le_mul_left _ h)
theorem Gm.Db {G : Mx.Fn} {n p m : Nat} (h : Gm G n) (hp : p ≤ n) (hm : p ≤ m) : (Mx.D p G).natAbs < 2 ^ (93 * m + 1) := Nat.lt_of_le_of_lt (Nat.le_trans (Mx.D_abs (by have := h.le; omega) fun r c hr hc => h.bd r c (by omega) (by omega)) (p_le hm)) (Nat.pow_lt_pow_right (by decide) (Nat.lt_succ_self _))
theorem Gm.lb {G : Mx.Fn} {n p i m : Nat} (h : Gm G n) (hi : i < n) (hp : p < n) (hm : p + 1 ≤ m) : (Mx.lam G i p).natAbs < 2 ^ (93 * m + 1) := Nat.lt_of_le_of_lt (Nat.le_trans (Mx.gx_abs h.le h.bd hp hi hp) (p_le hm)) (Nat.pow_lt_pow_right (by decide) (Nat.lt_succ_self _))
theorem bools_range {f : Nat → Bool} (n : Nat) : bools? ((List.range n).map fun j => D.bl (f j)) = some ((List.range n).map f) := by
  have h := bools_map (f := fun d => match d with | .int j => f j.toNat | _ => false) ((List.range n).map fun (j : Nat) => D.int ((j : Nat) : Int))
  rw [List.map_map, List.map_map] at h
  exact h
theorem sp_is_short : ∀ ds st K, S_is_short ds st K → ds.length = 1 ∧ P_is_short { nx := fun _ st' => K .non st', rt := K } (startD N_is_short ds) st := by
  rintro ds st K ⟨A, N, w, dA, rfl, hA, hS, hD, kT, kF⟩
  refine ⟨rfl, ?_⟩
  have gm := hS.gm
  have h8 := gm.le
  have hp := Mx.D_pos hS.is hD
  refine ⟨A, N, w, dA, rfl, hA, hS, hD, fun st1 X1 => ?_⟩
  refine st_ix rfl rfl (st_ix rfl rfl (st_seqT ?_))
  refine for_ind (fun rest σ st' => st' = st1 ∧ ∃ (q : Nat) (v3 : Option D), q ≤ N ∧ rest = (shD (Mx.gram A) N).drop q ∧ σ = [some dA, some (.tup [.tup (sqD (Mx.gram A) N), .tup (shD (Mx.gram A) N)]), some (.tup (sqD (Mx.gram A) N)), v3] ∧ ∀ i j, j < i → i < q → 2 * (((Mx.lam (Mx.gram A) i j).natAbs : Nat) : Int) ≤ Mx.D (j + 1) (Mx.gram A)) ?_ ?_ _ _ _ ⟨rfl, 0, none, Nat.zero_le _, rfl, rfl, fun i j _ h => by omega⟩
  · rintro σ st' ⟨rfl, q, v3, hq, hrest, rfl, hh⟩
    have hqN : q = N := by
      have := congrArg List.length hrest
      simp at this
      omega
    subst hqN
    refine ⟨trivial, ?_⟩
    refine st_len rfl (st_rng2 ⟨by decide, by decide, by rw [List.length_map, List.length_range]; omega, by rw [List.length_map, List.length_range]; omega⟩ ⟨sz1000 (by rw [rangeD_len]; simp; omega), ?_⟩)
    have er : rangeD 1 ((((sqD (Mx.gram A) q).length : Nat) : Int) - 1).toNat = (List.range (q - 1)).map fun m => D.int ((m + 1 : Nat) : Int) := by
      unfold rangeD
      have : ((((sqD (Mx.gram A) q).length : Nat) : Int) - 1).toNat = q - 1 := by rw [List.length_map, List.length_range]; omega
      rw [this]
      refine List.map_congr_left fun m _ => ?_
      congr 1; omega
    rw [er]
    refine comp_over (h := fun m => .bl (decide (4 * Mx.D (m + 2) (Mx.gram A) * Mx.D m (Mx.gram A) < 3 * Mx.D (m + 1) (Mx.gram A) * Mx.D (m + 1) (Mx.gram A) - 4 * Mx.lam (Mx.gram A) (m + 1) m * Mx.lam (Mx.gram A) (m + 1) m))) trivial (fun m hm K' t => ⟨_, rfl, ?_⟩) ?_
    · have ix : ∀ j, j < q → atI (sqD (Mx.gram A) q) (j : Int) = some (lowD (Mx.D (j + 1) (Mx.gram A)) (Mx.D j (Mx.gram A))) := fun j hj => atI_nat (by rw [List.getElem?_map, List.getElem?_range hj]; rfl)
      refine st_ix rfl (ix (m + 1) (by omega)) (st_ix rfl rfl (st_ix (e := .tup (shR (Mx.gram A) (m + 1))) rfl (atI_nat (by rw [List.getElem?_map, List.getElem?_range (by omega)]; rfl)) (st_sub ?_)))
      have em : ((m + 1 : Nat) : Int) - 1 = (m : Int) := by omega
      rw [em]
      refine st_ix (e := lowD (Mx.lam (Mx.gram A) (m + 1) m) (Mx.D (m + 1) (Mx.gram A))) rfl (atI_nat (by rw [List.getElem?_map, List.getElem?_range (by omega)]; rfl)) (st_sub ?_)
      rw [em]
      refine st_ix rfl (ix m (by omega)) ?_
      exact ⟨_, _, _, _, rfl, hp _ (by omega), hp _ (by omega), gm.Db (m := 8) (by omega) (by omega), gm.Db (m := 7) (by omega) (by omega), gm.Db (m := 7) (by omega) (by omega), gm.lb (m := 7) (by omega) (by omega) (by omega), t⟩
    refine st_any (bools_range _) ?_
    by_cases hsh : Mx.Sh (Mx.gram A) q
    · have : ((List.range (q - 1)).map fun m => decide (4 * Mx.D (m + 2) (Mx.gram A) * Mx.D m (Mx.gram A) < 3 * Mx.D (m + 1) (Mx.gram A) * Mx.D (m + 1) (Mx.gram A) - 4 * Mx.lam (Mx.gram A) (m + 1) m * Mx.lam (Mx.gram A) (m + 1) m)).any id = false := by
        rw [List.any_eq_false]
        intro b hb
        obtain ⟨m, hm, rfl⟩ := List.mem_map.mp hb
        rw [List.mem_range] at hm
        have := hsh.fall (m + 1) (by omega) (by omega)
        simpa using this
      rw [this]
      exact kT hsh _ X1
    · have : ((List.range (q - 1)).map fun m => decide (4 * Mx.D (m + 2) (Mx.gram A) * Mx.D m (Mx.gram A) < 3 * Mx.D (m + 1) (Mx.gram A) * Mx.D (m + 1) (Mx.gram A) - 4 * Mx.lam (Mx.gram A) (m + 1) m * Mx.lam (Mx.gram A) (m + 1) m)).any id = true := by
        cases z : ((List.range (q - 1)).map fun m => decide (4 * Mx.D (m + 2) (Mx.gram A) * Mx.D m (Mx.gram A) < 3 * Mx.D (m + 1) (Mx.gram A) * Mx.D (m + 1) (Mx.gram A) - 4 * Mx.lam (Mx.gram A) (m + 1) m * Mx.lam (Mx.gram A) (m + 1) m)).any id with
        | true => rfl
        | false =>
          rw [List.any_eq_false] at z
          refine absurd ⟨hh, fun i h0 hi => ?_⟩ hsh
          have := z _ (List.mem_map.mpr ⟨i - 1, List.mem_range.mpr (by omega), rfl⟩)
          have e1 : i - 1 + 1 = i := by omega
          have e2 : i - 1 + 2 = i + 1 := by omega
          rw [e1, e2] at this
          simpa using this
      rw [this]
      exact kF hsh _ X1
  · rintro x rest σ st' ⟨rfl, q, v3, hq, hrest, rfl, hh⟩ next
    have hqN : q < N := by
      have := congrArg List.length hrest
      simp at this
      omega
    rw [List.drop_eq_getElem_cons (by simpa using hqN), List.cons.injEq, List.getElem_map, List.getElem_range] at hrest
    obtain ⟨rfl, rfl⟩ := hrest
    refine ⟨trivial, _, rfl, ?_⟩
    refine st_seqT ⟨sz1000 (by simp; omega), ?_⟩
    refine comp_over (h := fun j => .bl (decide (2 * (((Mx.lam (Mx.gram A) q j).natAbs : Nat) : Int) ≤ Mx.D (j + 1) (Mx.gram A)))) trivial (fun j hj K' t => ⟨_, rfl, _, _, rfl, hp _ (by omega), t⟩) ?_
    refine st_all (bools_range _) ?_
    by_cases hall : ∀ j, j < q → 2 * (((Mx.lam (Mx.gram A) q j).natAbs : Nat) : Int) ≤ Mx.D (j + 1) (Mx.gram A)
    · have : ((List.range q).map fun j => decide (2 * (((Mx.lam (Mx.gram A) q j).natAbs : Nat) : Int) ≤ Mx.D (j + 1) (Mx.gram A))).all id = true := by
        rw [List.all_eq_true]
        intro b hb
        obtain ⟨m, hm, rfl⟩ := List.mem_map.mp hb
        rw [List.mem_range] at hm
        simpa using hall m hm
      rw [this]
      refine next _ _ ⟨rfl, q + 1, _, hqN, rfl, rfl, fun i j hj hi => ?_⟩
      by_cases hiq : i = q
      · subst hiq; exact hall j hj
      · exact hh i j hj (by omega)
    · have : ((List.range q).map fun j => decide (2 * (((Mx.lam (Mx.gram A) q j).natAbs : Nat) : Int) ≤ Mx.D (j + 1) (Mx.gram A))).all id = false := by
        cases z : ((List.range q).map fun j => decide (2 * (((Mx.lam (Mx.gram A) q j).natAbs : Nat) : Int) ≤ Mx.D (j + 1) (Mx.gram A))).all id with
        | false => rfl
        | true =>
          rw [List.all_eq_true] at z
          refine absurd (fun j hj => ?_) hall
          have := z _ (List.mem_map.mpr ⟨j, List.mem_range.mpr hj, rfl⟩)
          simpa using this
      rw [this]
      exact kF (fun hsh => hall fun j hj => hsh.half q j hj hqN) _ X1
structure Upd (st : Store) (n : Nat) (st' : Store) : Prop where
  len : st'.length = st.length
  same : ∀ m, m ≠ n → st'[m]? = st[m]?
theorem Upd.refl {st : Store} {n : Nat} : Upd st n st := ⟨rfl, fun _ _ => rfl⟩
theorem Upd.trans {st st1 st2 : Store} {n : Nat} (a : Upd st n st1) (b : Upd st1 n st2) : Upd st n st2 := ⟨b.len.trans a.len, fun m h => (b.same m h).trans (a.same m h)⟩
theorem Upd.set {st : Store} {n : Nat} {c : Cell} : Upd st n (st.set n c) := ⟨List.length_set, fun m h => List.getElem?_set_ne (Ne.symm h)⟩
structure Lf (st : Store) (n : Nat) : Prop where
  ex : ∃ x, st[n]? = some (.lst [.int x]) ∧ 0 ≤ x
def S_law_at : DSp := fun ds st K => ∃ (ns : List Int) (k : Int), ds = [.lst (ns.map .int), .int k] ∧ 0 ≤ k ∧ ∀ c, K (.int c) st
def N_law_at : List Str := ["_law_script", "_law_k"]
def P_law_at : DS := (dSeq (dIfS (dTest (dOp xLt (dVar 1) (dCB xLen (dCons (dVar 0) dNil)))) (dRet (dOp xIx (dVar 0) (dVar 1))) dNext)
    (dRet (dC (.int 0))))
theorem atI_map {ns : List Int} {k : Int} (h0 : 0 ≤ k) (h : k < ns.length) : ∃ c, atI (ns.map D.int) k = some (.int c) := by
  have hk : k.toNat < ns.length := by omega
  refine ⟨ns[k.toNat], ?_⟩
  have e : (ns.map D.int)[k.toNat]? = some (.int ns[k.toNat]) := by simp [hk]
  have := atI_nat e
  rw [Int.toNat_of_nonneg h0] at this
  exact this
theorem sp_law_at : ∀ ds st K, S_law_at ds st K → ds.length = 2 ∧ P_law_at { nx := fun _ st' => K .non st', rt := K } (startD N_law_at ds) st := by
  rintro ds st K ⟨ns, k, rfl, hk0, q⟩
  refine ⟨rfl, ?_⟩
  refine st_len rfl ?_
  rw [List.length_map]
  refine lt2 (fun h => ?_) fun h => q 0
  obtain ⟨c, e⟩ := atI_map hk0 h
  exact iteT (st_ix rfl e (q c))
def S_law_left : DSp := fun ds st K => ∃ (ns : List Int) (k : Int), ds = [.lst (ns.map .int), .int k] ∧ 0 ≤ k ∧ k ≤ 1000 ∧ ∀ x : Int, 0 ≤ x → K (.ref st.length) (st ++ [.lst [.int x]])
def N_law_left : List Str := ["_law_script", "_law_k", "_law_cell", "_law_number_here", "_law_wide", "_law_j"]
def P_law_left : DS := (dSeq (dSet 2 (dCall S_law_at (dCons (dVar 0) (dCons (dVar 1) dNil))))
    (dSeq (dIfS (dTest (dOp xGe (dCB xAbs (dCons (dVar 2) dNil)) (dOp xPow (dC (.int 10)) (dC (.int 18))))) (dRet (dNew (dCons (dCB xAbs (dCons (dVar 2) dNil)) dNil))) dNext)
    (dSeq (dSet 3 (dOp xMod (dOp xMul (dOp xAdd (dOp xAdd (dOp xMod (dVar 2) (dC (.int 2147483647))) (dOp xMul (dC (.int 7919)) (dVar 1))) (dC (.int 11))) (dC (.int 48271))) (dC (.int 2147483629))))
    (dSeq (dSet 4 (dC (.int 0)))
    (dSeq (dFor (xRange1 (dCons (dC (.int 9)) dNil)) (tgName 5) (dSeq (dSet 3 (dOp xMod (dOp xAdd (dOp xAdd (dOp xMul (dVar 3) (dVar 3)) (dOp xMul (dC (.int 69621)) (dVar 5))) (dC (.int 7))) (dC (.int 1999999973))))
    (dSet 4 (dOp xAdd (dOp xMul (dVar 4) (dC (.int 1999999973))) (dVar 3)))))
    (dRet (dNew (dCons (dVar 4) dNil))))))))
def leftLoop : DS := (dSeq (dSet 4 (dC (.int 0)))
    (dSeq (dFor (xRange1 (dCons (dC (.int 9)) dNil)) (tgName 5) (dSeq (dSet 3 (dOp xMod (dOp xAdd (dOp xAdd (dOp xMul (dVar 3) (dVar 3)) (dOp xMul (dC (.int 69621)) (dVar 5))) (dC (.int 7))) (dC (.int 1999999973))))
    (dSet 4 (dOp xAdd (dOp xMul (dVar 4) (dC (.int 1999999973))) (dVar 3)))))
    (dRet (dNew (dCons (dVar 4) dNil)))))
theorem left_loop {d0 d1 d2 : D} {u : Int} {st : Store} {E : DEnds} (h0 : 0 ≤ u) (h1 : u < 2 ^ 62) (k : ∀ x : Int, 0 ≤ x → E.rt (.ref st.length) (st ++ [.lst [.int x]])) : leftLoop E [some d0, some d1, some d2, some (.int u), none, none] st := by
  refine st_rng1 ⟨by decide, by decide⟩ ?_
  refine for_range 9 (fun _ σ st' => st' = st ∧ ∃ (u w : Int) (v : Option D), 0 ≤ u ∧ u < 2 ^ 62 ∧ 0 ≤ w ∧ σ = [some d0, some d1, some d2, some (.int u), some (.int w), v]) ?_ ?_ ⟨rfl, u, 0, none, h0, h1, Int.le_refl _, rfl⟩
  · rintro σ st' ⟨rfl, u, w, v, a1, a2, a3, rfl⟩
    exact ⟨Nat.le_of_ble_eq_true rfl, k w a3⟩
  · rintro j σ st' rest hj ⟨rfl, u, w, v, a1, a2, a3, rfl⟩ next
    refine ⟨_, rfl, ?_⟩
    refine st_mul (mulok_l (by omega) (by omega)) (st_mul (mulok_l (by decide) (by decide)) (st_add (st_add (st_mod (by decide) ?_))))
    have u1 := Int.fmod_nonneg_of_pos (u * u + 69621 * (j : Int) + 7) (show (0 : Int) < 1999999973 by decide)
    have u2 := Int.fmod_lt_of_pos (u * u + 69621 * (j : Int) + 7) (show (0 : Int) < 1999999973 by decide)
    generalize (u * u + 69621 * (j : Int) + 7).fmod 1999999973 = t at u1 u2
    refine st_mul (mulok_r (by decide) (by decide)) (st_add ?_)
    have hw : 0 ≤ w * 1999999973 + t := Int.add_nonneg (Int.mul_nonneg a3 (by decide)) u1
    generalize w * 1999999973 + t = w2 at hw
    exact next _ _ ⟨rfl, t, w2, _, u1, by omega, hw, rfl⟩
def Ev (A : DE) (σ : DEnv) (st : Store) (d : D) : Prop := ∀ K : DK, K d st → A σ st K
theorem ev_op {x : D → D → Store → DK → Prop} {A B : DE} {σ : DEnv} {st : Store} {a b d : D} (hA : Ev A σ st a) (hB : Ev B σ st b) (hx : ∀ K : DK, K d st → x a b st K) : Ev (dOp x A B) σ st d := fun K k => hA _ (hB _ (hx K k))
theorem ev_c {σ : DEnv} {st : Store} {d : D} : Ev (dC d) σ st d := fun K k => k
theorem ev_var {i : Nat} {σ : DEnv} {st : Store} {d : D} (h : σ[i]? = some (some d)) : Ev (dVar i) σ st d := fun K k => var_at h k
theorem left_expr {σ : DEnv} {st : Store} {c k : Int} (h2 : σ[2]? = some (some (.int c))) (h1 : σ[1]? = some (some (.int k))) : Ev (dOp xMod (dOp xMul (dOp xAdd (dOp xAdd (dOp xMod (dVar 2) (dC (.int 2147483647))) (dOp xMul (dC (.int 7919)) (dVar 1))) (dC (.int 11))) (dC (.int 48271))) (dC (.int 2147483629))) σ st (.int (((c.fmod 2147483647 + 7919 * k + 11) * 48271).fmod 2147483629)) := by
  have a1 : Ev (dOp xMod (dVar 2) (dC (.int 2147483647))) σ st (.int (c.fmod 2147483647)) := ev_op (ev_var h2) ev_c fun K k => st_mod (by decide) k
  have a2 : Ev (dOp xMul (dC (.int 7919)) (dVar 1)) σ st (.int (7919 * k)) := ev_op ev_c (ev_var h1) fun K k => st_mul (mulok_l (by decide) (by decide)) k
  have a3 := ev_op (d := .int (c.fmod 2147483647 + 7919 * k)) a1 a2 fun K k => st_add k
  have a4 := ev_op (d := .int (c.fmod 2147483647 + 7919 * k + 11)) a3 (ev_c (d := .int 11)) fun K k => st_add k
  have a5 := ev_op (d := .int ((c.fmod 2147483647 + 7919 * k + 11) * 48271)) a4 (ev_c (d := .int 48271)) fun K k => st_mul (mulok_r (by decide) (by decide)) k
  exact ev_op a5 (ev_c (d := .int 2147483629)) fun K k => st_mod (by decide) k
theorem ev_set {i : Nat} {A : DE} {B : DS} {E : DEnds} {σ : DEnv} {st : Store} {d : D} (h : Ev A σ st d) (k : B E (σ.set i (some d)) st) : dSeq (dSet i A) B E σ st := h _ k
theorem sp_law_left : ∀ ds st K, S_law_left ds st K → ds.length = 2 ∧ P_law_left { nx := fun _ st' => K .non st', rt := K } (startD N_law_left ds) st := by
  rintro ds st K ⟨ns, k, rfl, hk0, hk1, q⟩
  refine ⟨rfl, ?_⟩
  refine ⟨ns, k, rfl, hk0, fun c => ?_⟩
  refine st_abs (st_pow ⟨by decide, by decide, by decide⟩ ?_)
  generalize (10 : Int) ^ (18 : Int).toNat = big
  refine ge2 (fun h => iteT (st_abs ⟨Nat.le_of_ble_eq_true rfl, q _ (by omega)⟩)) fun h => ?_
  refine ev_set (σ := [some (.lst (ns.map .int)), some (.int k), some (.int c), none, none, none]) (left_expr (c := c) (k := k) rfl rfl) ?_
  have u1 := Int.fmod_nonneg_of_pos ((c.fmod 2147483647 + 7919 * k + 11) * 48271) (show (0 : Int) < 2147483629 by decide)
  have u2 := Int.fmod_lt_of_pos ((c.fmod 2147483647 + 7919 * k + 11) * 48271) (show (0 : Int) < 2147483629 by decide)
  generalize ((c.fmod 2147483647 + 7919 * k + 11) * 48271).fmod 2147483629 = u at u1 u2
  exact left_loop (E := { nx := fun _ st' => K .non st', rt := K }) u1 (by omega) q
def S_law_digit : DSp := fun ds st K => ∃ (n : Nat) (m : Int), ds = [.ref n, .int m] ∧ Lf st n ∧ 0 < m ∧ m < 2 ^ 62 ∧ ∀ r st', 0 ≤ r → r < m → Lf st' n → Upd st n st' → K (.int r) st'
def N_law_digit : List Str := ["_law_left_here", "_law_many", "_law_digit_here"]
def P_law_digit : DS := (dSeq (dSet 2 (dOp xMod (dOp xIx (dVar 0) (dC (.int 0))) (dVar 1)))
    (dSeq (xSetIx (dVar 0) (dC (.int 0)) (dOp xFdiv (dOp xIx (dVar 0) (dC (.int 0))) (dVar 1)))
    (dRet (dVar 2))))
theorem log_small {m : Int} (h0 : 0 < m) (h : m < 2 ^ 62) : m.natAbs.log2 < 9000 := by
  have : m.natAbs.log2 < 62 := (Nat.log2_lt (by omega)).mpr (by omega)
  omega
theorem sp_law_digit : ∀ ds st K, S_law_digit ds st K → ds.length = 2 ∧ P_law_digit { nx := fun _ st' => K .non st', rt := K } (startD N_law_digit ds) st := by
  rintro ds st K ⟨n, m, rfl, ⟨x, e, hx⟩, hm0, hm1, k⟩
  refine ⟨rfl, ?_⟩
  have hn : n < st.length := (List.getElem?_eq_some_iff.mp e).1
  have it : items? st (.ref n) = some [.int x] := items_ref e
  refine st_ix it atI_zero (st_mod (by omega) (st_ix it atI_zero (st_fdiv (by omega) (log_small hm0 hm1) (st_set e (by rfl) ?_))))
  refine k _ _ (Int.fmod_nonneg_of_pos _ hm0) (Int.fmod_lt_of_pos _ hm0) ⟨_, List.getElem?_set_self hn, ?_⟩ Upd.set
  rw [Int.fdiv_eq_ediv_of_nonneg _ (by omega)]; exact Int.ediv_nonneg hx (by omega)
def Sm (x : Int) : Prop := -1000000000000 < x ∧ x < 1000000000000
def S_law_number : DSp := fun ds st K => ∃ (n : Nat) (kd : Int), ds = [.ref n, .int kd] ∧ Lf st n ∧ 0 ≤ kd ∧ kd < 5 ∧ ∀ r st', Sm r → Lf st' n → Upd st n st' → K (.int r) st'
def N_law_number : List Str := ["_law_left_here", "_law_kind", "_law_size"]
def P_law_number : DS := (dSeq (dIfS (dTest (dOp xEq (dVar 1) (dC (.int 3)))) (dRet (dOp xAdd (dOp xSub (dCall S_law_digit (dCons (dVar 0) (dCons (dOp xSub (dOp xMul (dC (.int 2)) (dOp xPow (dC (.int 10)) (dC (.int 12)))) (dC (.int 1))) dNil))) (dOp xPow (dC (.int 10)) (dC (.int 12)))) (dC (.int 1)))) dNext)
    (dSeq (dIfS (dAndT (dTest (dOp xEq (dVar 1) (dC (.int 2)))) (dTest (dOp xEq (dCall S_law_digit (dCons (dVar 0) (dCons (dC (.int 2)) dNil))) (dC (.int 0))))) (dRet (dOp xSub (dCall S_law_digit (dCons (dVar 0) (dCons (dC (.int 1999)) dNil))) (dC (.int 999)))) dNext)
    (dSeq (dSet 2 (dOp xIx (dLst (dCons (dC (.int 3)) (dCons (dC (.int 9)) (dCons (dC (.int 1)) (dCons (dC (.int 0)) (dCons (dC (.int 4)) dNil)))))) (dVar 1)))
    (dRet (dOp xSub (dCall S_law_digit (dCons (dVar 0) (dCons (dOp xAdd (dOp xMul (dC (.int 2)) (dVar 2)) (dC (.int 1))) dNil))) (dVar 2))))))
theorem num_end {st st1 : Store} {n : Nat} {kd : Int} {K : DK} (L : Lf st1 n) (U : Upd st n st1) (h0 : 0 ≤ kd) (h1 : kd < 5) (k : ∀ r st', Sm r → Lf st' n → Upd st n st' → K (.int r) st') : (dSeq (dSet 2 (dOp xIx (dLst (dCons (dC (.int 3)) (dCons (dC (.int 9)) (dCons (dC (.int 1)) (dCons (dC (.int 0)) (dCons (dC (.int 4)) dNil)))))) (dVar 1)))
    (dRet (dOp xSub (dCall S_law_digit (dCons (dVar 0) (dCons (dOp xAdd (dOp xMul (dC (.int 2)) (dVar 2)) (dC (.int 1))) dNil))) (dVar 2)))) { nx := fun _ st' => K .non st', rt := K } [some (.ref n), some (.int kd), none] st1 := by
  have e : kd = 0 ∨ kd = 1 ∨ kd = 2 ∨ kd = 3 ∨ kd = 4 := by omega
  have fin : ∀ s : Int, 0 ≤ s → s ≤ 9 → (dRet (dOp xSub (dCall S_law_digit (dCons (dVar 0) (dCons (dOp xAdd (dOp xMul (dC (.int 2)) (dVar 2)) (dC (.int 1))) dNil))) (dVar 2))) { nx := fun _ st' => K .non st', rt := K } [some (.ref n), some (.int kd), some (.int s)] st1 := fun s s0 s1 => by
    refine st_mul (mulok_l (by decide) (by decide)) (st_add ?_)
    exact ⟨n, _, rfl, L, by omega, by omega, fun r st2 a1 a2 L2 U2 => st_sub (k _ _ ⟨by omega, by omega⟩ L2 (U.trans U2))⟩
  refine ⟨Nat.le_of_ble_eq_true rfl, ?_⟩
  rcases e with rfl | rfl | rfl | rfl | rfl
  · exact st_ix rfl rfl (fin 3 (by decide) (by decide))
  · exact st_ix rfl rfl (fin 9 (by decide) (by decide))
  · exact st_ix rfl rfl (fin 1 (by decide) (by decide))
  · exact st_ix rfl rfl (fin 0 (by decide) (by decide))
  · exact st_ix rfl rfl (fin 4 (by decide) (by decide))
theorem sp_law_number : ∀ ds st K, S_law_number ds st K → ds.length = 2 ∧ P_law_number { nx := fun _ st' => K .non st', rt := K } (startD N_law_number ds) st := by
  rintro ds st K ⟨n, kd, rfl, L, k0, k1, k⟩
  refine ⟨rfl, ?_⟩
  refine eq2 (fun h => iteT ?_) fun h => ?_
  · refine st_pow ⟨by decide, by decide, by decide⟩ (st_mul (mulok_l (by decide) (by decide)) (st_sub ?_))
    refine ⟨n, _, rfl, L, by decide, by decide, fun r st2 c1 c2 L2 U2 => st_pow ⟨by decide, by decide, by decide⟩ (st_sub (st_add ?_))⟩
    have e : (10 : Int) ^ (12 : Int).toNat = 1000000000000 := by decide
    rw [e] at c2 ⊢
    exact k _ _ ⟨by omega, by omega⟩ L2 U2
  · refine eq2 (fun h2 => iteT ?_) fun h2 => num_end L Upd.refl k0 k1 k
    refine ⟨n, 2, rfl, L, by decide, by decide, fun r st2 c1 c2 L2 U2 => ?_⟩
    refine eq2 (fun h3 => iteT ?_) fun h3 => num_end L2 U2 k0 k1 k
    exact ⟨n, 1999, rfl, L2, by decide, by decide, fun r st3 d1 d2 L3 U3 => st_sub (k _ _ ⟨by omega, by omega⟩ L3 (U2.trans U3))⟩
def BdM (A : List (List Int)) : Prop := ∀ r ∈ A, ∀ x ∈ r, Sm x
structure Dr (A : List (List Int)) (N w : Nat) : Prop where
  is : Mx.IsM N w A
  le : N ≤ 8
  wd : w ≤ 9
  bd : BdM A
def S_law_rows : DSp := fun ds st K => ∃ (n m w : Nat) (kd : Int), ds = [.ref n, .int m, .int w, .int kd] ∧ Lf st n ∧ m ≤ 8 ∧ w ≤ 8 ∧ 0 ≤ kd ∧ kd < 5 ∧ ∀ A st', Mx.IsM m w A → BdM A → Lf st' n → Upd st n st' → K (rowsT A) st'
def N_law_rows : List Str := ["_law_left_here", "_law_many", "_law_wide", "_law_kind"]
def P_law_rows : DS := (dRet (dCB xTuple (dCons (dComp (xRange1 (dCons (dVar 1) dNil)) [none, some 2, some 0, some 3] (tgName 0) dTrue (dCB xTuple (dCons (dComp (xRange1 (dCons (dVar 1) dNil)) [none, some 2, some 3] (tgName 0) dTrue (dCall S_law_number (dCons (dVar 1) (dCons (dVar 2) dNil)))) dNil))) dNil)))
theorem comp_row {n w : Nat} {kd : Int} {σc : DEnv} {st : Store} {te : DE} {K : List D → Store → Prop} (ei : ∀ (x : D) (st' : Store) (K' : DK), S_law_number [.ref n, .int kd] st' K' → te (σc.set 0 (some x)) st' K') (L : Lf st n) (k0 : 0 ≤ kd) (k1 : kd < 5) (hs : (fun (x : D) => tgName 0 x σc) = fun x => some (σc.set 0 (some x)))
    (k : ∀ r st', r.length = w → (∀ x ∈ r, Sm x) → Lf st' n → Upd st n st' → K (dInts r) st') :
    compD (tgName 0) dTrue te (fun _ => True) σc (rangeD 0 w) [] st K := by
  refine comp_ind (fun rest acc st' => ∃ r : List Int, acc = dInts r ∧ r.length + rest.length = w ∧ (∀ x ∈ r, Sm x) ∧ Lf st' n ∧ Upd st n st') ?_ ?_ _ _ _ ⟨[], rfl, by rw [rangeD_len]; simp, by simp, L, Upd.refl⟩
  · rintro acc st' ⟨r, rfl, hl, hr, B', U⟩
    have hl : r.length = w := by simpa using hl
    exact ⟨trivial, k r st' hl hr B' U⟩
  · rintro x rest acc st' ⟨r, rfl, hl, hr, B', U⟩ next
    have hl2 : r.length < w := by simp at hl; omega
    refine ⟨trivial, _, congrFun hs x, ?_⟩
    refine ei x st' _ ⟨n, kd, rfl, B', k0, k1, fun y st2 a B2 U2 => ?_⟩
    show compD _ _ _ _ _ _ _ _ _
    rw [ints_app]
    refine next _ _ ⟨r ++ [y], rfl, by simp at hl ⊢; omega, fun z hz => ?_, B2, U.trans U2⟩
    rcases List.mem_append.mp hz with h | h
    · exact hr z h
    · have : z = y := by simpa using h
      subst this; exact a
theorem sp_law_rows : ∀ ds st K, S_law_rows ds st K → ds.length = 4 ∧ P_law_rows { nx := fun _ st' => K .non st', rt := K } (startD N_law_rows ds) st := by
  rintro ds st K ⟨n, m, w, kd, rfl, B, hm, hw, k0, k1, k⟩
  refine ⟨rfl, ?_⟩
  refine st_rng1 ⟨by omega, by omega⟩ ⟨sz1000 (by rw [rangeD_len]; omega), ?_⟩
  rw [Int.toNat_natCast]
  refine comp_ind (fun rest acc st' => ∃ A : List (List Int), acc = A.map rowT ∧ A.length + rest.length = m ∧ (∀ r ∈ A, r.length = w) ∧ BdM A ∧ Lf st' n ∧ Upd st n st') ?_ ?_ _ _ _ ⟨[], rfl, by rw [rangeD_len]; simp, by simp, fun _ h => by simp at h, B, Upd.refl⟩
  · rintro acc st' ⟨A, rfl, hl, hA, hBd, B', U⟩
    have hl : A.length = m := by simpa using hl
    exact ⟨trivial, st_tuple rfl (k A st' ⟨hl, hA⟩ hBd B' U)⟩
  · rintro x rest acc st' ⟨A, rfl, hl, hA, hBd, B', U⟩ next
    have hl2 : A.length < m := by simp at hl; omega
    refine ⟨trivial, _, rfl, ?_⟩
    refine st_rng1 ⟨by omega, by omega⟩ ⟨sz1000 (by rw [rangeD_len]; omega), ?_⟩
    rw [Int.toNat_natCast]
    refine comp_row (n := n) (kd := kd) (fun x st' K' h => h) B' k0 k1 rfl fun r st2 hr1 hr2 B2 U2 => ?_
    refine st_tuple rfl ?_
    show compD _ _ _ _ _ _ _ _ _
    rw [rows_app]
    refine next _ _ ⟨A ++ [r], rfl, by simp at hl ⊢; omega, fun q hq => ?_, fun q hq => ?_, B2, U.trans U2⟩
    · rcases List.mem_append.mp hq with h | h
      · exact hA q h
      · have : q = r := by simpa using h
        subst this; exact hr1
    · rcases List.mem_append.mp hq with h | h
      · exact hBd q h
      · have : q = r := by simpa using h
        subst this; exact hr2
def S_law_dot : DSp := S_dot
def N_law_dot : List Str := ["_law_one", "_law_other"]
def P_law_dot : DS := (dRet (dCB xSum (dCons (dComp (xZip (dCons (dVar 0) (dCons (dVar 1) dNil))) [none, none] (tgTwo 0 1) dTrue (dOp xMul (dVar 0) (dVar 1))) dNil)))
theorem sp_law_dot : ∀ ds st K, S_law_dot ds st K → ds.length = 2 ∧ P_law_dot { nx := fun _ st' => K .non st', rt := K } (startD N_law_dot ds) st := sp_dot
theorem dot_abs {m : Nat} : ∀ {a b : List Int}, (∀ x ∈ a, x.natAbs ≤ m) → (∀ x ∈ b, x.natAbs ≤ m) → (Mx.dotM a b).natAbs ≤ a.length * (m * m)
  | [], _, _, _ => by show (0 : Int).natAbs ≤ _; simp
  | _ :: _, [], _, _ => by show (0 : Int).natAbs ≤ _; simp
  | x :: a, y :: b, h1, h2 => by
    have ih := dot_abs (a := a) (b := b) (fun z hz => h1 z (List.mem_cons_of_mem _ hz)) fun z hz => h2 z (List.mem_cons_of_mem _ hz)
    have e : Mx.dotM (x :: a) (y :: b) = x * y + Mx.dotM a b := rfl
    have h3 : (x * y).natAbs ≤ m * m := by
      rw [Int.natAbs_mul]
      exact Nat.mul_le_mul (h1 x List.mem_cons_self) (h2 y List.mem_cons_self)
    have h4 := Int.natAbs_add_le (x * y) (Mx.dotM a b)
    rw [e, List.length_cons, Nat.add_mul, Nat.one_mul]
    omega
theorem Dr.mem {A : List (List Int)} {N w i : Nat} (h : Dr A N w) (hi : i < N) : A.getD i [] ∈ A := by
  have := h.is.len
  rw [Mx.getD_lt (by omega)]; exact List.getElem_mem _
theorem Dr.st {A : List (List Int)} {N w : Nat} (h : Dr A N w) : St A N w where
  is := h.is
  wd := by have := h.wd; omega
  sm := fun r hr x hx => by have := h.bd r hr x hx; unfold Sm at this; omega
  gm := {
    le := h.le
    bd := fun r c hr hc => by
      have q : ∀ i, i < N → ∀ x ∈ A.getD i [], x.natAbs ≤ 1000000000000 := fun i hi x hx => by have := h.bd _ (h.mem hi) x hx; unfold Sm at this; omega
      have h1 := dot_abs (q r hr) (q c hc)
      have h2 := h.is.wid _ (h.mem hr)
      have h3 := h.wd
      unfold Mx.gram
      rw [h2] at h1
      have h4 : w * (1000000000000 * 1000000000000) ≤ 9 * (1000000000000 * 1000000000000) := Nat.mul_le_mul_right _ h3
      exact Nat.le_trans h1 (Nat.le_trans h4 (by decide))
    sym := Mx.gram_sym A }
structure Own (G : Mx.Fn) (N : Nat) (st : Store) (g kn : Nat) (cs : List Nat) : Prop where
  eg : st[g]? = some (Cell.lst (dInts ((List.range (N + 1)).map fun q => Mx.D q G)))
  ek : st[kn]? = some (Cell.lst (cs.map D.ref))
  lc : cs.length = N
  row : ∀ j c, cs[j]? = some c → st[c]? = some (Cell.lst (dInts (Mx.lineL G j)))
def S_law_own : DSp := fun ds st K => ∃ (A : List (List Int)) (N w : Nat), ds = [rowsT A] ∧ St A N w ∧ (∀ st', Ext st st' → (∃ k, k ≤ N ∧ Mx.D k (Mx.gram A) = 0) → K .non st') ∧ ∀ st' g kn cs, Ext st st' → (∀ k, k ≤ N → Mx.D k (Mx.gram A) ≠ 0) → Own (Mx.gram A) N st' g kn cs → K (.tup [.ref g, .ref kn]) st'
def N_law_own : List Str := ["_law_steps", "_law_grown", "_law_known", "_law_step", "_law_found", "_law_j", "_law_told", "_law_other", "_law_k", "_law_less"]
def P_law_own : DS := (dSeq (dSet 1 (dNew (dCons (dC (.int 1)) dNil)))
    (dSeq (dSet 2 (dNew dNil))
    (dSeq (dFor (xSeqI (dVar 0)) (tgName 3) (dSeq (dSet 4 (dNew dNil))
    (dSeq (dFor (xRange1 (dCons (dOp xAdd (dCB xLen (dCons (dVar 2) dNil)) (dC (.int 1))) dNil)) (tgName 5) (dSeq (dSet 6 (dCall S_law_dot (dCons (dVar 3) (dCons (dOp xIx (dVar 0) (dVar 5)) dNil))))
    (dSeq (dSet 7 (dOp xIx (dOp xAddQ (dVar 2) (dLst (dCons (dVar 4) dNil))) (dVar 5)))
    (dSeq (dFor (xRange1 (dCons (dVar 5) dNil)) (tgName 8) (dSeq (dSet 9 (dOp xMul (dOp xIx (dVar 4) (dVar 8)) (dOp xIx (dVar 7) (dVar 8))))
    (dSet 6 (dOp xFdiv (dOp xSub (dOp xMul (dOp xIx (dVar 1) (dOp xAdd (dVar 8) (dC (.int 1)))) (dVar 6)) (dVar 9)) (dOp xIx (dVar 1) (dVar 8))))))
    (dDrop (xAppend (dVar 4) (dVar 6)))))))
    (dSeq (dIfS (dTest (dOp xEq (dOp xIx (dVar 4) (dUn xNeg (dC (.int 1)))) (dC (.int 0)))) (dRet (dC .non)) dNext)
    (dSeq (dDrop (xAppend (dVar 1) (dOp xIx (dVar 4) (dUn xNeg (dC (.int 1))))))
    (dDrop (xAppend (dVar 2) (dVar 4))))))))
    (dRet (dTup (dCons (dVar 1) (dCons (dVar 2) dNil)))))))
theorem at_row {A : List (List Int)} {j : Nat} (h : j < A.length) : atI (A.map rowT) (j : Int) = some (rowT (A.getD j [])) := by
  refine atI_nat ?_
  rw [List.getElem?_map, List.getElem?_eq_getElem h, Mx.getD_lt h]; rfl
theorem own_in {G : Mx.Fn} {n i j g f o : Nat} {gl fl ol : List Int} {d0 d2 d3 d5 : D} {st : Store} {E : DEnds} {v8 v9 : Option D} (gm : Gm G n) (hi : i < n) (hj : j ≤ i) (hD : ∀ k, k ≤ i → Mx.D k G ≠ 0)
    (eg : st[g]? = some (.lst (dInts gl))) (ef : st[f]? = some (.lst (dInts fl))) (eo : st[o]? = some (.lst (dInts ol))) (lg : gl.length = i + 1) (lf : fl.length = j) (lo : j ≤ ol.length)
    (hg : ∀ k, k ≤ i → gl.getD k 0 = Mx.D k G) (hf : ∀ k, k < j → fl.getD k 0 = Mx.lam G i k) (ho : ∀ k, k < j → ol.getD k 0 = Mx.lam G j k)
    (k : ∀ v8 v9, E.nx [some d0, some (.ref g), some d2, some d3, some (.ref f), some d5, some (.int (Mx.lam G i j)), some (.ref o), v8, v9] st) :
    dFor (xRange1 (dCons (dC (.int j)) dNil)) (tgName 8) (dSeq (dSet 9 (dOp xMul (dOp xIx (dVar 4) (dVar 8)) (dOp xIx (dVar 7) (dVar 8))))
    (dSet 6 (dOp xFdiv (dOp xSub (dOp xMul (dOp xIx (dVar 1) (dOp xAdd (dVar 8) (dC (.int 1)))) (dVar 6)) (dVar 9)) (dOp xIx (dVar 1) (dVar 8))))) E [some d0, some (.ref g), some d2, some d3, some (.ref f), some d5, some (.int (G i j)), some (.ref o), v8, v9] st := by
  have hn := gm.le
  refine st_rng1 ⟨by omega, by omega⟩ ?_
  rw [Int.toNat_natCast]
  refine for_range j (fun q σ st' => st' = st ∧ ∃ v8 v9, σ = [some d0, some (.ref g), some d2, some d3, some (.ref f), some d5, some (.int (Mx.gx G q (G i) j)), some (.ref o), v8, v9]) ?_ ?_ ⟨rfl, v8, v9, by rw [Mx.gx_zero]⟩
  · rintro σ st' ⟨rfl, v8, v9, rfl⟩
    exact k v8 v9
  · rintro q σ st' rest hq ⟨rfl, v8, v9, rfl⟩ next
    refine ⟨_, rfl, ?_⟩
    have b1 := gm.D (p := q + 1) (by omega)
    have b2 := gm.gx (p := q) (i := i) (j := j) (by omega) hi (by omega)
    have b3 : (Mx.lam G i q).natAbs ≤ 2 ^ 744 := gm.gx (by omega) hi (by omega)
    have b4 : (Mx.lam G j q).natAbs ≤ 2 ^ 744 := gm.gx (by omega) (by omega) (by omega)
    have b5 := gm.D (p := q) (by omega)
    have hd := hD q (by omega)
    have e1 := items_ref ef
    have e2 := items_ref eo
    have e3 := items_ref eg
    refine st_ix e1 (at_ints (by omega)) (st_ix e2 (at_ints (by omega)) ?_)
    rw [hf q hq, ho q hq]
    refine st_mul (mulok_b b3 b4) (st_add ?_)
    refine st_ix e3 (e := .int (Mx.D (q + 1) G)) (by have := at_ints (r := gl) (k := q + 1) (by omega); rw [hg (q + 1) (by omega)] at this; exact this) ?_
    refine st_mul (mulok_b b1 b2) (st_sub (st_ix e3 (at_ints (by omega)) ?_))
    rw [hg q (by omega)]
    refine st_fdiv hd (log_b b5 hd) ?_
    rw [Mx.lam_step gm.sym hd]
    exact next _ _ ⟨rfl, _, _, rfl⟩
theorem lams_len (G : Mx.Fn) (i q : Nat) : ((List.range q).map fun j => Mx.lam G i j).length = q := by simp
theorem lams_line (G : Mx.Fn) (i : Nat) : ((List.range (i + 1)).map fun j => Mx.lam G i j) = Mx.lineL G i := rfl
theorem own_mid {A : List (List Int)} {N w i g kn f : Nat} {gl : List Int} {cs : List Nat} {st : Store} {E : DEnds} {v5 v6 v7 v8 v9 : Option D} (hS : St A N w) (hi : i < N) (hD : ∀ k, k ≤ i → Mx.D k (Mx.gram A) ≠ 0)
    (eg : st[g]? = some (.lst (dInts gl))) (ek : st[kn]? = some (.lst (cs.map D.ref))) (ef : st[f]? = some (.lst [])) (lg : gl.length = i + 1) (lc : cs.length = i) (hgf : g ≠ f) (hkf : kn ≠ f)
    (hg : ∀ k, k ≤ i → gl.getD k 0 = Mx.D k (Mx.gram A)) (hc : ∀ j c, cs[j]? = some c → c ≠ f ∧ st[c]? = some (.lst (dInts (Mx.lineL (Mx.gram A) j))))
    (k : ∀ st' v5 v6 v7 v8 v9, Upd st f st' → st'[f]? = some (.lst (dInts (Mx.lineL (Mx.gram A) i))) → E.nx [some (rowsT A), some (.ref g), some (.ref kn), some (rowT (A.getD i [])), some (.ref f), v5, v6, v7, v8, v9] st') :
    (dFor (xRange1 (dCons (dOp xAdd (dCB xLen (dCons (dVar 2) dNil)) (dC (.int 1))) dNil)) (tgName 5) (dSeq (dSet 6 (dCall S_law_dot (dCons (dVar 3) (dCons (dOp xIx (dVar 0) (dVar 5)) dNil))))
    (dSeq (dSet 7 (dOp xIx (dOp xAddQ (dVar 2) (dLst (dCons (dVar 4) dNil))) (dVar 5)))
    (dSeq (dFor (xRange1 (dCons (dVar 5) dNil)) (tgName 8) (dSeq (dSet 9 (dOp xMul (dOp xIx (dVar 4) (dVar 8)) (dOp xIx (dVar 7) (dVar 8))))
    (dSet 6 (dOp xFdiv (dOp xSub (dOp xMul (dOp xIx (dVar 1) (dOp xAdd (dVar 8) (dC (.int 1)))) (dVar 6)) (dVar 9)) (dOp xIx (dVar 1) (dVar 8))))))
    (dDrop (xAppend (dVar 4) (dVar 6))))))) E [some (rowsT A), some (.ref g), some (.ref kn), some (rowT (A.getD i [])), some (.ref f), v5, v6, v7, v8, v9] st := by
  have hn := hS.gm.le
  have hl := hS.is.len
  have hw := hS.wd
  refine st_len (items_ref ek) (st_add ?_)
  have e0 : (((cs.map D.ref).length : Nat) : Int) + 1 = ((i + 1 : Nat) : Int) := by rw [List.length_map, lc]; rfl
  rw [e0]
  refine st_rng1 ⟨by omega, by omega⟩ ?_
  rw [Int.toNat_natCast]
  refine for_range (i + 1) (fun q σ st' => Upd st f st' ∧ st'[f]? = some (.lst (dInts ((List.range q).map fun j => Mx.lam (Mx.gram A) i j))) ∧ ∃ v5 v6 v7 v8 v9, σ = [some (rowsT A), some (.ref g), some (.ref kn), some (rowT (A.getD i [])), some (.ref f), v5, v6, v7, v8, v9]) ?_ ?_ ⟨Upd.refl, ef, _, _, _, _, _, rfl⟩
  · rintro σ st' ⟨U, e, v5, v6, v7, v8, v9, rfl⟩
    rw [lams_line] at e
    exact k st' v5 v6 v7 v8 v9 U e
  · rintro q σ st1 rest hq ⟨U, e, v5, v6, v7, v8, v9, rfl⟩ next
    refine ⟨_, rfl, ?_⟩
    refine st_ix rfl (at_row (by omega)) ?_
    have wi := hS.is.wid _ (hS.mem hi)
    refine ⟨_, _, A.getD i [], A.getD q [], rfl, rfl, rfl, by omega, dot_ok hS hi (by omega), ?_⟩
    have ek1 := (U.same kn hkf).trans ek
    have eg1 := (U.same g hgf).trans eg
    refine ⟨Nat.le_of_ble_eq_true rfl, st_addQ ek1 (by rw [sizeLine_eq, List.length_map]; simp; omega) ?_⟩
    have hlt := (List.getElem?_eq_some_iff.mp e).1
    -- the other line
    have ho : ∃ (o : Nat) (ol : List Int), (cs.map D.ref ++ [D.ref f])[q]? = some (.ref o) ∧ st1[o]? = some (.lst (dInts ol)) ∧ q ≤ ol.length ∧ ∀ k, k < q → ol.getD k 0 = Mx.lam (Mx.gram A) q k := by
      by_cases hqi : q < i
      · have ec : cs[q]? = some cs[q] := List.getElem?_eq_getElem (by omega)
        obtain ⟨c1, c2⟩ := hc q _ ec
        refine ⟨cs[q], Mx.lineL (Mx.gram A) q, ?_, (U.same _ c1).trans c2, by rw [Mx.lineL_len]; omega, fun k hk => Mx.lineL_at _ (by omega)⟩
        rw [List.getElem?_append_left (by rw [List.length_map]; omega), List.getElem?_map, ec]; rfl
      · have : q = i := by omega
        subst this
        refine ⟨f, _, ?_, e, by rw [lams_len]; omega, fun k hk => lams_at _ hk⟩
        rw [List.getElem?_append_right (by rw [List.length_map]; omega), List.length_map, lc, Nat.sub_self]; rfl
    obtain ⟨o, ol, o1, o2, o3, o4⟩ := ho
    refine st_ix rfl (atI_nat o1) ?_
    refine own_in hS.gm hi (by omega) hD eg1 e o2 lg (lams_len _ _ _) o3 hg (fun k hk => lams_at _ hk) o4 fun v8 v9 => ?_
    refine st_app (by rfl) e (var_at rfl (appK_at e (by rw [sizeLine_eq, List.length_map, lams_len]; omega) ?_))
    refine next _ _ ⟨U.trans Upd.set, ?_, _, _, _, _, _, rfl⟩
    rw [List.getElem?_set_self hlt, lams_app]
theorem D_at {G : Mx.Fn} {n k : Nat} (h : k < n) : ((List.range n).map fun q => Mx.D q G).getD k 0 = Mx.D k G := by rw [Mx.getD_lt (by simpa using h), List.getElem_map, List.getElem_range]
theorem D_app (G : Mx.Fn) (q : Nat) : dInts ((List.range q).map fun j => Mx.D j G) ++ [.int (Mx.D q G)] = dInts ((List.range (q + 1)).map fun j => Mx.D j G) := by rw [List.range_succ, List.map_append]; simp [dInts]
theorem sp_law_own : ∀ ds st K, S_law_own ds st K → ds.length = 1 ∧ P_law_own { nx := fun _ st' => K .non st', rt := K } (startD N_law_own ds) st := by
  rintro ds st K ⟨A, N, w, rfl, hS, k1, k2⟩
  refine ⟨rfl, ?_⟩
  have hn := hS.gm.le
  have hl := hS.is.len
  refine ⟨Nat.le_of_ble_eq_true rfl, Nat.le_of_ble_eq_true rfl, ?_⟩
  have X0 : Ext st (st ++ [.lst [.int 1]] ++ [.lst []]) := Ext.push.trans Ext.push
  have eg0 : (st ++ [Cell.lst [.int 1]] ++ [Cell.lst []])[st.length]? = some (.lst (dInts ((List.range (0 + 1)).map fun q => Mx.D q (Mx.gram A)))) := by
    rw [List.append_assoc, List.getElem?_append_right (Nat.le_refl _), Nat.sub_self]; rfl
  have ek0 : (st ++ [Cell.lst [.int 1]] ++ [Cell.lst []])[st.length + 1]? = some (.lst (([] : List Nat).map D.ref)) := by
    rw [List.append_assoc, List.getElem?_append_right (by omega)]
    have : st.length + 1 - st.length = 1 := by omega
    rw [this]; rfl
  have hlen0 : (st ++ [Cell.lst [.int 1]] ++ [Cell.lst []]).length = st.length + 2 := by simp
  have hD0 : ∀ k, k ≤ 0 → Mx.D k (Mx.gram A) ≠ 0 := fun k hk => by
    have : k = 0 := by omega
    rw [this, Mx.D_zero]; decide
  have elen : (st ++ [Cell.lst [.int 1]]).length = st.length + 1 := by simp
  refine st_seqT ?_
  refine for_ind (fun rest σ st' => ∃ (i : Nat) (cs : List Nat) (v3 v4 v5 v6 v7 v8 v9 : Option D), i ≤ N ∧ σ = [some (rowsT A), some (.ref st.length), some (.ref (st.length + 1)), v3, v4, v5, v6, v7, v8, v9] ∧ rest = (A.drop i).map rowT ∧ Ext st st' ∧ st.length + 2 ≤ st'.length ∧ st'[st.length]? = some (.lst (dInts ((List.range (i + 1)).map fun q => Mx.D q (Mx.gram A)))) ∧ st'[st.length + 1]? = some (.lst (cs.map D.ref)) ∧ cs.length = i ∧ (∀ k, k ≤ i → Mx.D k (Mx.gram A) ≠ 0) ∧ ∀ j c, cs[j]? = some c → st.length + 2 ≤ c ∧ c < st'.length ∧ st'[c]? = some (.lst (dInts (Mx.lineL (Mx.gram A) j)))) ?_ ?_ _ _ _ ⟨0, [], none, none, none, none, none, none, none, Nat.zero_le _, by rw [elen]; rfl, rfl, X0, by rw [hlen0]; omega, eg0, ek0, rfl, hD0, fun j c h => by simp at h⟩
  · rintro σ st1 ⟨i, cs, v3, v4, v5, v6, v7, v8, v9, hi, rfl, hr, X, hlen, eg, ek, lc, hD, hc⟩
    refine ⟨trivial, ?_⟩
    have : i = N := by
      have := congrArg List.length hr
      simp at this
      omega
    subst this
    exact ⟨Nat.le_of_ble_eq_true rfl, k2 st1 _ _ cs X hD ⟨eg, ek, lc, fun j c h => (hc j c h).2.2⟩⟩
  · rintro x rest σ st1 ⟨i, cs, v3, v4, v5, v6, v7, v8, v9, hi, rfl, hr, X, hlen, eg, ek, lc, hD, hc⟩ next
    have hiN : i < N := by
      have := congrArg List.length hr
      simp at this
      omega
    rw [List.drop_eq_getElem_cons (show i < A.length by omega), List.map_cons, List.cons.injEq] at hr
    obtain ⟨rfl, rfl⟩ := hr
    have er : A[i] = A.getD i [] := (Mx.getD_lt (by omega)).symm
    rw [er]
    refine ⟨trivial, _, rfl, ?_⟩
    refine ⟨Nat.le_of_ble_eq_true rfl, ?_⟩
    have XP : Ext st1 (st1 ++ [.lst []]) := Ext.push
    have ef : (st1 ++ [Cell.lst []])[st1.length]? = some (.lst []) := by simp
    refine own_mid (E := { nx := _, rt := K, ct := _, bk := _ }) (i := i) (g := st.length) (kn := st.length + 1) (f := st1.length) (cs := cs) (gl := (List.range (i + 1)).map fun q => Mx.D q (Mx.gram A)) hS hiN hD ((XP.same _ (by omega)).trans eg) ((XP.same _ (by omega)).trans ek) ef (by simp) lc (by omega) (by omega) (fun k hk => D_at (by omega)) (fun j c h => by
      obtain ⟨h1, h2, h3⟩ := hc j c h
      exact ⟨by omega, (XP.same _ h2).trans h3⟩) fun st2 v5 v6 v7 v8 v9 U ef2 => ?_
    have l2 : st2.length = st1.length + 1 := by rw [U.len]; simp
    have it := items_ref ef2
    have X2 : Ext st st2 := ⟨by omega, fun m hm => by rw [U.same m (by omega), XP.same m (by omega)]; exact X.same m hm⟩
    refine st_neg (st_ix it (at_last (Mx.lineL_len _ i)) ?_)
    rw [Mx.lineL_at _ (Nat.le_refl i), Mx.lam_self]
    refine eq2 (fun h => iteT (k1 st2 X2 ⟨i + 1, by omega, h⟩)) fun h => ?_
    have eg2 : st2[st.length]? = some (.lst (dInts ((List.range (i + 1)).map fun q => Mx.D q (Mx.gram A)))) := by rw [U.same _ (by omega), XP.same _ (by omega)]; exact eg
    have ek2 : st2[st.length + 1]? = some (.lst (cs.map D.ref)) := by rw [U.same _ (by omega), XP.same _ (by omega)]; exact ek
    refine st_app (by rfl) eg2 (st_neg (st_ix it (at_last (Mx.lineL_len _ i)) ?_))
    rw [Mx.lineL_at _ (Nat.le_refl i), Mx.lam_self]
    refine appK_at eg2 (by rw [sizeLine_eq]; simp; omega) ?_
    rw [D_app]
    have ek3 : (st2.set st.length (.lst (dInts ((List.range (i + 1 + 1)).map fun q => Mx.D q (Mx.gram A)))))[st.length + 1]? = some (.lst (cs.map D.ref)) := by rw [List.getElem?_set_ne (by omega)]; exact ek2
    refine st_app (by rfl) ek3 (var_at rfl (appK_at ek3 (by rw [sizeLine_eq]; simp; omega) ?_))
    refine next _ _ ⟨i + 1, cs ++ [st1.length], _, _, _, _, _, _, _, hiN, rfl, rfl, ?_, by simp; omega, ?_, ?_, by simp [lc], fun q hq => ?_, fun j c hj => ?_⟩
    · exact (X2.set (Nat.le_refl _)).set (by omega)
    · rw [List.getElem?_set_ne (by omega), List.getElem?_set_self (by omega)]
    · rw [List.getElem?_set_self (by rw [List.length_set]; omega), List.map_append]; rfl
    · by_cases hqi : q = i + 1
      · rw [hqi]; exact h
      · exact hD q (by omega)
    · by_cases hjc : j < cs.length
      · rw [List.getElem?_append_left hjc] at hj
        obtain ⟨h1, h2, h3⟩ := hc j c hj
        refine ⟨h1, by simp; omega, ?_⟩
        rw [List.getElem?_set_ne (by omega), List.getElem?_set_ne (by omega), U.same _ (by omega), XP.same _ h2]
        exact h3
      · have hlt := (List.getElem?_eq_some_iff.mp hj).1
        have : j = i := by simp at hlt; omega
        subst this
        rw [List.getElem?_append_right (by omega), lc, Nat.sub_self] at hj
        simp at hj
        subst hj
        refine ⟨by omega, by simp; omega, ?_⟩
        rw [List.getElem?_set_ne (by omega), List.getElem?_set_ne (by omega)]
        exact ef2
def S_law_short : DSp := fun ds st K => ∃ (A : List (List Int)) (N w : Nat), ds = [rowsT A] ∧ St A N w ∧ (∀ k, k ≤ N → Mx.D k (Mx.gram A) ≠ 0) ∧ (Mx.Sh (Mx.gram A) N → ∀ st', Ext st st' → K (.bl true) st') ∧ (¬ Mx.Sh (Mx.gram A) N → ∀ st', Ext st st' → K (.bl false) st')
def N_law_short : List Str := ["_law_steps", "_law_told", "_law_grown", "_law_known", "_law_i", "_law_j", "_law_here", "_law_least"]
def P_law_short : DS := (dSeq (dSet 1 (dCall S_law_own (dCons (dVar 0) dNil)))
    (dSeq (dIfS (dTest (dOp xIs (dVar 1) (dC .non))) (dRet (dC (.bl false))) dNext)
    (dSeq (dAsg (tgTwo 2 3) (dVar 1))
    (dSeq (dFor (xRange1 (dCons (dCB xLen (dCons (dVar 3) dNil)) dNil)) (tgName 4) (dSeq (dFor (xRange1 (dCons (dVar 4) dNil)) (tgName 5) (dIfS (dTest (dOp xGt (dOp xMul (dC (.int 2)) (dCB xAbs (dCons (dOp xIx (dOp xIx (dVar 3) (dVar 4)) (dVar 5)) dNil))) (dOp xIx (dVar 2) (dOp xAdd (dVar 5) (dC (.int 1)))))) (dRet (dC (.bl false))) dNext))
    (dIfS (dTest (dOp xGt (dVar 4) (dC (.int 0)))) (dSeq (dSet 6 (dOp xIx (dOp xIx (dVar 3) (dVar 4)) (dOp xSub (dVar 4) (dC (.int 1)))))
    (dSeq (dSet 7 (dOp xSub (dOp xMul (dOp xMul (dC (.int 3)) (dOp xIx (dVar 2) (dVar 4))) (dOp xIx (dVar 2) (dVar 4))) (dOp xMul (dOp xMul (dC (.int 4)) (dVar 6)) (dVar 6))))
    (dIfS (dTest (dOp xLt (dOp xMul (dOp xMul (dC (.int 4)) (dOp xIx (dVar 2) (dOp xAdd (dVar 4) (dC (.int 1))))) (dOp xIx (dVar 2) (dOp xSub (dVar 4) (dC (.int 1))))) (dVar 7))) (dRet (dC (.bl false))) dNext))) dNext)))
    (dRet (dC (.bl true)))))))
theorem sp_law_short : ∀ ds st K, S_law_short ds st K → ds.length = 1 ∧ P_law_short { nx := fun _ st' => K .non st', rt := K } (startD N_law_short ds) st := by
  rintro ds st K ⟨A, N, w, rfl, hS, hD, kT, kF⟩
  refine ⟨rfl, ?_⟩
  have gm := hS.gm
  have h8 := gm.le
  refine ⟨A, N, w, rfl, hS, fun st1 X1 hz => ?_, fun st1 g kn cs X1 _ O => ?_⟩
  · obtain ⟨k, hk, z⟩ := hz
    exact absurd z (hD k hk)
  refine st_isN rfl ?_
  refine ⟨_, rfl, ?_⟩
  have ik := items_ref O.ek
  have ig := items_ref O.eg
  have lc := O.lc
  have ixD : ∀ m, m ≤ N → atI (dInts ((List.range (N + 1)).map fun q => Mx.D q (Mx.gram A))) ((m : Nat) : Int) = some (.int (Mx.D m (Mx.gram A))) := fun m hm => by
    have := at_ints (r := (List.range (N + 1)).map fun q => Mx.D q (Mx.gram A)) (k := m) (by simp; omega)
    rw [D_at (by omega)] at this
    exact this
  have ixL : ∀ i m, m ≤ i → atI (dInts (Mx.lineL (Mx.gram A) i)) ((m : Nat) : Int) = some (.int (Mx.lam (Mx.gram A) i m)) := fun i m hm => by
    have := at_ints (r := Mx.lineL (Mx.gram A) i) (k := m) (by rw [Mx.lineL_len]; omega)
    rw [Mx.lineL_at _ hm] at this
    exact this
  refine st_len ik ?_
  rw [List.length_map, lc]
  refine st_rng1 ⟨by omega, by omega⟩ ?_
  rw [Int.toNat_natCast]
  refine for_range N (fun q σ st' => st' = st1 ∧ ∃ v4 v5 v6 v7 : Option D, σ = [some (rowsT A), some (.tup [.ref g, .ref kn]), some (.ref g), some (.ref kn), v4, v5, v6, v7] ∧ (∀ i j, j < i → i < q → 2 * (((Mx.lam (Mx.gram A) i j).natAbs : Nat) : Int) ≤ Mx.D (j + 1) (Mx.gram A)) ∧ ∀ i, 0 < i → i < q → ¬ 4 * Mx.D (i + 1) (Mx.gram A) * Mx.D (i - 1) (Mx.gram A) < 3 * Mx.D i (Mx.gram A) * Mx.D i (Mx.gram A) - 4 * Mx.lam (Mx.gram A) i (i - 1) * Mx.lam (Mx.gram A) i (i - 1)) ?_ ?_ ⟨rfl, none, none, none, none, rfl, fun i j _ h => by omega, fun i _ h => by omega⟩
  · rintro σ st' ⟨rfl, v4, v5, v6, v7, rfl, h1, h2⟩
    exact kT ⟨h1, h2⟩ _ X1
  · rintro q σ st' rest hq ⟨rfl, v4, v5, v6, v7, rfl, h1, h2⟩ next
    refine ⟨_, rfl, ?_⟩
    have ec : cs[q]? = some cs[q] := List.getElem?_eq_getElem (by omega)
    have er : (cs.map D.ref)[q]? = some (.ref cs[q]) := by rw [List.getElem?_map, ec]; rfl
    have il := items_ref (O.row q _ ec)
    dsimp only
    refine seq_cut (fun σ' st2 => st2 = st' ∧ ∃ v5 : Option D, σ' = [some (rowsT A), some (.tup [.ref g, .ref kn]), some (.ref g), some (.ref kn), some (.int (q : Int)), v5, v6, v7] ∧ ∀ j, j < q → 2 * (((Mx.lam (Mx.gram A) q j).natAbs : Nat) : Int) ≤ Mx.D (j + 1) (Mx.gram A)) (fun nx hnx => ?_) ?_
    · refine st_rng1 ⟨by omega, by omega⟩ ?_
      rw [Int.toNat_natCast]
      refine for_range q (fun m σ st2 => st2 = st' ∧ ∃ v5 : Option D, σ = [some (rowsT A), some (.tup [.ref g, .ref kn]), some (.ref g), some (.ref kn), some (.int (q : Int)), v5, v6, v7] ∧ ∀ j, j < m → 2 * (((Mx.lam (Mx.gram A) q j).natAbs : Nat) : Int) ≤ Mx.D (j + 1) (Mx.gram A)) ?_ ?_ ⟨rfl, v5, rfl, fun j h => by omega⟩
      · rintro σ st2 ⟨rfl, v5, rfl, h⟩
        exact hnx _ _ ⟨rfl, v5, rfl, h⟩
      · rintro m σ st2 rest2 hm ⟨rfl, v5, rfl, h⟩ next2
        refine ⟨_, rfl, ?_⟩
        refine st_ix ik (atI_nat er) (st_ix il (ixL q m (by omega)) (st_abs (st_mul (mulok_l (by decide) (by decide)) (st_add (st_ix ig (ixD (m + 1) (by omega)) (gt2 (fun hh => iteT ?_) fun hh => ?_))))))
        · exact kF (fun sh => by have := sh.half q m hm hq; omega) _ X1
        · refine next2 _ _ ⟨rfl, _, rfl, fun j hj => ?_⟩
          by_cases hjm : j = m
          · subst hjm; exact hh
          · exact h j (by omega)
    rintro σ' st2 ⟨rfl, v5, rfl, hh⟩
    have h1' : ∀ i j, j < i → i < q + 1 → 2 * (((Mx.lam (Mx.gram A) i j).natAbs : Nat) : Int) ≤ Mx.D (j + 1) (Mx.gram A) := fun i j hj hi => by
      by_cases hiq : i = q
      · subst hiq; exact hh j hj
      · exact h1 i j hj (by omega)
    refine gt2 (fun h0 => iteT ?_) fun h0 => next _ _ ⟨rfl, _, _, _, _, rfl, h1', fun i hi0 hi => h2 i hi0 (by omega)⟩
    have em : ((q : Nat) : Int) - 1 = ((q - 1 : Nat) : Int) := by omega
    have b1 := gm.Db (p := q) (m := 8) (by omega) (by omega)
    have b2 := gm.Db (p := q + 1) (m := 8) (by omega) (by omega)
    have b3 := gm.Db (p := q - 1) (m := 8) (by omega) (by omega)
    have b4 := gm.lb (p := q - 1) (i := q) (m := 8) hq (by omega) (by omega)
    have t3 : (3 : Int).natAbs < 2 ^ 2 := by decide
    have t4 : (4 : Int).natAbs < 2 ^ 3 := by decide
    refine st_ix ik (atI_nat er) (st_sub ?_)
    rw [em]
    refine st_ix il (ixL q (q - 1) (by omega)) ?_
    refine st_ix ig (ixD q (by omega)) (st_mul (mulok_l (by decide) (by decide)) (st_ix ig (ixD q (by omega)) (st_mul (mulok_p (mul_lt_pow t3 b1) b1 (by decide) (by decide)) (st_mul (mulok_l (by decide) (by decide)) (st_mul (mulok_p (mul_lt_pow t4 b4) b4 (by decide) (by decide)) (st_sub ?_))))))
    refine st_add (st_ix ig (ixD (q + 1) (by omega)) (st_mul (mulok_l (by decide) (by decide)) (st_sub ?_)))
    rw [em]
    refine st_ix ig (ixD (q - 1) (by omega)) (st_mul (mulok_p (mul_lt_pow t4 b2) b3 (by decide) (by decide)) (lt2 (fun hf => iteT ?_) fun hf => ?_))
    · exact kF (fun sh => sh.fall q (by omega) hq hf) _ X1
    · refine next _ _ ⟨rfl, _, _, _, _, rfl, h1', fun i hi0 hi => ?_⟩
      by_cases hiq : i = q
      · subst hiq; omega
      · exact h2 i hi0 (by omega)
structure Sr (A : List (List Int)) (N w : Nat) : Prop where
  is : Mx.IsM N w A
  n1 : 1 ≤ N
  n8 : N ≤ 8
  w1 : 1 ≤ w
  w8 : w ≤ 8
  bd : ∀ r ∈ A, ∀ x ∈ r, -10 ≤ x ∧ x ≤ 10
theorem Lf.lt {st : Store} {n : Nat} (h : Lf st n) : n < st.length := by
  obtain ⟨x, e, _⟩ := h.ex
  exact (List.getElem?_eq_some_iff.mp e).1
theorem Lf.cell {st st' : Store} {n : Nat} (h : Lf st n) (e : st'[n]? = st[n]?) : Lf st' n := by
  obtain ⟨x, e1, h0⟩ := h.ex
  exact ⟨x, e.trans e1, h0⟩
theorem Lf.push {st : Store} {n : Nat} {c : List Cell} (h : Lf st n) : Lf (st ++ c) n := h.cell (List.getElem?_append_left h.lt)
def S_law_stairs : DSp := fun ds st K => ∃ (n : Nat), ds = [.ref n] ∧ Lf st n ∧ ∀ A N w st', Sr A N w → Lf st' n → K (rowsL A) st'
def N_law_stairs : List Str := ["_law_left_here", "_law_many", "_law_sizes", "_law_rows_here", "_law_k", "_law_row"]
def P_law_stairs : DS := (dSeq (dSet 1 (dOp xAdd (dC (.int 2)) (dCall S_law_digit (dCons (dVar 0) (dCons (dC (.int 3)) dNil)))))
    (dSeq (dIfS (dTest (dOp xEq (dCall S_law_digit (dCons (dVar 0) (dCons (dC (.int 8)) dNil))) (dC (.int 7)))) (dSet 1 (dOp xAdd (dC (.int 7)) (dOp xMod (dVar 1) (dC (.int 2))))) dNext)
    (dSeq (dSet 2 (dComp (xRange1 (dCons (dVar 1) dNil)) [none, some 0] (tgName 0) dTrue (dOp xAdd (dC (.int 4)) (dCall S_law_digit (dCons (dVar 1) (dCons (dC (.int 5)) dNil))))))
    (dSeq (dSet 3 (dNew dNil))
    (dSeq (dFor (xRange1 (dCons (dVar 1) dNil)) (tgName 4) (dSeq (dSet 5 (dComp (xSeqI (dSlice (dVar 2) dNoPart (dPart (dVar 4)))) [none, some 0] (tgName 0) dTrue (dOp xSub (dCall S_law_digit (dCons (dVar 1) (dCons (dOp xAdd (dC (.int 1)) (dOp xMul (dOp xFdiv (dVar 0) (dC (.int 2))) (dC (.int 2)))) dNil))) (dOp xFdiv (dVar 0) (dC (.int 2))))))
    (dDrop (xAppend (dVar 3) (dOp xAdd (dOp xAdd (dVar 5) (dLst (dCons (dOp xIx (dVar 2) (dVar 4)) dNil))) (dOp xMul (dLst (dCons (dC (.int 0)) dNil)) (dOp xSub (dOp xSub (dVar 1) (dC (.int 1))) (dVar 4))))))))
    (dFrzS 3 (dRet (dVar 3))))))))
theorem cut_take {r : List Int} {q : Nat} (h : q ≤ r.length) : L3.cutD (dInts r) none (some (q : Int)) = dInts (r.take q) := by
  unfold L3.cutD
  rw [HT.sIx_none, HT.sIx_nat, List.length_map, Nat.min_eq_left h, List.drop_zero, Nat.sub_zero]
  unfold dInts
  rw [List.map_take]
theorem half_size {s : Int} (h4 : 4 ≤ s) (h8 : s ≤ 8) : 2 ≤ s.fdiv 2 ∧ s.fdiv 2 ≤ 4 := by
  rw [Int.fdiv_eq_ediv_of_nonneg _ (by decide)]
  omega
theorem sp_law_stairs : ∀ ds st K, S_law_stairs ds st K → ds.length = 1 ∧ P_law_stairs { nx := fun _ st' => K .non st', rt := K } (startD N_law_stairs ds) st := by
  rintro ds st K ⟨n, rfl, L, k⟩
  refine ⟨rfl, ?_⟩
  refine ⟨n, 3, rfl, L, by decide, by decide, fun a st1 a0 a1 L1 U1 => st_add ?_⟩
  dsimp only
  refine seq_cut (fun σ' st' => ∃ N : Nat, 1 ≤ N ∧ N ≤ 8 ∧ Lf st' n ∧ σ' = [some (.ref n), some (.int (N : Int)), none, none, none, none]) (fun nx hnx => ?_) ?_
  · refine ⟨n, 8, rfl, L1, by decide, by decide, fun z st2 z0 z1 L2 U2 => ?_⟩
    refine eq2 (fun h => iteT (st_mod (by decide) (st_add ?_))) fun h => ?_
    · have m1 := Int.fmod_nonneg_of_pos (2 + a) (show (0 : Int) < 2 by decide)
      have m2 := Int.fmod_lt_of_pos (2 + a) (show (0 : Int) < 2 by decide)
      exact hnx _ _ ⟨(7 + (2 + a).fmod 2).toNat, by omega, by omega, L2, by rw [Int.toNat_of_nonneg (by omega)]; rfl⟩
    · exact hnx _ _ ⟨(2 + a).toNat, by omega, by omega, L2, by rw [Int.toNat_of_nonneg (by omega)]; rfl⟩
  rintro σ' st2 ⟨N, n1, n8, L2, rfl⟩
  refine st_rng1 ⟨by omega, by omega⟩ ⟨sz1000 (by rw [rangeD_len]; omega), ?_⟩
  rw [Int.toNat_natCast]
  refine comp_ind (fun rest acc st' => ∃ s : List Int, acc = dInts s ∧ s.length + rest.length = N ∧ (∀ x ∈ s, 4 ≤ x ∧ x ≤ 8) ∧ Lf st' n) ?_ ?_ _ _ _ ⟨[], rfl, by rw [rangeD_len]; simp, by simp, L2⟩
  case refine_2 =>
    rintro x rest acc st3 ⟨s, rfl, hl, hs, L3⟩ next
    refine ⟨trivial, _, rfl, ?_⟩
    refine ⟨n, 5, rfl, L3, by decide, by decide, fun z st4 z0 z1 L4 U4 => st_add ?_⟩
    show compD _ _ _ _ _ _ _ _ _
    rw [ints_app]
    refine next _ _ ⟨s ++ [4 + z], rfl, by simp at hl ⊢; omega, fun y hy => ?_, L4⟩
    rcases List.mem_append.mp hy with h | h
    · exact hs y h
    · have : y = 4 + z := by simpa using h
      omega
  rintro acc st3 ⟨s, rfl, hl, hs, L3⟩
  have hl : s.length = N := by simpa using hl
  refine ⟨trivial, Nat.le_of_ble_eq_true rfl, ?_⟩
  have e0 : (st3 ++ [Cell.lst []])[st3.length]? = some (.lst (([] : List (List Int)).map rowL)) := by simp
  have hn := L3.lt
  have L4 : Lf (st3 ++ [.lst []]) n := L3.push
  generalize st3.length = b at e0 hn ⊢
  generalize st3 ++ [Cell.lst []] = st4 at e0 L4 ⊢
  refine st_rng1 ⟨by omega, by omega⟩ ?_
  rw [Int.toNat_natCast]
  refine for_range N (fun q σ st' => ∃ (A : List (List Int)) (v4 v5 : Option D), σ = [some (.ref n), some (.int (N : Int)), some (rowL s), some (.ref b), v4, v5] ∧ A.length = q ∧ (∀ r ∈ A, r.length = N) ∧ (∀ r ∈ A, ∀ x ∈ r, -10 ≤ x ∧ x ≤ 10) ∧ Lf st' n ∧ st'[b]? = some (.lst (A.map rowL))) ?_ ?_ ⟨[], none, none, rfl, rfl, by simp, by simp, L4, e0⟩
  · rintro σ st5 ⟨A, v4, v5, rfl, hA, hw, hb, L5, e⟩
    refine st_frz (by rfl) e ?_
    exact k A N N _ ⟨⟨hA, hw⟩, n1, n8, n1, n8, hb⟩ (L5.cell (List.getElem?_set_ne (by omega)))
  · rintro q σ st5 rest hq ⟨A, v4, v5, rfl, hA, hw, hb, L5, e⟩ next
    refine ⟨_, rfl, ?_⟩
    refine st_sliceL (st_seqL ?_)
    rw [cut_take (by omega)]
    refine ⟨sz1000 (by simp; omega), ?_⟩
    refine comp_ind (fun rest acc st' => ∃ r s2 : List Int, acc = dInts r ∧ rest = dInts s2 ∧ r.length + s2.length = q ∧ (∀ x ∈ s2, 4 ≤ x ∧ x ≤ 8) ∧ (∀ x ∈ r, -10 ≤ x ∧ x ≤ 10) ∧ Lf st' n ∧ Upd st5 n st') ?_ ?_ _ _ _ ⟨[], s.take q, rfl, rfl, by simp; omega, fun x hx => hs x (List.mem_of_mem_take hx), by simp, L5, Upd.refl⟩
    case refine_2 =>
      rintro x rest acc st6 ⟨r, s2, rfl, hr, hl2, h2, hrb, L6, U6⟩ next2
      match s2, hr, hl2, h2 with
      | y :: s2, hr, hl2, h2 =>
        rw [dInts, List.map_cons, List.cons.injEq] at hr
        obtain ⟨rfl, rfl⟩ := hr
        obtain ⟨y4, y8⟩ := h2 y List.mem_cons_self
        obtain ⟨z2, z4⟩ := half_size y4 y8
        refine ⟨trivial, _, rfl, ?_⟩
        refine st_fdiv (by decide) (by decide +kernel) (st_mul (mulok_r (by decide) (by decide)) (st_add ?_))
        refine ⟨n, _, rfl, L6, by omega, by omega, fun z st7 a1 a2 L7 U7 => st_fdiv (by decide) (by decide +kernel) (st_sub ?_)⟩
        show compD _ _ _ _ _ _ _ _ _
        rw [ints_app]
        refine next2 _ _ ⟨r ++ [z - y.fdiv 2], s2, rfl, rfl, by simp at hl2 ⊢; omega, fun u hu => h2 u (List.mem_cons_of_mem _ hu), fun u hu => ?_, L7, U6.trans U7⟩
        rcases List.mem_append.mp hu with h | h
        · exact hrb u h
        · have : u = z - y.fdiv 2 := by simpa using h
          omega
    rintro acc st6 ⟨r, s2, rfl, hr, hl2, h2, hrb, L6, U6⟩
    refine ⟨trivial, ?_⟩
    match s2, hr, hl2 with
    | [], _, hl2 =>
      have hl2 : r.length = q := by simpa using hl2
      have e6 := (U6.same b (by omega)).trans e
      refine st_app (by rfl) e6 (st_ix rfl (at_ints (by omega)) ⟨Nat.le_of_ble_eq_true rfl, st_addL (by rw [sizeLine_eq, List.length_map]; simp; omega) ⟨Nat.le_of_ble_eq_true rfl, st_sub (st_sub (st_mulL ⟨by omega, by omega, sz1000 (by simp; omega)⟩ ?_))⟩⟩)
      rw [rep_zero, ints_app]
      have et : ((N : Int) - 1 - (q : Int)).toNat = N - 1 - q := by omega
      rw [et]
      refine st_addL (by rw [sizeLine_eq]; simp; omega) ?_
      rw [← List.map_append]
      refine appK_at e6 (by rw [sizeLine_eq, List.length_map]; omega) ?_
      have hlt := (List.getElem?_eq_some_iff.mp e6).1
      have hsq := hs _ (getD_mem (r := s) (k := q) (by omega))
      refine next _ _ ⟨A ++ [r ++ [s.getD q 0] ++ List.replicate (N - 1 - q) 0], _, _, rfl, by simp [hA], fun u hu => ?_, fun u hu x hx => ?_, L6.cell (List.getElem?_set_ne (by omega)), ?_⟩
      · rcases List.mem_append.mp hu with h | h
        · exact hw u h
        · have : u = r ++ [s.getD q 0] ++ List.replicate (N - 1 - q) 0 := by simpa using h
          rw [this]
          simp; omega
      · rcases List.mem_append.mp hu with h | h
        · exact hb u h x hx
        · have : u = r ++ [s.getD q 0] ++ List.replicate (N - 1 - q) 0 := by simpa using h
          rw [this] at hx
          rcases List.mem_append.mp hx with h | h
          · rcases List.mem_append.mp h with h | h
            · exact hrb x h
            · have : x = s.getD q 0 := by simpa using h
              omega
          · have := List.eq_of_mem_replicate h
            omega
      · rw [List.getElem?_set_self hlt]
        simp [rowL, dInts]
def S_law_at_bound : DSp := fun ds st K => ∃ (n : Nat), ds = [.ref n] ∧ Lf st n ∧ ∀ A N w st', Sr A N w → Lf st' n → K (rowsL A) st'
def N_law_at_bound : List Str := ["_law_left_here", "_law_first", "_law_other"]
def P_law_at_bound : DS := (dSeq (dSet 1 (dOp xIx (dLst (dCons (dLst (dCons (dC (.int 2)) (dCons (dC (.int 0)) (dCons (dC (.int 0)) dNil)))) (dCons (dLst (dCons (dC (.int 2)) (dCons (dC (.int 0)) (dCons (dC (.int 0)) dNil)))) (dCons (dLst (dCons (dC (.int 0)) (dCons (dC (.int 2)) (dCons (dC (.int 0)) dNil)))) (dCons (dLst (dCons (dC (.int 1)) (dCons (dC (.int 1)) (dCons (dC (.int 1)) dNil)))) dNil))))) (dCall S_law_digit (dCons (dVar 0) (dCons (dC (.int 4)) dNil)))))
    (dSeq (dSet 2 (dOp xIx (dLst (dCons (dLst (dCons (dC (.int 1)) (dCons (dC (.int 1)) (dCons (dC (.int 1)) dNil)))) (dCons (dLst (dCons (dC (.int 1)) (dCons (dUn xNeg (dC (.int 1))) (dCons (dC (.int 1)) dNil)))) (dCons (dLst (dCons (dUn xNeg (dC (.int 1))) (dCons (dC (.int 1)) (dCons (dC (.int 1)) dNil)))) (dCons (dLst (dCons (dC (.int 1)) (dCons (dC (.int 2)) (dCons (dC (.int 0)) dNil)))) dNil))))) (dCall S_law_digit (dCons (dVar 0) (dCons (dC (.int 4)) dNil)))))
    (dSeq (dIfS (dTest (dOp xEq (dCall S_law_digit (dCons (dVar 0) (dCons (dC (.int 3)) dNil))) (dC (.int 0)))) (dSet 2 (dOp xIx (dLst (dCons (dLst (dCons (dC (.int 1)) (dCons (dC (.int 2)) (dCons (dC (.int 0)) dNil)))) (dCons (dLst (dCons (dUn xNeg (dC (.int 1))) (dCons (dC (.int 0)) (dCons (dC (.int 2)) dNil)))) (dCons (dLst (dCons (dC (.int 1)) (dCons (dC (.int 3)) (dCons (dC (.int 5)) dNil)))) dNil)))) (dCall S_law_digit (dCons (dVar 0) (dCons (dC (.int 3)) dNil))))) dNext)
    (dRet (dLst (dCons (dVar 1) (dCons (dVar 2) dNil)))))))
theorem ix_any {xs : List D} {P : D → Prop} {z : Int} (h : ∀ x ∈ xs, P x) (z0 : 0 ≤ z) (z1 : z < xs.length) : ∃ e, atI xs z = some e ∧ P e := by
  obtain ⟨m, rfl⟩ := Int.eq_ofNat_of_zero_le z0
  have hm : m < xs.length := by omega
  exact ⟨xs[m], atI_nat (List.getElem?_eq_getElem hm), h _ (List.getElem_mem hm)⟩
def R3 (d : D) : Prop := ∃ r : List Int, d = rowL r ∧ r.length = 3 ∧ ∀ x ∈ r, -10 ≤ x ∧ x ≤ 10
theorem r3 (a b c : Int) (ha : -10 ≤ a ∧ a ≤ 10) (hb : -10 ≤ b ∧ b ≤ 10) (hc : -10 ≤ c ∧ c ≤ 10) : R3 (.lst [.int a, .int b, .int c]) := ⟨[a, b, c], rfl, rfl, fun x hx => by
  simp only [List.mem_cons, List.not_mem_nil, or_false] at hx
  rcases hx with rfl | rfl | rfl
  · exact ha
  · exact hb
  · exact hc⟩
theorem sp_law_at_bound : ∀ ds st K, S_law_at_bound ds st K → ds.length = 1 ∧ P_law_at_bound { nx := fun _ st' => K .non st', rt := K } (startD N_law_at_bound ds) st := by
  rintro ds st K ⟨n, rfl, L, k⟩
  refine ⟨rfl, ?_⟩
  have Z : ∀ {m : Nat}, m ≤ 8 → m ≤ sizeLine := fun {m} h => sz1000 (by omega)
  refine ⟨Z (by decide), Z (by decide), Z (by decide), Z (by decide), Z (by decide), ?_⟩
  refine ⟨n, 4, rfl, L, by decide, by decide, fun z st1 z0 z1 L1 U1 => ?_⟩
  obtain ⟨e, he, r1, rfl, hr1, hb1⟩ := ix_any (xs := [.lst [.int 2, .int 0, .int 0], .lst [.int 2, .int 0, .int 0], .lst [.int 0, .int 2, .int 0], .lst [.int 1, .int 1, .int 1]]) (P := R3) (z := z) (fun x hx => by
    simp only [List.mem_cons, List.not_mem_nil, or_false] at hx
    rcases hx with rfl | rfl | rfl | rfl <;> exact r3 _ _ _ (by decide) (by decide) (by decide)) z0 z1
  refine st_ix rfl he ?_
  refine ⟨Z (by decide), st_neg ⟨Z (by decide), st_neg ⟨Z (by decide), Z (by decide), Z (by decide), ?_⟩⟩⟩
  refine ⟨n, 4, rfl, L1, by decide, by decide, fun z st2 z0 z1 L2 U2 => ?_⟩
  obtain ⟨e, he, r2, rfl, hr2, hb2⟩ := ix_any (xs := [.lst [.int 1, .int 1, .int 1], .lst [.int 1, .int (-1), .int 1], .lst [.int (-1), .int 1, .int 1], .lst [.int 1, .int 2, .int 0]]) (P := R3) (z := z) (fun x hx => by
    simp only [List.mem_cons, List.not_mem_nil, or_false] at hx
    rcases hx with rfl | rfl | rfl | rfl <;> exact r3 _ _ _ (by decide) (by decide) (by decide)) z0 z1
  refine st_ix rfl he ?_
  have fin : ∀ (r : List Int) (st' : Store), r.length = 3 → (∀ x ∈ r, -10 ≤ x ∧ x ≤ 10) → Lf st' n → (dRet (dLst (dCons (dVar 1) (dCons (dVar 2) dNil)))) { nx := fun _ st' => K .non st', rt := K } [some (.ref n), some (rowL r1), some (rowL r)] st' := fun r st' hr hb L' =>
    ⟨Nat.le_of_ble_eq_true rfl, k [r1, r] 2 3 st' ⟨⟨rfl, fun x hx => by
      simp only [List.mem_cons, List.not_mem_nil, or_false] at hx
      rcases hx with rfl | rfl
      · exact hr1
      · exact hr⟩, by decide, by decide, by decide, by decide, fun x hx => by
      simp only [List.mem_cons, List.not_mem_nil, or_false] at hx
      rcases hx with rfl | rfl
      · exact hb1
      · exact hb⟩ L'⟩
  refine ⟨n, 3, rfl, L2, by decide, by decide, fun z st3 z0 z1 L3 U3 => ?_⟩
  refine eq2 (fun h => iteT ?_) fun h => fin r2 st3 hr2 hb2 L3
  refine ⟨Z (by decide), st_neg ⟨Z (by decide), Z (by decide), Z (by decide), ?_⟩⟩
  refine ⟨n, 3, rfl, L3, by decide, by decide, fun z st4 z0 z1 L4 U4 => ?_⟩
  obtain ⟨e, he, r3', rfl, hr3, hb3⟩ := ix_any (xs := [.lst [.int 1, .int 2, .int 0], .lst [.int (-1), .int 0, .int 2], .lst [.int 1, .int 3, .int 5]]) (P := R3) (z := z) (fun x hx => by
    simp only [List.mem_cons, List.not_mem_nil, or_false] at hx
    rcases hx with rfl | rfl | rfl <;> exact r3 _ _ _ (by decide) (by decide) (by decide)) z0 z1
  exact st_ix rfl he (fin r3' st4 hr3 hb3 L4)
def S_law_case : DSp := fun ds st K => ∃ (n : Nat), ds = [.ref n] ∧ Lf st n ∧ ∀ A N w st', Dr A N w → K (rowsT A) st'
def N_law_case : List Str := ["_law_left_here", "_law_way", "_law_rows_here", "_law_often", "_law_row", "_law_at_here"]
def P_law_case : DS := (dSeq (dSet 1 (dCall S_law_digit (dCons (dVar 0) (dCons (dC (.int 4)) dNil))))
    (dSeq (dIfS (dTest (dOp xEq (dVar 1) (dC (.int 0)))) (dRet (dCall S_law_rows (dCons (dVar 0) (dCons (dOp xAdd (dC (.int 1)) (dCall S_law_digit (dCons (dVar 0) (dCons (dC (.int 3)) dNil)))) (dCons (dC (.int 3)) (dCons (dC (.int 0)) dNil)))))) dNext)
    (dSeq (dSet 2 (dIf (dTest (dOp xEq (dVar 1) (dC (.int 1)))) (dCall S_law_stairs (dCons (dVar 0) dNil)) (dCall S_law_at_bound (dCons (dVar 0) dNil))))
    (dSeq (dSet 3 (dOp xIx (dLst (dCons (dC (.int 1)) (dCons (dC (.int 1)) (dCons (dC (.int 3)) (dCons (dOp xPow (dC (.int 10)) (dC (.int 6))) (dCons (dOp xPow (dC (.int 10)) (dC (.int 9))) dNil)))))) (dCall S_law_digit (dCons (dVar 0) (dCons (dC (.int 5)) dNil)))))
    (dSeq (dSet 2 (dComp (xSeqI (dVar 2)) [none, some 3] (tgName 0) dTrue (dCompN (xSeqI (dVar 0)) [none, some 1] (tgName 0) dTrue (dOp xMul (dVar 0) (dVar 1)))))
    (dSeq (dIfS (dTest (dOp xEq (dCall S_law_digit (dCons (dVar 0) (dCons (dC (.int 2)) dNil))) (dC (.int 0)))) (dSeq (dSet 4 (dOp xIx (dVar 2) (dCall S_law_digit (dCons (dVar 0) (dCons (dCB xLen (dCons (dVar 2) dNil)) dNil)))))
    (dSeq (dSet 5 (dCall S_law_digit (dCons (dVar 0) (dCons (dCB xLen (dCons (dVar 4) dNil)) dNil))))
    (xSetIx (dVar 4) (dVar 5) (dOp xAdd (dOp xIx (dVar 4) (dVar 5)) (dOp xIx (dLst (dCons (dC (.int 1)) (dCons (dUn xNeg (dC (.int 1))) dNil))) (dCall S_law_digit (dCons (dVar 0) (dCons (dC (.int 2)) dNil)))))))) dNext)
    (dRet (dCB xTuple (dCons (dComp (xSeqI (dVar 2)) [none] (tgName 0) dTrue (dCB xTuple (dCons (dVar 0) dNil))) dNil)))))))))
def Cl (st : Store) (b : Nat) (B : List (List Int)) : Prop := ∀ j, j < B.length → st[b + j]? = some (Cell.lst (dInts (B.getD j [])))
abbrev refsD (b N : Nat) : List D := (List.range N).map fun j => D.ref (b + j)
theorem Cl.upd {st st' : Store} {b n : Nat} {B : List (List Int)} (h : Cl st b B) (U : Upd st n st') (hn : n < b) : Cl st' b B := fun j hj => (U.same _ (by omega)).trans (h j hj)
theorem mul_ints (o : Int) (r : List Int) : (dInts r).map (fun d => match d with | .int x => .int (x * o) | _ => .non) = dInts (r.map (· * o)) := by unfold dInts; rw [List.map_map, List.map_map]; rfl
theorem comp_cells {A : List (List Int)} {o : Int} {st : Store} {K : List D → Store → Prop} (ho : 0 ≤ o ∧ o ≤ 1000000000) (hw : ∀ r ∈ A, r.length ≤ 8)
    (k : K (refsD st.length A.length) (st ++ A.map fun r => Cell.lst (dInts (r.map (· * o))))) :
    compD (tgName 0) dTrue (dCompN (xSeqI (dVar 0)) [none, some 1] (tgName 0) dTrue (dOp xMul (dVar 0) (dVar 1))) (fun _ => True) [none, some (.int o)] (A.map rowL) [] st K := by
  refine comp_ind (fun rest acc st' => ∃ A1 A2 : List (List Int), A1 ++ A2 = A ∧ rest = A2.map rowL ∧ acc = refsD st.length A1.length ∧ st' = st ++ A1.map fun r => Cell.lst (dInts (r.map (· * o)))) ?_ ?_ _ _ _ ⟨[], A, rfl, rfl, rfl, by simp⟩
  · rintro acc st' ⟨A1, A2, hA, hr, rfl, rfl⟩
    match A2, hr with
    | [], _ =>
      rw [List.append_nil] at hA
      subst hA
      exact ⟨trivial, k⟩
  · rintro x rest acc st' ⟨A1, A2, hA, hr, rfl, rfl⟩ next
    match A2, hr, hA with
    | r :: A2, hr, hA =>
      rw [List.map_cons, List.cons.injEq] at hr
      obtain ⟨rfl, rfl⟩ := hr
      refine ⟨trivial, _, rfl, ?_⟩
      have hr8 := hw r (by rw [← hA]; simp)
      refine st_seqL ⟨sz1000 (by rw [List.length_map]; omega), ?_⟩
      refine comp_map (g := fun d => match d with | .int x => .int (x * o) | _ => .non) trivial _ (fun d hd K' t => ?_) ?_
      · obtain ⟨y, _, rfl⟩ := List.mem_map.mp hd
        exact ⟨_, rfl, st_mul (mulok_r (by omega) (by omega)) t⟩
      rw [mul_ints]
      show compD _ _ _ _ _ _ _ _ _
      refine next _ _ ⟨A1 ++ [r], A2, by rw [← hA]; simp, rfl, ?_, by simp⟩
      rw [List.length_append, List.length_map, List.length_append, List.length_singleton]
      unfold refsD
      rw [List.range_succ, List.map_append]
      rfl
theorem Sr.mul {A : List (List Int)} {N w : Nat} {o : Int} (h : Sr A N w) (ho : 0 ≤ o ∧ o ≤ 1000000000) : Mx.IsM N w (A.map fun r => r.map (· * o)) ∧ ∀ r ∈ A.map (fun r => r.map (· * o)), ∀ x ∈ r, -10000000000 ≤ x ∧ x ≤ 10000000000 := by
  refine ⟨⟨by rw [List.length_map]; exact h.is.len, fun r hr => ?_⟩, fun r hr x hx => ?_⟩
  · obtain ⟨s, hs, rfl⟩ := List.mem_map.mp hr
    rw [List.length_map]; exact h.is.wid s hs
  · obtain ⟨s, hs, rfl⟩ := List.mem_map.mp hr
    obtain ⟨y, hy, rfl⟩ := List.mem_map.mp hx
    obtain ⟨h1, h2⟩ := h.bd s hs y hy
    have h3 : (y * o).natAbs ≤ 10 * 1000000000 := by
      rw [Int.natAbs_mul]
      exact Nat.mul_le_mul (by omega) (by omega)
    omega
theorem iteF {a b : Prop} (h : b) : if false = true then a else b := h
theorem sp_law_case : ∀ ds st K, S_law_case ds st K → ds.length = 1 ∧ P_law_case { nx := fun _ st' => K .non st', rt := K } (startD N_law_case ds) st := by
  rintro ds st K ⟨n, rfl, L, k⟩
  refine ⟨rfl, ?_⟩
  refine ⟨n, 4, rfl, L, by decide, by decide, fun wy st1 wy0 wy1 L1 U1 => ?_⟩
  refine eq2 (fun h => iteT ?_) fun h => ?_
  · refine ⟨n, 3, rfl, L1, by decide, by decide, fun z st2 z0 z1 L2 U2 => st_add ?_⟩
    refine ⟨n, (1 + z).toNat, 3, 0, by rw [Int.toNat_of_nonneg (by omega)]; rfl, L2, by omega, by decide, by decide, by decide, fun A st3 hA bA L3 U3 => ?_⟩
    exact k A _ 3 st3 ⟨hA, by omega, by decide, bA⟩
  refine iteF ?_
  dsimp only [dNext]
  refine seq_cut (fun σ' st' => ∃ A N w, Sr A N w ∧ Lf st' n ∧ σ' = [some (.ref n), some (.int wy), some (rowsL A), none, none, none]) (fun nx hnx => ?_) ?_
  · skip
    refine eq2 (fun h => iteT ?_) fun h => ?_
    · exact ⟨n, rfl, L1, fun A N w st2 sr L2 => hnx _ _ ⟨A, N, w, sr, L2, rfl⟩⟩
    · exact ⟨n, rfl, L1, fun A N w st2 sr L2 => hnx _ _ ⟨A, N, w, sr, L2, rfl⟩⟩
  rintro σ' st2 ⟨A, N, w, sr, L2, rfl⟩
  have n1 := sr.n1
  have n8 := sr.n8
  have w1 := sr.w1
  have w8 := sr.w8
  have hl := sr.is.len
  refine st_pow ⟨by decide, by decide, by decide⟩ (st_pow ⟨by decide, by decide, by decide⟩ ⟨Nat.le_of_ble_eq_true rfl, ?_⟩)
  refine ⟨n, 5, rfl, L2, by decide, by decide, fun z st3 z0 z1 L3 U3 => ?_⟩
  obtain ⟨e, he, o, rfl, ho⟩ := ix_any (xs := [.int 1, .int 1, .int 3, .int ((10 : Int) ^ (6 : Int).toNat), .int ((10 : Int) ^ (9 : Int).toNat)]) (P := fun d => ∃ o : Int, d = .int o ∧ 0 ≤ o ∧ o ≤ 1000000000) (z := z) (fun x hx => by
    simp only [List.mem_cons, List.not_mem_nil, or_false] at hx
    rcases hx with rfl | rfl | rfl | rfl | rfl
    · exact ⟨_, rfl, by decide, by decide⟩
    · exact ⟨_, rfl, by decide, by decide⟩
    · exact ⟨_, rfl, by decide, by decide⟩
    · exact ⟨_, rfl, by decide, by decide⟩
    · exact ⟨_, rfl, by decide, by decide⟩) z0 z1
  refine st_ix rfl he ?_
  refine st_seqL ⟨sz1000 (by rw [List.length_map]; omega), ?_⟩
  refine comp_cells ho (fun r hr => by rw [sr.is.wid r hr]; exact w8) ?_
  obtain ⟨hB, bB⟩ := sr.mul ho
  have hn := L3.lt
  have C0 : Cl (st3 ++ A.map fun r => Cell.lst (dInts (r.map (· * o)))) st3.length (A.map fun r => r.map (· * o)) := fun j hj => by
    rw [List.getElem?_append_right (by omega), Nat.add_sub_cancel_left, List.getElem?_map, Mx.getD_lt hj, List.getElem_map]
    rw [List.length_map] at hj
    rw [List.getElem?_eq_getElem hj]; rfl
  have L4 : Lf (st3 ++ A.map fun r => Cell.lst (dInts (r.map (· * o)))) n := L3.push
  rw [hl]
  generalize st3.length = b at hn C0 ⊢
  generalize (st3 ++ A.map fun r => Cell.lst (dInts (r.map (· * o)))) = st4 at C0 L4 ⊢
  generalize (A.map fun r => r.map (· * o)) = B at hB bB C0
  dsimp only
  have lB := hB.len
  have lr : (refsD b N).length = N := by simp
  refine seq_cut (fun σ' st' => ∃ B v4 v5, Mx.IsM N w B ∧ BdM B ∧ Cl st' b B ∧ σ' = [some (.ref n), some (.int wy), some (.lst (refsD b N)), some (.int o), v4, v5]) (fun nx hnx => ?_) ?_
  · refine ⟨n, 2, rfl, L4, by decide, by decide, fun z st5 z0 z1 L5 U5 => ?_⟩
    have C5 := C0.upd U5 hn
    refine eq2 (fun h => iteT ?_) fun h => hnx _ _ ⟨B, none, none, hB, fun r hr x hx => by have := bB r hr x hx; exact ⟨by omega, by omega⟩, C5, rfl⟩
    refine st_len rfl ?_
    rw [lr]
    refine ⟨n, _, rfl, L5, by omega, by omega, fun y st6 y0 y1 L6 U6 => ?_⟩
    obtain ⟨m, rfl⟩ := Int.eq_ofNat_of_zero_le y0
    have hm : m < N := by omega
    have C6 := C5.upd U6 hn
    have wm : (B.getD m []).length = w := hB.wid _ (by rw [Mx.getD_lt (by omega)]; exact List.getElem_mem _)
    refine st_ix (e := .ref (b + m)) rfl (atI_nat (by rw [List.getElem?_map, List.getElem?_range hm]; rfl)) ?_
    have e6 := C6 m (by omega)
    refine st_len (items_ref e6) ?_
    rw [List.length_map, wm]
    refine ⟨n, _, rfl, L6, by omega, by omega, fun y st7 y0 y1 L7 U7 => ?_⟩
    obtain ⟨c, rfl⟩ := Int.eq_ofNat_of_zero_le y0
    have hc : c < w := by omega
    have C7 := C6.upd U7 hn
    have e7 := C7 m (by omega)
    refine st_ix (items_ref e7) (at_ints (by omega)) (st_neg ⟨Nat.le_of_ble_eq_true rfl, ?_⟩)
    refine ⟨n, 2, rfl, L7, by decide, by decide, fun y st8 y0 y1 L8 U8 => ?_⟩
    have C8 := C7.upd U8 hn
    have e8 := C8 m (by omega)
    obtain ⟨e, he, u, rfl, u0, u1⟩ := ix_any (xs := [.int 1, .int (-1)]) (P := fun d => ∃ o : Int, d = .int o ∧ -1 ≤ o ∧ o ≤ 1) (z := y) (fun x hx => by
      simp only [List.mem_cons, List.not_mem_nil, or_false] at hx
      rcases hx with rfl | rfl
      · exact ⟨_, rfl, by decide, by decide⟩
      · exact ⟨_, rfl, by decide, by decide⟩) y0 y1
    refine st_ix rfl he (st_add ?_)
    refine st_set (m := c) e8 (by
      have := ixN_at (i := (c : Int)) (m := (dInts (B.getD m [])).length) (by omega) (by rw [List.length_map]; omega)
      rw [Int.toNat_natCast] at this
      exact this) ?_
    have es : (dInts (B.getD m [])).set c (.int ((B.getD m []).getD c 0 + u)) = dInts ((B.getD m []).set c ((B.getD m []).getD c 0 + u)) := by unfold dInts; rw [List.map_set]
    rw [es]
    refine hnx _ _ ⟨B.set m ((B.getD m []).set c ((B.getD m []).getD c 0 + u)), _, _, ⟨by rw [List.length_set]; exact lB, fun r hr => ?_⟩, fun r hr x hx => ?_, fun j hj => ?_, rfl⟩
    · rcases List.mem_or_eq_of_mem_set hr with h | rfl
      · exact hB.wid r h
      · rw [List.length_set]; exact wm
    · have hmem : B.getD m [] ∈ B := by rw [Mx.getD_lt (by omega)]; exact List.getElem_mem _
      rcases List.mem_or_eq_of_mem_set hr with h | rfl
      · have := bB r h x hx
        exact ⟨by omega, by omega⟩
      · rcases List.mem_or_eq_of_mem_set hx with h | rfl
        · have := bB _ hmem x h
          exact ⟨by omega, by omega⟩
        · have := bB _ hmem _ (getD_mem (r := B.getD m []) (k := c) (by omega))
          exact ⟨by omega, by omega⟩
    · rw [List.length_set] at hj
      have hset : ∀ X : List Int, ((B.set m X).getD j [] = if m = j then X else B.getD j []) := fun X => by
        rw [List.getD_eq_getElem?_getD, List.getElem?_set]
        by_cases hjm : m = j
        · rw [if_pos hjm, if_pos hjm, if_pos (by omega)]; rfl
        · rw [if_neg hjm, if_neg hjm, List.getD_eq_getElem?_getD]
      rw [hset]
      by_cases hjm : m = j
      · rw [if_pos hjm, ← hjm, List.getElem?_set_self (List.getElem?_eq_some_iff.mp e8).1]
      · rw [if_neg hjm, List.getElem?_set_ne (by omega)]
        exact C8 j hj
  rintro σ' st5 ⟨B2, v4, v5, hB2, bB2, C2, rfl⟩
  have lB2 := hB2.len
  refine st_seqL ⟨sz1000 (by rw [lr]; omega), ?_⟩
  refine comp_over (h := fun j => rowT (B2.getD j [])) trivial (fun j hj K' t => ⟨_, rfl, st_tuple (items_ref (C2 j (by omega))) t⟩) ?_
  have e2 : (List.range N).map (fun j => rowT (B2.getD j [])) = B2.map rowT := by
    refine List.ext_getElem (by simp [lB2]) fun j h1 h2 => ?_
    rw [List.getElem_map, List.getElem_range, List.getElem_map, Mx.getD_lt (by simpa using h2)]
  rw [e2]
  exact st_tuple rfl (k B2 N w st5 ⟨hB2, n8, by omega, bB2⟩)
abbrev S_law : DSp := S_lawG
def N_law : List Str := ["_law_script", "_law_k", "_law_steps", "_law_handed", "_law_found"]
def P_law : DS := (dSeq (dFor (xRange2 (dCons (dC (.int 1)) (dCons (dOp xAdd (dC (.int 2)) (dCB xLen (dCons (dSlice (dVar 0) (dPart (dC (.int 1))) (dPart (dC (.int 7)))) dNil))) dNil))) (tgName 1) (dSeq (dSet 2 (dCall S_law_case (dCons (dCall S_law_left (dCons (dVar 0) (dCons (dVar 1) dNil))) dNil)))
    (dSeq (dIfS (dTest (dOp xIs (dCall S_law_own (dCons (dVar 2) dNil)) (dC .non))) dCont dNext)
    (dSeq (dSet 3 (dComp (xSeqI (dVar 2)) [none] (tgName 0) dTrue (dCB xList (dCons (dVar 0) dNil))))
    (dSeq (dSet 4 (dCall S_is_short (dCons (dVar 3) dNil)))
    (dSeq (dIfS (dOrT (dNotT (dTest (dCB xIsi (dCons (dVar 4) (dCons (dC (.ty "bool")) dNil))))) (dOrT (dTest (dOp xNe (dVar 4) (dCall S_law_short (dCons (dVar 2) dNil)))) (dTest (dOp xNe (dCall S_is_short (dCons (dVar 2) dNil)) (dVar 4))))) (dRet (dC (.bl false))) dNext)
    (dIfS (dTest (dOp xNeD (dVar 3) (dComp (xSeqI (dVar 2)) [none] (tgName 0) dTrue (dCB xList (dCons (dVar 0) dNil))))) (dRet (dC (.bl false))) dNext)))))))
    (dRet (dC (.bl true))))
theorem comp_rows {tg : DTg} {te : DE} {ok : Store → Prop} {σc : DEnv} {st : Store} {K : List D → Store → Prop} {ds : List D} {A : List (List Int)} (f : List Int → D) (hok : ok st) (hr : RowsIn st ds A) (hx : ∀ d r, r ∈ A → items? st d = some (dInts r) → ∀ K', K' (f r) st → ∃ σ2, tg d σc = some σ2 ∧ te σ2 st K') (k : K (A.map f) st) : compD tg dTrue te ok σc ds [] st K := by
  refine comp_ind (fun rest acc st' => ∃ (A1 A2 : List (List Int)), st = st' ∧ A1 ++ A2 = A ∧ RowsIn st rest A2 ∧ acc = A1.map f) ?_ ?_ _ _ _ ⟨[], A, rfl, rfl, hr, rfl⟩
  · rintro acc st' ⟨A1, A2, rfl, he, h, rfl⟩
    match A2, h with
    | [], _ =>
      rw [List.append_nil] at he
      subst he
      exact ⟨hok, k⟩
  · rintro d rest acc st' ⟨A1, A2, rfl, he, h, rfl⟩ next
    match A2, h with
    | r :: A2, h =>
      obtain ⟨σ2, e2, q⟩ := hx d r (by rw [← he]; simp) h.1 (fun y st2 => compD tg dTrue te ok σc rest (A1.map f ++ [y]) st2 K) (next _ _ ⟨A1 ++ [r], A2, rfl, by rw [← he]; simp, h.2, by simp⟩)
      exact ⟨hok, σ2, e2, q⟩
theorem cut_len {xs : List D} {a b : Int} : (L3.cutD xs (some a) (some b)).length ≤ xs.length := by
  unfold L3.cutD
  rw [List.length_take, List.length_drop]
  omega
theorem law_end {A : List (List Int)} {d0 d1 d4 : D} {st : Store} {E : DEnds} (hl : A.length ≤ 8) (k : ∀ st', E.nx [some d0, some d1, some (rowsT A), some (rowsL A), some d4] st') : (dIfS (dTest (dOp xNeD (dVar 3) (dComp (xSeqI (dVar 2)) [none] (tgName 0) dTrue (dCB xList (dCons (dVar 0) dNil))))) (dRet (dC (.bl false))) dNext) E [some d0, some d1, some (rowsT A), some (rowsL A), some d4] st := by
  refine st_seqT ⟨sz1000 (by rw [List.length_map]; omega), ?_⟩
  refine comp_rows rowL trivial RowsIn.tup (fun d r _ hd K' t => ⟨_, rfl, st_list hd t⟩) ?_
  refine neD_same (pl_rowsL (n := 38)) ?_
  exact k st
theorem sp_law : ∀ ds st K, S_law ds st K → ds.length = 1 ∧ P_law { nx := fun _ st' => K .non st', rt := K } (startD N_law ds) st := by
  rintro ds st K ⟨ns, rfl, hl, k⟩
  refine ⟨rfl, ?_⟩
  refine st_sliceL (st_len rfl (st_add ?_))
  have hc := cut_len (xs := ns.map D.int) (a := 1) (b := 7)
  rw [List.length_map] at hc
  generalize (L3.cutD (ns.map D.int) (some 1) (some 7)).length = m at hc ⊢
  refine st_rng2 ⟨by omega, by omega, by omega, by omega⟩ ?_
  have hm : ∀ d ∈ rangeD 1 (2 + (m : Int) - 1).toNat, ∃ q : Int, d = .int q ∧ 0 ≤ q ∧ q ≤ 1000 := fun d hd => by
    unfold rangeD at hd
    obtain ⟨i, hi, rfl⟩ := List.mem_map.mp hd
    rw [List.mem_range] at hi
    exact ⟨_, rfl, by omega, by omega⟩
  generalize rangeD 1 (2 + (m : Int) - 1).toNat = rs at hm ⊢
  refine for_ind (fun rest σ st' => (∀ d ∈ rest, ∃ q : Int, d = .int q ∧ 0 ≤ q ∧ q ≤ 1000) ∧ ∃ v1 v2 v3 v4 : Option D, σ = [some (.lst (ns.map .int)), v1, v2, v3, v4]) ?_ ?_ _ _ _ ⟨hm, none, none, none, none, rfl⟩
  · rintro σ st' ⟨_, v1, v2, v3, v4, rfl⟩
    exact ⟨trivial, k _⟩
  · rintro x rest σ st1 ⟨hr, v1, v2, v3, v4, rfl⟩ next
    obtain ⟨q, rfl, q0, q1⟩ := hr x List.mem_cons_self
    have hr2 : ∀ d ∈ rest, ∃ q : Int, d = .int q ∧ 0 ≤ q ∧ q ≤ 1000 := fun d hd => hr d (List.mem_cons_of_mem _ hd)
    refine ⟨trivial, _, rfl, ?_⟩
    refine ⟨ns, q, rfl, q0, q1, fun x hx => ?_⟩
    have L1 : Lf (st1 ++ [.lst [.int x]]) st1.length := ⟨x, by simp, hx⟩
    refine ⟨st1.length, rfl, L1, fun A N w st3 dr => ?_⟩
    have hlA := dr.is.len
    have h8 := dr.le
    refine ⟨A, N, w, rfl, dr.st, fun st4 X4 _ => ?_, fun st4 g kn cs X4 hD _ => ?_⟩
    · refine st_isN rfl ?_
      exact next _ _ ⟨hr2, _, _, _, _, rfl⟩
    · refine st_isN rfl ?_
      refine st_seqT ⟨sz1000 (by rw [List.length_map]; omega), ?_⟩
      refine comp_rows rowL trivial RowsIn.tup (fun d r _ hd K' t => ⟨_, rfl, st_list hd t⟩) ?_
      refine ⟨A, N, w, _, rfl, rowsL_d, dr.st, hD, fun sh st5 X5 => ?_, fun sh st5 X5 => ?_⟩
      · refine st_isi rfl (by decide) ?_
        refine ⟨A, N, w, rfl, dr.st, hD, fun _ st6 X6 => ?_, fun z => absurd sh z⟩
        refine st_neB ?_
        refine ⟨A, N, w, _, rfl, rowsT_d, dr.st, hD, fun _ st7 X7 => ?_, fun z => absurd sh z⟩
        refine st_neB ?_
        exact law_end (by omega) fun st8 => next _ _ ⟨hr2, _, _, _, _, rfl⟩
      · refine st_isi rfl (by decide) ?_
        refine ⟨A, N, w, rfl, dr.st, hD, fun z => absurd z sh, fun _ st6 X6 => ?_⟩
        refine st_neB ?_
        refine ⟨A, N, w, _, rfl, rowsT_d, dr.st, hD, fun z => absurd z sh, fun _ st7 X7 => ?_⟩
        refine st_neB ?_
        exact law_end (by omega) fun st8 => next _ _ ⟨hr2, _, _, _, _, rfl⟩
end Prog
namespace Row
open PySem L2 L3 Prog
open PySem.Spec hiding items?
open PyProof.Rows hiding St
def top (i : Nat) : Stmt := PySem.Challenge.pw_latticeworks_k33_short_or_not.main.body.getD i (.Pass ⟨0, 0, 0, 0⟩)
theorem vd_0 : (("one" : Str) == ("__debug__" : Str)) = false := by decide +kernel
theorem vc_0 : (("one" : Str) == ("__classdict__" : Str)) = false := by decide +kernel
theorem vd_1 : (("abs" : Str) == ("__debug__" : Str)) = false := by decide +kernel
theorem vd_2 : (("other" : Str) == ("__debug__" : Str)) = false := by decide +kernel
theorem vc_2 : (("other" : Str) == ("__classdict__" : Str)) = false := by decide +kernel
theorem vd_3 : (("small" : Str) == ("__debug__" : Str)) = false := by decide +kernel
theorem vc_3 : (("small" : Str) == ("__classdict__" : Str)) = false := by decide +kernel
theorem vd_4 : (("great" : Str) == ("__debug__" : Str)) = false := by decide +kernel
theorem vc_4 : (("great" : Str) == ("__classdict__" : Str)) = false := by decide +kernel
theorem vd_5 : (("rest" : Str) == ("__debug__" : Str)) = false := by decide +kernel
theorem vc_5 : (("rest" : Str) == ("__classdict__" : Str)) = false := by decide +kernel
theorem vd_6 : (("bottom" : Str) == ("__debug__" : Str)) = false := by decide +kernel
theorem vc_6 : (("bottom" : Str) == ("__classdict__" : Str)) = false := by decide +kernel
theorem vd_7 : (("top" : Str) == ("__debug__" : Str)) = false := by decide +kernel
theorem vc_7 : (("top" : Str) == ("__classdict__" : Str)) = false := by decide +kernel
theorem vd_8 : (("common" : Str) == ("__debug__" : Str)) = false := by decide +kernel
theorem vd_9 : (("shrink" : Str) == ("__debug__" : Str)) = false := by decide +kernel
theorem vc_9 : (("shrink" : Str) == ("__classdict__" : Str)) = false := by decide +kernel
theorem vd_10 : (("part" : Str) == ("__debug__" : Str)) = false := by decide +kernel
theorem vd_12 : (("left" : Str) == ("__debug__" : Str)) = false := by decide +kernel
theorem vc_12 : (("left" : Str) == ("__classdict__" : Str)) = false := by decide +kernel
theorem vd_13 : (("right" : Str) == ("__debug__" : Str)) = false := by decide +kernel
theorem vc_13 : (("right" : Str) == ("__classdict__" : Str)) = false := by decide +kernel
theorem vd_14 : (("sum" : Str) == ("__debug__" : Str)) = false := by decide +kernel
theorem vd_15 : (("table" : Str) == ("__debug__" : Str)) = false := by decide +kernel
theorem vc_15 : (("table" : Str) == ("__classdict__" : Str)) = false := by decide +kernel
theorem vd_16 : (("line" : Str) == ("__debug__" : Str)) = false := by decide +kernel
theorem vc_16 : (("line" : Str) == ("__classdict__" : Str)) = false := by decide +kernel
theorem vd_17 : (("together" : Str) == ("__debug__" : Str)) = false := by decide +kernel
theorem vc_17 : (("together" : Str) == ("__classdict__" : Str)) = false := by decide +kernel
theorem vd_18 : (("divisor" : Str) == ("__debug__" : Str)) = false := by decide +kernel
theorem vc_18 : (("divisor" : Str) == ("__classdict__" : Str)) = false := by decide +kernel
theorem vd_19 : (("steps" : Str) == ("__debug__" : Str)) = false := by decide +kernel
theorem vc_19 : (("steps" : Str) == ("__classdict__" : Str)) = false := by decide +kernel
theorem vd_20 : (("made" : Str) == ("__debug__" : Str)) = false := by decide +kernel
theorem vc_20 : (("made" : Str) == ("__classdict__" : Str)) = false := by decide +kernel
theorem vd_21 : (("step" : Str) == ("__debug__" : Str)) = false := by decide +kernel
theorem vc_21 : (("step" : Str) == ("__classdict__" : Str)) = false := by decide +kernel
theorem vd_22 : (("row" : Str) == ("__debug__" : Str)) = false := by decide +kernel
theorem vc_22 : (("row" : Str) == ("__classdict__" : Str)) = false := by decide +kernel
theorem vd_23 : (("dot" : Str) == ("__debug__" : Str)) = false := by decide +kernel
theorem vd_24 : (("cleared" : Str) == ("__debug__" : Str)) = false := by decide +kernel
theorem vd_25 : (("line_of" : Str) == ("__debug__" : Str)) = false := by decide +kernel
theorem vd_26 : (("lasts" : Str) == ("__debug__" : Str)) = false := by decide +kernel
theorem vc_26 : (("lasts" : Str) == ("__classdict__" : Str)) = false := by decide +kernel
theorem vd_27 : (("ahead" : Str) == ("__debug__" : Str)) = false := by decide +kernel
theorem vc_27 : (("ahead" : Str) == ("__classdict__" : Str)) = false := by decide +kernel
theorem vd_28 : (("own" : Str) == ("__debug__" : Str)) = false := by decide +kernel
theorem vc_28 : (("own" : Str) == ("__classdict__" : Str)) = false := by decide +kernel
theorem vd_29 : (("tuple" : Str) == ("__debug__" : Str)) = false := by decide +kernel
theorem vd_30 : (("table_of" : Str) == ("__debug__" : Str)) = false := by decide +kernel
theorem vd_31 : (("shares_in" : Str) == ("__debug__" : Str)) = false := by decide +kernel
theorem vd_32 : (("squares_in" : Str) == ("__debug__" : Str)) = false := by decide +kernel
theorem vd_33 : (("share" : Str) == ("__debug__" : Str)) = false := by decide +kernel
theorem vc_33 : (("share" : Str) == ("__classdict__" : Str)) = false := by decide +kernel
theorem vd_34 : (("times" : Str) == ("__debug__" : Str)) = false := by decide +kernel
theorem vd_35 : (("minus" : Str) == ("__debug__" : Str)) = false := by decide +kernel
theorem vd_36 : (("square" : Str) == ("__debug__" : Str)) = false := by decide +kernel
theorem vc_36 : (("square" : Str) == ("__classdict__" : Str)) = false := by decide +kernel
theorem vd_37 : (("before" : Str) == ("__debug__" : Str)) = false := by decide +kernel
theorem vd_38 : (("shares" : Str) == ("__debug__" : Str)) = false := by decide +kernel
theorem vd_39 : (("told" : Str) == ("__debug__" : Str)) = false := by decide +kernel
theorem vc_39 : (("told" : Str) == ("__classdict__" : Str)) = false := by decide +kernel
theorem vd_40 : (("is_half_at_most" : Str) == ("__debug__" : Str)) = false := by decide +kernel
theorem vd_41 : (("all" : Str) == ("__debug__" : Str)) = false := by decide +kernel
theorem vd_42 : (("squares" : Str) == ("__debug__" : Str)) = false := by decide +kernel
theorem vc_42 : (("squares" : Str) == ("__classdict__" : Str)) = false := by decide +kernel
theorem vd_43 : (("len" : Str) == ("__debug__" : Str)) = false := by decide +kernel
theorem vd_45 : (("k" : Str) == ("__debug__" : Str)) = false := by decide +kernel
theorem vc_45 : (("k" : Str) == ("__classdict__" : Str)) = false := by decide +kernel
theorem vd_46 : (("falls_too_far" : Str) == ("__debug__" : Str)) = false := by decide +kernel
theorem vd_47 : (("any" : Str) == ("__debug__" : Str)) = false := by decide +kernel
theorem vd_48 : (("_law_k" : Str) == ("__debug__" : Str)) = false := by decide +kernel
theorem vc_48 : (("_law_k" : Str) == ("__classdict__" : Str)) = false := by decide +kernel
theorem vd_49 : (("_law_script" : Str) == ("__debug__" : Str)) = false := by decide +kernel
theorem vc_49 : (("_law_script" : Str) == ("__classdict__" : Str)) = false := by decide +kernel
theorem vd_50 : (("_law_at" : Str) == ("__debug__" : Str)) = false := by decide +kernel
theorem vd_51 : (("_law_cell" : Str) == ("__debug__" : Str)) = false := by decide +kernel
theorem vc_51 : (("_law_cell" : Str) == ("__classdict__" : Str)) = false := by decide +kernel
theorem vd_52 : (("_law_number_here" : Str) == ("__debug__" : Str)) = false := by decide +kernel
theorem vc_52 : (("_law_number_here" : Str) == ("__classdict__" : Str)) = false := by decide +kernel
theorem vd_53 : (("_law_j" : Str) == ("__debug__" : Str)) = false := by decide +kernel
theorem vc_53 : (("_law_j" : Str) == ("__classdict__" : Str)) = false := by decide +kernel
theorem vd_54 : (("_law_wide" : Str) == ("__debug__" : Str)) = false := by decide +kernel
theorem vc_54 : (("_law_wide" : Str) == ("__classdict__" : Str)) = false := by decide +kernel
theorem vd_55 : (("_law_left_here" : Str) == ("__debug__" : Str)) = false := by decide +kernel
theorem vc_55 : (("_law_left_here" : Str) == ("__classdict__" : Str)) = false := by decide +kernel
theorem vd_56 : (("_law_many" : Str) == ("__debug__" : Str)) = false := by decide +kernel
theorem vc_56 : (("_law_many" : Str) == ("__classdict__" : Str)) = false := by decide +kernel
theorem vd_57 : (("_law_digit_here" : Str) == ("__debug__" : Str)) = false := by decide +kernel
theorem vc_57 : (("_law_digit_here" : Str) == ("__classdict__" : Str)) = false := by decide +kernel
theorem vd_58 : (("_law_kind" : Str) == ("__debug__" : Str)) = false := by decide +kernel
theorem vc_58 : (("_law_kind" : Str) == ("__classdict__" : Str)) = false := by decide +kernel
theorem vd_59 : (("_law_digit" : Str) == ("__debug__" : Str)) = false := by decide +kernel
theorem vd_60 : (("_law_size" : Str) == ("__debug__" : Str)) = false := by decide +kernel
theorem vc_60 : (("_law_size" : Str) == ("__classdict__" : Str)) = false := by decide +kernel
theorem vd_61 : (("_law_number" : Str) == ("__debug__" : Str)) = false := by decide +kernel
theorem vd_62 : (("_law_other" : Str) == ("__debug__" : Str)) = false := by decide +kernel
theorem vc_62 : (("_law_other" : Str) == ("__classdict__" : Str)) = false := by decide +kernel
theorem vd_63 : (("_law_one" : Str) == ("__debug__" : Str)) = false := by decide +kernel
theorem vc_63 : (("_law_one" : Str) == ("__classdict__" : Str)) = false := by decide +kernel
theorem vd_64 : (("_law_a" : Str) == ("__debug__" : Str)) = false := by decide +kernel
theorem vc_64 : (("_law_a" : Str) == ("__classdict__" : Str)) = false := by decide +kernel
theorem vd_65 : (("_law_b" : Str) == ("__debug__" : Str)) = false := by decide +kernel
theorem vc_65 : (("_law_b" : Str) == ("__classdict__" : Str)) = false := by decide +kernel
theorem vd_66 : (("_law_steps" : Str) == ("__debug__" : Str)) = false := by decide +kernel
theorem vc_66 : (("_law_steps" : Str) == ("__classdict__" : Str)) = false := by decide +kernel
theorem vd_67 : (("_law_known" : Str) == ("__debug__" : Str)) = false := by decide +kernel
theorem vc_67 : (("_law_known" : Str) == ("__classdict__" : Str)) = false := by decide +kernel
theorem vd_68 : (("_law_step" : Str) == ("__debug__" : Str)) = false := by decide +kernel
theorem vc_68 : (("_law_step" : Str) == ("__classdict__" : Str)) = false := by decide +kernel
theorem vd_69 : (("_law_dot" : Str) == ("__debug__" : Str)) = false := by decide +kernel
theorem vd_70 : (("_law_found" : Str) == ("__debug__" : Str)) = false := by decide +kernel
theorem vc_70 : (("_law_found" : Str) == ("__classdict__" : Str)) = false := by decide +kernel
theorem vd_71 : (("_law_grown" : Str) == ("__debug__" : Str)) = false := by decide +kernel
theorem vc_71 : (("_law_grown" : Str) == ("__classdict__" : Str)) = false := by decide +kernel
theorem vd_72 : (("_law_told" : Str) == ("__debug__" : Str)) = false := by decide +kernel
theorem vc_72 : (("_law_told" : Str) == ("__classdict__" : Str)) = false := by decide +kernel
theorem vd_73 : (("_law_less" : Str) == ("__debug__" : Str)) = false := by decide +kernel
theorem vc_73 : (("_law_less" : Str) == ("__classdict__" : Str)) = false := by decide +kernel
theorem vd_74 : (("_law_own" : Str) == ("__debug__" : Str)) = false := by decide +kernel
theorem vd_75 : (("_law_i" : Str) == ("__debug__" : Str)) = false := by decide +kernel
theorem vc_75 : (("_law_i" : Str) == ("__classdict__" : Str)) = false := by decide +kernel
theorem vd_76 : (("_law_here" : Str) == ("__debug__" : Str)) = false := by decide +kernel
theorem vc_76 : (("_law_here" : Str) == ("__classdict__" : Str)) = false := by decide +kernel
theorem vd_77 : (("_law_least" : Str) == ("__debug__" : Str)) = false := by decide +kernel
theorem vc_77 : (("_law_least" : Str) == ("__classdict__" : Str)) = false := by decide +kernel
theorem vd_78 : (("_law_sizes" : Str) == ("__debug__" : Str)) = false := by decide +kernel
theorem vc_78 : (("_law_sizes" : Str) == ("__classdict__" : Str)) = false := by decide +kernel
theorem vd_79 : (("_law_rows_here" : Str) == ("__debug__" : Str)) = false := by decide +kernel
theorem vc_79 : (("_law_rows_here" : Str) == ("__classdict__" : Str)) = false := by decide +kernel
theorem vd_80 : (("_law_row" : Str) == ("__debug__" : Str)) = false := by decide +kernel
theorem vc_80 : (("_law_row" : Str) == ("__classdict__" : Str)) = false := by decide +kernel
theorem vd_81 : (("_law_first" : Str) == ("__debug__" : Str)) = false := by decide +kernel
theorem vc_81 : (("_law_first" : Str) == ("__classdict__" : Str)) = false := by decide +kernel
theorem vd_82 : (("_law_way" : Str) == ("__debug__" : Str)) = false := by decide +kernel
theorem vc_82 : (("_law_way" : Str) == ("__classdict__" : Str)) = false := by decide +kernel
theorem vd_83 : (("_law_rows" : Str) == ("__debug__" : Str)) = false := by decide +kernel
theorem vd_84 : (("_law_stairs" : Str) == ("__debug__" : Str)) = false := by decide +kernel
theorem vd_85 : (("_law_at_bound" : Str) == ("__debug__" : Str)) = false := by decide +kernel
theorem vd_86 : (("_law_n" : Str) == ("__debug__" : Str)) = false := by decide +kernel
theorem vc_86 : (("_law_n" : Str) == ("__classdict__" : Str)) = false := by decide +kernel
theorem vd_87 : (("_law_often" : Str) == ("__debug__" : Str)) = false := by decide +kernel
theorem vc_87 : (("_law_often" : Str) == ("__classdict__" : Str)) = false := by decide +kernel
theorem vd_88 : (("_law_at_here" : Str) == ("__debug__" : Str)) = false := by decide +kernel
theorem vc_88 : (("_law_at_here" : Str) == ("__classdict__" : Str)) = false := by decide +kernel
theorem vd_89 : (("_law_left" : Str) == ("__debug__" : Str)) = false := by decide +kernel
theorem vd_90 : (("_law_case" : Str) == ("__debug__" : Str)) = false := by decide +kernel
theorem vd_91 : (("list" : Str) == ("__debug__" : Str)) = false := by decide +kernel
theorem vd_92 : (("_law_handed" : Str) == ("__debug__" : Str)) = false := by decide +kernel
theorem vc_92 : (("_law_handed" : Str) == ("__classdict__" : Str)) = false := by decide +kernel
theorem vd_93 : (("is_short" : Str) == ("__debug__" : Str)) = false := by decide +kernel
theorem vd_94 : (("bool" : Str) == ("__debug__" : Str)) = false := by decide +kernel
theorem vd_95 : (("isinstance" : Str) == ("__debug__" : Str)) = false := by decide +kernel
theorem vd_96 : (("_law_short" : Str) == ("__debug__" : Str)) = false := by decide +kernel
theorem vn_abs : (("abs" : Str)) ≠ "__name__" := by decide +kernel
theorem vn_sum : (("sum" : Str)) ≠ "__name__" := by decide +kernel
theorem vn_tuple : (("tuple" : Str)) ≠ "__name__" := by decide +kernel
theorem vn_all : (("all" : Str)) ≠ "__name__" := by decide +kernel
theorem vn_len : (("len" : Str)) ≠ "__name__" := by decide +kernel
theorem vn_any : (("any" : Str)) ≠ "__name__" := by decide +kernel
theorem vn_list : (("list" : Str)) ≠ "__name__" := by decide +kernel
theorem vn_bool : (("bool" : Str)) ≠ "__name__" := by decide +kernel
theorem vn_isinstance : (("isinstance" : Str)) ≠ "__name__" := by decide +kernel
structure Bl (mg : Str → Option Value) : Prop where
  b_abs : mg "abs" = none
  b_zip : mg "zip" = none
  b_sum : mg "sum" = none
  b_tuple : mg "tuple" = none
  b_all : mg "all" = none
  b_range : mg "range" = none
  b_len : mg "len" = none
  b_any : mg "any" = none
  b_list : mg "list" = none
  b_bool : mg "bool" = none
  b_isinstance : mg "isinstance" = none
section
variable {P : Program} {w : World} {K : PySem.W.Frag} {mg : Str → Option Value} {base : Heap}
abbrev s_common : Stmt := top 4
theorem vk_common_abs : (defScope s_common).names.lookup ("abs" : Str) = some .globalImplicit := by decide +kernel
theorem vk_common_great : (defScope s_common).names.lookup ("great" : Str) = some .local := by decide +kernel
theorem vk_common_one : (defScope s_common).names.lookup ("one" : Str) = some .local := by decide +kernel
theorem vk_common_other : (defScope s_common).names.lookup ("other" : Str) = some .local := by decide +kernel
theorem vk_common_rest : (defScope s_common).names.lookup ("rest" : Str) = some .local := by decide +kernel
theorem vk_common_small : (defScope s_common).names.lookup ("small" : Str) = some .local := by decide +kernel
theorem sc_common : FnScope N_common ["one", "other"] (defScope s_common) := ⟨rfl, rfl, rfl, by decide +kernel, rfl, by decide +kernel, by decide +kernel⟩
theorem ok_common {f : Addr} {fd : FuncData} (B : Bl mg) (F : DefAt K mg "common" "common" s_common ["one", "other"] f fd) :
    FnOk P w K mg base CX0 1 f fd ["one", "other"] (LSp S_common) :=
  j_def (N := N_common) F.fn sc_common (fun cdv A outer s H E hr => (jb_cons (js_set sc_common.nd (Or.inl vk_common_great) (j_cb x_abs (j_cons (j_name vd_0 vc_0 (Or.inl vk_common_one)) j_nil) B.b_abs rfl vn_abs vd_1 vk_common_abs))
    (jb_cons (js_set sc_common.nd (Or.inl vk_common_small) (j_cb x_abs (j_cons (j_name vd_2 vc_2 (Or.inl vk_common_other)) j_nil) B.b_abs rfl vn_abs vd_1 vk_common_abs))
    (jb_cons (js_while (j_tcmp x_ne (nomark _) (j_name vd_3 vc_3 (Or.inl vk_common_small)) j_int) (jb_cons (js_set sc_common.nd (Or.inl vk_common_rest) (j_op x_mod (j_name vd_4 vc_4 (Or.inl vk_common_great)) (j_name vd_3 vc_3 (Or.inl vk_common_small))))
    (jb_cons (js_set sc_common.nd (Or.inl vk_common_great) (j_name vd_3 vc_3 (Or.inl vk_common_small)))
    (jb_one (js_set sc_common.nd (Or.inl vk_common_small) (j_name vd_5 vc_5 (Or.inl vk_common_rest)))))))
    (jb_one (js_ret (j_name vd_4 vc_4 (Or.inl vk_common_great)))))))) sp_common
abbrev s_part : Stmt := top 5
theorem vk_part_bottom : (defScope s_part).names.lookup ("bottom" : Str) = some .local := by decide +kernel
theorem vk_part_common : (defScope s_part).names.lookup ("common" : Str) = some .globalImplicit := by decide +kernel
theorem vk_part_shrink : (defScope s_part).names.lookup ("shrink" : Str) = some .local := by decide +kernel
theorem vk_part_top : (defScope s_part).names.lookup ("top" : Str) = some .local := by decide +kernel
theorem sc_part : FnScope N_part ["top", "bottom"] (defScope s_part) := ⟨rfl, rfl, rfl, by decide +kernel, rfl, by decide +kernel, by decide +kernel⟩
theorem ok_part {f : Addr} {fd : FuncData} (B : Bl mg) (F : DefAt K mg "part" "part" s_part ["top", "bottom"] f fd) {a_common : Addr} {d_common : FuncData} (D_common : DefAt K mg "common" "common" s_common ["one", "other"] a_common d_common) (G_common : FnOk P w K mg base CX0 1 a_common d_common ["one", "other"] (LSp S_common)) :
    FnOk P w K mg base CX0 2 f fd ["top", "bottom"] (LSp S_part) :=
  j_def (N := N_part) F.fn sc_part (fun cdv A outer s H E hr => (jb_cons (js_set sc_part.nd (Or.inl vk_part_shrink) (j_fn D_common G_common (hr.mono (by decide)) (j_cons (j_name vd_7 vc_7 (Or.inl vk_part_top)) (j_cons (j_name vd_6 vc_6 (Or.inl vk_part_bottom)) j_nil)) vd_8 vk_part_common))
    (jb_cons (js_if (j_tcmp x_lt (nomark _) (j_name vd_6 vc_6 (Or.inl vk_part_bottom)) j_int) (jb_one (js_set sc_part.nd (Or.inl vk_part_shrink) (j_neg (j_name vd_9 vc_9 (Or.inl vk_part_shrink))))) jb_nil)
    (jb_one (js_ret (j_tup (j_cons (j_op x_fdiv (j_name vd_7 vc_7 (Or.inl vk_part_top)) (j_name vd_9 vc_9 (Or.inl vk_part_shrink))) (j_cons (j_op x_fdiv (j_name vd_6 vc_6 (Or.inl vk_part_bottom)) (j_name vd_9 vc_9 (Or.inl vk_part_shrink))) j_nil)))))))) sp_part
abbrev s_minus : Stmt := top 6
theorem vk_minus_one : (defScope s_minus).names.lookup ("one" : Str) = some .local := by decide +kernel
theorem vk_minus_other : (defScope s_minus).names.lookup ("other" : Str) = some .local := by decide +kernel
theorem vk_minus_part : (defScope s_minus).names.lookup ("part" : Str) = some .globalImplicit := by decide +kernel
theorem sc_minus : FnScope N_minus ["one", "other"] (defScope s_minus) := ⟨rfl, rfl, rfl, by decide +kernel, rfl, by decide +kernel, by decide +kernel⟩
theorem ok_minus {f : Addr} {fd : FuncData} (B : Bl mg) (F : DefAt K mg "minus" "minus" s_minus ["one", "other"] f fd) {a_part : Addr} {d_part : FuncData} (D_part : DefAt K mg "part" "part" s_part ["top", "bottom"] a_part d_part) (G_part : FnOk P w K mg base CX0 2 a_part d_part ["top", "bottom"] (LSp S_part)) :
    FnOk P w K mg base CX0 3 f fd ["one", "other"] (LSp S_minus) :=
  j_def (N := N_minus) F.fn sc_minus (fun cdv A outer s H E hr => (jb_one (js_ret (j_fn D_part G_part (hr.mono (by decide)) (j_cons (j_op x_sub (j_op x_mul (j_ix (j_name vd_0 vc_0 (Or.inl vk_minus_one)) j_int) (j_ix (j_name vd_2 vc_2 (Or.inl vk_minus_other)) j_int)) (j_op x_mul (j_ix (j_name vd_2 vc_2 (Or.inl vk_minus_other)) j_int) (j_ix (j_name vd_0 vc_0 (Or.inl vk_minus_one)) j_int))) (j_cons (j_op x_mul (j_ix (j_name vd_0 vc_0 (Or.inl vk_minus_one)) j_int) (j_ix (j_name vd_2 vc_2 (Or.inl vk_minus_other)) j_int)) j_nil)) vd_10 vk_minus_part)))) sp_minus
abbrev s_times : Stmt := top 7
theorem vk_times_one : (defScope s_times).names.lookup ("one" : Str) = some .local := by decide +kernel
theorem vk_times_other : (defScope s_times).names.lookup ("other" : Str) = some .local := by decide +kernel
theorem vk_times_part : (defScope s_times).names.lookup ("part" : Str) = some .globalImplicit := by decide +kernel
theorem sc_times : FnScope N_times ["one", "other"] (defScope s_times) := ⟨rfl, rfl, rfl, by decide +kernel, rfl, by decide +kernel, by decide +kernel⟩
theorem ok_times {f : Addr} {fd : FuncData} (B : Bl mg) (F : DefAt K mg "times" "times" s_times ["one", "other"] f fd) {a_part : Addr} {d_part : FuncData} (D_part : DefAt K mg "part" "part" s_part ["top", "bottom"] a_part d_part) (G_part : FnOk P w K mg base CX0 2 a_part d_part ["top", "bottom"] (LSp S_part)) :
    FnOk P w K mg base CX0 3 f fd ["one", "other"] (LSp S_times) :=
  j_def (N := N_times) F.fn sc_times (fun cdv A outer s H E hr => (jb_one (js_ret (j_fn D_part G_part (hr.mono (by decide)) (j_cons (j_op x_mul (j_ix (j_name vd_0 vc_0 (Or.inl vk_times_one)) j_int) (j_ix (j_name vd_2 vc_2 (Or.inl vk_times_other)) j_int)) (j_cons (j_op x_mul (j_ix (j_name vd_0 vc_0 (Or.inl vk_times_one)) j_int) (j_ix (j_name vd_2 vc_2 (Or.inl vk_times_other)) j_int)) j_nil)) vd_10 vk_times_part)))) sp_times
abbrev s_before : Stmt := top 8
theorem vk_before_one : (defScope s_before).names.lookup ("one" : Str) = some .local := by decide +kernel
theorem vk_before_other : (defScope s_before).names.lookup ("other" : Str) = some .local := by decide +kernel
theorem sc_before : FnScope N_before ["one", "other"] (defScope s_before) := ⟨rfl, rfl, rfl, by decide +kernel, rfl, by decide +kernel, by decide +kernel⟩
theorem ok_before {f : Addr} {fd : FuncData} (B : Bl mg) (F : DefAt K mg "before" "before" s_before ["one", "other"] f fd) :
    FnOk P w K mg base CX0 1 f fd ["one", "other"] (LSp S_before) :=
  j_def (N := N_before) F.fn sc_before (fun cdv A outer s H E hr => (jb_one (js_ret (j_cmp x_lt (nomark _) (j_op x_mul (j_ix (j_name vd_0 vc_0 (Or.inl vk_before_one)) j_int) (j_ix (j_name vd_2 vc_2 (Or.inl vk_before_other)) j_int)) (j_op x_mul (j_ix (j_name vd_2 vc_2 (Or.inl vk_before_other)) j_int) (j_ix (j_name vd_0 vc_0 (Or.inl vk_before_one)) j_int)))))) sp_before
abbrev s_dot : Stmt := top 10
theorem vk_dot_one : (defScope s_dot).names.lookup ("one" : Str) = some .local := by decide +kernel
theorem vk_dot_other : (defScope s_dot).names.lookup ("other" : Str) = some .local := by decide +kernel
theorem vk_dot_sum : (defScope s_dot).names.lookup ("sum" : Str) = some .globalImplicit := by decide +kernel
theorem vk_dot_zip : (defScope s_dot).names.lookup ("zip" : Str) = some .globalImplicit := by decide +kernel
theorem sc_dot : FnScope N_dot ["one", "other"] (defScope s_dot) := ⟨rfl, rfl, rfl, by decide +kernel, rfl, by decide +kernel, by decide +kernel⟩
theorem ok_dot {f : Addr} {fd : FuncData} (B : Bl mg) (F : DefAt K mg "dot" "dot" s_dot ["one", "other"] f fd) :
    FnOk P w K mg base CX0 1 f fd ["one", "other"] (LSp S_dot) :=
  j_def (N := N_dot) F.fn sc_dot (fun cdv A outer s H E hr => (jb_one (js_ret (j_cb (x_sum rfl) (j_cons (j_comp (Nc := ["left", "right"]) (CompSc.look (defScope s_dot) ["one", "other"] (by decide +kernel)) (j_zip vk_dot_zip B.b_zip (j_cons (j_name vd_0 vc_0 (Or.inl vk_dot_one)) (j_cons (j_name vd_2 vc_2 (Or.inl vk_dot_other)) j_nil))) (fun _ _ _ _ => (j_tg2 rfl (show (["left", "right"] : List Str).Nodup by decide +kernel) (by first | exact Or.inl rfl | exact Or.inr rfl) (by first | exact .inl rfl | exact .inr rfl) (by first | exact Or.inl rfl | exact Or.inr rfl) (by first | exact .inl rfl | exact .inr rfl))) (fun _ _ _ _ => j_ctrue) (fun _ _ _ _ => (j_op x_mul (j_nameC vd_12 vc_12) (j_nameC vd_13 vc_13))) fit_two) j_nil) B.b_sum rfl vn_sum vd_14 vk_dot_sum)))) sp_dot
abbrev s_cleared : Stmt := top 12
theorem vk_cleared_divisor : (defScope s_cleared).names.lookup ("divisor" : Str) = some .local := by decide +kernel
theorem vk_cleared_left : (defScope s_cleared).names.lookup ("left" : Str) = some .local := by decide +kernel
theorem vk_cleared_line : (defScope s_cleared).names.lookup ("line" : Str) = some .local := by decide +kernel
theorem vk_cleared_one : (defScope s_cleared).names.lookup ("one" : Str) = some .local := by decide +kernel
theorem vk_cleared_other : (defScope s_cleared).names.lookup ("other" : Str) = some .local := by decide +kernel
theorem vk_cleared_right : (defScope s_cleared).names.lookup ("right" : Str) = some .local := by decide +kernel
theorem vk_cleared_table : (defScope s_cleared).names.lookup ("table" : Str) = some .local := by decide +kernel
theorem vk_cleared_together : (defScope s_cleared).names.lookup ("together" : Str) = some .local := by decide +kernel
theorem vk_cleared_zip : (defScope s_cleared).names.lookup ("zip" : Str) = some .globalImplicit := by decide +kernel
theorem sc_cleared : FnScope N_cleared ["together", "table", "one", "other"] (defScope s_cleared) := ⟨rfl, rfl, rfl, by decide +kernel, rfl, by decide +kernel, by decide +kernel⟩
theorem ok_cleared {f : Addr} {fd : FuncData} (B : Bl mg) (F : DefAt K mg "cleared" "cleared" s_cleared ["together", "table", "one", "other"] f fd) :
    FnOk P w K mg base CX0 1 f fd ["together", "table", "one", "other"] (LSp S_cleared) :=
  j_def (N := N_cleared) F.fn sc_cleared (fun cdv A outer s H E hr => (jb_cons (js_set sc_cleared.nd (Or.inl vk_cleared_divisor) j_int)
    (jb_cons (js_for (j_zip3 vk_cleared_zip B.b_zip (j_cons (j_name vd_15 vc_15 (Or.inl vk_cleared_table)) (j_cons (j_name vd_0 vc_0 (Or.inl vk_cleared_one)) (j_cons (j_name vd_2 vc_2 (Or.inl vk_cleared_other)) j_nil)))) (j_tg3 rfl sc_cleared.nd (by first | exact Or.inl rfl | exact Or.inr rfl) (by first | exact .inl rfl | exact .inr rfl) (by first | exact Or.inl rfl | exact Or.inr rfl) (by first | exact .inl rfl | exact .inr rfl) (by first | exact Or.inl rfl | exact Or.inr rfl) (by first | exact .inl rfl | exact .inr rfl)) (jb_cons (js_set sc_cleared.nd (Or.inl vk_cleared_together) (j_op x_fdiv (j_op x_sub (j_op x_mul (j_ix (j_name vd_16 vc_16 (Or.inl vk_cleared_line)) (j_neg j_int)) (j_name vd_17 vc_17 (Or.inl vk_cleared_together))) (j_op x_mul (j_name vd_12 vc_12 (Or.inl vk_cleared_left)) (j_name vd_13 vc_13 (Or.inl vk_cleared_right)))) (j_name vd_18 vc_18 (Or.inl vk_cleared_divisor))))
    (jb_one (js_set sc_cleared.nd (Or.inl vk_cleared_divisor) (j_ix (j_name vd_16 vc_16 (Or.inl vk_cleared_line)) (j_neg j_int))))))
    (jb_one (js_ret (j_name vd_17 vc_17 (Or.inl vk_cleared_together))))))) sp_cleared
abbrev s_line_of : Stmt := top 13
theorem vk_line_of_cleared : (defScope s_line_of).names.lookup ("cleared" : Str) = some .globalImplicit := by decide +kernel
theorem vk_line_of_dot : (defScope s_line_of).names.lookup ("dot" : Str) = some .globalImplicit := by decide +kernel
theorem vk_line_of_line : (defScope s_line_of).names.lookup ("line" : Str) = some .local := by decide +kernel
theorem vk_line_of_made : (defScope s_line_of).names.lookup ("made" : Str) = some .local := by decide +kernel
theorem vk_line_of_row : (defScope s_line_of).names.lookup ("row" : Str) = some .local := by decide +kernel
theorem vk_line_of_step : (defScope s_line_of).names.lookup ("step" : Str) = some .local := by decide +kernel
theorem vk_line_of_steps : (defScope s_line_of).names.lookup ("steps" : Str) = some .local := by decide +kernel
theorem vk_line_of_table : (defScope s_line_of).names.lookup ("table" : Str) = some .local := by decide +kernel
theorem vk_line_of_zip : (defScope s_line_of).names.lookup ("zip" : Str) = some .globalImplicit := by decide +kernel
theorem sc_line_of : FnScope N_line_of ["table", "steps", "row"] (defScope s_line_of) := ⟨rfl, rfl, rfl, by decide +kernel, rfl, by decide +kernel, by decide +kernel⟩
theorem ok_line_of {f : Addr} {fd : FuncData} (B : Bl mg) (F : DefAt K mg "line_of" "line_of" s_line_of ["table", "steps", "row"] f fd) {a_dot : Addr} {d_dot : FuncData} (D_dot : DefAt K mg "dot" "dot" s_dot ["one", "other"] a_dot d_dot) (G_dot : FnOk P w K mg base CX0 1 a_dot d_dot ["one", "other"] (LSp S_dot)) {a_cleared : Addr} {d_cleared : FuncData} (D_cleared : DefAt K mg "cleared" "cleared" s_cleared ["together", "table", "one", "other"] a_cleared d_cleared) (G_cleared : FnOk P w K mg base CX0 1 a_cleared d_cleared ["together", "table", "one", "other"] (LSp S_cleared)) :
    FnOk P w K mg base CX0 2 f fd ["table", "steps", "row"] (LSp S_line_of) :=
  j_def (N := N_line_of) F.fn sc_line_of (fun cdv A outer s H E hr => (jb_cons (js_set sc_line_of.nd (Or.inl vk_line_of_made) (j_new j_nil))
    (jb_cons (js_for (j_zip vk_line_of_zip B.b_zip (j_cons (j_name vd_15 vc_15 (Or.inl vk_line_of_table)) (j_cons (j_name vd_19 vc_19 (Or.inl vk_line_of_steps)) j_nil))) (j_tg2 rfl sc_line_of.nd (by first | exact Or.inl rfl | exact Or.inr rfl) (by first | exact .inl rfl | exact .inr rfl) (by first | exact Or.inl rfl | exact Or.inr rfl) (by first | exact .inl rfl | exact .inr rfl)) (jb_one (js_expr (jx_append (j_name vd_20 vc_20 (Or.inl vk_line_of_made)) (j_fn D_cleared G_cleared (hr.mono (by decide)) (j_cons (j_fn D_dot G_dot (hr.mono (by decide)) (j_cons (j_name vd_22 vc_22 (Or.inl vk_line_of_row)) (j_cons (j_name vd_21 vc_21 (Or.inl vk_line_of_step)) j_nil)) vd_23 vk_line_of_dot) (j_cons (j_name vd_15 vc_15 (Or.inl vk_line_of_table)) (j_cons (j_name vd_20 vc_20 (Or.inl vk_line_of_made)) (j_cons (j_name vd_16 vc_16 (Or.inl vk_line_of_line)) j_nil)))) vd_24 vk_line_of_cleared)))))
    (jb_cons (js_expr (jx_append (j_name vd_20 vc_20 (Or.inl vk_line_of_made)) (j_fn D_cleared G_cleared (hr.mono (by decide)) (j_cons (j_fn D_dot G_dot (hr.mono (by decide)) (j_cons (j_name vd_22 vc_22 (Or.inl vk_line_of_row)) (j_cons (j_name vd_22 vc_22 (Or.inl vk_line_of_row)) j_nil)) vd_23 vk_line_of_dot) (j_cons (j_name vd_15 vc_15 (Or.inl vk_line_of_table)) (j_cons (j_name vd_20 vc_20 (Or.inl vk_line_of_made)) (j_cons (j_name vd_20 vc_20 (Or.inl vk_line_of_made)) j_nil)))) vd_24 vk_line_of_cleared)))
    (jb_one (js_frz (js_ret (j_name vd_20 vc_20 (Or.inl vk_line_of_made))))))))) sp_line_of
abbrev s_table_of : Stmt := top 14
theorem vk_table_of_line : (defScope s_table_of).names.lookup ("line" : Str) = some .local := by decide +kernel
theorem vk_table_of_line_of : (defScope s_table_of).names.lookup ("line_of" : Str) = some .globalImplicit := by decide +kernel
theorem vk_table_of_step : (defScope s_table_of).names.lookup ("step" : Str) = some .local := by decide +kernel
theorem vk_table_of_steps : (defScope s_table_of).names.lookup ("steps" : Str) = some .local := by decide +kernel
theorem vk_table_of_table : (defScope s_table_of).names.lookup ("table" : Str) = some .local := by decide +kernel
theorem sc_table_of : FnScope N_table_of ["steps"] (defScope s_table_of) := ⟨rfl, rfl, rfl, by decide +kernel, rfl, by decide +kernel, by decide +kernel⟩
theorem ok_table_of {f : Addr} {fd : FuncData} (B : Bl mg) (F : DefAt K mg "table_of" "table_of" s_table_of ["steps"] f fd) {a_line_of : Addr} {d_line_of : FuncData} (D_line_of : DefAt K mg "line_of" "line_of" s_line_of ["table", "steps", "row"] a_line_of d_line_of) (G_line_of : FnOk P w K mg base CX0 2 a_line_of d_line_of ["table", "steps", "row"] (LSp S_line_of)) :
    FnOk P w K mg base CX0 3 f fd ["steps"] (LSp S_table_of) :=
  j_def (N := N_table_of) F.fn sc_table_of (fun cdv A outer s H E hr => (jb_cons (js_set sc_table_of.nd (Or.inl vk_table_of_table) (j_new j_nil))
    (jb_cons (js_for (j_seq (j_name vd_19 vc_19 (Or.inl vk_table_of_steps))) (j_tg sc_table_of.nd (by first | exact Or.inl rfl | exact Or.inr rfl) (by first | exact .inl rfl | exact .inr rfl)) (jb_cons (js_set sc_table_of.nd (Or.inl vk_table_of_line) (j_fn D_line_of G_line_of (hr.mono (by decide)) (j_cons (j_name vd_15 vc_15 (Or.inl vk_table_of_table)) (j_cons (j_name vd_19 vc_19 (Or.inl vk_table_of_steps)) (j_cons (j_name vd_21 vc_21 (Or.inl vk_table_of_step)) j_nil))) vd_25 vk_table_of_line_of))
    (jb_cons (js_if (j_tcmp (x_eq hr) (nomark _) (j_ix (j_name vd_16 vc_16 (Or.inl vk_table_of_line)) (j_neg j_int)) j_int) (jb_one js_never) jb_nil)
    (jb_one (js_expr (jx_append (j_name vd_15 vc_15 (Or.inl vk_table_of_table)) (j_name vd_16 vc_16 (Or.inl vk_table_of_line))))))))
    (jb_one (js_frz (js_ret (j_name vd_15 vc_15 (Or.inl vk_table_of_table)))))))) sp_table_of
abbrev s_squares_in : Stmt := top 15
theorem vk_squares_in_lasts : (defScope s_squares_in).names.lookup ("lasts" : Str) = some .local := by decide +kernel
theorem vk_squares_in_table : (defScope s_squares_in).names.lookup ("table" : Str) = some .local := by decide +kernel
theorem vk_squares_in_tuple : (defScope s_squares_in).names.lookup ("tuple" : Str) = some .globalImplicit := by decide +kernel
theorem vk_squares_in_zip : (defScope s_squares_in).names.lookup ("zip" : Str) = some .globalImplicit := by decide +kernel
theorem sc_squares_in : FnScope N_squares_in ["table"] (defScope s_squares_in) := ⟨rfl, rfl, rfl, by decide +kernel, rfl, by decide +kernel, by decide +kernel⟩
theorem ok_squares_in {f : Addr} {fd : FuncData} (B : Bl mg) (F : DefAt K mg "squares_in" "squares_in" s_squares_in ["table"] f fd) {a_part : Addr} {d_part : FuncData} (D_part : DefAt K mg "part" "part" s_part ["top", "bottom"] a_part d_part) (G_part : FnOk P w K mg base CX0 2 a_part d_part ["top", "bottom"] (LSp S_part)) :
    FnOk P w K mg base CX0 3 f fd ["table"] (LSp S_squares_in) :=
  j_def (N := N_squares_in) F.fn sc_squares_in (fun cdv A outer s H E hr => (jb_cons (js_setC sc_squares_in.nd (Or.inl vk_squares_in_lasts) (Nc := ["line"]) (CompSc.look (defScope s_squares_in) ["table", "lasts"] (by decide +kernel)) (j_seq (j_name vd_15 vc_15 (Or.inl vk_squares_in_table))) (fun _ _ _ _ => (j_tg (show (["line"] : List Str).Nodup by decide +kernel) (by first | exact Or.inl rfl | exact Or.inr rfl) (by first | exact .inl rfl | exact .inr rfl))) (fun _ _ _ _ => j_ctrue) (fun _ _ _ _ => (j_ix (j_nameC vd_16 vc_16) (j_neg j_int))) fit_name)
    (jb_one (js_ret (j_ct x_tuple (j_cons (j_comp (Nc := ["own", "ahead"]) (CompSc.look (defScope s_squares_in) ["table", "lasts"] (by decide +kernel)) (j_zip vk_squares_in_zip B.b_zip (j_cons (j_name vd_26 vc_26 (Or.inl vk_squares_in_lasts)) (j_cons (j_op x_add (j_lst (j_cons j_int j_nil)) (j_name vd_26 vc_26 (Or.inl vk_squares_in_lasts))) j_nil))) (fun _ _ _ _ => (j_tg2 rfl (show (["own", "ahead"] : List Str).Nodup by decide +kernel) (by first | exact Or.inl rfl | exact Or.inr rfl) (by first | exact .inl rfl | exact .inr rfl) (by first | exact Or.inl rfl | exact Or.inr rfl) (by first | exact .inl rfl | exact .inr rfl))) (fun _ _ _ _ => j_ctrue) (fun _ _ _ _ => (j_fn D_part G_part (hr.mono (by decide)) (j_cons (j_nameC vd_28 vc_28) (j_cons (j_nameC vd_27 vc_27) j_nil)) vd_10 rfl)) fit_two) j_nil) B.b_tuple rfl vn_tuple vd_29 vk_squares_in_tuple))))) sp_squares_in
abbrev s_shares_in : Stmt := top 16
theorem vk_shares_in_line : (defScope s_shares_in).names.lookup ("line" : Str) = some .local := by decide +kernel
theorem vk_shares_in_table : (defScope s_shares_in).names.lookup ("table" : Str) = some .local := by decide +kernel
theorem vk_shares_in_tuple : (defScope s_shares_in).names.lookup ("tuple" : Str) = some .globalImplicit := by decide +kernel
theorem vk_shares_in_zip : (defScope s_shares_in).names.lookup ("zip" : Str) = some .globalImplicit := by decide +kernel
theorem sc_shares_in : FnScope N_shares_in ["table", "line"] (defScope s_shares_in) := ⟨rfl, rfl, rfl, by decide +kernel, rfl, by decide +kernel, by decide +kernel⟩
theorem ok_shares_in {f : Addr} {fd : FuncData} (B : Bl mg) (F : DefAt K mg "shares_in" "shares_in" s_shares_in ["table", "line"] f fd) {a_part : Addr} {d_part : FuncData} (D_part : DefAt K mg "part" "part" s_part ["top", "bottom"] a_part d_part) (G_part : FnOk P w K mg base CX0 2 a_part d_part ["top", "bottom"] (LSp S_part)) :
    FnOk P w K mg base CX0 3 f fd ["table", "line"] (LSp S_shares_in) :=
  j_def (N := N_shares_in) F.fn sc_shares_in (fun cdv A outer s H E hr => (jb_one (js_ret (j_ct x_tuple (j_cons (j_comp (Nc := ["top", "ahead"]) (CompSc.look (defScope s_shares_in) ["table", "line"] (by decide +kernel)) (j_zip vk_shares_in_zip B.b_zip (j_cons (j_slice (j_name vd_16 vc_16 (Or.inl vk_shares_in_line)) j_onone (j_osome (j_neg j_int))) (j_cons (j_name vd_15 vc_15 (Or.inl vk_shares_in_table)) j_nil))) (fun _ _ _ _ => (j_tg2 rfl (show (["top", "ahead"] : List Str).Nodup by decide +kernel) (by first | exact Or.inl rfl | exact Or.inr rfl) (by first | exact .inl rfl | exact .inr rfl) (by first | exact Or.inl rfl | exact Or.inr rfl) (by first | exact .inl rfl | exact .inr rfl))) (fun _ _ _ _ => j_ctrue) (fun _ _ _ _ => (j_fn D_part G_part (hr.mono (by decide)) (j_cons (j_nameC vd_7 vc_7) (j_cons (j_ix (j_nameC vd_27 vc_27) (j_neg j_int)) j_nil)) vd_10 rfl)) fit_two) j_nil) B.b_tuple rfl vn_tuple vd_29 vk_shares_in_tuple)))) sp_shares_in
abbrev s_shares : Stmt := top 17
theorem vk_shares_squares_in : (defScope s_shares).names.lookup ("squares_in" : Str) = some .globalImplicit := by decide +kernel
theorem vk_shares_steps : (defScope s_shares).names.lookup ("steps" : Str) = some .local := by decide +kernel
theorem vk_shares_table : (defScope s_shares).names.lookup ("table" : Str) = some .cell := by decide +kernel
theorem vk_shares_table_of : (defScope s_shares).names.lookup ("table_of" : Str) = some .globalImplicit := by decide +kernel
theorem vk_shares_tuple : (defScope s_shares).names.lookup ("tuple" : Str) = some .globalImplicit := by decide +kernel
theorem sc_shares : FnScope N_shares ["steps"] (defScope s_shares) := ⟨rfl, rfl, rfl, by decide +kernel, rfl, by decide +kernel, by decide +kernel⟩
theorem ok_shares {f : Addr} {fd : FuncData} (B : Bl mg) (F : DefAt K mg "shares" "shares" s_shares ["steps"] f fd) {a_table_of : Addr} {d_table_of : FuncData} (D_table_of : DefAt K mg "table_of" "table_of" s_table_of ["steps"] a_table_of d_table_of) (G_table_of : FnOk P w K mg base CX0 3 a_table_of d_table_of ["steps"] (LSp S_table_of)) {a_shares_in : Addr} {d_shares_in : FuncData} (D_shares_in : DefAt K mg "shares_in" "shares_in" s_shares_in ["table", "line"] a_shares_in d_shares_in) (G_shares_in : FnOk P w K mg base CX0 3 a_shares_in d_shares_in ["table", "line"] (LSp S_shares_in)) {a_squares_in : Addr} {d_squares_in : FuncData} (D_squares_in : DefAt K mg "squares_in" "squares_in" s_squares_in ["table"] a_squares_in d_squares_in) (G_squares_in : FnOk P w K mg base CX0 3 a_squares_in d_squares_in ["table"] (LSp S_squares_in)) :
    FnOk P w K mg base CX0 4 f fd ["steps"] (LSp S_shares) :=
  j_def (N := N_shares) F.fn sc_shares (fun cdv A outer s H E hr => (jb_cons (js_set sc_shares.nd (Or.inr vk_shares_table) (j_fn D_table_of G_table_of (hr.mono (by decide)) (j_cons (j_name vd_19 vc_19 (Or.inl vk_shares_steps)) j_nil) vd_30 vk_shares_table_of))
    (jb_one (js_ret (j_tup (j_cons (j_fn D_squares_in G_squares_in (hr.mono (by decide)) (j_cons (j_name vd_15 vc_15 (Or.inr (Or.inl vk_shares_table))) j_nil) vd_32 vk_shares_squares_in) (j_cons (j_ct x_tuple (j_cons (j_comp (Nc := ["line", "table"]) (CompSc.look (defScope s_shares) ["steps", "table"] (by decide +kernel)) (j_seq (j_name vd_15 vc_15 (Or.inr (Or.inl vk_shares_table)))) (fun _ _ _ _ => (j_tg (show (["line", "table"] : List Str).Nodup by decide +kernel) (by first | exact Or.inl rfl | exact Or.inr rfl) (by first | exact .inl rfl | exact .inr rfl))) (fun _ _ _ _ => j_ctrue) (fun _ _ _ _ => (j_fn D_shares_in G_shares_in (hr.mono (by decide)) (j_cons (j_nameC vd_15 vc_15) (j_cons (j_nameC vd_16 vc_16) j_nil)) vd_31 rfl)) fit_name) j_nil) B.b_tuple rfl vn_tuple vd_29 vk_shares_tuple) j_nil))))))) sp_shares
abbrev s_is_half_at_most : Stmt := top 19
theorem vk_is_half_at_most_abs : (defScope s_is_half_at_most).names.lookup ("abs" : Str) = some .globalImplicit := by decide +kernel
theorem vk_is_half_at_most_share : (defScope s_is_half_at_most).names.lookup ("share" : Str) = some .local := by decide +kernel
theorem sc_is_half_at_most : FnScope N_is_half_at_most ["share"] (defScope s_is_half_at_most) := ⟨rfl, rfl, rfl, by decide +kernel, rfl, by decide +kernel, by decide +kernel⟩
theorem ok_is_half_at_most {f : Addr} {fd : FuncData} (B : Bl mg) (F : DefAt K mg "is_half_at_most" "is_half_at_most" s_is_half_at_most ["share"] f fd) :
    FnOk P w K mg base CX0 1 f fd ["share"] (LSp S_is_half_at_most) :=
  j_def (N := N_is_half_at_most) F.fn sc_is_half_at_most (fun cdv A outer s H E hr => (jb_one (js_ret (j_cmp x_le (nomark _) (j_op x_mul j_int (j_cb x_abs (j_cons (j_ix (j_name vd_33 vc_33 (Or.inl vk_is_half_at_most_share)) j_int) j_nil) B.b_abs rfl vn_abs vd_1 vk_is_half_at_most_abs)) (j_ix (j_name vd_33 vc_33 (Or.inl vk_is_half_at_most_share)) j_int))))) sp_is_half_at_most
abbrev s_falls_too_far : Stmt := top 20
theorem vk_falls_too_far_ahead : (defScope s_falls_too_far).names.lookup ("ahead" : Str) = some .local := by decide +kernel
theorem vk_falls_too_far_before : (defScope s_falls_too_far).names.lookup ("before" : Str) = some .globalImplicit := by decide +kernel
theorem vk_falls_too_far_minus : (defScope s_falls_too_far).names.lookup ("minus" : Str) = some .globalImplicit := by decide +kernel
theorem vk_falls_too_far_part : (defScope s_falls_too_far).names.lookup ("part" : Str) = some .globalImplicit := by decide +kernel
theorem vk_falls_too_far_share : (defScope s_falls_too_far).names.lookup ("share" : Str) = some .local := by decide +kernel
theorem vk_falls_too_far_square : (defScope s_falls_too_far).names.lookup ("square" : Str) = some .local := by decide +kernel
theorem vk_falls_too_far_times : (defScope s_falls_too_far).names.lookup ("times" : Str) = some .globalImplicit := by decide +kernel
theorem sc_falls_too_far : FnScope N_falls_too_far ["square", "share", "ahead"] (defScope s_falls_too_far) := ⟨rfl, rfl, rfl, by decide +kernel, rfl, by decide +kernel, by decide +kernel⟩
theorem ok_falls_too_far {f : Addr} {fd : FuncData} (B : Bl mg) (F : DefAt K mg "falls_too_far" "falls_too_far" s_falls_too_far ["square", "share", "ahead"] f fd) {a_times : Addr} {d_times : FuncData} (D_times : DefAt K mg "times" "times" s_times ["one", "other"] a_times d_times) (G_times : FnOk P w K mg base CX0 3 a_times d_times ["one", "other"] (LSp S_times)) {a_part : Addr} {d_part : FuncData} (D_part : DefAt K mg "part" "part" s_part ["top", "bottom"] a_part d_part) (G_part : FnOk P w K mg base CX0 2 a_part d_part ["top", "bottom"] (LSp S_part)) {a_minus : Addr} {d_minus : FuncData} (D_minus : DefAt K mg "minus" "minus" s_minus ["one", "other"] a_minus d_minus) (G_minus : FnOk P w K mg base CX0 3 a_minus d_minus ["one", "other"] (LSp S_minus)) {a_before : Addr} {d_before : FuncData} (D_before : DefAt K mg "before" "before" s_before ["one", "other"] a_before d_before) (G_before : FnOk P w K mg base CX0 1 a_before d_before ["one", "other"] (LSp S_before)) :
    FnOk P w K mg base CX0 4 f fd ["square", "share", "ahead"] (LSp S_falls_too_far) :=
  j_def (N := N_falls_too_far) F.fn sc_falls_too_far (fun cdv A outer s H E hr => (jb_one (js_ret (j_fn D_before G_before (hr.mono (by decide)) (j_cons (j_name vd_36 vc_36 (Or.inl vk_falls_too_far_square)) (j_cons (j_fn D_times G_times (hr.mono (by decide)) (j_cons (j_fn D_minus G_minus (hr.mono (by decide)) (j_cons (j_fn D_part G_part (hr.mono (by decide)) (j_cons j_int (j_cons j_int j_nil)) vd_10 vk_falls_too_far_part) (j_cons (j_fn D_times G_times (hr.mono (by decide)) (j_cons (j_name vd_33 vc_33 (Or.inl vk_falls_too_far_share)) (j_cons (j_name vd_33 vc_33 (Or.inl vk_falls_too_far_share)) j_nil)) vd_34 vk_falls_too_far_times) j_nil)) vd_35 vk_falls_too_far_minus) (j_cons (j_name vd_27 vc_27 (Or.inl vk_falls_too_far_ahead)) j_nil)) vd_34 vk_falls_too_far_times) j_nil)) vd_37 vk_falls_too_far_before)))) sp_falls_too_far
abbrev s_is_short : Stmt := top 21
theorem vk_is_short_all : (defScope s_is_short).names.lookup ("all" : Str) = some .globalImplicit := by decide +kernel
theorem vk_is_short_any : (defScope s_is_short).names.lookup ("any" : Str) = some .globalImplicit := by decide +kernel
theorem vk_is_short_len : (defScope s_is_short).names.lookup ("len" : Str) = some .globalImplicit := by decide +kernel
theorem vk_is_short_own : (defScope s_is_short).names.lookup ("own" : Str) = some .local := by decide +kernel
theorem vk_is_short_range : (defScope s_is_short).names.lookup ("range" : Str) = some .globalImplicit := by decide +kernel
theorem vk_is_short_shares : (defScope s_is_short).names.lookup ("shares" : Str) = some .globalImplicit := by decide +kernel
theorem vk_is_short_squares : (defScope s_is_short).names.lookup ("squares" : Str) = some .cell := by decide +kernel
theorem vk_is_short_steps : (defScope s_is_short).names.lookup ("steps" : Str) = some .local := by decide +kernel
theorem vk_is_short_told : (defScope s_is_short).names.lookup ("told" : Str) = some .cell := by decide +kernel
theorem sc_is_short : FnScope N_is_short ["steps"] (defScope s_is_short) := ⟨rfl, rfl, rfl, by decide +kernel, rfl, by decide +kernel, by decide +kernel⟩
theorem ok_is_short {f : Addr} {fd : FuncData} (B : Bl mg) (F : DefAt K mg "is_short" "is_short" s_is_short ["steps"] f fd) {a_shares : Addr} {d_shares : FuncData} (D_shares : DefAt K mg "shares" "shares" s_shares ["steps"] a_shares d_shares) (G_shares : FnOk P w K mg base CX0 4 a_shares d_shares ["steps"] (LSp S_shares)) {a_is_half_at_most : Addr} {d_is_half_at_most : FuncData} (D_is_half_at_most : DefAt K mg "is_half_at_most" "is_half_at_most" s_is_half_at_most ["share"] a_is_half_at_most d_is_half_at_most) (G_is_half_at_most : FnOk P w K mg base CX0 1 a_is_half_at_most d_is_half_at_most ["share"] (LSp S_is_half_at_most)) {a_falls_too_far : Addr} {d_falls_too_far : FuncData} (D_falls_too_far : DefAt K mg "falls_too_far" "falls_too_far" s_falls_too_far ["square", "share", "ahead"] a_falls_too_far d_falls_too_far) (G_falls_too_far : FnOk P w K mg base CX0 4 a_falls_too_far d_falls_too_far ["square", "share", "ahead"] (LSp S_falls_too_far)) :
    FnOk P w K mg base CX0 5 f fd ["steps"] (LSp S_is_short) :=
  j_def (N := N_is_short) F.fn sc_is_short (fun cdv A outer s H E hr => (jb_cons (js_set sc_is_short.nd (Or.inr vk_is_short_told) (j_fn D_shares G_shares (hr.mono (by decide)) (j_cons (j_name vd_19 vc_19 (Or.inl vk_is_short_steps)) j_nil) vd_38 vk_is_short_shares))
    (jb_cons (js_set sc_is_short.nd (Or.inr vk_is_short_squares) (j_ix (j_name vd_39 vc_39 (Or.inr (Or.inl vk_is_short_told))) j_int))
    (jb_cons (js_for (j_seq (j_ix (j_name vd_39 vc_39 (Or.inr (Or.inl vk_is_short_told))) j_int)) (j_tg sc_is_short.nd (by first | exact Or.inl rfl | exact Or.inr rfl) (by first | exact .inl rfl | exact .inr rfl)) (jb_one (js_if (j_tnot (j_tval (j_cb (x_all rfl) (j_cons (j_comp (Nc := ["share"]) (CompSc.look (defScope s_is_short) ["steps", "told", "squares", "own"] (by decide +kernel)) (j_seq (j_name vd_28 vc_28 (Or.inl vk_is_short_own))) (fun _ _ _ _ => (j_tg (show (["share"] : List Str).Nodup by decide +kernel) (by first | exact Or.inl rfl | exact Or.inr rfl) (by first | exact .inl rfl | exact .inr rfl))) (fun _ _ _ _ => j_ctrue) (fun _ _ _ _ => (j_fn D_is_half_at_most G_is_half_at_most (hr.mono (by decide)) (j_cons (j_nameC vd_33 vc_33) j_nil) vd_40 rfl)) fit_name) j_nil) B.b_all rfl vn_all vd_41 vk_is_short_all))) (jb_one (js_ret j_bl)) jb_nil)))
    (jb_one (js_ret (j_not (j_cb (x_any rfl) (j_cons (j_comp (Nc := ["k", "squares", "told"]) (CompSc.look (defScope s_is_short) ["steps", "told", "squares", "own"] (by decide +kernel)) (j_range2 vk_is_short_range B.b_range (j_cons j_int (j_cons (j_cb x_len (j_cons (j_name vd_42 vc_42 (Or.inr (Or.inl vk_is_short_squares))) j_nil) B.b_len rfl vn_len vd_43 vk_is_short_len) j_nil))) (fun _ _ _ _ => (j_tg (show (["k", "squares", "told"] : List Str).Nodup by decide +kernel) (by first | exact Or.inl rfl | exact Or.inr rfl) (by first | exact .inl rfl | exact .inr rfl))) (fun _ _ _ _ => j_ctrue) (fun _ _ _ _ => (j_fn D_falls_too_far G_falls_too_far (hr.mono (by decide)) (j_cons (j_ix (j_nameC vd_42 vc_42) (j_nameC vd_45 vc_45)) (j_cons (j_ix (j_ix (j_ix (j_nameC vd_39 vc_39) j_int) (j_nameC vd_45 vc_45)) (j_op x_sub (j_nameC vd_45 vc_45) j_int)) (j_cons (j_ix (j_nameC vd_42 vc_42) (j_op x_sub (j_nameC vd_45 vc_45) j_int)) j_nil))) vd_46 rfl)) fit_name) j_nil) B.b_any rfl vn_any vd_47 vk_is_short_any)))))))) sp_is_short
abbrev s_law_at : Stmt := top 23
theorem vk_law_at_law_k : (defScope s_law_at).names.lookup ("_law_k" : Str) = some .local := by decide +kernel
theorem vk_law_at_law_script : (defScope s_law_at).names.lookup ("_law_script" : Str) = some .local := by decide +kernel
theorem vk_law_at_len : (defScope s_law_at).names.lookup ("len" : Str) = some .globalImplicit := by decide +kernel
theorem sc_law_at : FnScope N_law_at ["_law_script", "_law_k"] (defScope s_law_at) := ⟨rfl, rfl, rfl, by decide +kernel, rfl, by decide +kernel, by decide +kernel⟩
theorem ok_law_at {f : Addr} {fd : FuncData} (B : Bl mg) (F : DefAt K mg "_law_at" "_law_at" s_law_at ["_law_script", "_law_k"] f fd) :
    FnOk P w K mg base CX0 1 f fd ["_law_script", "_law_k"] (LSp S_law_at) :=
  j_def (N := N_law_at) F.fn sc_law_at (fun cdv A outer s H E hr => (jb_cons (js_if (j_tcmp x_lt (nomark _) (j_name vd_48 vc_48 (Or.inl vk_law_at_law_k)) (j_cb x_len (j_cons (j_name vd_49 vc_49 (Or.inl vk_law_at_law_script)) j_nil) B.b_len rfl vn_len vd_43 vk_law_at_len)) (jb_one (js_ret (j_ix (j_name vd_49 vc_49 (Or.inl vk_law_at_law_script)) (j_name vd_48 vc_48 (Or.inl vk_law_at_law_k))))) jb_nil)
    (jb_one (js_ret j_int)))) sp_law_at
abbrev s_law_left : Stmt := top 24
theorem vk_law_left_law_at : (defScope s_law_left).names.lookup ("_law_at" : Str) = some .globalImplicit := by decide +kernel
theorem vk_law_left_law_cell : (defScope s_law_left).names.lookup ("_law_cell" : Str) = some .local := by decide +kernel
theorem vk_law_left_law_j : (defScope s_law_left).names.lookup ("_law_j" : Str) = some .local := by decide +kernel
theorem vk_law_left_law_k : (defScope s_law_left).names.lookup ("_law_k" : Str) = some .local := by decide +kernel
theorem vk_law_left_law_number_here : (defScope s_law_left).names.lookup ("_law_number_here" : Str) = some .local := by decide +kernel
theorem vk_law_left_law_script : (defScope s_law_left).names.lookup ("_law_script" : Str) = some .local := by decide +kernel
theorem vk_law_left_law_wide : (defScope s_law_left).names.lookup ("_law_wide" : Str) = some .local := by decide +kernel
theorem vk_law_left_abs : (defScope s_law_left).names.lookup ("abs" : Str) = some .globalImplicit := by decide +kernel
theorem vk_law_left_range : (defScope s_law_left).names.lookup ("range" : Str) = some .globalImplicit := by decide +kernel
theorem sc_law_left : FnScope N_law_left ["_law_script", "_law_k"] (defScope s_law_left) := ⟨rfl, rfl, rfl, by decide +kernel, rfl, by decide +kernel, by decide +kernel⟩
theorem ok_law_left {f : Addr} {fd : FuncData} (B : Bl mg) (F : DefAt K mg "_law_left" "_law_left" s_law_left ["_law_script", "_law_k"] f fd) {a_law_at : Addr} {d_law_at : FuncData} (D_law_at : DefAt K mg "_law_at" "_law_at" s_law_at ["_law_script", "_law_k"] a_law_at d_law_at) (G_law_at : FnOk P w K mg base CX0 1 a_law_at d_law_at ["_law_script", "_law_k"] (LSp S_law_at)) :
    FnOk P w K mg base CX0 2 f fd ["_law_script", "_law_k"] (LSp S_law_left) :=
  j_def (N := N_law_left) F.fn sc_law_left (fun cdv A outer s H E hr => (jb_cons (js_set sc_law_left.nd (Or.inl vk_law_left_law_cell) (j_fn D_law_at G_law_at (hr.mono (by decide)) (j_cons (j_name vd_49 vc_49 (Or.inl vk_law_left_law_script)) (j_cons (j_name vd_48 vc_48 (Or.inl vk_law_left_law_k)) j_nil)) vd_50 vk_law_left_law_at))
    (jb_cons (js_if (j_tcmp x_ge (nomark _) (j_cb x_abs (j_cons (j_name vd_51 vc_51 (Or.inl vk_law_left_law_cell)) j_nil) B.b_abs rfl vn_abs vd_1 vk_law_left_abs) (j_op x_pow j_int j_int)) (jb_one (js_ret (j_new (j_cons (j_cb x_abs (j_cons (j_name vd_51 vc_51 (Or.inl vk_law_left_law_cell)) j_nil) B.b_abs rfl vn_abs vd_1 vk_law_left_abs) j_nil)))) jb_nil)
    (jb_cons (js_set sc_law_left.nd (Or.inl vk_law_left_law_number_here) (j_op x_mod (j_op x_mul (j_op x_add (j_op x_add (j_op x_mod (j_name vd_51 vc_51 (Or.inl vk_law_left_law_cell)) j_int) (j_op x_mul j_int (j_name vd_48 vc_48 (Or.inl vk_law_left_law_k)))) j_int) j_int) j_int))
    (jb_cons (js_set sc_law_left.nd (Or.inl vk_law_left_law_wide) j_int)
    (jb_cons (js_for (j_range1 vk_law_left_range B.b_range (j_cons j_int j_nil)) (j_tg sc_law_left.nd (by first | exact Or.inl rfl | exact Or.inr rfl) (by first | exact .inl rfl | exact .inr rfl)) (jb_cons (js_set sc_law_left.nd (Or.inl vk_law_left_law_number_here) (j_op x_mod (j_op x_add (j_op x_add (j_op x_mul (j_name vd_52 vc_52 (Or.inl vk_law_left_law_number_here)) (j_name vd_52 vc_52 (Or.inl vk_law_left_law_number_here))) (j_op x_mul j_int (j_name vd_53 vc_53 (Or.inl vk_law_left_law_j)))) j_int) j_int))
    (jb_one (js_set sc_law_left.nd (Or.inl vk_law_left_law_wide) (j_op x_add (j_op x_mul (j_name vd_54 vc_54 (Or.inl vk_law_left_law_wide)) j_int) (j_name vd_52 vc_52 (Or.inl vk_law_left_law_number_here)))))))
    (jb_one (js_ret (j_new (j_cons (j_name vd_54 vc_54 (Or.inl vk_law_left_law_wide)) j_nil)))))))))) sp_law_left
abbrev s_law_digit : Stmt := top 25
theorem vk_law_digit_law_digit_here : (defScope s_law_digit).names.lookup ("_law_digit_here" : Str) = some .local := by decide +kernel
theorem vk_law_digit_law_left_here : (defScope s_law_digit).names.lookup ("_law_left_here" : Str) = some .local := by decide +kernel
theorem vk_law_digit_law_many : (defScope s_law_digit).names.lookup ("_law_many" : Str) = some .local := by decide +kernel
theorem sc_law_digit : FnScope N_law_digit ["_law_left_here", "_law_many"] (defScope s_law_digit) := ⟨rfl, rfl, rfl, by decide +kernel, rfl, by decide +kernel, by decide +kernel⟩
theorem ok_law_digit {f : Addr} {fd : FuncData} (B : Bl mg) (F : DefAt K mg "_law_digit" "_law_digit" s_law_digit ["_law_left_here", "_law_many"] f fd) :
    FnOk P w K mg base CX0 1 f fd ["_law_left_here", "_law_many"] (LSp S_law_digit) :=
  j_def (N := N_law_digit) F.fn sc_law_digit (fun cdv A outer s H E hr => (jb_cons (js_set sc_law_digit.nd (Or.inl vk_law_digit_law_digit_here) (j_op x_mod (j_ix (j_name vd_55 vc_55 (Or.inl vk_law_digit_law_left_here)) j_int) (j_name vd_56 vc_56 (Or.inl vk_law_digit_law_many))))
    (jb_cons (js_setIx (j_op x_fdiv (j_ix (j_name vd_55 vc_55 (Or.inl vk_law_digit_law_left_here)) j_int) (j_name vd_56 vc_56 (Or.inl vk_law_digit_law_many))) (j_name vd_55 vc_55 (Or.inl vk_law_digit_law_left_here)) j_int)
    (jb_one (js_ret (j_name vd_57 vc_57 (Or.inl vk_law_digit_law_digit_here))))))) sp_law_digit
abbrev s_law_number : Stmt := top 26
theorem vk_law_number_law_digit : (defScope s_law_number).names.lookup ("_law_digit" : Str) = some .globalImplicit := by decide +kernel
theorem vk_law_number_law_kind : (defScope s_law_number).names.lookup ("_law_kind" : Str) = some .local := by decide +kernel
theorem vk_law_number_law_left_here : (defScope s_law_number).names.lookup ("_law_left_here" : Str) = some .local := by decide +kernel
theorem vk_law_number_law_size : (defScope s_law_number).names.lookup ("_law_size" : Str) = some .local := by decide +kernel
theorem sc_law_number : FnScope N_law_number ["_law_left_here", "_law_kind"] (defScope s_law_number) := ⟨rfl, rfl, rfl, by decide +kernel, rfl, by decide +kernel, by decide +kernel⟩
theorem ok_law_number {f : Addr} {fd : FuncData} (B : Bl mg) (F : DefAt K mg "_law_number" "_law_number" s_law_number ["_law_left_here", "_law_kind"] f fd) {a_law_digit : Addr} {d_law_digit : FuncData} (D_law_digit : DefAt K mg "_law_digit" "_law_digit" s_law_digit ["_law_left_here", "_law_many"] a_law_digit d_law_digit) (G_law_digit : FnOk P w K mg base CX0 1 a_law_digit d_law_digit ["_law_left_here", "_law_many"] (LSp S_law_digit)) :
    FnOk P w K mg base CX0 2 f fd ["_law_left_here", "_law_kind"] (LSp S_law_number) :=
  j_def (N := N_law_number) F.fn sc_law_number (fun cdv A outer s H E hr => (jb_cons (js_if (j_tcmp (x_eq hr) (nomark _) (j_name vd_58 vc_58 (Or.inl vk_law_number_law_kind)) j_int) (jb_one (js_ret (j_op x_add (j_op x_sub (j_fn D_law_digit G_law_digit (hr.mono (by decide)) (j_cons (j_name vd_55 vc_55 (Or.inl vk_law_number_law_left_here)) (j_cons (j_op x_sub (j_op x_mul j_int (j_op x_pow j_int j_int)) j_int) j_nil)) vd_59 vk_law_number_law_digit) (j_op x_pow j_int j_int)) j_int))) jb_nil)
    (jb_cons (js_if (j_wpt (j_wand (j_tcmp (x_eq hr) (nomark _) (j_name vd_58 vc_58 (Or.inl vk_law_number_law_kind)) j_int) (j_wand1 (j_tcmp (x_eq hr) (nomark _) (j_fn D_law_digit G_law_digit (hr.mono (by decide)) (j_cons (j_name vd_55 vc_55 (Or.inl vk_law_number_law_left_here)) (j_cons j_int j_nil)) vd_59 vk_law_number_law_digit) j_int)))) (jb_one (js_ret (j_op x_sub (j_fn D_law_digit G_law_digit (hr.mono (by decide)) (j_cons (j_name vd_55 vc_55 (Or.inl vk_law_number_law_left_here)) (j_cons j_int j_nil)) vd_59 vk_law_number_law_digit) j_int))) jb_nil)
    (jb_cons (js_set sc_law_number.nd (Or.inl vk_law_number_law_size) (j_ix (j_lst (j_cons j_int (j_cons j_int (j_cons j_int (j_cons j_int (j_cons j_int j_nil)))))) (j_name vd_58 vc_58 (Or.inl vk_law_number_law_kind))))
    (jb_one (js_ret (j_op x_sub (j_fn D_law_digit G_law_digit (hr.mono (by decide)) (j_cons (j_name vd_55 vc_55 (Or.inl vk_law_number_law_left_here)) (j_cons (j_op x_add (j_op x_mul j_int (j_name vd_60 vc_60 (Or.inl vk_law_number_law_size))) j_int) j_nil)) vd_59 vk_law_number_law_digit) (j_name vd_60 vc_60 (Or.inl vk_law_number_law_size))))))))) sp_law_number
abbrev s_law_rows : Stmt := top 27
theorem vk_law_rows_law_many : (defScope s_law_rows).names.lookup ("_law_many" : Str) = some .local := by decide +kernel
theorem vk_law_rows_range : (defScope s_law_rows).names.lookup ("range" : Str) = some .globalImplicit := by decide +kernel
theorem vk_law_rows_tuple : (defScope s_law_rows).names.lookup ("tuple" : Str) = some .globalImplicit := by decide +kernel
theorem sc_law_rows : FnScope N_law_rows ["_law_left_here", "_law_many", "_law_wide", "_law_kind"] (defScope s_law_rows) := ⟨rfl, rfl, rfl, by decide +kernel, rfl, by decide +kernel, by decide +kernel⟩
theorem ok_law_rows {f : Addr} {fd : FuncData} (B : Bl mg) (F : DefAt K mg "_law_rows" "_law_rows" s_law_rows ["_law_left_here", "_law_many", "_law_wide", "_law_kind"] f fd) {a_law_number : Addr} {d_law_number : FuncData} (D_law_number : DefAt K mg "_law_number" "_law_number" s_law_number ["_law_left_here", "_law_kind"] a_law_number d_law_number) (G_law_number : FnOk P w K mg base CX0 2 a_law_number d_law_number ["_law_left_here", "_law_kind"] (LSp S_law_number)) :
    FnOk P w K mg base CX0 3 f fd ["_law_left_here", "_law_many", "_law_wide", "_law_kind"] (LSp S_law_rows) :=
  j_def (N := N_law_rows) F.fn sc_law_rows (fun cdv A outer s H E hr => (jb_one (js_ret (j_ct x_tuple (j_cons (j_comp (Nc := ["_law_j", "_law_wide", "_law_left_here", "_law_kind"]) (CompSc.look (defScope s_law_rows) ["_law_left_here", "_law_many", "_law_wide", "_law_kind"] (by decide +kernel)) (j_range1 vk_law_rows_range B.b_range (j_cons (j_name vd_56 vc_56 (Or.inl vk_law_rows_law_many)) j_nil)) (fun _ _ _ _ => (j_tg (show (["_law_j", "_law_wide", "_law_left_here", "_law_kind"] : List Str).Nodup by decide +kernel) (by first | exact Or.inl rfl | exact Or.inr rfl) (by first | exact .inl rfl | exact .inr rfl))) (fun _ _ _ _ => j_ctrue) (fun _ _ _ _ => (j_ct x_tuple (j_cons (j_comp (Nc := ["_law_k", "_law_left_here", "_law_kind"]) (CompSc.lookC (by decide +kernel)) (j_range1 rfl B.b_range (j_cons (j_nameC vd_54 vc_54) j_nil)) (fun _ _ _ _ => (j_tg (show (["_law_k", "_law_left_here", "_law_kind"] : List Str).Nodup by decide +kernel) (by first | exact Or.inl rfl | exact Or.inr rfl) (by first | exact .inl rfl | exact .inr rfl))) (fun _ _ _ _ => j_ctrue) (fun _ _ _ _ => (j_fn D_law_number G_law_number (hr.mono (by decide)) (j_cons (j_nameC vd_55 vc_55) (j_cons (j_nameC vd_58 vc_58) j_nil)) vd_61 rfl)) fit_name) j_nil) B.b_tuple rfl vn_tuple vd_29 rfl)) fit_name) j_nil) B.b_tuple rfl vn_tuple vd_29 vk_law_rows_tuple)))) sp_law_rows
abbrev s_law_dot : Stmt := top 28
theorem vk_law_dot_law_one : (defScope s_law_dot).names.lookup ("_law_one" : Str) = some .local := by decide +kernel
theorem vk_law_dot_law_other : (defScope s_law_dot).names.lookup ("_law_other" : Str) = some .local := by decide +kernel
theorem vk_law_dot_sum : (defScope s_law_dot).names.lookup ("sum" : Str) = some .globalImplicit := by decide +kernel
theorem vk_law_dot_zip : (defScope s_law_dot).names.lookup ("zip" : Str) = some .globalImplicit := by decide +kernel
theorem sc_law_dot : FnScope N_law_dot ["_law_one", "_law_other"] (defScope s_law_dot) := ⟨rfl, rfl, rfl, by decide +kernel, rfl, by decide +kernel, by decide +kernel⟩
theorem ok_law_dot {f : Addr} {fd : FuncData} (B : Bl mg) (F : DefAt K mg "_law_dot" "_law_dot" s_law_dot ["_law_one", "_law_other"] f fd) :
    FnOk P w K mg base CX0 1 f fd ["_law_one", "_law_other"] (LSp S_law_dot) :=
  j_def (N := N_law_dot) F.fn sc_law_dot (fun cdv A outer s H E hr => (jb_one (js_ret (j_cb (x_sum rfl) (j_cons (j_comp (Nc := ["_law_a", "_law_b"]) (CompSc.look (defScope s_law_dot) ["_law_one", "_law_other"] (by decide +kernel)) (j_zip vk_law_dot_zip B.b_zip (j_cons (j_name vd_63 vc_63 (Or.inl vk_law_dot_law_one)) (j_cons (j_name vd_62 vc_62 (Or.inl vk_law_dot_law_other)) j_nil))) (fun _ _ _ _ => (j_tg2 rfl (show (["_law_a", "_law_b"] : List Str).Nodup by decide +kernel) (by first | exact Or.inl rfl | exact Or.inr rfl) (by first | exact .inl rfl | exact .inr rfl) (by first | exact Or.inl rfl | exact Or.inr rfl) (by first | exact .inl rfl | exact .inr rfl))) (fun _ _ _ _ => j_ctrue) (fun _ _ _ _ => (j_op x_mul (j_nameC vd_64 vc_64) (j_nameC vd_65 vc_65))) fit_two) j_nil) B.b_sum rfl vn_sum vd_14 vk_law_dot_sum)))) sp_law_dot
abbrev s_law_own : Stmt := top 29
theorem vk_law_own_law_dot : (defScope s_law_own).names.lookup ("_law_dot" : Str) = some .globalImplicit := by decide +kernel
theorem vk_law_own_law_found : (defScope s_law_own).names.lookup ("_law_found" : Str) = some .local := by decide +kernel
theorem vk_law_own_law_grown : (defScope s_law_own).names.lookup ("_law_grown" : Str) = some .local := by decide +kernel
theorem vk_law_own_law_j : (defScope s_law_own).names.lookup ("_law_j" : Str) = some .local := by decide +kernel
theorem vk_law_own_law_k : (defScope s_law_own).names.lookup ("_law_k" : Str) = some .local := by decide +kernel
theorem vk_law_own_law_known : (defScope s_law_own).names.lookup ("_law_known" : Str) = some .local := by decide +kernel
theorem vk_law_own_law_less : (defScope s_law_own).names.lookup ("_law_less" : Str) = some .local := by decide +kernel
theorem vk_law_own_law_other : (defScope s_law_own).names.lookup ("_law_other" : Str) = some .local := by decide +kernel
theorem vk_law_own_law_step : (defScope s_law_own).names.lookup ("_law_step" : Str) = some .local := by decide +kernel
theorem vk_law_own_law_steps : (defScope s_law_own).names.lookup ("_law_steps" : Str) = some .local := by decide +kernel
theorem vk_law_own_law_told : (defScope s_law_own).names.lookup ("_law_told" : Str) = some .local := by decide +kernel
theorem vk_law_own_len : (defScope s_law_own).names.lookup ("len" : Str) = some .globalImplicit := by decide +kernel
theorem vk_law_own_range : (defScope s_law_own).names.lookup ("range" : Str) = some .globalImplicit := by decide +kernel
theorem sc_law_own : FnScope N_law_own ["_law_steps"] (defScope s_law_own) := ⟨rfl, rfl, rfl, by decide +kernel, rfl, by decide +kernel, by decide +kernel⟩
theorem ok_law_own {f : Addr} {fd : FuncData} (B : Bl mg) (F : DefAt K mg "_law_own" "_law_own" s_law_own ["_law_steps"] f fd) {a_law_dot : Addr} {d_law_dot : FuncData} (D_law_dot : DefAt K mg "_law_dot" "_law_dot" s_law_dot ["_law_one", "_law_other"] a_law_dot d_law_dot) (G_law_dot : FnOk P w K mg base CX0 1 a_law_dot d_law_dot ["_law_one", "_law_other"] (LSp S_law_dot)) :
    FnOk P w K mg base CX0 2 f fd ["_law_steps"] (LSp S_law_own) :=
  j_def (N := N_law_own) F.fn sc_law_own (fun cdv A outer s H E hr => (jb_cons (js_set sc_law_own.nd (Or.inl vk_law_own_law_grown) (j_new (j_cons j_int j_nil)))
    (jb_cons (js_set sc_law_own.nd (Or.inl vk_law_own_law_known) (j_new j_nil))
    (jb_cons (js_for (j_seq (j_name vd_66 vc_66 (Or.inl vk_law_own_law_steps))) (j_tg sc_law_own.nd (by first | exact Or.inl rfl | exact Or.inr rfl) (by first | exact .inl rfl | exact .inr rfl)) (jb_cons (js_set sc_law_own.nd (Or.inl vk_law_own_law_found) (j_new j_nil))
    (jb_cons (js_for (j_range1 vk_law_own_range B.b_range (j_cons (j_op x_add (j_cb x_len (j_cons (j_name vd_67 vc_67 (Or.inl vk_law_own_law_known)) j_nil) B.b_len rfl vn_len vd_43 vk_law_own_len) j_int) j_nil)) (j_tg sc_law_own.nd (by first | exact Or.inl rfl | exact Or.inr rfl) (by first | exact .inl rfl | exact .inr rfl)) (jb_cons (js_set sc_law_own.nd (Or.inl vk_law_own_law_told) (j_fn D_law_dot G_law_dot (hr.mono (by decide)) (j_cons (j_name vd_68 vc_68 (Or.inl vk_law_own_law_step)) (j_cons (j_ix (j_name vd_66 vc_66 (Or.inl vk_law_own_law_steps)) (j_name vd_53 vc_53 (Or.inl vk_law_own_law_j))) j_nil)) vd_69 vk_law_own_law_dot))
    (jb_cons (js_set sc_law_own.nd (Or.inl vk_law_own_law_other) (j_ix (j_op x_addQ (j_name vd_67 vc_67 (Or.inl vk_law_own_law_known)) (j_lst (j_cons (j_name vd_70 vc_70 (Or.inl vk_law_own_law_found)) j_nil))) (j_name vd_53 vc_53 (Or.inl vk_law_own_law_j))))
    (jb_cons (js_for (j_range1 vk_law_own_range B.b_range (j_cons (j_name vd_53 vc_53 (Or.inl vk_law_own_law_j)) j_nil)) (j_tg sc_law_own.nd (by first | exact Or.inl rfl | exact Or.inr rfl) (by first | exact .inl rfl | exact .inr rfl)) (jb_cons (js_set sc_law_own.nd (Or.inl vk_law_own_law_less) (j_op x_mul (j_ix (j_name vd_70 vc_70 (Or.inl vk_law_own_law_found)) (j_name vd_48 vc_48 (Or.inl vk_law_own_law_k))) (j_ix (j_name vd_62 vc_62 (Or.inl vk_law_own_law_other)) (j_name vd_48 vc_48 (Or.inl vk_law_own_law_k)))))
    (jb_one (js_set sc_law_own.nd (Or.inl vk_law_own_law_told) (j_op x_fdiv (j_op x_sub (j_op x_mul (j_ix (j_name vd_71 vc_71 (Or.inl vk_law_own_law_grown)) (j_op x_add (j_name vd_48 vc_48 (Or.inl vk_law_own_law_k)) j_int)) (j_name vd_72 vc_72 (Or.inl vk_law_own_law_told))) (j_name vd_73 vc_73 (Or.inl vk_law_own_law_less))) (j_ix (j_name vd_71 vc_71 (Or.inl vk_law_own_law_grown)) (j_name vd_48 vc_48 (Or.inl vk_law_own_law_k))))))))
    (jb_one (js_expr (jx_append (j_name vd_70 vc_70 (Or.inl vk_law_own_law_found)) (j_name vd_72 vc_72 (Or.inl vk_law_own_law_told)))))))))
    (jb_cons (js_if (j_tcmp (x_eq hr) (nomark _) (j_ix (j_name vd_70 vc_70 (Or.inl vk_law_own_law_found)) (j_neg j_int)) j_int) (jb_one (js_ret j_non)) jb_nil)
    (jb_cons (js_expr (jx_append (j_name vd_71 vc_71 (Or.inl vk_law_own_law_grown)) (j_ix (j_name vd_70 vc_70 (Or.inl vk_law_own_law_found)) (j_neg j_int))))
    (jb_one (js_expr (jx_append (j_name vd_67 vc_67 (Or.inl vk_law_own_law_known)) (j_name vd_70 vc_70 (Or.inl vk_law_own_law_found))))))))))
    (jb_one (js_ret (j_tup (j_cons (j_name vd_71 vc_71 (Or.inl vk_law_own_law_grown)) (j_cons (j_name vd_67 vc_67 (Or.inl vk_law_own_law_known)) j_nil))))))))) sp_law_own
abbrev s_law_short : Stmt := top 30
theorem vk_law_short_law_grown : (defScope s_law_short).names.lookup ("_law_grown" : Str) = some .local := by decide +kernel
theorem vk_law_short_law_here : (defScope s_law_short).names.lookup ("_law_here" : Str) = some .local := by decide +kernel
theorem vk_law_short_law_i : (defScope s_law_short).names.lookup ("_law_i" : Str) = some .local := by decide +kernel
theorem vk_law_short_law_j : (defScope s_law_short).names.lookup ("_law_j" : Str) = some .local := by decide +kernel
theorem vk_law_short_law_known : (defScope s_law_short).names.lookup ("_law_known" : Str) = some .local := by decide +kernel
theorem vk_law_short_law_least : (defScope s_law_short).names.lookup ("_law_least" : Str) = some .local := by decide +kernel
theorem vk_law_short_law_own : (defScope s_law_short).names.lookup ("_law_own" : Str) = some .globalImplicit := by decide +kernel
theorem vk_law_short_law_steps : (defScope s_law_short).names.lookup ("_law_steps" : Str) = some .local := by decide +kernel
theorem vk_law_short_law_told : (defScope s_law_short).names.lookup ("_law_told" : Str) = some .local := by decide +kernel
theorem vk_law_short_abs : (defScope s_law_short).names.lookup ("abs" : Str) = some .globalImplicit := by decide +kernel
theorem vk_law_short_len : (defScope s_law_short).names.lookup ("len" : Str) = some .globalImplicit := by decide +kernel
theorem vk_law_short_range : (defScope s_law_short).names.lookup ("range" : Str) = some .globalImplicit := by decide +kernel
theorem sc_law_short : FnScope N_law_short ["_law_steps"] (defScope s_law_short) := ⟨rfl, rfl, rfl, by decide +kernel, rfl, by decide +kernel, by decide +kernel⟩
theorem ok_law_short {f : Addr} {fd : FuncData} (B : Bl mg) (F : DefAt K mg "_law_short" "_law_short" s_law_short ["_law_steps"] f fd) {a_law_own : Addr} {d_law_own : FuncData} (D_law_own : DefAt K mg "_law_own" "_law_own" s_law_own ["_law_steps"] a_law_own d_law_own) (G_law_own : FnOk P w K mg base CX0 2 a_law_own d_law_own ["_law_steps"] (LSp S_law_own)) :
    FnOk P w K mg base CX0 3 f fd ["_law_steps"] (LSp S_law_short) :=
  j_def (N := N_law_short) F.fn sc_law_short (fun cdv A outer s H E hr => (jb_cons (js_set sc_law_short.nd (Or.inl vk_law_short_law_told) (j_fn D_law_own G_law_own (hr.mono (by decide)) (j_cons (j_name vd_66 vc_66 (Or.inl vk_law_short_law_steps)) j_nil) vd_74 vk_law_short_law_own))
    (jb_cons (js_if (j_tcmp x_is (nomark _) (j_name vd_72 vc_72 (Or.inl vk_law_short_law_told)) j_non) (jb_one (js_ret j_bl)) jb_nil)
    (jb_cons (js_asg (j_name vd_72 vc_72 (Or.inl vk_law_short_law_told)) (j_tg2 rfl sc_law_short.nd (by first | exact Or.inl rfl | exact Or.inr rfl) (by first | exact .inl rfl | exact .inr rfl) (by first | exact Or.inl rfl | exact Or.inr rfl) (by first | exact .inl rfl | exact .inr rfl)))
    (jb_cons (js_for (j_range1 vk_law_short_range B.b_range (j_cons (j_cb x_len (j_cons (j_name vd_67 vc_67 (Or.inl vk_law_short_law_known)) j_nil) B.b_len rfl vn_len vd_43 vk_law_short_len) j_nil)) (j_tg sc_law_short.nd (by first | exact Or.inl rfl | exact Or.inr rfl) (by first | exact .inl rfl | exact .inr rfl)) (jb_cons (js_for (j_range1 vk_law_short_range B.b_range (j_cons (j_name vd_75 vc_75 (Or.inl vk_law_short_law_i)) j_nil)) (j_tg sc_law_short.nd (by first | exact Or.inl rfl | exact Or.inr rfl) (by first | exact .inl rfl | exact .inr rfl)) (jb_one (js_if (j_tcmp x_gt (nomark _) (j_op x_mul j_int (j_cb x_abs (j_cons (j_ix (j_ix (j_name vd_67 vc_67 (Or.inl vk_law_short_law_known)) (j_name vd_75 vc_75 (Or.inl vk_law_short_law_i))) (j_name vd_53 vc_53 (Or.inl vk_law_short_law_j))) j_nil) B.b_abs rfl vn_abs vd_1 vk_law_short_abs)) (j_ix (j_name vd_71 vc_71 (Or.inl vk_law_short_law_grown)) (j_op x_add (j_name vd_53 vc_53 (Or.inl vk_law_short_law_j)) j_int))) (jb_one (js_ret j_bl)) jb_nil)))
    (jb_one (js_if (j_tcmp x_gt (nomark _) (j_name vd_75 vc_75 (Or.inl vk_law_short_law_i)) j_int) (jb_cons (js_set sc_law_short.nd (Or.inl vk_law_short_law_here) (j_ix (j_ix (j_name vd_67 vc_67 (Or.inl vk_law_short_law_known)) (j_name vd_75 vc_75 (Or.inl vk_law_short_law_i))) (j_op x_sub (j_name vd_75 vc_75 (Or.inl vk_law_short_law_i)) j_int)))
    (jb_cons (js_set sc_law_short.nd (Or.inl vk_law_short_law_least) (j_op x_sub (j_op x_mul (j_op x_mul j_int (j_ix (j_name vd_71 vc_71 (Or.inl vk_law_short_law_grown)) (j_name vd_75 vc_75 (Or.inl vk_law_short_law_i)))) (j_ix (j_name vd_71 vc_71 (Or.inl vk_law_short_law_grown)) (j_name vd_75 vc_75 (Or.inl vk_law_short_law_i)))) (j_op x_mul (j_op x_mul j_int (j_name vd_76 vc_76 (Or.inl vk_law_short_law_here))) (j_name vd_76 vc_76 (Or.inl vk_law_short_law_here)))))
    (jb_one (js_if (j_tcmp x_lt (nomark _) (j_op x_mul (j_op x_mul j_int (j_ix (j_name vd_71 vc_71 (Or.inl vk_law_short_law_grown)) (j_op x_add (j_name vd_75 vc_75 (Or.inl vk_law_short_law_i)) j_int))) (j_ix (j_name vd_71 vc_71 (Or.inl vk_law_short_law_grown)) (j_op x_sub (j_name vd_75 vc_75 (Or.inl vk_law_short_law_i)) j_int))) (j_name vd_77 vc_77 (Or.inl vk_law_short_law_least))) (jb_one (js_ret j_bl)) jb_nil)))) jb_nil))))
    (jb_one (js_ret j_bl))))))) sp_law_short
abbrev s_law_stairs : Stmt := top 31
theorem vk_law_stairs_law_digit : (defScope s_law_stairs).names.lookup ("_law_digit" : Str) = some .globalImplicit := by decide +kernel
theorem vk_law_stairs_law_k : (defScope s_law_stairs).names.lookup ("_law_k" : Str) = some .local := by decide +kernel
theorem vk_law_stairs_law_left_here : (defScope s_law_stairs).names.lookup ("_law_left_here" : Str) = some .cell := by decide +kernel
theorem vk_law_stairs_law_many : (defScope s_law_stairs).names.lookup ("_law_many" : Str) = some .local := by decide +kernel
theorem vk_law_stairs_law_row : (defScope s_law_stairs).names.lookup ("_law_row" : Str) = some .local := by decide +kernel
theorem vk_law_stairs_law_rows_here : (defScope s_law_stairs).names.lookup ("_law_rows_here" : Str) = some .local := by decide +kernel
theorem vk_law_stairs_law_sizes : (defScope s_law_stairs).names.lookup ("_law_sizes" : Str) = some .local := by decide +kernel
theorem vk_law_stairs_range : (defScope s_law_stairs).names.lookup ("range" : Str) = some .globalImplicit := by decide +kernel
theorem sc_law_stairs : FnScope N_law_stairs ["_law_left_here"] (defScope s_law_stairs) := ⟨rfl, rfl, rfl, by decide +kernel, rfl, by decide +kernel, by decide +kernel⟩
theorem ok_law_stairs {f : Addr} {fd : FuncData} (B : Bl mg) (F : DefAt K mg "_law_stairs" "_law_stairs" s_law_stairs ["_law_left_here"] f fd) {a_law_digit : Addr} {d_law_digit : FuncData} (D_law_digit : DefAt K mg "_law_digit" "_law_digit" s_law_digit ["_law_left_here", "_law_many"] a_law_digit d_law_digit) (G_law_digit : FnOk P w K mg base CX0 1 a_law_digit d_law_digit ["_law_left_here", "_law_many"] (LSp S_law_digit)) :
    FnOk P w K mg base CX0 2 f fd ["_law_left_here"] (LSp S_law_stairs) :=
  j_def (N := N_law_stairs) F.fn sc_law_stairs (fun cdv A outer s H E hr => (jb_cons (js_set sc_law_stairs.nd (Or.inl vk_law_stairs_law_many) (j_op x_add j_int (j_fn D_law_digit G_law_digit (hr.mono (by decide)) (j_cons (j_name vd_55 vc_55 (Or.inr (Or.inl vk_law_stairs_law_left_here))) (j_cons j_int j_nil)) vd_59 vk_law_stairs_law_digit)))
    (jb_cons (js_if (j_tcmp (x_eq hr) (nomark _) (j_fn D_law_digit G_law_digit (hr.mono (by decide)) (j_cons (j_name vd_55 vc_55 (Or.inr (Or.inl vk_law_stairs_law_left_here))) (j_cons j_int j_nil)) vd_59 vk_law_stairs_law_digit) j_int) (jb_one (js_set sc_law_stairs.nd (Or.inl vk_law_stairs_law_many) (j_op x_add j_int (j_op x_mod (j_name vd_56 vc_56 (Or.inl vk_law_stairs_law_many)) j_int)))) jb_nil)
    (jb_cons (js_setC sc_law_stairs.nd (Or.inl vk_law_stairs_law_sizes) (Nc := ["_law_k", "_law_left_here"]) (CompSc.look (defScope s_law_stairs) ["_law_left_here", "_law_many", "_law_sizes", "_law_rows_here", "_law_k", "_law_row"] (by decide +kernel)) (j_range1 vk_law_stairs_range B.b_range (j_cons (j_name vd_56 vc_56 (Or.inl vk_law_stairs_law_many)) j_nil)) (fun _ _ _ _ => (j_tg (show (["_law_k", "_law_left_here"] : List Str).Nodup by decide +kernel) (by first | exact Or.inl rfl | exact Or.inr rfl) (by first | exact .inl rfl | exact .inr rfl))) (fun _ _ _ _ => j_ctrue) (fun _ _ _ _ => (j_op x_add j_int (j_fn D_law_digit G_law_digit (hr.mono (by decide)) (j_cons (j_nameC vd_55 vc_55) (j_cons j_int j_nil)) vd_59 rfl))) fit_name)
    (jb_cons (js_set sc_law_stairs.nd (Or.inl vk_law_stairs_law_rows_here) (j_new j_nil))
    (jb_cons (js_for (j_range1 vk_law_stairs_range B.b_range (j_cons (j_name vd_56 vc_56 (Or.inl vk_law_stairs_law_many)) j_nil)) (j_tg sc_law_stairs.nd (by first | exact Or.inl rfl | exact Or.inr rfl) (by first | exact .inl rfl | exact .inr rfl)) (jb_cons (js_setC sc_law_stairs.nd (Or.inl vk_law_stairs_law_row) (Nc := ["_law_size", "_law_left_here"]) (CompSc.look (defScope s_law_stairs) ["_law_left_here", "_law_many", "_law_sizes", "_law_rows_here", "_law_k", "_law_row"] (by decide +kernel)) (j_seq (j_slice (j_name vd_78 vc_78 (Or.inl vk_law_stairs_law_sizes)) j_onone (j_osome (j_name vd_48 vc_48 (Or.inl vk_law_stairs_law_k))))) (fun _ _ _ _ => (j_tg (show (["_law_size", "_law_left_here"] : List Str).Nodup by decide +kernel) (by first | exact Or.inl rfl | exact Or.inr rfl) (by first | exact .inl rfl | exact .inr rfl))) (fun _ _ _ _ => j_ctrue) (fun _ _ _ _ => (j_op x_sub (j_fn D_law_digit G_law_digit (hr.mono (by decide)) (j_cons (j_nameC vd_55 vc_55) (j_cons (j_op x_add j_int (j_op x_mul (j_op x_fdiv (j_nameC vd_60 vc_60) j_int) j_int)) j_nil)) vd_59 rfl) (j_op x_fdiv (j_nameC vd_60 vc_60) j_int))) fit_name)
    (jb_one (js_expr (jx_append (j_name vd_79 vc_79 (Or.inl vk_law_stairs_law_rows_here)) (j_op x_add (j_op x_add (j_name vd_80 vc_80 (Or.inl vk_law_stairs_law_row)) (j_lst (j_cons (j_ix (j_name vd_78 vc_78 (Or.inl vk_law_stairs_law_sizes)) (j_name vd_48 vc_48 (Or.inl vk_law_stairs_law_k))) j_nil))) (j_op x_mul (j_lst (j_cons j_int j_nil)) (j_op x_sub (j_op x_sub (j_name vd_56 vc_56 (Or.inl vk_law_stairs_law_many)) j_int) (j_name vd_48 vc_48 (Or.inl vk_law_stairs_law_k))))))))))
    (jb_one (js_frz (js_ret (j_name vd_79 vc_79 (Or.inl vk_law_stairs_law_rows_here))))))))))) sp_law_stairs
abbrev s_law_at_bound : Stmt := top 32
theorem vk_law_at_bound_law_digit : (defScope s_law_at_bound).names.lookup ("_law_digit" : Str) = some .globalImplicit := by decide +kernel
theorem vk_law_at_bound_law_first : (defScope s_law_at_bound).names.lookup ("_law_first" : Str) = some .local := by decide +kernel
theorem vk_law_at_bound_law_left_here : (defScope s_law_at_bound).names.lookup ("_law_left_here" : Str) = some .local := by decide +kernel
theorem vk_law_at_bound_law_other : (defScope s_law_at_bound).names.lookup ("_law_other" : Str) = some .local := by decide +kernel
theorem sc_law_at_bound : FnScope N_law_at_bound ["_law_left_here"] (defScope s_law_at_bound) := ⟨rfl, rfl, rfl, by decide +kernel, rfl, by decide +kernel, by decide +kernel⟩
theorem ok_law_at_bound {f : Addr} {fd : FuncData} (B : Bl mg) (F : DefAt K mg "_law_at_bound" "_law_at_bound" s_law_at_bound ["_law_left_here"] f fd) {a_law_digit : Addr} {d_law_digit : FuncData} (D_law_digit : DefAt K mg "_law_digit" "_law_digit" s_law_digit ["_law_left_here", "_law_many"] a_law_digit d_law_digit) (G_law_digit : FnOk P w K mg base CX0 1 a_law_digit d_law_digit ["_law_left_here", "_law_many"] (LSp S_law_digit)) :
    FnOk P w K mg base CX0 2 f fd ["_law_left_here"] (LSp S_law_at_bound) :=
  j_def (N := N_law_at_bound) F.fn sc_law_at_bound (fun cdv A outer s H E hr => (jb_cons (js_set sc_law_at_bound.nd (Or.inl vk_law_at_bound_law_first) (j_ix (j_lst (j_cons (j_lst (j_cons j_int (j_cons j_int (j_cons j_int j_nil)))) (j_cons (j_lst (j_cons j_int (j_cons j_int (j_cons j_int j_nil)))) (j_cons (j_lst (j_cons j_int (j_cons j_int (j_cons j_int j_nil)))) (j_cons (j_lst (j_cons j_int (j_cons j_int (j_cons j_int j_nil)))) j_nil))))) (j_fn D_law_digit G_law_digit (hr.mono (by decide)) (j_cons (j_name vd_55 vc_55 (Or.inl vk_law_at_bound_law_left_here)) (j_cons j_int j_nil)) vd_59 vk_law_at_bound_law_digit)))
    (jb_cons (js_set sc_law_at_bound.nd (Or.inl vk_law_at_bound_law_other) (j_ix (j_lst (j_cons (j_lst (j_cons j_int (j_cons j_int (j_cons j_int j_nil)))) (j_cons (j_lst (j_cons j_int (j_cons (j_neg j_int) (j_cons j_int j_nil)))) (j_cons (j_lst (j_cons (j_neg j_int) (j_cons j_int (j_cons j_int j_nil)))) (j_cons (j_lst (j_cons j_int (j_cons j_int (j_cons j_int j_nil)))) j_nil))))) (j_fn D_law_digit G_law_digit (hr.mono (by decide)) (j_cons (j_name vd_55 vc_55 (Or.inl vk_law_at_bound_law_left_here)) (j_cons j_int j_nil)) vd_59 vk_law_at_bound_law_digit)))
    (jb_cons (js_if (j_tcmp (x_eq hr) (nomark _) (j_fn D_law_digit G_law_digit (hr.mono (by decide)) (j_cons (j_name vd_55 vc_55 (Or.inl vk_law_at_bound_law_left_here)) (j_cons j_int j_nil)) vd_59 vk_law_at_bound_law_digit) j_int) (jb_one (js_set sc_law_at_bound.nd (Or.inl vk_law_at_bound_law_other) (j_ix (j_lst (j_cons (j_lst (j_cons j_int (j_cons j_int (j_cons j_int j_nil)))) (j_cons (j_lst (j_cons (j_neg j_int) (j_cons j_int (j_cons j_int j_nil)))) (j_cons (j_lst (j_cons j_int (j_cons j_int (j_cons j_int j_nil)))) j_nil)))) (j_fn D_law_digit G_law_digit (hr.mono (by decide)) (j_cons (j_name vd_55 vc_55 (Or.inl vk_law_at_bound_law_left_here)) (j_cons j_int j_nil)) vd_59 vk_law_at_bound_law_digit)))) jb_nil)
    (jb_one (js_ret (j_lst (j_cons (j_name vd_81 vc_81 (Or.inl vk_law_at_bound_law_first)) (j_cons (j_name vd_62 vc_62 (Or.inl vk_law_at_bound_law_other)) j_nil))))))))) sp_law_at_bound
abbrev s_law_case : Stmt := top 33
theorem vk_law_case_law_at_bound : (defScope s_law_case).names.lookup ("_law_at_bound" : Str) = some .globalImplicit := by decide +kernel
theorem vk_law_case_law_at_here : (defScope s_law_case).names.lookup ("_law_at_here" : Str) = some .local := by decide +kernel
theorem vk_law_case_law_digit : (defScope s_law_case).names.lookup ("_law_digit" : Str) = some .globalImplicit := by decide +kernel
theorem vk_law_case_law_left_here : (defScope s_law_case).names.lookup ("_law_left_here" : Str) = some .local := by decide +kernel
theorem vk_law_case_law_often : (defScope s_law_case).names.lookup ("_law_often" : Str) = some .cell := by decide +kernel
theorem vk_law_case_law_row : (defScope s_law_case).names.lookup ("_law_row" : Str) = some .local := by decide +kernel
theorem vk_law_case_law_rows : (defScope s_law_case).names.lookup ("_law_rows" : Str) = some .globalImplicit := by decide +kernel
theorem vk_law_case_law_rows_here : (defScope s_law_case).names.lookup ("_law_rows_here" : Str) = some .local := by decide +kernel
theorem vk_law_case_law_stairs : (defScope s_law_case).names.lookup ("_law_stairs" : Str) = some .globalImplicit := by decide +kernel
theorem vk_law_case_law_way : (defScope s_law_case).names.lookup ("_law_way" : Str) = some .local := by decide +kernel
theorem vk_law_case_len : (defScope s_law_case).names.lookup ("len" : Str) = some .globalImplicit := by decide +kernel
theorem vk_law_case_tuple : (defScope s_law_case).names.lookup ("tuple" : Str) = some .globalImplicit := by decide +kernel
theorem sc_law_case : FnScope N_law_case ["_law_left_here"] (defScope s_law_case) := ⟨rfl, rfl, rfl, by decide +kernel, rfl, by decide +kernel, by decide +kernel⟩
theorem ok_law_case {f : Addr} {fd : FuncData} (B : Bl mg) (F : DefAt K mg "_law_case" "_law_case" s_law_case ["_law_left_here"] f fd) {a_law_digit : Addr} {d_law_digit : FuncData} (D_law_digit : DefAt K mg "_law_digit" "_law_digit" s_law_digit ["_law_left_here", "_law_many"] a_law_digit d_law_digit) (G_law_digit : FnOk P w K mg base CX0 1 a_law_digit d_law_digit ["_law_left_here", "_law_many"] (LSp S_law_digit)) {a_law_rows : Addr} {d_law_rows : FuncData} (D_law_rows : DefAt K mg "_law_rows" "_law_rows" s_law_rows ["_law_left_here", "_law_many", "_law_wide", "_law_kind"] a_law_rows d_law_rows) (G_law_rows : FnOk P w K mg base CX0 3 a_law_rows d_law_rows ["_law_left_here", "_law_many", "_law_wide", "_law_kind"] (LSp S_law_rows)) {a_law_stairs : Addr} {d_law_stairs : FuncData} (D_law_stairs : DefAt K mg "_law_stairs" "_law_stairs" s_law_stairs ["_law_left_here"] a_law_stairs d_law_stairs) (G_law_stairs : FnOk P w K mg base CX0 2 a_law_stairs d_law_stairs ["_law_left_here"] (LSp S_law_stairs)) {a_law_at_bound : Addr} {d_law_at_bound : FuncData} (D_law_at_bound : DefAt K mg "_law_at_bound" "_law_at_bound" s_law_at_bound ["_law_left_here"] a_law_at_bound d_law_at_bound) (G_law_at_bound : FnOk P w K mg base CX0 2 a_law_at_bound d_law_at_bound ["_law_left_here"] (LSp S_law_at_bound)) :
    FnOk P w K mg base CX0 4 f fd ["_law_left_here"] (LSp S_law_case) :=
  j_def (N := N_law_case) F.fn sc_law_case (fun cdv A outer s H E hr => (jb_cons (js_set sc_law_case.nd (Or.inl vk_law_case_law_way) (j_fn D_law_digit G_law_digit (hr.mono (by decide)) (j_cons (j_name vd_55 vc_55 (Or.inl vk_law_case_law_left_here)) (j_cons j_int j_nil)) vd_59 vk_law_case_law_digit))
    (jb_cons (js_if (j_tcmp (x_eq hr) (nomark _) (j_name vd_82 vc_82 (Or.inl vk_law_case_law_way)) j_int) (jb_one (js_ret (j_fn D_law_rows G_law_rows (hr.mono (by decide)) (j_cons (j_name vd_55 vc_55 (Or.inl vk_law_case_law_left_here)) (j_cons (j_op x_add j_int (j_fn D_law_digit G_law_digit (hr.mono (by decide)) (j_cons (j_name vd_55 vc_55 (Or.inl vk_law_case_law_left_here)) (j_cons j_int j_nil)) vd_59 vk_law_case_law_digit)) (j_cons j_int (j_cons j_int j_nil)))) vd_83 vk_law_case_law_rows))) jb_nil)
    (jb_cons (js_set sc_law_case.nd (Or.inl vk_law_case_law_rows_here) (j_ifE (j_tcmp (x_eq hr) (nomark _) (j_name vd_82 vc_82 (Or.inl vk_law_case_law_way)) j_int) (j_fn D_law_stairs G_law_stairs (hr.mono (by decide)) (j_cons (j_name vd_55 vc_55 (Or.inl vk_law_case_law_left_here)) j_nil) vd_84 vk_law_case_law_stairs) (j_fn D_law_at_bound G_law_at_bound (hr.mono (by decide)) (j_cons (j_name vd_55 vc_55 (Or.inl vk_law_case_law_left_here)) j_nil) vd_85 vk_law_case_law_at_bound)))
    (jb_cons (js_set sc_law_case.nd (Or.inr vk_law_case_law_often) (j_ix (j_lst (j_cons j_int (j_cons j_int (j_cons j_int (j_cons (j_op x_pow j_int j_int) (j_cons (j_op x_pow j_int j_int) j_nil)))))) (j_fn D_law_digit G_law_digit (hr.mono (by decide)) (j_cons (j_name vd_55 vc_55 (Or.inl vk_law_case_law_left_here)) (j_cons j_int j_nil)) vd_59 vk_law_case_law_digit)))
    (jb_cons (js_setC sc_law_case.nd (Or.inl vk_law_case_law_rows_here) (Nc := ["_law_row", "_law_often"]) (CompSc.look (defScope s_law_case) ["_law_left_here", "_law_way", "_law_rows_here", "_law_often", "_law_row", "_law_at_here"] (by decide +kernel)) (j_seq (j_name vd_79 vc_79 (Or.inl vk_law_case_law_rows_here))) (fun _ _ _ _ => (j_tg (show (["_law_row", "_law_often"] : List Str).Nodup by decide +kernel) (by first | exact Or.inl rfl | exact Or.inr rfl) (by first | exact .inl rfl | exact .inr rfl))) (fun _ _ _ _ => j_ctrue) (fun _ _ _ _ => (j_compN (Nc := ["_law_n", "_law_often"]) (CompSc.lookC (by decide +kernel)) (j_seq (j_nameC vd_80 vc_80)) (fun _ _ _ _ => (j_tg (show (["_law_n", "_law_often"] : List Str).Nodup by decide +kernel) (by first | exact Or.inl rfl | exact Or.inr rfl) (by first | exact .inl rfl | exact .inr rfl))) (fun _ _ _ _ => j_ctrue) (fun _ _ _ _ => (j_op x_mul (j_nameC vd_86 vc_86) (j_nameC vd_87 vc_87))) fit_name)) fit_name)
    (jb_cons (js_if (j_tcmp (x_eq hr) (nomark _) (j_fn D_law_digit G_law_digit (hr.mono (by decide)) (j_cons (j_name vd_55 vc_55 (Or.inl vk_law_case_law_left_here)) (j_cons j_int j_nil)) vd_59 vk_law_case_law_digit) j_int) (jb_cons (js_set sc_law_case.nd (Or.inl vk_law_case_law_row) (j_ix (j_name vd_79 vc_79 (Or.inl vk_law_case_law_rows_here)) (j_fn D_law_digit G_law_digit (hr.mono (by decide)) (j_cons (j_name vd_55 vc_55 (Or.inl vk_law_case_law_left_here)) (j_cons (j_cb x_len (j_cons (j_name vd_79 vc_79 (Or.inl vk_law_case_law_rows_here)) j_nil) B.b_len rfl vn_len vd_43 vk_law_case_len) j_nil)) vd_59 vk_law_case_law_digit)))
    (jb_cons (js_set sc_law_case.nd (Or.inl vk_law_case_law_at_here) (j_fn D_law_digit G_law_digit (hr.mono (by decide)) (j_cons (j_name vd_55 vc_55 (Or.inl vk_law_case_law_left_here)) (j_cons (j_cb x_len (j_cons (j_name vd_80 vc_80 (Or.inl vk_law_case_law_row)) j_nil) B.b_len rfl vn_len vd_43 vk_law_case_len) j_nil)) vd_59 vk_law_case_law_digit))
    (jb_one (js_setIx (j_op x_add (j_ix (j_name vd_80 vc_80 (Or.inl vk_law_case_law_row)) (j_name vd_88 vc_88 (Or.inl vk_law_case_law_at_here))) (j_ix (j_lst (j_cons j_int (j_cons (j_neg j_int) j_nil))) (j_fn D_law_digit G_law_digit (hr.mono (by decide)) (j_cons (j_name vd_55 vc_55 (Or.inl vk_law_case_law_left_here)) (j_cons j_int j_nil)) vd_59 vk_law_case_law_digit))) (j_name vd_80 vc_80 (Or.inl vk_law_case_law_row)) (j_name vd_88 vc_88 (Or.inl vk_law_case_law_at_here)))))) jb_nil)
    (jb_one (js_ret (j_ct x_tuple (j_cons (j_comp (Nc := ["_law_row"]) (CompSc.look (defScope s_law_case) ["_law_left_here", "_law_way", "_law_rows_here", "_law_often", "_law_row", "_law_at_here"] (by decide +kernel)) (j_seq (j_name vd_79 vc_79 (Or.inl vk_law_case_law_rows_here))) (fun _ _ _ _ => (j_tg (show (["_law_row"] : List Str).Nodup by decide +kernel) (by first | exact Or.inl rfl | exact Or.inr rfl) (by first | exact .inl rfl | exact .inr rfl))) (fun _ _ _ _ => j_ctrue) (fun _ _ _ _ => (j_ct x_tuple (j_cons (j_nameC vd_80 vc_80) j_nil) B.b_tuple rfl vn_tuple vd_29 rfl)) fit_name) j_nil) B.b_tuple rfl vn_tuple vd_29 vk_law_case_tuple)))))))))) sp_law_case
abbrev s_law : Stmt := top 34
theorem vk_law_law_case : (defScope s_law).names.lookup ("_law_case" : Str) = some .globalImplicit := by decide +kernel
theorem vk_law_law_found : (defScope s_law).names.lookup ("_law_found" : Str) = some .local := by decide +kernel
theorem vk_law_law_handed : (defScope s_law).names.lookup ("_law_handed" : Str) = some .local := by decide +kernel
theorem vk_law_law_k : (defScope s_law).names.lookup ("_law_k" : Str) = some .local := by decide +kernel
theorem vk_law_law_left : (defScope s_law).names.lookup ("_law_left" : Str) = some .globalImplicit := by decide +kernel
theorem vk_law_law_own : (defScope s_law).names.lookup ("_law_own" : Str) = some .globalImplicit := by decide +kernel
theorem vk_law_law_script : (defScope s_law).names.lookup ("_law_script" : Str) = some .local := by decide +kernel
theorem vk_law_law_short : (defScope s_law).names.lookup ("_law_short" : Str) = some .globalImplicit := by decide +kernel
theorem vk_law_law_steps : (defScope s_law).names.lookup ("_law_steps" : Str) = some .local := by decide +kernel
theorem vk_law_bool : (defScope s_law).names.lookup ("bool" : Str) = some .globalImplicit := by decide +kernel
theorem vk_law_is_short : (defScope s_law).names.lookup ("is_short" : Str) = some .globalImplicit := by decide +kernel
theorem vk_law_isinstance : (defScope s_law).names.lookup ("isinstance" : Str) = some .globalImplicit := by decide +kernel
theorem vk_law_len : (defScope s_law).names.lookup ("len" : Str) = some .globalImplicit := by decide +kernel
theorem vk_law_range : (defScope s_law).names.lookup ("range" : Str) = some .globalImplicit := by decide +kernel
theorem sc_law : FnScope N_law ["_law_script"] (defScope s_law) := ⟨rfl, rfl, rfl, by decide +kernel, rfl, by decide +kernel, by decide +kernel⟩
theorem ok_law {f : Addr} {fd : FuncData} (B : Bl mg) (F : DefAt K mg "law" "law" s_law ["_law_script"] f fd) {a_law_left : Addr} {d_law_left : FuncData} (D_law_left : DefAt K mg "_law_left" "_law_left" s_law_left ["_law_script", "_law_k"] a_law_left d_law_left) (G_law_left : FnOk P w K mg base CX0 2 a_law_left d_law_left ["_law_script", "_law_k"] (LSp S_law_left)) {a_law_case : Addr} {d_law_case : FuncData} (D_law_case : DefAt K mg "_law_case" "_law_case" s_law_case ["_law_left_here"] a_law_case d_law_case) (G_law_case : FnOk P w K mg base CX0 4 a_law_case d_law_case ["_law_left_here"] (LSp S_law_case)) {a_law_own : Addr} {d_law_own : FuncData} (D_law_own : DefAt K mg "_law_own" "_law_own" s_law_own ["_law_steps"] a_law_own d_law_own) (G_law_own : FnOk P w K mg base CX0 2 a_law_own d_law_own ["_law_steps"] (LSp S_law_own)) {a_is_short : Addr} {d_is_short : FuncData} (D_is_short : DefAt K mg "is_short" "is_short" s_is_short ["steps"] a_is_short d_is_short) (G_is_short : FnOk P w K mg base CX0 5 a_is_short d_is_short ["steps"] (LSp S_is_short)) {a_law_short : Addr} {d_law_short : FuncData} (D_law_short : DefAt K mg "_law_short" "_law_short" s_law_short ["_law_steps"] a_law_short d_law_short) (G_law_short : FnOk P w K mg base CX0 3 a_law_short d_law_short ["_law_steps"] (LSp S_law_short)) :
    FnOk P w K mg base CX0 6 f fd ["_law_script"] (LSp S_law) :=
  j_def (N := N_law) F.fn sc_law (fun cdv A outer s H E hr => (jb_cons (js_for (j_range2 vk_law_range B.b_range (j_cons j_int (j_cons (j_op x_add j_int (j_cb x_len (j_cons (j_slice (j_name vd_49 vc_49 (Or.inl vk_law_law_script)) (j_osome j_int) (j_osome j_int)) j_nil) B.b_len rfl vn_len vd_43 vk_law_len)) j_nil))) (j_tg sc_law.nd (by first | exact Or.inl rfl | exact Or.inr rfl) (by first | exact .inl rfl | exact .inr rfl)) (jb_cons (js_set sc_law.nd (Or.inl vk_law_law_steps) (j_fn D_law_case G_law_case (hr.mono (by decide)) (j_cons (j_fn D_law_left G_law_left (hr.mono (by decide)) (j_cons (j_name vd_49 vc_49 (Or.inl vk_law_law_script)) (j_cons (j_name vd_48 vc_48 (Or.inl vk_law_law_k)) j_nil)) vd_89 vk_law_law_left) j_nil) vd_90 vk_law_law_case))
    (jb_cons (js_if (j_tcmp x_is (nomark _) (j_fn D_law_own G_law_own (hr.mono (by decide)) (j_cons (j_name vd_66 vc_66 (Or.inl vk_law_law_steps)) j_nil) vd_74 vk_law_law_own) j_non) (jb_one js_continue) jb_nil)
    (jb_cons (js_setC sc_law.nd (Or.inl vk_law_law_handed) (Nc := ["_law_step"]) (CompSc.look (defScope s_law) ["_law_script", "_law_k", "_law_steps", "_law_handed", "_law_found"] (by decide +kernel)) (j_seq (j_name vd_66 vc_66 (Or.inl vk_law_law_steps))) (fun _ _ _ _ => (j_tg (show (["_law_step"] : List Str).Nodup by decide +kernel) (by first | exact Or.inl rfl | exact Or.inr rfl) (by first | exact .inl rfl | exact .inr rfl))) (fun _ _ _ _ => j_ctrue) (fun _ _ _ _ => (j_ct x_list (j_cons (j_nameC vd_68 vc_68) j_nil) B.b_list rfl vn_list vd_91 rfl)) fit_name)
    (jb_cons (js_set sc_law.nd (Or.inl vk_law_law_found) (j_fn D_is_short G_is_short (hr.mono (by decide)) (j_cons (j_name vd_92 vc_92 (Or.inl vk_law_law_handed)) j_nil) vd_93 vk_law_is_short))
    (jb_cons (js_if (j_wpt (j_wor (j_tnot (j_tval (j_cb x_isi (j_cons (j_name vd_70 vc_70 (Or.inl vk_law_law_found)) (j_cons (j_ty B.b_bool rfl vn_bool vd_94 vk_law_bool) j_nil)) B.b_isinstance rfl vn_isinstance vd_95 vk_law_isinstance))) (j_wor (j_tcmp x_ne (nomark _) (j_name vd_70 vc_70 (Or.inl vk_law_law_found)) (j_fn D_law_short G_law_short (hr.mono (by decide)) (j_cons (j_name vd_66 vc_66 (Or.inl vk_law_law_steps)) j_nil) vd_96 vk_law_law_short)) (j_wor1 (j_tcmp x_ne (nomark _) (j_fn D_is_short G_is_short (hr.mono (by decide)) (j_cons (j_name vd_66 vc_66 (Or.inl vk_law_law_steps)) j_nil) vd_93 vk_law_is_short) (j_name vd_70 vc_70 (Or.inl vk_law_law_found))))))) (jb_one (js_ret j_bl)) jb_nil)
    (jb_one (js_if (j_tcmp (x_neD hr) (nomark _) (j_name vd_92 vc_92 (Or.inl vk_law_law_handed)) (j_comp (Nc := ["_law_step"]) (CompSc.look (defScope s_law) ["_law_script", "_law_k", "_law_steps", "_law_handed", "_law_found"] (by decide +kernel)) (j_seq (j_name vd_66 vc_66 (Or.inl vk_law_law_steps))) (fun _ _ _ _ => (j_tg (show (["_law_step"] : List Str).Nodup by decide +kernel) (by first | exact Or.inl rfl | exact Or.inr rfl) (by first | exact .inl rfl | exact .inr rfl))) (fun _ _ _ _ => j_ctrue) (fun _ _ _ _ => (j_ct x_list (j_cons (j_nameC vd_68 vc_68) j_nil) B.b_list rfl vn_list vd_91 rfl)) fit_name)) (jb_one (js_ret j_bl)) jb_nil))))))))
    (jb_one (js_ret j_bl)))) sp_law
end
theorem all_mk {l : PySem.W.OpenLaw} {w : World} {K : PySem.W.Frag} {h : Heap} {mg : Str → Option Value} {fa : Addr} (X : K.In h) (G : h.Ns mainGlobals mg) (hfa : mg "law" = some (.ref fa))
    {od0 an0 : Option Addr} {sl0 : Array (Option Value)} {oc0 kV0 dc0 pm0 cd0 ct0 : Value} {f0 : Addr}
    {od1 an1 : Option Addr} {sl1 : Array (Option Value)} {oc1 kV1 dc1 pm1 cd1 ct1 : Value} {f1 : Addr}
    {od2 an2 : Option Addr} {sl2 : Array (Option Value)} {oc2 kV2 dc2 pm2 cd2 ct2 : Value} {f2 : Addr}
    {od3 an3 : Option Addr} {sl3 : Array (Option Value)} {oc3 kV3 dc3 pm3 cd3 ct3 : Value} {f3 : Addr}
    {od4 an4 : Option Addr} {sl4 : Array (Option Value)} {oc4 kV4 dc4 pm4 cd4 ct4 : Value} {f4 : Addr}
    {od5 an5 : Option Addr} {sl5 : Array (Option Value)} {oc5 kV5 dc5 pm5 cd5 ct5 : Value} {f5 : Addr}
    {od6 an6 : Option Addr} {sl6 : Array (Option Value)} {oc6 kV6 dc6 pm6 cd6 ct6 : Value} {f6 : Addr}
    {od7 an7 : Option Addr} {sl7 : Array (Option Value)} {oc7 kV7 dc7 pm7 cd7 ct7 : Value} {f7 : Addr}
    {od8 an8 : Option Addr} {sl8 : Array (Option Value)} {oc8 kV8 dc8 pm8 cd8 ct8 : Value} {f8 : Addr}
    {od9 an9 : Option Addr} {sl9 : Array (Option Value)} {oc9 kV9 dc9 pm9 cd9 ct9 : Value} {f9 : Addr}
    {od10 an10 : Option Addr} {sl10 : Array (Option Value)} {oc10 kV10 dc10 pm10 cd10 ct10 : Value} {f10 : Addr}
    {od11 an11 : Option Addr} {sl11 : Array (Option Value)} {oc11 kV11 dc11 pm11 cd11 ct11 : Value} {f11 : Addr}
    {od12 an12 : Option Addr} {sl12 : Array (Option Value)} {oc12 kV12 dc12 pm12 cd12 ct12 : Value} {f12 : Addr}
    {od13 an13 : Option Addr} {sl13 : Array (Option Value)} {oc13 kV13 dc13 pm13 cd13 ct13 : Value} {f13 : Addr}
    {od14 an14 : Option Addr} {sl14 : Array (Option Value)} {oc14 kV14 dc14 pm14 cd14 ct14 : Value} {f14 : Addr}
    {od15 an15 : Option Addr} {sl15 : Array (Option Value)} {oc15 kV15 dc15 pm15 cd15 ct15 : Value} {f15 : Addr}
    {od16 an16 : Option Addr} {sl16 : Array (Option Value)} {oc16 kV16 dc16 pm16 cd16 ct16 : Value} {f16 : Addr}
    {od17 an17 : Option Addr} {sl17 : Array (Option Value)} {oc17 kV17 dc17 pm17 cd17 ct17 : Value} {f17 : Addr}
    {od18 an18 : Option Addr} {sl18 : Array (Option Value)} {oc18 kV18 dc18 pm18 cd18 ct18 : Value} {f18 : Addr}
    {od19 an19 : Option Addr} {sl19 : Array (Option Value)} {oc19 kV19 dc19 pm19 cd19 ct19 : Value} {f19 : Addr}
    {od20 an20 : Option Addr} {sl20 : Array (Option Value)} {oc20 kV20 dc20 pm20 cd20 ct20 : Value} {f20 : Addr}
    {od21 an21 : Option Addr} {sl21 : Array (Option Value)} {oc21 kV21 dc21 pm21 cd21 ct21 : Value} {f21 : Addr}
    {od22 an22 : Option Addr} {sl22 : Array (Option Value)} {oc22 kV22 dc22 pm22 cd22 ct22 : Value} {f22 : Addr}
    {od23 an23 : Option Addr} {sl23 : Array (Option Value)} {oc23 kV23 dc23 pm23 cd23 ct23 : Value} {f23 : Addr}
    {od24 an24 : Option Addr} {sl24 : Array (Option Value)} {oc24 kV24 dc24 pm24 cd24 ct24 : Value} {f24 : Addr}
    {od25 an25 : Option Addr} {sl25 : Array (Option Value)} {oc25 kV25 dc25 pm25 cd25 ct25 : Value} {f25 : Addr}
    {od26 an26 : Option Addr} {sl26 : Array (Option Value)} {oc26 kV26 dc26 pm26 cd26 ct26 : Value} {f26 : Addr}
    (a0 : PySem.W.nsIn K mainGlobals "common" = some (some (.ref f0))) (l0 : K.lookup f0 = some ⟨oc0, od0, .func (PySem.W.fnOf "common" "common" (defArgs s_common) (defBody s_common) (defScope s_common) .none kV0 dc0 pm0 an0 cd0 ct0), sl0⟩) (c0 : PySem.W.codeIn K cd0 "common" = true) (k0 : PySem.W.keepIn K (.ref f0) = true)
    (a1 : PySem.W.nsIn K mainGlobals "part" = some (some (.ref f1))) (l1 : K.lookup f1 = some ⟨oc1, od1, .func (PySem.W.fnOf "part" "part" (defArgs s_part) (defBody s_part) (defScope s_part) .none kV1 dc1 pm1 an1 cd1 ct1), sl1⟩) (c1 : PySem.W.codeIn K cd1 "part" = true) (k1 : PySem.W.keepIn K (.ref f1) = true)
    (a2 : PySem.W.nsIn K mainGlobals "minus" = some (some (.ref f2))) (l2 : K.lookup f2 = some ⟨oc2, od2, .func (PySem.W.fnOf "minus" "minus" (defArgs s_minus) (defBody s_minus) (defScope s_minus) .none kV2 dc2 pm2 an2 cd2 ct2), sl2⟩) (c2 : PySem.W.codeIn K cd2 "minus" = true) (k2 : PySem.W.keepIn K (.ref f2) = true)
    (a3 : PySem.W.nsIn K mainGlobals "times" = some (some (.ref f3))) (l3 : K.lookup f3 = some ⟨oc3, od3, .func (PySem.W.fnOf "times" "times" (defArgs s_times) (defBody s_times) (defScope s_times) .none kV3 dc3 pm3 an3 cd3 ct3), sl3⟩) (c3 : PySem.W.codeIn K cd3 "times" = true) (k3 : PySem.W.keepIn K (.ref f3) = true)
    (a4 : PySem.W.nsIn K mainGlobals "before" = some (some (.ref f4))) (l4 : K.lookup f4 = some ⟨oc4, od4, .func (PySem.W.fnOf "before" "before" (defArgs s_before) (defBody s_before) (defScope s_before) .none kV4 dc4 pm4 an4 cd4 ct4), sl4⟩) (c4 : PySem.W.codeIn K cd4 "before" = true) (k4 : PySem.W.keepIn K (.ref f4) = true)
    (a5 : PySem.W.nsIn K mainGlobals "dot" = some (some (.ref f5))) (l5 : K.lookup f5 = some ⟨oc5, od5, .func (PySem.W.fnOf "dot" "dot" (defArgs s_dot) (defBody s_dot) (defScope s_dot) .none kV5 dc5 pm5 an5 cd5 ct5), sl5⟩) (c5 : PySem.W.codeIn K cd5 "dot" = true) (k5 : PySem.W.keepIn K (.ref f5) = true)
    (a6 : PySem.W.nsIn K mainGlobals "cleared" = some (some (.ref f6))) (l6 : K.lookup f6 = some ⟨oc6, od6, .func (PySem.W.fnOf "cleared" "cleared" (defArgs s_cleared) (defBody s_cleared) (defScope s_cleared) .none kV6 dc6 pm6 an6 cd6 ct6), sl6⟩) (c6 : PySem.W.codeIn K cd6 "cleared" = true) (k6 : PySem.W.keepIn K (.ref f6) = true)
    (a7 : PySem.W.nsIn K mainGlobals "line_of" = some (some (.ref f7))) (l7 : K.lookup f7 = some ⟨oc7, od7, .func (PySem.W.fnOf "line_of" "line_of" (defArgs s_line_of) (defBody s_line_of) (defScope s_line_of) .none kV7 dc7 pm7 an7 cd7 ct7), sl7⟩) (c7 : PySem.W.codeIn K cd7 "line_of" = true) (k7 : PySem.W.keepIn K (.ref f7) = true)
    (a8 : PySem.W.nsIn K mainGlobals "table_of" = some (some (.ref f8))) (l8 : K.lookup f8 = some ⟨oc8, od8, .func (PySem.W.fnOf "table_of" "table_of" (defArgs s_table_of) (defBody s_table_of) (defScope s_table_of) .none kV8 dc8 pm8 an8 cd8 ct8), sl8⟩) (c8 : PySem.W.codeIn K cd8 "table_of" = true) (k8 : PySem.W.keepIn K (.ref f8) = true)
    (a9 : PySem.W.nsIn K mainGlobals "squares_in" = some (some (.ref f9))) (l9 : K.lookup f9 = some ⟨oc9, od9, .func (PySem.W.fnOf "squares_in" "squares_in" (defArgs s_squares_in) (defBody s_squares_in) (defScope s_squares_in) .none kV9 dc9 pm9 an9 cd9 ct9), sl9⟩) (c9 : PySem.W.codeIn K cd9 "squares_in" = true) (k9 : PySem.W.keepIn K (.ref f9) = true)
    (a10 : PySem.W.nsIn K mainGlobals "shares_in" = some (some (.ref f10))) (l10 : K.lookup f10 = some ⟨oc10, od10, .func (PySem.W.fnOf "shares_in" "shares_in" (defArgs s_shares_in) (defBody s_shares_in) (defScope s_shares_in) .none kV10 dc10 pm10 an10 cd10 ct10), sl10⟩) (c10 : PySem.W.codeIn K cd10 "shares_in" = true) (k10 : PySem.W.keepIn K (.ref f10) = true)
    (a11 : PySem.W.nsIn K mainGlobals "shares" = some (some (.ref f11))) (l11 : K.lookup f11 = some ⟨oc11, od11, .func (PySem.W.fnOf "shares" "shares" (defArgs s_shares) (defBody s_shares) (defScope s_shares) .none kV11 dc11 pm11 an11 cd11 ct11), sl11⟩) (c11 : PySem.W.codeIn K cd11 "shares" = true) (k11 : PySem.W.keepIn K (.ref f11) = true)
    (a12 : PySem.W.nsIn K mainGlobals "is_half_at_most" = some (some (.ref f12))) (l12 : K.lookup f12 = some ⟨oc12, od12, .func (PySem.W.fnOf "is_half_at_most" "is_half_at_most" (defArgs s_is_half_at_most) (defBody s_is_half_at_most) (defScope s_is_half_at_most) .none kV12 dc12 pm12 an12 cd12 ct12), sl12⟩) (c12 : PySem.W.codeIn K cd12 "is_half_at_most" = true) (k12 : PySem.W.keepIn K (.ref f12) = true)
    (a13 : PySem.W.nsIn K mainGlobals "falls_too_far" = some (some (.ref f13))) (l13 : K.lookup f13 = some ⟨oc13, od13, .func (PySem.W.fnOf "falls_too_far" "falls_too_far" (defArgs s_falls_too_far) (defBody s_falls_too_far) (defScope s_falls_too_far) .none kV13 dc13 pm13 an13 cd13 ct13), sl13⟩) (c13 : PySem.W.codeIn K cd13 "falls_too_far" = true) (k13 : PySem.W.keepIn K (.ref f13) = true)
    (a14 : PySem.W.nsIn K mainGlobals "is_short" = some (some (.ref f14))) (l14 : K.lookup f14 = some ⟨oc14, od14, .func (PySem.W.fnOf "is_short" "is_short" (defArgs s_is_short) (defBody s_is_short) (defScope s_is_short) .none kV14 dc14 pm14 an14 cd14 ct14), sl14⟩) (c14 : PySem.W.codeIn K cd14 "is_short" = true) (k14 : PySem.W.keepIn K (.ref f14) = true)
    (a15 : PySem.W.nsIn K mainGlobals "_law_at" = some (some (.ref f15))) (l15 : K.lookup f15 = some ⟨oc15, od15, .func (PySem.W.fnOf "_law_at" "_law_at" (defArgs s_law_at) (defBody s_law_at) (defScope s_law_at) .none kV15 dc15 pm15 an15 cd15 ct15), sl15⟩) (c15 : PySem.W.codeIn K cd15 "_law_at" = true) (k15 : PySem.W.keepIn K (.ref f15) = true)
    (a16 : PySem.W.nsIn K mainGlobals "_law_left" = some (some (.ref f16))) (l16 : K.lookup f16 = some ⟨oc16, od16, .func (PySem.W.fnOf "_law_left" "_law_left" (defArgs s_law_left) (defBody s_law_left) (defScope s_law_left) .none kV16 dc16 pm16 an16 cd16 ct16), sl16⟩) (c16 : PySem.W.codeIn K cd16 "_law_left" = true) (k16 : PySem.W.keepIn K (.ref f16) = true)
    (a17 : PySem.W.nsIn K mainGlobals "_law_digit" = some (some (.ref f17))) (l17 : K.lookup f17 = some ⟨oc17, od17, .func (PySem.W.fnOf "_law_digit" "_law_digit" (defArgs s_law_digit) (defBody s_law_digit) (defScope s_law_digit) .none kV17 dc17 pm17 an17 cd17 ct17), sl17⟩) (c17 : PySem.W.codeIn K cd17 "_law_digit" = true) (k17 : PySem.W.keepIn K (.ref f17) = true)
    (a18 : PySem.W.nsIn K mainGlobals "_law_number" = some (some (.ref f18))) (l18 : K.lookup f18 = some ⟨oc18, od18, .func (PySem.W.fnOf "_law_number" "_law_number" (defArgs s_law_number) (defBody s_law_number) (defScope s_law_number) .none kV18 dc18 pm18 an18 cd18 ct18), sl18⟩) (c18 : PySem.W.codeIn K cd18 "_law_number" = true) (k18 : PySem.W.keepIn K (.ref f18) = true)
    (a19 : PySem.W.nsIn K mainGlobals "_law_rows" = some (some (.ref f19))) (l19 : K.lookup f19 = some ⟨oc19, od19, .func (PySem.W.fnOf "_law_rows" "_law_rows" (defArgs s_law_rows) (defBody s_law_rows) (defScope s_law_rows) .none kV19 dc19 pm19 an19 cd19 ct19), sl19⟩) (c19 : PySem.W.codeIn K cd19 "_law_rows" = true) (k19 : PySem.W.keepIn K (.ref f19) = true)
    (a20 : PySem.W.nsIn K mainGlobals "_law_dot" = some (some (.ref f20))) (l20 : K.lookup f20 = some ⟨oc20, od20, .func (PySem.W.fnOf "_law_dot" "_law_dot" (defArgs s_law_dot) (defBody s_law_dot) (defScope s_law_dot) .none kV20 dc20 pm20 an20 cd20 ct20), sl20⟩) (c20 : PySem.W.codeIn K cd20 "_law_dot" = true) (k20 : PySem.W.keepIn K (.ref f20) = true)
    (a21 : PySem.W.nsIn K mainGlobals "_law_own" = some (some (.ref f21))) (l21 : K.lookup f21 = some ⟨oc21, od21, .func (PySem.W.fnOf "_law_own" "_law_own" (defArgs s_law_own) (defBody s_law_own) (defScope s_law_own) .none kV21 dc21 pm21 an21 cd21 ct21), sl21⟩) (c21 : PySem.W.codeIn K cd21 "_law_own" = true) (k21 : PySem.W.keepIn K (.ref f21) = true)
    (a22 : PySem.W.nsIn K mainGlobals "_law_short" = some (some (.ref f22))) (l22 : K.lookup f22 = some ⟨oc22, od22, .func (PySem.W.fnOf "_law_short" "_law_short" (defArgs s_law_short) (defBody s_law_short) (defScope s_law_short) .none kV22 dc22 pm22 an22 cd22 ct22), sl22⟩) (c22 : PySem.W.codeIn K cd22 "_law_short" = true) (k22 : PySem.W.keepIn K (.ref f22) = true)
    (a23 : PySem.W.nsIn K mainGlobals "_law_stairs" = some (some (.ref f23))) (l23 : K.lookup f23 = some ⟨oc23, od23, .func (PySem.W.fnOf "_law_stairs" "_law_stairs" (defArgs s_law_stairs) (defBody s_law_stairs) (defScope s_law_stairs) .none kV23 dc23 pm23 an23 cd23 ct23), sl23⟩) (c23 : PySem.W.codeIn K cd23 "_law_stairs" = true) (k23 : PySem.W.keepIn K (.ref f23) = true)
    (a24 : PySem.W.nsIn K mainGlobals "_law_at_bound" = some (some (.ref f24))) (l24 : K.lookup f24 = some ⟨oc24, od24, .func (PySem.W.fnOf "_law_at_bound" "_law_at_bound" (defArgs s_law_at_bound) (defBody s_law_at_bound) (defScope s_law_at_bound) .none kV24 dc24 pm24 an24 cd24 ct24), sl24⟩) (c24 : PySem.W.codeIn K cd24 "_law_at_bound" = true) (k24 : PySem.W.keepIn K (.ref f24) = true)
    (a25 : PySem.W.nsIn K mainGlobals "_law_case" = some (some (.ref f25))) (l25 : K.lookup f25 = some ⟨oc25, od25, .func (PySem.W.fnOf "_law_case" "_law_case" (defArgs s_law_case) (defBody s_law_case) (defScope s_law_case) .none kV25 dc25 pm25 an25 cd25 ct25), sl25⟩) (c25 : PySem.W.codeIn K cd25 "_law_case" = true) (k25 : PySem.W.keepIn K (.ref f25) = true)
    (a26 : PySem.W.nsIn K mainGlobals "law" = some (some (.ref f26))) (l26 : K.lookup f26 = some ⟨oc26, od26, .func (PySem.W.fnOf "law" "law" (defArgs s_law) (defBody s_law) (defScope s_law) .none kV26 dc26 pm26 an26 cd26 ct26), sl26⟩) (c26 : PySem.W.codeIn K cd26 "law" = true) (k26 : PySem.W.keepIn K (.ref f26) = true)
    (z_abs : PySem.W.nsIn K mainGlobals "abs" = some none)
    (z_zip : PySem.W.nsIn K mainGlobals "zip" = some none)
    (z_sum : PySem.W.nsIn K mainGlobals "sum" = some none)
    (z_tuple : PySem.W.nsIn K mainGlobals "tuple" = some none)
    (z_all : PySem.W.nsIn K mainGlobals "all" = some none)
    (z_range : PySem.W.nsIn K mainGlobals "range" = some none)
    (z_len : PySem.W.nsIn K mainGlobals "len" = some none)
    (z_any : PySem.W.nsIn K mainGlobals "any" = some none)
    (z_list : PySem.W.nsIn K mainGlobals "list" = some none)
    (z_bool : PySem.W.nsIn K mainGlobals "bool" = some none)
    (z_isinstance : PySem.W.nsIn K mainGlobals "isinstance" = some none)
    (nl : noList K = true) :
    ∃ fd : FuncData, (∀ (s : Shared) (v : Value), BindsTo s fd ⟨[v], []⟩ [("_law_script", v)]) ∧ ∀ base : Heap, K.In base → base.Ns mainGlobals mg → FnOk l.prog w K mg base CX0 6 fa fd ["_law_script"] (lawSp K) := by
  have e := hfa.symm.trans (PySem.W.mg_of X G a26)
  cases e
  have B : Bl mg := ⟨PySem.W.mg_none_of X G z_abs, PySem.W.mg_none_of X G z_zip, PySem.W.mg_none_of X G z_sum, PySem.W.mg_none_of X G z_tuple, PySem.W.mg_none_of X G z_all, PySem.W.mg_none_of X G z_range, PySem.W.mg_none_of X G z_len, PySem.W.mg_none_of X G z_any, PySem.W.mg_none_of X G z_list, PySem.W.mg_none_of X G z_bool, PySem.W.mg_none_of X G z_isinstance⟩
  have F0 := fun_mk (st := s_common) l0 c0 k0
  have D0 : DefAt K mg "common" "common" s_common ["one", "other"] f0 _ := ⟨F0, PySem.W.mg_of X G a0, F0.binds (ps := ["one", "other"]) fun _ _ _ _ _ _ us hl => match us, hl with | [_, _], _ => rfl⟩
  have F1 := fun_mk (st := s_part) l1 c1 k1
  have D1 : DefAt K mg "part" "part" s_part ["top", "bottom"] f1 _ := ⟨F1, PySem.W.mg_of X G a1, F1.binds (ps := ["top", "bottom"]) fun _ _ _ _ _ _ us hl => match us, hl with | [_, _], _ => rfl⟩
  have F2 := fun_mk (st := s_minus) l2 c2 k2
  have D2 : DefAt K mg "minus" "minus" s_minus ["one", "other"] f2 _ := ⟨F2, PySem.W.mg_of X G a2, F2.binds (ps := ["one", "other"]) fun _ _ _ _ _ _ us hl => match us, hl with | [_, _], _ => rfl⟩
  have F3 := fun_mk (st := s_times) l3 c3 k3
  have D3 : DefAt K mg "times" "times" s_times ["one", "other"] f3 _ := ⟨F3, PySem.W.mg_of X G a3, F3.binds (ps := ["one", "other"]) fun _ _ _ _ _ _ us hl => match us, hl with | [_, _], _ => rfl⟩
  have F4 := fun_mk (st := s_before) l4 c4 k4
  have D4 : DefAt K mg "before" "before" s_before ["one", "other"] f4 _ := ⟨F4, PySem.W.mg_of X G a4, F4.binds (ps := ["one", "other"]) fun _ _ _ _ _ _ us hl => match us, hl with | [_, _], _ => rfl⟩
  have F5 := fun_mk (st := s_dot) l5 c5 k5
  have D5 : DefAt K mg "dot" "dot" s_dot ["one", "other"] f5 _ := ⟨F5, PySem.W.mg_of X G a5, F5.binds (ps := ["one", "other"]) fun _ _ _ _ _ _ us hl => match us, hl with | [_, _], _ => rfl⟩
  have F6 := fun_mk (st := s_cleared) l6 c6 k6
  have D6 : DefAt K mg "cleared" "cleared" s_cleared ["together", "table", "one", "other"] f6 _ := ⟨F6, PySem.W.mg_of X G a6, F6.binds (ps := ["together", "table", "one", "other"]) fun _ _ _ _ _ _ us hl => match us, hl with | [_, _, _, _], _ => rfl⟩
  have F7 := fun_mk (st := s_line_of) l7 c7 k7
  have D7 : DefAt K mg "line_of" "line_of" s_line_of ["table", "steps", "row"] f7 _ := ⟨F7, PySem.W.mg_of X G a7, F7.binds (ps := ["table", "steps", "row"]) fun _ _ _ _ _ _ us hl => match us, hl with | [_, _, _], _ => rfl⟩
  have F8 := fun_mk (st := s_table_of) l8 c8 k8
  have D8 : DefAt K mg "table_of" "table_of" s_table_of ["steps"] f8 _ := ⟨F8, PySem.W.mg_of X G a8, F8.binds (ps := ["steps"]) fun _ _ _ _ _ _ us hl => match us, hl with | [_], _ => rfl⟩
  have F9 := fun_mk (st := s_squares_in) l9 c9 k9
  have D9 : DefAt K mg "squares_in" "squares_in" s_squares_in ["table"] f9 _ := ⟨F9, PySem.W.mg_of X G a9, F9.binds (ps := ["table"]) fun _ _ _ _ _ _ us hl => match us, hl with | [_], _ => rfl⟩
  have F10 := fun_mk (st := s_shares_in) l10 c10 k10
  have D10 : DefAt K mg "shares_in" "shares_in" s_shares_in ["table", "line"] f10 _ := ⟨F10, PySem.W.mg_of X G a10, F10.binds (ps := ["table", "line"]) fun _ _ _ _ _ _ us hl => match us, hl with | [_, _], _ => rfl⟩
  have F11 := fun_mk (st := s_shares) l11 c11 k11
  have D11 : DefAt K mg "shares" "shares" s_shares ["steps"] f11 _ := ⟨F11, PySem.W.mg_of X G a11, F11.binds (ps := ["steps"]) fun _ _ _ _ _ _ us hl => match us, hl with | [_], _ => rfl⟩
  have F12 := fun_mk (st := s_is_half_at_most) l12 c12 k12
  have D12 : DefAt K mg "is_half_at_most" "is_half_at_most" s_is_half_at_most ["share"] f12 _ := ⟨F12, PySem.W.mg_of X G a12, F12.binds (ps := ["share"]) fun _ _ _ _ _ _ us hl => match us, hl with | [_], _ => rfl⟩
  have F13 := fun_mk (st := s_falls_too_far) l13 c13 k13
  have D13 : DefAt K mg "falls_too_far" "falls_too_far" s_falls_too_far ["square", "share", "ahead"] f13 _ := ⟨F13, PySem.W.mg_of X G a13, F13.binds (ps := ["square", "share", "ahead"]) fun _ _ _ _ _ _ us hl => match us, hl with | [_, _, _], _ => rfl⟩
  have F14 := fun_mk (st := s_is_short) l14 c14 k14
  have D14 : DefAt K mg "is_short" "is_short" s_is_short ["steps"] f14 _ := ⟨F14, PySem.W.mg_of X G a14, F14.binds (ps := ["steps"]) fun _ _ _ _ _ _ us hl => match us, hl with | [_], _ => rfl⟩
  have F15 := fun_mk (st := s_law_at) l15 c15 k15
  have D15 : DefAt K mg "_law_at" "_law_at" s_law_at ["_law_script", "_law_k"] f15 _ := ⟨F15, PySem.W.mg_of X G a15, F15.binds (ps := ["_law_script", "_law_k"]) fun _ _ _ _ _ _ us hl => match us, hl with | [_, _], _ => rfl⟩
  have F16 := fun_mk (st := s_law_left) l16 c16 k16
  have D16 : DefAt K mg "_law_left" "_law_left" s_law_left ["_law_script", "_law_k"] f16 _ := ⟨F16, PySem.W.mg_of X G a16, F16.binds (ps := ["_law_script", "_law_k"]) fun _ _ _ _ _ _ us hl => match us, hl with | [_, _], _ => rfl⟩
  have F17 := fun_mk (st := s_law_digit) l17 c17 k17
  have D17 : DefAt K mg "_law_digit" "_law_digit" s_law_digit ["_law_left_here", "_law_many"] f17 _ := ⟨F17, PySem.W.mg_of X G a17, F17.binds (ps := ["_law_left_here", "_law_many"]) fun _ _ _ _ _ _ us hl => match us, hl with | [_, _], _ => rfl⟩
  have F18 := fun_mk (st := s_law_number) l18 c18 k18
  have D18 : DefAt K mg "_law_number" "_law_number" s_law_number ["_law_left_here", "_law_kind"] f18 _ := ⟨F18, PySem.W.mg_of X G a18, F18.binds (ps := ["_law_left_here", "_law_kind"]) fun _ _ _ _ _ _ us hl => match us, hl with | [_, _], _ => rfl⟩
  have F19 := fun_mk (st := s_law_rows) l19 c19 k19
  have D19 : DefAt K mg "_law_rows" "_law_rows" s_law_rows ["_law_left_here", "_law_many", "_law_wide", "_law_kind"] f19 _ := ⟨F19, PySem.W.mg_of X G a19, F19.binds (ps := ["_law_left_here", "_law_many", "_law_wide", "_law_kind"]) fun _ _ _ _ _ _ us hl => match us, hl with | [_, _, _, _], _ => rfl⟩
  have F20 := fun_mk (st := s_law_dot) l20 c20 k20
  have D20 : DefAt K mg "_law_dot" "_law_dot" s_law_dot ["_law_one", "_law_other"] f20 _ := ⟨F20, PySem.W.mg_of X G a20, F20.binds (ps := ["_law_one", "_law_other"]) fun _ _ _ _ _ _ us hl => match us, hl with | [_, _], _ => rfl⟩
  have F21 := fun_mk (st := s_law_own) l21 c21 k21
  have D21 : DefAt K mg "_law_own" "_law_own" s_law_own ["_law_steps"] f21 _ := ⟨F21, PySem.W.mg_of X G a21, F21.binds (ps := ["_law_steps"]) fun _ _ _ _ _ _ us hl => match us, hl with | [_], _ => rfl⟩
  have F22 := fun_mk (st := s_law_short) l22 c22 k22
  have D22 : DefAt K mg "_law_short" "_law_short" s_law_short ["_law_steps"] f22 _ := ⟨F22, PySem.W.mg_of X G a22, F22.binds (ps := ["_law_steps"]) fun _ _ _ _ _ _ us hl => match us, hl with | [_], _ => rfl⟩
  have F23 := fun_mk (st := s_law_stairs) l23 c23 k23
  have D23 : DefAt K mg "_law_stairs" "_law_stairs" s_law_stairs ["_law_left_here"] f23 _ := ⟨F23, PySem.W.mg_of X G a23, F23.binds (ps := ["_law_left_here"]) fun _ _ _ _ _ _ us hl => match us, hl with | [_], _ => rfl⟩
  have F24 := fun_mk (st := s_law_at_bound) l24 c24 k24
  have D24 : DefAt K mg "_law_at_bound" "_law_at_bound" s_law_at_bound ["_law_left_here"] f24 _ := ⟨F24, PySem.W.mg_of X G a24, F24.binds (ps := ["_law_left_here"]) fun _ _ _ _ _ _ us hl => match us, hl with | [_], _ => rfl⟩
  have F25 := fun_mk (st := s_law_case) l25 c25 k25
  have D25 : DefAt K mg "_law_case" "_law_case" s_law_case ["_law_left_here"] f25 _ := ⟨F25, PySem.W.mg_of X G a25, F25.binds (ps := ["_law_left_here"]) fun _ _ _ _ _ _ us hl => match us, hl with | [_], _ => rfl⟩
  have F26 := fun_mk (st := s_law) l26 c26 k26
  have D26 : DefAt K mg "law" "law" s_law ["_law_script"] fa _ := ⟨F26, PySem.W.mg_of X G a26, F26.binds (ps := ["_law_script"]) fun _ _ _ _ _ _ us hl => match us, hl with | [_], _ => rfl⟩
  refine ⟨PySem.W.fnOf "law" "law" (defArgs s_law) (defBody s_law) (defScope s_law) .none kV26 dc26 pm26 an26 cd26 ct26, fun s v => .of_eq rfl, fun base _ _ => ?_⟩
  have G0 : FnOk l.prog w K mg base CX0 1 f0 _ ["one", "other"] (LSp S_common) := ok_common B D0
  have G1 : FnOk l.prog w K mg base CX0 2 f1 _ ["top", "bottom"] (LSp S_part) := ok_part B D1 D0 G0
  have G2 : FnOk l.prog w K mg base CX0 3 f2 _ ["one", "other"] (LSp S_minus) := ok_minus B D2 D1 G1
  have G3 : FnOk l.prog w K mg base CX0 3 f3 _ ["one", "other"] (LSp S_times) := ok_times B D3 D1 G1
  have G4 : FnOk l.prog w K mg base CX0 1 f4 _ ["one", "other"] (LSp S_before) := ok_before B D4
  have G5 : FnOk l.prog w K mg base CX0 1 f5 _ ["one", "other"] (LSp S_dot) := ok_dot B D5
  have G6 : FnOk l.prog w K mg base CX0 1 f6 _ ["together", "table", "one", "other"] (LSp S_cleared) := ok_cleared B D6
  have G7 : FnOk l.prog w K mg base CX0 2 f7 _ ["table", "steps", "row"] (LSp S_line_of) := ok_line_of B D7 D5 G5 D6 G6
  have G8 : FnOk l.prog w K mg base CX0 3 f8 _ ["steps"] (LSp S_table_of) := ok_table_of B D8 D7 G7
  have G9 : FnOk l.prog w K mg base CX0 3 f9 _ ["table"] (LSp S_squares_in) := ok_squares_in B D9 D1 G1
  have G10 : FnOk l.prog w K mg base CX0 3 f10 _ ["table", "line"] (LSp S_shares_in) := ok_shares_in B D10 D1 G1
  have G11 : FnOk l.prog w K mg base CX0 4 f11 _ ["steps"] (LSp S_shares) := ok_shares B D11 D8 G8 D10 G10 D9 G9
  have G12 : FnOk l.prog w K mg base CX0 1 f12 _ ["share"] (LSp S_is_half_at_most) := ok_is_half_at_most B D12
  have G13 : FnOk l.prog w K mg base CX0 4 f13 _ ["square", "share", "ahead"] (LSp S_falls_too_far) := ok_falls_too_far B D13 D3 G3 D1 G1 D2 G2 D4 G4
  have G14 : FnOk l.prog w K mg base CX0 5 f14 _ ["steps"] (LSp S_is_short) := ok_is_short B D14 D11 G11 D12 G12 D13 G13
  have G15 : FnOk l.prog w K mg base CX0 1 f15 _ ["_law_script", "_law_k"] (LSp S_law_at) := ok_law_at B D15
  have G16 : FnOk l.prog w K mg base CX0 2 f16 _ ["_law_script", "_law_k"] (LSp S_law_left) := ok_law_left B D16 D15 G15
  have G17 : FnOk l.prog w K mg base CX0 1 f17 _ ["_law_left_here", "_law_many"] (LSp S_law_digit) := ok_law_digit B D17
  have G18 : FnOk l.prog w K mg base CX0 2 f18 _ ["_law_left_here", "_law_kind"] (LSp S_law_number) := ok_law_number B D18 D17 G17
  have G19 : FnOk l.prog w K mg base CX0 3 f19 _ ["_law_left_here", "_law_many", "_law_wide", "_law_kind"] (LSp S_law_rows) := ok_law_rows B D19 D18 G18
  have G20 : FnOk l.prog w K mg base CX0 1 f20 _ ["_law_one", "_law_other"] (LSp S_law_dot) := ok_law_dot B D20
  have G21 : FnOk l.prog w K mg base CX0 2 f21 _ ["_law_steps"] (LSp S_law_own) := ok_law_own B D21 D20 G20
  have G22 : FnOk l.prog w K mg base CX0 3 f22 _ ["_law_steps"] (LSp S_law_short) := ok_law_short B D22 D21 G21
  have G23 : FnOk l.prog w K mg base CX0 2 f23 _ ["_law_left_here"] (LSp S_law_stairs) := ok_law_stairs B D23 D17 G17
  have G24 : FnOk l.prog w K mg base CX0 2 f24 _ ["_law_left_here"] (LSp S_law_at_bound) := ok_law_at_bound B D24 D17 G17
  have G25 : FnOk l.prog w K mg base CX0 4 f25 _ ["_law_left_here"] (LSp S_law_case) := ok_law_case B D25 D17 G17 D19 G19 D23 G23 D24 G24
  have G26 : FnOk l.prog w K mg base CX0 6 fa _ ["_law_script"] (LSp S_law) := ok_law B D26 D16 G16 D25 G25 D21 G21 D14 G14 D22 G22
  exact G26.imp fun vs H Q E h => lawSp_of nl h
theorem walk {l : PySem.W.OpenLaw} {q : Program} {loose : List Str} {XP : (Str → Option Value) → Heap → Prop} {YP : World → Heap → Prop} {d : DefRec} {K : Params → PySem.W.Frag} (hn : l.most = some 63) (hdf : d.params.defaults = [])
    (hY : ∀ (w : World) (h : Heap), YP w h → (K w.params).In h)
    (F : ∀ (w : World) (mg : Str → Option Value) (fa : Addr) (h : Heap), (K w.params).In h → h.Ns mainGlobals mg → mg d.name = some (.ref fa) →
      ∃ fd : FuncData, (∀ (s : Shared) (u : Value), BindsTo s fd ⟨[u], []⟩ [("_law_script", u)]) ∧ ∀ base : Heap, (K w.params).In base → base.Ns mainGlobals mg → FnOk l.prog w (K w.params) mg base CX0 6 fa fd ["_law_script"] (lawSp (K w.params))) :
    PySem.W.WalkO q loose XP YP l.row.toRowW d [] (fun f vs => PySem.call f vs) :=
  L2.walk_of (n := 63) (k := 6) (x := "_law_script") (CX := fun _ => CX0) (sp := fun w => lawSp (K w.params)) hn (by decide) hdf ⟨rfl, by decide, by decide⟩ hY F (fun _ _ a ns hl _ hS => ⟨a, ns, rfl, hS, hl, fun _ => rfl⟩) fun _ _ _ _ _ z => z
end Row
open PySem PySem.W PyProof.Rows
set_option maxRecDepth 100000 in
set_option maxHeartbeats 0 in
theorem PySem.Challenge.cw_latticeworks_k33_short_or_not_holds : PySem.Challenge.rw_latticeworks_k33_short_or_not.Holds := by
  w_on; o_law; k_head; (case hw => w_witness2)
  k_fill
  refine Row.walk (l := PySem.Challenge.rw_latticeworks_k33_short_or_not) rfl rfl (fun w h Y => PySem.W.kIn_of Y) ?F
  case F =>
    intro w mg fa h KX G hmg
    refine' Row.all_mk KX G hmg ?a0 ?l0 ?c0 ?k0 ?a1 ?l1 ?c1 ?k1 ?a2 ?l2 ?c2 ?k2 ?a3 ?l3 ?c3 ?k3 ?a4 ?l4 ?c4 ?k4 ?a5 ?l5 ?c5 ?k5 ?a6 ?l6 ?c6 ?k6 ?a7 ?l7 ?c7 ?k7 ?a8 ?l8 ?c8 ?k8 ?a9 ?l9 ?c9 ?k9 ?a10 ?l10 ?c10 ?k10 ?a11 ?l11 ?c11 ?k11 ?a12 ?l12 ?c12 ?k12 ?a13 ?l13 ?c13 ?k13 ?a14 ?l14 ?c14 ?k14 ?a15 ?l15 ?c15 ?k15 ?a16 ?l16 ?c16 ?k16 ?a17 ?l17 ?c17 ?k17 ?a18 ?l18 ?c18 ?k18 ?a19 ?l19 ?c19 ?k19 ?a20 ?l20 ?c20 ?k20 ?a21 ?l21 ?c21 ?k21 ?a22 ?l22 ?c22 ?k22 ?a23 ?l23 ?c23 ?k23 ?a24 ?l24 ?c24 ?k24 ?a25 ?l25 ?c25 ?k25 ?a26 ?l26 ?c26 ?k26 ?z_abs ?z_zip ?z_sum ?z_tuple ?z_all ?z_range ?z_len ?z_any ?z_list ?z_bool ?z_isinstance ?nl
    (case a0 => k_is)
    (case l0 => k_is)
    (case c0 => k_is)
    (case k0 => k_is)
    (case a1 => k_is)
    (case l1 => k_is)
    (case c1 => k_is)
    (case k1 => k_is)
    (case a2 => k_is)
    (case l2 => k_is)
    (case c2 => k_is)
    (case k2 => k_is)
    (case a3 => k_is)
    (case l3 => k_is)
    (case c3 => k_is)
    (case k3 => k_is)
    (case a4 => k_is)
    (case l4 => k_is)
    (case c4 => k_is)
    (case k4 => k_is)
    (case a5 => k_is)
    (case l5 => k_is)
    (case c5 => k_is)
    (case k5 => k_is)
    (case a6 => k_is)
    (case l6 => k_is)
    (case c6 => k_is)
    (case k6 => k_is)
    (case a7 => k_is)
    (case l7 => k_is)
    (case c7 => k_is)
    (case k7 => k_is)
    (case a8 => k_is)
    (case l8 => k_is)
    (case c8 => k_is)
    (case k8 => k_is)
    (case a9 => k_is)
    (case l9 => k_is)
    (case c9 => k_is)
    (case k9 => k_is)
    (case a10 => k_is)
    (case l10 => k_is)
    (case c10 => k_is)
    (case k10 => k_is)
    (case a11 => k_is)
    (case l11 => k_is)
    (case c11 => k_is)
    (case k11 => k_is)
    (case a12 => k_is)
    (case l12 => k_is)
    (case c12 => k_is)
    (case k12 => k_is)
    (case a13 => k_is)
    (case l13 => k_is)
    (case c13 => k_is)
    (case k13 => k_is)
    (case a14 => k_is)
    (case l14 => k_is)
    (case c14 => k_is)
    (case k14 => k_is)
    (case a15 => k_is)
    (case l15 => k_is)
    (case c15 => k_is)
    (case k15 => k_is)
    (case a16 => k_is)
    (case l16 => k_is)
    (case c16 => k_is)
    (case k16 => k_is)
    (case a17 => k_is)
    (case l17 => k_is)
    (case c17 => k_is)
    (case k17 => k_is)
    (case a18 => k_is)
    (case l18 => k_is)
    (case c18 => k_is)
    (case k18 => k_is)
    (case a19 => k_is)
    (case l19 => k_is)
    (case c19 => k_is)
    (case k19 => k_is)
    (case a20 => k_is)
    (case l20 => k_is)
    (case c20 => k_is)
    (case k20 => k_is)
    (case a21 => k_is)
    (case l21 => k_is)
    (case c21 => k_is)
    (case k21 => k_is)
    (case a22 => k_is)
    (case l22 => k_is)
    (case c22 => k_is)
    (case k22 => k_is)
    (case a23 => k_is)
    (case l23 => k_is)
    (case c23 => k_is)
    (case k23 => k_is)
    (case a24 => k_is)
    (case l24 => k_is)
    (case c24 => k_is)
    (case k24 => k_is)
    (case a25 => k_is)
    (case l25 => k_is)
    (case c25 => k_is)
    (case k25 => k_is)
    (case a26 => k_is)
    (case l26 => k_is)
    (case c26 => k_is)
    (case k26 => k_is)
    (case z_abs => k_is)
    (case z_zip => k_is)
    (case z_sum => k_is)
    (case z_tuple => k_is)
    (case z_all => k_is)
    (case z_range => k_is)
    (case z_len => k_is)
    (case z_any => k_is)
    (case z_list => k_is)
    (case z_bool => k_is)
    (case z_isinstance => k_is)
    (case nl => first | (with_unfolding_all rfl) | kernel_rfl)
